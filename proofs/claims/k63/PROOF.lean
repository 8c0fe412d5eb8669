import PyProof.Rows.All
import Wide.All
import OpenK.AllK
import Wide.FinOn
import Lean
import PyProof.EqAt
import PyProof.EqKinds
import PyProof.TupleCall
import KE.KSortTup
import KE.KRevIter
import KE.KDictSum
import KE.KMinKey
import PyProof.Rows.CallKwBuiltin
import KE.KLam
import KE.KSortKey
import KE.KNestM
import PyProof.ListRange
import PySem.Challenge.RW_court_k63_whole_none_has_more
set_option Elab.async false
local macro_rules | `(tactic| omega)=>`(tactic| lia)
namespace L23
inductive E2 {t0 : Type} {t1 : Type} (p : t0→t1→Prop) : Prop where
  | mk (x0 : t0) (x1 : t1) (h : p x0 x1) : E2 p
inductive E3 {t0 : Type} {t1 : Type} {t2 : Type} (p : t0→t1→t2→Prop) : Prop where
  | mk (x0 : t0) (x1 : t1) (x2 : t2) (h : p x0 x1 x2) : E3 p
inductive E4 {t0 : Type} {t1 : Type} {t2 : Type} {t3 : Type} (p : t0→t1→t2→t3→Prop) : Prop where
  | mk (x0 : t0) (x1 : t1) (x2 : t2) (x3 : t3) (h : p x0 x1 x2 x3) : E4 p
inductive E5 {t0 : Type} {t1 : Type} {t2 : Type} {t3 : Type} {t4 : Type} (p : t0→t1→t2→t3→t4→Prop) : Prop where
  | mk (x0 : t0) (x1 : t1) (x2 : t2) (x3 : t3) (x4 : t4) (h : p x0 x1 x2 x3 x4) : E5 p
inductive E6 {t0 : Type} {t1 : Type} {t2 : Type} {t3 : Type} {t4 : Type} {t5 : Type} (p : t0→t1→t2→t3→t4→t5→Prop) : Prop where
  | mk (x0 : t0) (x1 : t1) (x2 : t2) (x3 : t3) (x4 : t4) (x5 : t5) (h : p x0 x1 x2 x3 x4 x5) : E6 p
inductive E8 {t0 : Type} {t1 : Type} {t2 : Type} {t3 : Type} {t4 : Type} {t5 : Type} {t6 : Type} {t7 : Type} (p : t0→t1→t2→t3→t4→t5→t6→t7→Prop) : Prop where
  | mk (x0 : t0) (x1 : t1) (x2 : t2) (x3 : t3) (x4 : t4) (x5 : t5) (x6 : t6) (x7 : t7) (h : p x0 x1 x2 x3 x4 x5 x6 x7) : E8 p
inductive E12 {t0 : Type} {t1 : Type} {t2 : Type} {t3 : Type} {t4 : Type} {t5 : Type} {t6 : Type} {t7 : Type} {t8 : Type} {t9 : Type} {t10 : Type} {t11 : Type} (p : t0→t1→t2→t3→t4→t5→t6→t7→t8→t9→t10→t11→Prop) : Prop where
  | mk (x0 : t0) (x1 : t1) (x2 : t2) (x3 : t3) (x4 : t4) (x5 : t5) (x6 : t6) (x7 : t7) (x8 : t8) (x9 : t9) (x10 : t10) (x11 : t11) (h : p x0 x1 x2 x3 x4 x5 x6 x7 x8 x9 x10 x11) : E12 p
inductive A3 (p0 p1 p2 : Prop) : Prop where
  | mk (h0 : p0) (h1 : p1) (h2 : p2) : A3 p0 p1 p2
inductive A4 (p0 p1 p2 p3 : Prop) : Prop where
  | mk (h0 : p0) (h1 : p1) (h2 : p2) (h3 : p3) : A4 p0 p1 p2 p3
inductive A5 (p0 p1 p2 p3 p4 : Prop) : Prop where
  | mk (h0 : p0) (h1 : p1) (h2 : p2) (h3 : p3) (h4 : p4) : A5 p0 p1 p2 p3 p4
inductive A6 (p0 p1 p2 p3 p4 p5 : Prop) : Prop where
  | mk (h0 : p0) (h1 : p1) (h2 : p2) (h3 : p3) (h4 : p4) (h5 : p5) : A6 p0 p1 p2 p3 p4 p5
inductive A7 (p0 p1 p2 p3 p4 p5 p6 : Prop) : Prop where
  | mk (h0 : p0) (h1 : p1) (h2 : p2) (h3 : p3) (h4 : p4) (h5 : p5) (h6 : p6) : A7 p0 p1 p2 p3 p4 p5 p6
inductive A8 (p0 p1 p2 p3 p4 p5 p6 p7 : Prop) : Prop where
  | mk (h0 : p0) (h1 : p1) (h2 : p2) (h3 : p3) (h4 : p4) (h5 : p5) (h6 : p6) (h7 : p7) : A8 p0 p1 p2 p3 p4 p5 p6 p7
inductive A10 (p0 p1 p2 p3 p4 p5 p6 p7 p8 p9 : Prop) : Prop where
  | mk (h0 : p0) (h1 : p1) (h2 : p2) (h3 : p3) (h4 : p4) (h5 : p5) (h6 : p6) (h7 : p7) (h8 : p8) (h9 : p9) : A10 p0 p1 p2 p3 p4 p5 p6 p7 p8 p9
@[elab_as_elim] theorem lz {α : Type} {C : List α→Prop} (us : List α) (hl : us.length=0) (h : C []) : C us:=by cases us with | nil=>exact h | cons _ _=>cases hl
@[elab_as_elim] theorem ls {α : Type} {C : List α→Prop} {n : Nat} (us : List α) (hl : us.length=n + 1) (h : ∀ a t,t.length=n→C (a :: t)) : C us:=by cases us with | nil=>cases hl | cons a t=>exact h a t (Nat.succ.inj hl)
end L23
set_option Elab.async false
set_option linter.all false
set_option maxRecDepth 100000
namespace L2
open PySem PySem.Spec PyProof.Rows
noncomputable abbrev Key:=Sum Int Str
noncomputable def keyIs : Key→Value→Bool
  | .inl k,v=>Value.isInt k v
  | .inr x,v=>Value.isStrOf x v
noncomputable def keyH (w : World) : Key→Int
  | .inl k=>hashInt k
  | .inr x=>hashStr w x
theorem keyIs_shape : ∀ {k : Key} {v : Value},keyIs k v=true→(∃ i t,k=Sum.inl i∧v=Value.int i t)∨(∃ x t,k=Sum.inr x∧v=Value.str x t)
  | .inl i,v,h=>by
    obtain ⟨t,e⟩:=Value.isInt_shape (k:=i) (v:=v) h
    exact .inl ⟨i,t,rfl,e⟩
  | .inr x,v,h=>by
    obtain ⟨t,e⟩:=Value.isStrOf_shape (x:=x) (v:=v) h
    exact .inr ⟨x,t,rfl,e⟩
theorem key_ll (a b : Int) : decide ((Sum.inl a : Key)=Sum.inl b)=(a == b):=by
  by_cases e : a=b
  · subst e; simp
  · have h : ¬ (Sum.inl a : Key)=Sum.inl b:=fun q=>e (Sum.inl.inj q)
    rw [decide_eq_false h]
    exact (beq_eq_false_iff_ne.mpr e).symm
theorem key_rr (a b : Str) : decide ((Sum.inr a : Key)=Sum.inr b)=decide (a=b):=by
  by_cases e : a=b
  · subst e; simp
  · have h : ¬ (Sum.inr a : Key)=Sum.inr b:=fun q=>e (Sum.inr.inj q)
    rw [decide_eq_false h,decide_eq_false e]
theorem key_lr (a : Int) (b : Str) : decide ((Sum.inl a : Key)=Sum.inr b)=false:=decide_eq_false (fun q=>nomatch q)
theorem key_rl (a : Str) (b : Int) : decide ((Sum.inr a : Key)=Sum.inl b)=false:=decide_eq_false (fun q=>nomatch q)
noncomputable def mixKind (prog : Program) (w : World) : PySem.KeyKind prog w Key where
  is:=keyIs
  hash:=keyH w
  inj:=fun v a b ha hb=>by
    rcases keyIs_shape ha with ⟨i,t,rfl,rfl⟩ | ⟨x,t,rfl,rfl⟩
    · rcases keyIs_shape hb with ⟨j,u,rfl,e⟩ | ⟨y,u,rfl,e⟩
      · injection e with e1 _; rw [e1]
      · exact nomatch e
    · rcases keyIs_shape hb with ⟨j,u,rfl,e⟩ | ⟨y,u,rfl,e⟩
      · exact nomatch e
      · injection e with e1 _; rw [e1]
  byValue:=fun k v h=>by
    rcases keyIs_shape h with ⟨i,t,rfl,rfl⟩ | ⟨x,t,rfl,rfl⟩ <;> rfl
  pyHash:=fun hv h=>by
    rcases keyIs_shape hv with ⟨i,t,rfl,rfl⟩ | ⟨x,t,rfl,rfl⟩
    · exact wpAny_pyHash_int h
    · exact wpAny_pyHash_str h
  eqBool:=fun hu hv h=>by
    rcases keyIs_shape hu with ⟨i,t,rfl,rfl⟩ | ⟨x,t,rfl,rfl⟩
    · rcases keyIs_shape hv with ⟨j,u,rfl,rfl⟩ | ⟨y,u,rfl,rfl⟩
      · rw [key_ll] at h; exact wpAny_eqBool_int h
      · rw [key_lr] at h; exact SeqAt.EqAt.int_str i t y u _ _ _ _ h
    · rcases keyIs_shape hv with ⟨j,u,rfl,rfl⟩ | ⟨y,u,rfl,rfl⟩
      · rw [key_rl] at h; exact SeqAt.EqAt.str_int x t j u _ _ _ _ h
      · rw [key_rr] at h; exact wpAny_eqBool_str h
  «strs»:=fun k x t v h=>by
    rcases keyIs_shape h with ⟨i,u,rfl,e⟩ | ⟨y,u,rfl,e⟩
    · exact nomatch e
    · injection e with e1 _
      subst e1
      cases v <;> rfl
end L2
namespace L2
open PySem PySem.Spec PyProof.Rows
inductive V where
  | non | bl (b : Bool) | int (i : Int) | str (x : Str) | byt (b : Array UInt8) | flt (b : UInt64) | ref (a : Addr) | ty (n : String)
  deriving DecidableEq
noncomputable def RelV : V→Value→Prop
  | .non,u=>u=Value.none
  | .bl b,u=>u=Value.bool b
  | .int i,u=>∃ t,u=Value.int i t
  | .str x,u=>∃ t,u=Value.str x t
  | .byt b,u=>∃ t,u=Value.bytes b t
  | .flt b,u=>∃ t,u=Value.float b t
  | .ref a,u=>u=Value.ref a
  | .ty n,u=>u=Value.type n
noncomputable abbrev Vals : List V→List Value→Prop:=Paired RelV
theorem Vals.length {xs : List V} {us : List Value} (r : Vals xs us) : xs.length=us.length:=Paired.length r
theorem Vals.get : ∀ {xs : List V} {us : List Value} {i : Nat} {x : V},Vals xs us→xs[i]?=some x→∃ u,us[i]?=some u∧RelV x u
  | _,_,_,_,.nil,e=>by simp at e
  | _,_,0,_,.cons r _,e=>by simp at e; subst e; exact ⟨_,rfl,r⟩
  | _,_,i + 1,x,.cons _ t,e=>by
    obtain ⟨u,h1,h2⟩:=Vals.get (i:=i) (x:=x) t (by simpa using e)
    exact ⟨u,by simpa using h1,h2⟩
theorem Vals.set {x : V} {u : Value} (r : RelV x u) : ∀ {xs : List V} {us : List Value} (i : Nat),Vals xs us→Vals (xs.set i x) (us.set i u)
  | _,_,_,.nil => .nil
  | _,_,0,.cons _ t => .cons r t
  | _,_,i + 1,.cons q t => .cons q (Vals.set r i t)
theorem Vals.append : ∀ {xs ys : List V} {us ws : List Value},Vals xs us→Vals ys ws→Vals (xs ++ ys) (us ++ ws)
  | _,_,_,_,.nil,s=>s
  | _,_,_,_,.cons r t,s => .cons r (Vals.append t s)
theorem Vals.take : ∀ {xs : List V} {us : List Value} (n : Nat),Vals xs us→Vals (xs.take n) (us.take n)
  | _,_,0,_ => .nil
  | _,_,_ + 1,.nil => .nil
  | _,_,n + 1,.cons r t => .cons r (Vals.take n t)
theorem Vals.drop : ∀ {xs : List V} {us : List Value} (n : Nat),Vals xs us→Vals (xs.drop n) (us.drop n)
  | _,_,0,r=>r
  | _,_,_ + 1,.nil => .nil
  | _,_,n + 1,.cons _ t=>Vals.drop n t
theorem Vals.none_of : ∀ {xs : List V} {us : List Value} {i : Nat},Vals xs us→xs[i]?=none→us[i]?=none:=fun {xs us i} r e=>by
  have h1:=r.length
  have h2 : xs.length≤i:=List.getElem?_eq_none_iff.mp e
  exact List.getElem?_eq_none_iff.mpr (by omega)
noncomputable def RelO : Option V→Option Value→Prop
  | some v,some u=>RelV v u
  | none,none=>True
  | _,_=>False
noncomputable def KV {κ : Type} : List (κ × V)→List (κ × Value)→Prop:=Paired fun (p : κ × V) (q : κ × Value)=>p.1=q.1∧RelV p.2 q.2
noncomputable def kV : Key→V
  | .inl i => .int i
  | .inr x => .str x
inductive HO where
    | lst (xs : List V)
    | tup (xs : List V)
    | dK (kvs : List (Key × V)) | dT (kvs : List (List Key × V))
    | set (S : Int→Bool) (n : Nat)
    | ins (C dx : Addr) (fs : List (Str × V))
    | own (x : Addr)
    | xd (fs : List (Str × V))
    | met (f x : Addr)
    | rng (lo hi : Int)
    | frz (o : Obj) (u : HO)
    | tbl (ps : Array Value)
    | ext (φ : Heap→Prop)
noncomputable abbrev Hp:=Addr→Option HO
noncomputable def upd (H : Hp) (a : Addr) (o : HO) : Hp:=fun b=>if b=a then some o else H b
theorem upd_same {H : Hp} {a : Addr} {o : HO} : upd H a o a=some o:=by unfold upd; rw [if_pos rfl]
theorem upd_ne {H : Hp} {a b : Addr} {o : HO} (h : b≠a) : upd H a o b=H b:=by unfold upd; rw [if_neg h]
theorem ne_of {H : Hp} {a b : Addr} {o u : HO} (h : H a=some o) (h' : H b=some u) (d : o≠u) : a≠b:=by
  intro e; subst e; rw [h] at h'; exact d (Option.some.inj h')
theorem ne_of_none {H : Hp} {a b : Addr} {o : HO} (h : H a=some o) (h' : H b=none) : a≠b:=by
  intro e; subst e; rw [h] at h'; cases h'
section
variable (P : Program) (w : World)
noncomputable def ObjOk (H : Hp) (h : Heap) (a : Addr) : HO→Prop
  | .lst xs=>xs.length≤sizeLine∧∃ (its : List Value) (n : Nat),Vals xs its∧h.get? a=some { cls := .type "list",data := .seq its.toArray n }
  | .tup xs=>xs.length≤sizeLine∧∃ its : List Value,Vals xs its∧IsTup h a its.toArray
  | .dK kvs=>kvs.length≤sizeLine∧(a == sysModules)=false∧∃ vs,KV kvs vs∧h.DictOf (mixKind P w) a vs
  | .dT kvs=>kvs.length≤sizeLine∧(a == sysModules)=false∧∃ xs : List (List Key × Addr × Value),
      Paired (fun (p : List Key × V) (q : List Key × Addr × Value)=>p.1=q.1∧H q.2.1=some (.tup (p.1.map kV))∧RelV p.2 q.2.2) kvs xs ∧
      ∃ o es ep,h.get? a=some o∧o.ExactDict∧o.data = .dict es ep∧es.toList=xs.map (entryOfKey (tupleKind (mixKind P w)))∧(xs.map (·.1)).Nodup
  | .set S n=>h.SetOf (intKind P w) a S n
  | .ins C dx fs=>H dx=some (.own a)∧fs.length≤1000∧dx≠a∧h.get? a=some (PySem.W.instObj C dx) ∧
      ∃ mA,h.Ns1 dx mA∧(∀ f,RelO (fs.lookup f) (mA f))∧PySem.Within mA (fs.map (·.1))
  | .own _=>∃ o,h.get? a=some o
  | .xd fs=>∃ mA,h.Ns1 a mA∧∀ f,RelO (fs.lookup f) (mA f)
  | .rng lo hi=>∃ t u v,h.get? a=some { cls := .type "range",data := .fields #[.int lo t,.int hi u,.int 1 v] }
  | .frz o u=>h.get? a=some o∧ObjOk H h a u
  | .tbl ps=>h.get? a=some { cls := .none,data := .fields ps }
  | .met f x=>h.get? a=some (PySem.W.methodObj (.ref f) (.ref x))
  | .ext φ=>φ h∧(∃ o,h.get? a=some o)∧∀ h1 h2 : Heap,φ h1→(∀ o,h1.get? a=some o→h2.get? a=some o)→φ h2
noncomputable def HOk (H : Hp) (h : Heap) : Prop:=∀ a o,H a=some o→ObjOk P w H h a o
end
section
variable {P : Program} {w : World} {H H' : Hp} {h h' : Heap} {a : Addr} {o : HO}
theorem ObjOk.lt (x : ObjOk P w H h a o) : a < h.objs.size:=by
  cases o with
  | lst xs=>obtain ⟨_,_,_,_,e⟩:=x; exact Heap.lt_size e
  | tup xs=>obtain ⟨_,_,_,p⟩:=x; exact p.lt
  | dK kvs=>obtain ⟨_,_,_,_,o,_,_,e,_⟩:=x; exact Heap.lt_size e
  | dT kvs=>obtain ⟨_,_,_,_,o,_,_,e,_⟩:=x; exact Heap.lt_size e
  | set S n=>obtain ⟨o,_,_,_,e,_⟩:=x; exact Heap.lt_size e
  | ins C dx fs=>obtain ⟨_,_,_,e,_⟩:=x; exact Heap.lt_size e
  | own y=>obtain ⟨_,e⟩:=x; exact Heap.lt_size e
  | xd fs=>obtain ⟨_,⟨_,_,_,e,_⟩,_⟩:=x; exact Heap.lt_size e
  | rng lo hi=>obtain ⟨_,_,_,e⟩:=x; exact Heap.lt_size e
  | frz ob u=>obtain ⟨e,_⟩:=x; exact Heap.lt_size e
  | tbl ps=>exact Heap.lt_size (show h.get? a=some _ from x)
  | met f y=>exact Heap.lt_size (show h.get? a=some _ from x)
  | ext φ=>obtain ⟨_,⟨_,e⟩,_⟩:=x; exact Heap.lt_size e
theorem Paired.mapP {α β : Type} {F G : α→β→Prop} : ∀ {l₁ : List α} {l₂ : List β},Paired F l₁ l₂→(∀ a b,F a b→G a b)→Paired G l₁ l₂
  | _,_,.nil,_ => .nil
  | _,_,.cons r t,f => .cons (f _ _ r) (Paired.mapP t f)
theorem ObjOk.stay (x : ObjOk P w H h a o) (k : ∀ b u,(b=a∨H b=some (.own a))→h.get? b=some u→h'.get? b=some u)
    (ho : ∀ b,H b=some (.own a)→H' b=some (.own a)) (ht : ∀ b xs,H b=some (.tup xs)→H' b=some (.tup xs)) : ObjOk P w H' h' a o:=by
  induction o with
  | lst xs=>obtain ⟨z,its,n,r,e⟩:=x; exact ⟨z,its,n,r,k _ _ (.inl rfl) e⟩
  | tup xs=>obtain ⟨z,its,r,ob,e,c⟩:=x; exact ⟨z,its,r,ob,k _ _ (.inl rfl) e,c⟩
  | dK kvs=>obtain ⟨z,y,vs,r,ob,es,ep,e,c⟩:=x; exact ⟨z,y,vs,r,ob,es,ep,k _ _ (.inl rfl) e,c⟩
  | dT kvs =>
    obtain ⟨z,y,xs,r,ob,es,ep,e,c⟩:=x
    exact ⟨z,y,xs,Paired.mapP r fun p q z=>⟨z.1,ht _ _ z.2.1,z.2.2⟩,ob,es,ep,k _ _ (.inl rfl) e,c⟩
  | set S n=>obtain ⟨ob,es,ep,t,e,c⟩:=x; exact ⟨ob,es,ep,t,k _ _ (.inl rfl) e,c⟩
  | ins C dx fs =>
    obtain ⟨d,z,ne,e,mA,⟨od,es,ep,e2,c⟩,r⟩:=x
    exact ⟨ho _ d,z,ne,k _ _ (.inl rfl) e,mA,⟨od,es,ep,k _ _ (.inr d) e2,c⟩,r⟩
  | own y=>obtain ⟨ob,e⟩:=x; exact ⟨ob,k _ _ (.inl rfl) e⟩
  | xd fs=>obtain ⟨mA,⟨od,es,ep,e,c⟩,r⟩:=x; exact ⟨mA,⟨od,es,ep,k _ _ (.inl rfl) e,c⟩,r⟩
  | rng lo hi=>obtain ⟨t,u,v,e⟩:=x; exact ⟨t,u,v,k _ _ (.inl rfl) e⟩
  | frz ob u ih=>obtain ⟨e,q⟩:=x; exact ⟨k _ _ (.inl rfl) e,ih q⟩
  | tbl ps =>
    have e : h.get? a=some { cls := .none,data := .fields ps }:=x
    show h'.get? a=some { cls := .none,data := .fields ps }
    exact k a _ (.inl rfl) e
  | met f y =>
    have e : h.get? a=some (PySem.W.methodObj (.ref f) (.ref y)):=x
    show h'.get? a=some (PySem.W.methodObj (.ref f) (.ref y))
    exact k a _ (.inl rfl) e
  | ext φ=>obtain ⟨p,⟨o,e⟩,st⟩:=x; exact ⟨st _ _ p fun o q=>k _ _ (.inl rfl) q,⟨o,k _ _ (.inl rfl) e⟩,st⟩
theorem HOk.lt (x : HOk P w H h) (e : H a=some o) : a < h.objs.size:=(x a o e).lt
theorem HOk.fresh (x : HOk P w H h) (e : h.objs.size≤a) : H a=none:=by
  cases q : H a with
  | none=>rfl
  | some u=>exact absurd (Nat.lt_of_lt_of_le (x.lt q) e) (Nat.lt_irrefl _)
theorem HOk.kept (x : HOk P w H h) (k : ∀ b u,h.get? b=some u→h'.get? b=some u) : HOk P w H h':=fun a o e =>
  (x a o e).stay (fun b u _ q=>k b u q) (fun _ q=>q) fun _ _ q=>q
theorem HOk.laid (x : HOk P w H h) (k : ∀ b u,h.get? b=some u→h'.get? b=some u) (hp : h.objs.size≤a) (new : ObjOk P w (upd H a o) h' a o) : HOk P w (upd H a o) h':=fun b u e=>by
  have hn:=x.fresh hp
  by_cases hb : b=a
  · subst hb; rw [upd_same] at e; cases e; exact new
  · rw [upd_ne hb] at e
    exact (x b u e).stay (fun c v _ q=>k c v q) (fun c q=>by rw [upd_ne (ne_of_none q hn)]; exact q) fun c xs q=>by rw [upd_ne (ne_of_none q hn)]; exact q
end
noncomputable def Rd (H : Hp) (a : Addr) (u : HO) : Prop:=H a=some u∨∃ o,H a=some (.frz o u)
theorem Rd.ok {P : Program} {w : World} {H : Hp} {h : Heap} {a : Addr} {u : HO} (r : Rd H a u) (x : HOk P w H h) : ObjOk P w H h a u:=by
  rcases r with r | ⟨o,r⟩
  · exact x a u r
  · obtain ⟨_,q⟩:=x a _ r
    exact q
noncomputable def Mut : Option HO→Prop
  | some (.lst _)=>True
  | some (.dK _)=>True
  | some (.dT _)=>True
  | some (.set _ _)=>True
  | some (.ins _ _ _)=>True
  | some (.ext _)=>True
  | _=>False
section
variable {P : Program} {w : World} {H : Hp} {h h' : Heap} {x e : Addr} {o' : HO}
theorem HOk.write (ok : HOk P w H h) (mu : Mut (H x)) (he : e=x∨H e=some (.own x)) (k : ∀ b u,b≠e→h.get? b=some u→h'.get? b=some u) (heo : ∃ u,h'.get? e=some u)
    (new : ObjOk P w (upd H x o') h' x o') : HOk P w (upd H x o') h':=fun b u q=>by
  have nown : ∀ c y,H c=some (.own y)→c≠x:=fun c y r z=>by subst z; rw [r] at mu; exact mu
  have ntup : ∀ c xs,H c=some (.tup xs)→c≠x:=fun c xs r z=>by subst z; rw [r] at mu; exact mu
  by_cases hb : b=x
  · subst hb; rw [upd_same] at q; cases q; exact new
  · rw [upd_ne hb] at q
    by_cases hbe : b=e
    · have q' : H b=some (.own x):=by
        rcases he with z | z
        · exact absurd (hbe.trans z) hb
        · rw [hbe]; exact z
      rw [q] at q'; cases q'
      obtain ⟨v,hv⟩:=heo
      exact ⟨v,by rw [hbe]; exact hv⟩
    · refine (ok b u q).stay (fun c v hc r=>k c v ?_ r) (fun c r=>by rw [upd_ne (nown c b r)]; exact r) fun c xs r=>by rw [upd_ne (ntup c xs r)]; exact r
      rcases hc with rfl | hc
      · exact hbe
      · rintro rfl
        rcases he with z | z
        · exact nown c b hc z
        · rw [hc] at z; cases z; exact hb rfl
end
structure Un (fs ex : List Addr) (H H' : Hp) (h h' : Heap) : Prop where
  keep : ∀ b o,h.get? b=some o→H b=none→b∉fs→b∉ex→h'.get? b=some o
  slot : ∀ b o,h.get? b=some o→H b=none→b∈fs→b∉ex→∃ sl,h'.get? b=some { o with slots:=sl }
  free : ∀ b o,h.get? b=some o→H b=none→b∉ex→H' b=none
  there : ∀ b o,h.get? b=some o→b∉ex→∃ o',h'.get? b=some o'
  tups : ∀ b xs,H b=some (.tup xs)→H' b=some (.tup xs)
  frzs : ∀ b o u,H b=some (.frz o u)→H' b=some (.frz o u)
  tbls : ∀ b ps,H b=some (.tbl ps)→∃ more,H' b=some (.tbl (ps ++ more))
section
variable {fs fs' ex ex' : List Addr} {H H1 H2 : Hp} {h h1 h2 h' : Heap} {a x e : Addr} {o : HO}
theorem Un.any (u : Un fs ex H H1 h h1) {b : Addr} {ob : Obj} (q : h.get? b=some ob) (n : H b=none) (hx : b∉ex) : ∃ sl,h1.get? b=some { ob with slots:=sl }:=by
  by_cases hb : b∈fs
  · exact u.slot b ob q n hb hx
  · exact ⟨ob.slots,u.keep b ob q n hb hx⟩
theorem Un.kept (k : ∀ b u,h.get? b=some u→h'.get? b=some u) : Un fs ex H H h h' :=
  ⟨fun b ob q _ _ _=>k b ob q,fun b ob q _ _ _=>⟨ob.slots,k b ob q⟩,fun _ _ _ n _=>n,fun b ob q _=>⟨ob,k b ob q⟩,fun _ _ q=>q,fun _ _ _ q=>q,fun _ ps q=>⟨#[],by rw [q]; simp⟩⟩
theorem Un.refl : Un fs ex H H h h:=Un.kept fun _ _ q=>q
theorem Un.laid (k : ∀ b u,h.get? b=some u→h'.get? b=some u) (hp : h.objs.size≤a) (hn : H a=none) : Un fs ex H (upd H a o) h h' where
  keep:=fun b u q _ _ _=>k b u q
  slot:=fun b u q _ _ _=>⟨u.slots,k b u q⟩
  free:=fun b u q n _=>by rw [upd_ne (Nat.ne_of_lt (Nat.lt_of_lt_of_le (Heap.lt_size q) hp))]; exact n
  there:=fun b u q _=>⟨u,k b u q⟩
  tups:=fun b xs q=>by rw [upd_ne (ne_of_none q hn)]; exact q
  frzs:=fun b u xs q=>by rw [upd_ne (ne_of_none q hn)]; exact q
  tbls:=fun b ps q=>⟨#[],by rw [upd_ne (ne_of_none q hn),q]; simp⟩
theorem Un.write (mu : Mut (H x)) (he : e=x∨H e=some (.own x)) (k : ∀ b u,b≠e→h.get? b=some u→h'.get? b=some u) (heo : ∃ u,h'.get? e=some u) : Un fs ex H (upd H x o) h h':=by
  have hx : ∀ b,H b=none→b≠x:=fun b n z=>by subst z; rw [n] at mu; exact mu
  have hb : ∀ b,H b=none→b≠e:=fun b n z=>by
    subst z
    rcases he with r | r
    · exact hx b n r
    · rw [n] at r; cases r
  have hm : ∀ b u,H b=some u→¬ Mut (some u)→b≠x:=fun b u q nm z=>by subst z; rw [q] at mu; exact nm mu
  refine ⟨fun b u q n _ _=>k b u (hb b n) q,fun b u q n _ _=>⟨u.slots,k b u (hb b n) q⟩,fun b u q n _=>by rw [upd_ne (hx b n)]; exact n,fun b u q _=>?_,
    fun b xs q=>by rw [upd_ne (hm b _ q fun z=>z)]; exact q,fun b u xs q=>by rw [upd_ne (hm b _ q fun z=>z)]; exact q,fun b ps q=>⟨#[],by rw [upd_ne (hm b _ q fun z=>z),q]; simp⟩⟩
  by_cases hbe : b=e
  · subst hbe; exact heo
  · exact ⟨u,k b u hbe q⟩
end
noncomputable def trk (h : Heap) (H : Hp) : List Addr:=(List.range h.objs.size).filter fun a=>(H a).isSome
noncomputable def hidT (h : Heap) (H : Hp) : Heap:=PySem.W.hideAll h (trk h H)
theorem hidT_size (h : Heap) (H : Hp) : (hidT h H).objs.size=h.objs.size:=PySem.W.hideAll_size _ _
theorem hidT_get {h : Heap} {H : Hp} {b : Addr} {o : Obj} (e : h.get? b=some o) (n : H b=none) : (hidT h H).get? b=some o :=
  PySem.W.hideAll_get _ e fun hm=>by
    have q : (H b).isSome=true:=(List.mem_filter.mp hm).2
    rw [n] at q; simp at q
theorem of_hidT {h : Heap} {H : Hp} {b : Addr} {o : Obj} (e : (hidT h H).get? b=some o) : h.get? b=some o∧H b=none:=by
  have e' : h.get? b=some o:=PySem.W.of_hideAll (trk h H) e
  refine ⟨e',?_⟩
  cases q : H b with
  | none=>rfl
  | some x =>
    have hm : b∈trk h H:=List.mem_filter.mpr ⟨List.mem_range.mpr (Heap.lt_size e'),by simp [q]⟩
    have z : (hidT h H).get? b=none:=PySem.W.hideAll_none (trk h H) hm
    rw [z] at e; cases e
noncomputable def allNews (g h : Heap) (L : Addr) : List (Addr × Obj):=(List.range h.objs.size).filterMap fun a=>if a=L∨(g.get? a).isSome=true then none else (h.get? a).map fun o=>(a,o)
theorem of_mem_allNews {g h : Heap} {L : Addr} {p : Addr × Obj} (hp : p∈allNews g h L) : p.1≠L∧g.get? p.1=none∧h.get? p.1=some p.2:=by
  obtain ⟨b,_,e⟩:=List.mem_filterMap.mp hp
  split at e
  · cases e
  · rename_i hn
    cases q : h.get? b with
    | none=>rw [q] at e; simp at e
    | some u =>
      rw [q] at e
      simp only [Option.map_some,Option.some.injEq] at e
      subst e
      refine ⟨fun z=>hn (.inl z),?_,q⟩
      show g.get? b=none
      cases r : g.get? b with
      | none=>rfl
      | some v=>exact (hn (.inr (by simp [r]))).elim
noncomputable def rest (g h : Heap) (L d : Addr) : List (Addr × Obj):=(allNews g h L).filter fun p=>decide (p.1≠d)
theorem news_all {g h : Heap} {L : Addr} : News g L h (allNews g h L):=fun p hp=>let ⟨a,b,c⟩:=of_mem_allNews hp; ⟨c,a,b⟩
end L2
namespace L2
open PySem PySem.Spec PyProof.Rows
structure Mod (K : PySem.W.Frag) (mg : Str→Option Value) (base : Heap) : Prop where
  kin : K.In base
  glob : base.Ns mainGlobals mg
  blt : ∃ mb,base.Ns builtinsNs mb∧∀ x : Str,x≠"__name__"→mb x=bootBuiltins x
  nolimit : base.NoLimit
structure Cx where
  prog : Program
  w : World
  K : PySem.W.Frag
  mg : Str→Option Value
  base : Heap
  A : Around
  N : List Str
  s₀ : Shared
  H₀ : Hp
  env : Env
  outer : List Env
  stack : List Env
  ex : List Addr
  fn : Str→Bool
  calm : Bool
  pn : List (Addr × Obj)
  xe : Value→Shared→Prop
noncomputable def frs (l : List Env) : List Addr:=l.filterMap (·.frame)
noncomputable abbrev Cx.fs (X : Cx) : List Addr:=frs X.outer
noncomputable def Vis (sc : Scope) (x : Str) : Prop:=sc.names.lookup x=some .local∨sc.names.lookup x=some .cell∨sc.names.lookup x=some .free
noncomputable def Loc (sc : Scope) (x : Str) : Prop:=sc.names.lookup x=some .local∨sc.names.lookup x=some .cell
noncomputable def Look (env : Env) (h : Heap) (m : Str→Option Value) (x : Str) (u : Value) : Prop :=
  (env.kindOf x=some .local∧m x=some u)∨((env.kindOf x=some .cell∨env.kindOf x=some .free)∧∃ c,env.cells.lookup x=some c∧h.IsCell c (some u))
structure Cx.Ok (X : Cx) : Prop where
  mod : Mod X.K X.mg X.base
  kind : X.env.scope.kind = .function
  glob : X.env.globals=mainGlobals
  blt : X.env.builtins=builtinsNs
  above : X.s₀.heap.objs.size≤X.env.locals
  inj : ∀ x y c,X.env.cells.lookup x=some c→X.env.cells.lookup y=some c→x=y
  has : ∀ x,(X.env.kindOf x=some .cell∨X.env.kindOf x=some .free)→∃ c,X.env.cells.lookup x=some c
  cab : ∀ x c,X.fn x=true→X.env.cells.lookup x=some c→X.s₀.heap.objs.size≤c
  hd : X.calm=true→X.A.handled=none
  frames : X.A.frames=some X.stack
  stk : X.stack=X.outer∨(X.stack=X.env :: X.outer∧X.env.frame=some X.env.locals)
  exf : ∀ b∈X.ex,b≠X.env.locals∧∀ x c,X.env.cells.lookup x=some c→c≠b
  bs : ∀ b o,X.base.get? b=some o→X.s₀.heap.get? b=some o∧X.H₀ b=none
  bsz : X.base.objs.size≤X.s₀.heap.objs.size
  noex : ∀ b o,X.base.get? b=some o→b∉X.ex
  exfs : ∀ b∈X.ex,b∉X.fs
  funs : X.s₀.heap.FunFrames X.base X.outer
  frf : ∀ b∈X.fs,X.H₀ b=none
structure Inv (X : Cx) (pins : List (Addr × Obj)) (σ : List (Option V)) (H : Hp) (s : Shared) : Prop where
  ok : X.Ok
  os : s.os=X.s₀.os
  bare : AllBare s.gens
  base : Un X.fs X.ex X.H₀ H X.s₀.heap s.heap
  loc : ∃ m,s.heap.Ns X.env.locals m∧∀ (i : Nat) (x : Str) (v : V),X.N[i]?=some x→σ[i]?=some (some v)→Vis X.env.scope x→∃ u,RelV v u∧Look X.env s.heap m x u
  cell : ∀ x c,X.env.cells.lookup x=some c→∃ v,s.heap.IsCell c v
  free : H X.env.locals=none
  freeC : ∀ x c,X.env.cells.lookup x=some c→H c=none
  pin : ∀ p∈X.pn ++ pins,s.heap.get? p.1=some p.2∧H p.1=none∧p.1≠X.env.locals∧p.1∉X.fs∧∀ v,p.2.data ≠ .cell v
  hok : HOk X.prog X.w H s.heap
  len : σ.length=X.N.length
section
variable {X : Cx} {pins : List (Addr × Obj)} {σ : List (Option V)} {H H' : Hp} {s : Shared} {h' : Heap}
theorem Cx.Ok.nofr (ok : X.Ok) {b : Addr} {o : Obj} (e : X.base.get? b=some o) : b∉X.fs:=fun hb=>by
  have:=(ok.funs.mem hb).1
  rw [e] at this; cases this
theorem Inv.bs (I : Inv X pins σ H s) : ∀ b o,X.base.get? b=some o→s.heap.get? b=some o∧H b=none:=fun b o e =>
  ⟨I.base.keep b o (I.ok.bs b o e).1 (I.ok.bs b o e).2 (I.ok.nofr e) (I.ok.noex b o e),I.base.free b o (I.ok.bs b o e).1 (I.ok.bs b o e).2 (I.ok.noex b o e)⟩
theorem Inv.bk (I : Inv X pins σ H s) : ∀ b o,X.base.get? b=some o→s.heap.get? b=some o:=fun b o e=>(I.bs b o e).1
theorem Inv.mod (I : Inv X pins σ H s) : Mod X.K X.mg X.base:=I.ok.mod
theorem Inv.kIn (I : Inv X pins σ H s) : X.K.In s.heap:=I.ok.mod.kin.keeps I.bk
theorem Inv.nolimit (I : Inv X pins σ H s) : s.heap.NoLimit:=I.ok.mod.nolimit.keeps I.bk
theorem Inv.fr (I : Inv X pins σ H s) : ∃ m,Fr X.base X.env.locals s.heap m :=
  let ⟨m,hn,_⟩:=I.loc
  ⟨m,hn,I.bk,Nat.le_trans I.ok.bsz I.ok.above⟩
theorem Inv.lt (I : Inv X pins σ H s) : X.env.locals < s.heap.objs.size:=let ⟨_,hn,_⟩:=I.loc; hn.lt
theorem Inv.sz (I : Inv X pins σ H s) : X.s₀.heap.objs.size≤s.heap.objs.size:=Nat.le_trans I.ok.above (Nat.le_of_lt I.lt)
theorem Inv.nofs (I : Inv X pins σ H s) {a : Addr} (h : s.heap.objs.size≤a) : a∉X.fs:=fun hb=>by
  obtain ⟨_,o,ho,_⟩:=I.ok.funs.mem hb
  exact absurd (Nat.lt_of_lt_of_le (Heap.lt_size ho) (Nat.le_trans I.sz h)) (Nat.lt_irrefl _)
theorem Inv.cne (I : Inv X pins σ H s) : ∀ x c,X.env.cells.lookup x=some c→c≠X.env.locals:=fun x c e z=>by
  obtain ⟨v,o,ho,hd⟩:=I.cell x c e
  obtain ⟨m,⟨o',es,ep,ho',hd',_⟩,_⟩:=I.loc
  rw [z,ho'] at ho; cases ho; rw [hd'] at hd; cases hd
theorem Inv.funs (I : Inv X pins σ H s) : s.heap.FunFrames X.base X.outer:=by
  have all : ∀ (l : List Env),(∀ b∈frs l,b∈X.fs)→X.s₀.heap.FunFrames X.base l→s.heap.FunFrames X.base l:=by
    intro l
    induction l with
    | nil=>intro _ _; trivial
    | cons env r ih =>
      intro hs hl
      obtain ⟨hk,⟨L,o,hf,hn,ho,hd⟩,hr⟩:=hl
      have hL : L∈X.fs:=hs L (by unfold frs; rw [List.filterMap_cons,hf]; exact List.mem_cons_self)
      obtain ⟨sl,e⟩:=I.base.slot L o ho (I.ok.frf L hL) hL fun z=>I.ok.exfs L z hL
      exact ⟨hk,⟨L,_,hf,hn,e,hd⟩,ih (fun b hb=>hs b (by unfold frs; rw [List.filterMap_cons,hf]; exact List.mem_cons_of_mem _ hb)) hr⟩
  exact all X.outer (fun _ hb=>hb) I.ok.funs
theorem Inv.stack (I : Inv X pins σ H s) : s.heap.FunFrames X.base X.stack:=by
  rcases I.ok.stk with e | ⟨e,hf⟩
  · rw [e]; exact I.funs
  · rw [e]
    obtain ⟨m,hn,_⟩:=I.loc
    refine .cons (by rw [I.ok.kind]; decide) hf hn ?_ I.funs
    exact Heap.get?_none_of_le (Nat.le_trans I.ok.bsz I.ok.above)
theorem Inv.stkSub (I : Inv X pins σ H s) : ∀ b∈frs X.stack,b∈X.env.locals :: X.fs:=fun b hb=>by
  rcases I.ok.stk with e | ⟨e,hf⟩
  · rw [e] at hb; exact List.mem_cons_of_mem _ hb
  · rw [e] at hb
    unfold frs at hb
    rw [List.filterMap_cons,hf] at hb
    exact hb
theorem Inv.stkFree (I : Inv X pins σ H s) : ∀ b∈frs X.stack,H b=none:=fun b hb=>by
  rcases List.mem_cons.mp (I.stkSub b hb) with e | hb
  · rw [e]; exact I.free
  · obtain ⟨_,o,ho,_⟩:=I.ok.funs.mem hb
    exact I.base.free b o ho (I.ok.frf b hb) fun z=>I.ok.exfs b z hb
theorem Inv.step {g' : Array GenState} {t' : Nat} {d' : Drawn} {ch : List Addr} (I : Inv X pins σ H s)
    (hch : ∀ b∈ch,(b∈X.ex∨X.s₀.heap.objs.size≤b)∧b≠X.env.locals∧(∀ x c,X.env.cells.lookup x=some c→c≠b)∧∀ p∈X.pn ++ pins,p.1≠b)
    (keep : ∀ b o,b≠X.env.locals→b∉X.fs→b∉ch→s.heap.get? b=some o→H b=none→h'.get? b=some o)
    (slot : ∀ b o,b≠X.env.locals→b∈X.fs→b∉ch→s.heap.get? b=some o→H b=none→∃ sl,h'.get? b=some { o with slots:=sl }) (free : ∀ b o,b∉ch→s.heap.get? b=some o→H b=none→H' b=none)
    (there : ∀ b o,b∉ch→s.heap.get? b=some o→∃ o',h'.get? b=some o')
    (tups : ∀ b xs,H b=some (.tup xs)→H' b=some (.tup xs)) (frzs : ∀ b o u,H b=some (.frz o u)→H' b=some (.frz o u)) (tbls : ∀ b ps,H b=some (.tbl ps)→∃ more,H' b=some (.tbl (ps ++ more)))
    (ns : ∀ m,s.heap.Ns X.env.locals m→h'.Ns X.env.locals m) (hok : HOk X.prog X.w H' h') (hg : AllBare g') :
    Inv X pins σ H' { s with heap:=h',gens:=g',drawn:=d',toks:=t' }:=by
  have neL : ∀ b o,X.s₀.heap.get? b=some o→b≠X.env.locals:=fun b o e=>Nat.ne_of_lt (Nat.lt_of_lt_of_le (Heap.lt_size e) I.ok.above)
  have neC : ∀ b o,X.s₀.heap.get? b=some o→b∉X.ex→b∉ch:=fun b o e hx hb=>by
    rcases (hch b hb).1 with z | z
    · exact hx z
    · exact absurd (Nat.lt_of_lt_of_le (Heap.lt_size e) z) (Nat.lt_irrefl _)
  have cellK : ∀ x c,X.env.cells.lookup x=some c→∀ v,s.heap.IsCell c v→h'.IsCell c v:=fun x c e v ⟨o,ho,hd⟩=>by
    have nch : c∉ch:=fun z=>(hch c z).2.2.1 x c e rfl
    by_cases hc : c∈X.fs
    · obtain ⟨sl,q⟩:=slot c o (I.cne x c e) hc nch ho (I.freeC x c e)
      exact ⟨_,q,hd⟩
    · exact ⟨o,keep c o (I.cne x c e) hc nch ho (I.freeC x c e),hd⟩
  refine ⟨I.ok,I.os,hg,⟨fun b o e n hb hx=>?_,fun b o e n hb hx=>?_,fun b o e n hx=>?_,fun b o e hx=>?_,fun b xs e=>tups b xs (I.base.tups b xs e),fun b o xs e=>frzs b o xs (I.base.frzs b o xs e),fun b ps e=>?_⟩,?_,fun x c e=>?_,?_,fun x c e=>?_,fun p hp=>?_,hok,I.len⟩
  · exact keep b o (neL b o e) hb (neC b o e hx) (I.base.keep b o e n hb hx) (I.base.free b o e n hx)
  · obtain ⟨sl,e1⟩:=I.base.slot b o e n hb hx
    obtain ⟨sl',e2⟩:=slot b _ (neL b o e) hb (neC b o e hx) e1 (I.base.free b o e n hx)
    exact ⟨sl',e2⟩
  · obtain ⟨o',e1⟩:=I.base.there b o e hx
    exact free b o' (neC b o e hx) e1 (I.base.free b o e n hx)
  · obtain ⟨o',e1⟩:=I.base.there b o e hx
    exact there b o' (neC b o e hx) e1
  · obtain ⟨m1,e1⟩:=I.base.tbls b ps e
    obtain ⟨m2,e2⟩:=tbls b _ e1
    exact ⟨m1 ++ m2,by rw [e2,Array.append_assoc]⟩
  · obtain ⟨m,hn,hl⟩:=I.loc
    refine ⟨m,ns m hn,fun i x v e1 e2 e3=>?_⟩
    obtain ⟨u,r,l⟩:=hl i x v e1 e2 e3
    refine ⟨u,r,?_⟩
    rcases l with l | ⟨k,c,e,z⟩
    · exact .inl l
    · exact .inr ⟨k,c,e,cellK x c e _ z⟩
  · obtain ⟨v,z⟩:=I.cell x c e
    exact ⟨v,cellK x c e v z⟩
  · obtain ⟨m,⟨o,_,_,ho,_⟩,_⟩:=I.loc
    exact free _ o (fun z=>(hch _ z).2.1 rfl) ho I.free
  · obtain ⟨v,o,ho,hd⟩:=I.cell x c e
    exact free c o (fun z=>(hch c z).2.2.1 x c e rfl) ho (I.freeC x c e)
  · obtain ⟨e,n,ne,nf,d⟩:=I.pin p hp
    have nch : p.1∉ch:=fun z=>(hch p.1 z).2.2.2 p hp rfl
    exact ⟨keep p.1 p.2 ne nf nch e n,free p.1 p.2 nch e n,ne,nf,d⟩
theorem Inv.un {t' : Nat} (I : Inv X pins σ H s) (u : Un X.fs [] H H' s.heap h') (hok : HOk X.prog X.w H' h') : Inv X pins σ H' { s with heap:=h',toks:=t' }:=by
  obtain ⟨m,⟨o,es,ep,ho,r⟩,_⟩:=id I.loc
  obtain ⟨sl,hL⟩:=u.any ho I.free (by simp)
  exact I.step (g':=s.gens) (d':=s.drawn) (ch:=[]) (fun _ z=>nomatch z) (fun b o _ hb _ e n=>u.keep b o e n hb (by simp)) (fun b o _ hb _ e n=>u.slot b o e n hb (by simp)) (fun b o _ e n=>u.free b o e n (by simp)) (fun b o _ e=>u.there b o e (by simp)) u.tups u.frzs u.tbls (fun m' hm=>by
    obtain ⟨o',es',ep',ho',r'⟩:=hm
    rw [ho] at ho'; cases ho'
    exact ⟨_,es',ep',hL,r'⟩) hok I.bare
theorem Inv.call {g' : Array GenState} {t' : Nat} {d' : Drawn} {ch : List Addr} (I : Inv X pins σ H s) (u : Un (frs X.stack) ch H H' s.heap h') (hok : HOk X.prog X.w H' h') (hg : AllBare g')
    (hch : ∀ b∈ch,(b∈X.ex∨X.s₀.heap.objs.size≤b)∧b≠X.env.locals∧(∀ x c,X.env.cells.lookup x=some c→c≠b)∧∀ p∈X.pn ++ pins,p.1≠b) :
    Inv X pins σ H' { s with heap:=h',gens:=g',drawn:=d',toks:=t' }:=by
  obtain ⟨m,⟨o,es,ep,ho,r⟩,_⟩:=id I.loc
  obtain ⟨sl,hL⟩:=u.any ho I.free fun z=>(hch _ z).2.1 rfl
  exact I.step (ch:=ch) hch (fun b o hL hb hc e n=>u.keep b o e n (fun z=>(List.mem_cons.mp (I.stkSub b z)).elim hL hb) hc) (fun b o _ _ hc e n=>u.any e n hc) (fun b o hc e n=>u.free b o e n hc) (fun b o hc e=>u.there b o e hc) u.tups u.frzs u.tbls (fun m' hm=>by
    obtain ⟨o',es',ep',ho',r'⟩:=hm
    rw [ho] at ho'; cases ho'
    exact ⟨_,es',ep',hL,r'⟩) hok hg
theorem Inv.turned {t' : Nat} {it : Addr} (I : Inv X pins σ H s) (k : ∀ b o,b≠it→s.heap.get? b=some o→h'.get? b=some o) (hn : H it=none) (hL : it≠X.env.locals)
    (h1 : it∈X.ex∨X.s₀.heap.objs.size≤it) (h2 : ∀ x c,X.env.cells.lookup x=some c→c≠it) (h3 : ∀ p∈X.pn ++ pins,p.1≠it) : Inv X pins σ H { s with heap:=h',toks:=t' }:=by
  have nit : ∀ b u,H b=some u→b≠it:=fun b u e z=>by rw [z,hn] at e; cases e
  refine I.step (g':=s.gens) (d':=s.drawn) (ch:=[it]) (fun b hb=>?_) (fun b o _ _ hc e _=>k b o (fun z=>hc (by simp [z])) e) (fun b o _ _ hc e _=>⟨o.slots,k b o (fun z=>hc (by simp [z])) e⟩) (fun _ _ _ _ n=>n)
    (fun b o hc e=>⟨o,k b o (fun z=>hc (by simp [z])) e⟩) (fun _ _ e=>e) (fun _ _ _ e=>e) (fun b ps e=>⟨#[],by rw [e]; simp⟩) (fun m hm=>?_) (fun b u e=>?_) I.bare
  · have e : b=it:=by simpa using hb
    subst e
    exact ⟨h1,hL,h2,h3⟩
  · obtain ⟨o,es,ep,ho,r⟩:=hm
    exact ⟨o,es,ep,k _ o (Ne.symm hL) ho,r⟩
  · refine (I.hok b u e).stay (fun c v hc q=>k c v ?_ q) (fun _ q=>q) fun _ _ q=>q
    rcases hc with z | z
    · rw [z]; exact nit b u e
    · exact nit c _ z
theorem Inv.tok (I : Inv X pins σ H s) (t : Nat) : Inv X pins σ H { s with toks:=t }:=I.un (h':=s.heap) (t':=t) Un.refl I.hok
theorem Inv.kept {t' : Nat} (I : Inv X pins σ H s) (k : ∀ b u,s.heap.get? b=some u→h'.get? b=some u) : Inv X pins σ H { s with heap:=h',toks:=t' }:=I.un (Un.kept k) (I.hok.kept k)
theorem Inv.laid {a : Addr} {o : HO} {t' : Nat} (I : Inv X pins σ H s) (k : ∀ b u,s.heap.get? b=some u→h'.get? b=some u) (hp : s.heap.objs.size≤a) (new : ObjOk X.prog X.w (upd H a o) h' a o) :
    Inv X pins σ (upd H a o) { s with heap:=h',toks:=t' }:=I.un (Un.laid k hp (I.hok.fresh hp)) (I.hok.laid k hp new)
theorem Inv.write {x e : Addr} {o : HO} {t' : Nat} (I : Inv X pins σ H s) (mu : Mut (H x)) (he : e=x∨H e=some (.own x)) (k : ∀ b u,b≠e→s.heap.get? b=some u→h'.get? b=some u) (heo : ∃ u,h'.get? e=some u)
    (new : ObjOk X.prog X.w (upd H x o) h' x o) : Inv X pins σ (upd H x o) { s with heap:=h',toks:=t' }:=I.un (Un.write mu he k heo) (I.hok.write mu he k heo new)
theorem Inv.pins_of {pins' : List (Addr × Obj)} (I : Inv X pins σ H s) (h : ∀ p∈pins',s.heap.get? p.1=some p.2∧H p.1=none∧p.1≠X.env.locals∧p.1∉X.fs∧∀ v,p.2.data ≠ .cell v) : Inv X pins' σ H s :=
  ⟨I.ok,I.os,I.bare,I.base,I.loc,I.cell,I.free,I.freeC,fun p hp=>(List.mem_append.mp hp).elim (fun z=>I.pin p (List.mem_append_left _ z)) (h p),I.hok,I.len⟩
theorem nodup_ix {N : List Str} (hN : N.Nodup) {i j : Nat} {x : Str} (a : N[i]?=some x) (b : N[j]?=some x) : i=j:=by
  obtain ⟨h1,e1⟩:=List.getElem?_eq_some_iff.mp a
  obtain ⟨h2,e2⟩:=List.getElem?_eq_some_iff.mp b
  exact (List.getElem_inj hN).mp (e1.trans e2.symm)
theorem store_ok2 {M : Model} {A : Around} {E : Value→Shared→Prop} {i : Nat} {x : Str} {v : V} {u : Value} {Q : Unit→Shared→Prop} (I : Inv X pins σ H s) (hN : X.N.Nodup) (hi : X.N[i]?=some x) (hx : Loc X.env.scope x) (r : RelV v u)
    (h : ∀ s',Inv X pins (σ.set i (some v)) H s'→(∃ a,Heap.SameBut a s.heap s'.heap∧(a=X.env.locals∨X.env.cells.lookup x=some a))→Q () s') (hf : X.fn x=true∨X.env.scope.names.lookup x=some .local:=by first | exact .inl rfl | exact .inr rfl | assumption) : wpAny M A (storeName X.env x u) Q E s:=by
  obtain ⟨m,hn,hl⟩:=id I.loc
  have hcls : (X.env.scope.kind == .class || (X.env.scope.kind == .module && X.env.locals != X.env.globals))=false:=by rw [I.ok.kind]; rfl
  have hiσ : i < σ.length:=by rw [I.len]; exact (List.getElem?_eq_some_iff.mp hi).1
  have cne:=I.cne
  have tracked : ∀ {a : Addr} {h' : Heap},(∃ o,s.heap.get? a=some o∧H a=none)→Heap.SameBut a s.heap h'→HOk X.prog X.w H h':=fun {a h'} ha hs b ob e=>by
    obtain ⟨_,_,hfree⟩:=ha
    refine (I.hok b ob e).stay (fun c w' hc q=>(hs.2 c ?_).trans q) (fun _ q=>q) fun _ _ q=>q
    rintro rfl
    rcases hc with rfl | hc
    · rw [hfree] at e; cases e
    · rw [hfree] at hc; cases hc
  rcases hx with hk | hk
  · refine wpAny_storeName_local hk hn (fun h' hn' hs=>?_) hcls
    obtain ⟨oL,_,_,hoL,_⟩:=id hn
    refine h _ ⟨I.ok,I.os,I.bare,⟨fun b o e n hb hx=>?_,fun b o e n hb hx=>?_,I.base.free,fun b o e hx=>?_,I.base.tups,I.base.frzs,I.base.tbls⟩,⟨_,hn',fun j y v' e1 e2 e3=>?_⟩,fun y c e=>?_,I.free,I.freeC,fun p hp=>?_,tracked ⟨oL,hoL,I.free⟩ hs,by simpa using I.len⟩ ⟨_,hs,.inl rfl⟩
    · exact (hs.2 b (Nat.ne_of_lt (Nat.lt_of_lt_of_le (Heap.lt_size e) I.ok.above))).trans (I.base.keep b o e n hb hx)
    · obtain ⟨sl,e1⟩:=I.base.slot b o e n hb hx
      exact ⟨sl,(hs.2 b (Nat.ne_of_lt (Nat.lt_of_lt_of_le (Heap.lt_size e) I.ok.above))).trans e1⟩
    · obtain ⟨o',e1⟩:=I.base.there b o e hx
      exact ⟨o',(hs.2 b (Nat.ne_of_lt (Nat.lt_of_lt_of_le (Heap.lt_size e) I.ok.above))).trans e1⟩
    · by_cases hj : j=i
      · subst hj
        rw [hi] at e1; cases e1
        rw [List.getElem?_set_self hiσ] at e2
        cases e2
        exact ⟨u,r,.inl ⟨hk,by simp⟩⟩
      · rw [List.getElem?_set_ne (Ne.symm hj)] at e2
        obtain ⟨u',r',q⟩:=hl j y v' e1 e2 e3
        refine ⟨u',r',?_⟩
        rcases q with ⟨k,e⟩ | ⟨k,c,e,z⟩
        · refine .inl ⟨k,?_⟩
          have : y≠x:=fun e=>hj (nodup_ix hN e1 (e ▸ hi))
          simp [this,e]
        · exact .inr ⟨k,c,e,z.sameBut hs (cne y c e)⟩
    · obtain ⟨w',z⟩:=I.cell y c e
      exact ⟨w',z.sameBut hs (cne y c e)⟩
    · obtain ⟨e,n,ne,nf,d⟩:=I.pin p hp
      exact ⟨(hs.2 p.1 ne).trans e,n,ne,nf,d⟩
  · have hfn : X.fn x=true:=by
      rcases hf with z | z
      · exact z
      · rw [z] at hk; cases hk
    obtain ⟨c,hc⟩:=I.ok.has x (.inl hk)
    obtain ⟨w',z⟩:=I.cell x c hc
    refine wpAny_storeName_cell I.ok.kind hk hc z (fun h' hc' hs=>?_)
    obtain ⟨oc,hoc,hocd⟩:=id z
    refine h { s with heap:=h' } ⟨I.ok,I.os,I.bare,⟨fun b o e n hb hx=>?_,fun b o e n hb hx=>?_,I.base.free,fun b o e hx=>?_,I.base.tups,I.base.frzs,I.base.tbls⟩,⟨m,hn.sameBut hs (Ne.symm (cne x c hc)),fun j y v' e1 e2 e3=>?_⟩,fun y c' e=>?_,I.free,I.freeC,fun p hp=>?_,tracked ⟨oc,hoc,I.freeC x c hc⟩ hs,by simpa using I.len⟩ ⟨c,hs,.inr hc⟩
    · exact (hs.2 b (Nat.ne_of_lt (Nat.lt_of_lt_of_le (Heap.lt_size e) (I.ok.cab x c hfn hc)))).trans (I.base.keep b o e n hb hx)
    · obtain ⟨sl,e1⟩:=I.base.slot b o e n hb hx
      exact ⟨sl,(hs.2 b (Nat.ne_of_lt (Nat.lt_of_lt_of_le (Heap.lt_size e) (I.ok.cab x c hfn hc)))).trans e1⟩
    · obtain ⟨o',e1⟩:=I.base.there b o e hx
      exact ⟨o',(hs.2 b (Nat.ne_of_lt (Nat.lt_of_lt_of_le (Heap.lt_size e) (I.ok.cab x c hfn hc)))).trans e1⟩
    · by_cases hj : j=i
      · subst hj
        rw [hi] at e1; cases e1
        rw [List.getElem?_set_self hiσ] at e2
        cases e2
        exact ⟨u,r,.inr ⟨.inl hk,c,hc,hc'⟩⟩
      · rw [List.getElem?_set_ne (Ne.symm hj)] at e2
        obtain ⟨u',r',q⟩:=hl j y v' e1 e2 e3
        refine ⟨u',r',?_⟩
        rcases q with q | ⟨k,c',e,z'⟩
        · exact .inl q
        · refine .inr ⟨k,c',e,z'.sameBut hs ?_⟩
          rintro rfl
          exact hj (nodup_ix hN e1 (I.ok.inj _ _ _ e hc ▸ hi))
    · by_cases hcc : c'=c
      · subst hcc; exact ⟨_,hc'⟩
      · obtain ⟨w2,z2⟩:=I.cell y c' e
        exact ⟨w2,z2.sameBut hs hcc⟩
    · obtain ⟨e,n,ne,nf,d⟩:=I.pin p hp
      refine ⟨(hs.2 p.1 ?_).trans e,n,ne,nf,d⟩
      intro q
      rw [q,hoc] at e
      have q' : oc=p.2:=Option.some.inj e
      exact d w' (by rw [← q']; exact hocd)
theorem store_ok {M : Model} {A : Around} {E : Value→Shared→Prop} {i : Nat} {x : Str} {v : V} {u : Value} {Q : Unit→Shared→Prop} (I : Inv X pins σ H s) (hN : X.N.Nodup) (hi : X.N[i]?=some x) (hx : Loc X.env.scope x) (r : RelV v u)
    (h : ∀ s',Inv X pins (σ.set i (some v)) H s'→Q () s') (hf : X.fn x=true∨X.env.scope.names.lookup x=some .local:=by first | exact .inl rfl | exact .inr rfl | assumption) : wpAny M A (storeName X.env x u) Q E s :=
  store_ok2 I hN hi hx r (fun s' I' _=>h s' I') hf
theorem Inv.call' {s' : Shared} {ch : List Addr} (I : Inv X pins σ H s) (ho : s'.os=s.os) (u : Un (frs X.stack) ch H H' s.heap s'.heap) (hok : HOk X.prog X.w H' s'.heap) (hg : AllBare s'.gens)
    (hch : ∀ b∈ch,(b∈X.ex∨X.s₀.heap.objs.size≤b)∧b≠X.env.locals∧(∀ x c,X.env.cells.lookup x=some c→c≠b)∧∀ p∈X.pn ++ pins,p.1≠b) : Inv X pins σ H' s':=by
  obtain ⟨h',g',d',t',o'⟩:=s'
  have e : o'=s.os:=ho
  subst e
  exact I.call (g':=g') (t':=t') (d':=d') u hok hg hch
end
noncomputable abbrev XK:=Value→Option Addr→Hp→Prop
noncomputable abbrev St:=List (Option V)
noncomputable abbrev VK:=V→Hp→Prop
noncomputable abbrev TE:=St→Hp→VK→Prop
noncomputable abbrev TT:=St→Hp→(Bool→Hp→Prop)→Prop
noncomputable abbrev TA:=St→Hp→(List V→Hp→Prop)→Prop
structure Ends where
  nx : St→Hp→Prop
  rt : VK
  bk : St→Hp→Prop:=fun _ _=>False
  ct : St→Hp→Prop:=fun _ _=>False
noncomputable abbrev TS:=Ends→St→Hp→Prop
noncomputable def EP (X : Cx) (pins : List (Addr × Obj)) (σ : St) (Q : VK) (u : Value) (s' : Shared) : Prop:=L23.E2 fun v H'=>L23.A3 (Inv X pins σ H' s') (RelV v u) (Q v H')
noncomputable def TP (X : Cx) (pins : List (Addr × Obj)) (σ : St) (Q : Bool→Hp→Prop) (b : Bool) (s' : Shared) : Prop:=∃ H',Inv X pins σ H' s'∧Q b H'
noncomputable def AP (X : Cx) (pins : List (Addr × Obj)) (σ : St) (Q : List V→Hp→Prop) (us : List Value) (s' : Shared) : Prop:=L23.E2 fun vs H'=>L23.A3 (Inv X pins σ H' s') (Vals vs us) (Q vs H')
noncomputable def SP (X : Cx) (pins : List (Addr × Obj)) (D : Ends) (f : Flow) (s' : Shared) : Prop :=
  match f with
  | .next=>∃ σ' H',Inv X pins σ' H' s'∧D.nx σ' H'
  | .brk=>∃ σ' H',Inv X pins σ' H' s'∧D.bk σ' H'
  | .cont=>∃ σ' H',Inv X pins σ' H' s'∧D.ct σ' H'
  | .ret u=>∃ v σ' H',Inv X pins σ' H' s'∧RelV v u∧D.rt v H'
noncomputable def PE (X : Cx) (e : Expr) (t : TE) : Prop :=
  ∀ (pins : List (Addr × Obj)) (s : Shared) (σ : St) (H : Hp) (Q : VK),Inv X pins σ H s→t σ H Q→wpAny (model X.prog X.w) X.A (eval e X.env) (EP X pins σ Q) X.xe s
noncomputable def PT (X : Cx) (e : Expr) (t : TT) : Prop :=
  ∀ (pins : List (Addr × Obj)) (s : Shared) (σ : St) (H : Hp) (Q : Bool→Hp→Prop),Inv X pins σ H s→t σ H Q→wpAny (model X.prog X.w) X.A (isTrue e X.env (eval e X.env)) (TP X pins σ Q) X.xe s
noncomputable def PW (X : Cx) (e : Expr) (t : TT) : Prop :=
  ∀ (whole : Sem Value) (pins : List (Addr × Obj)) (s : Shared) (σ : St) (H : Hp) (Q : Bool→Hp→Prop),Inv X pins σ H s→t σ H Q→wpAny (model X.prog X.w) X.A (isTrue e X.env whole) (TP X pins σ Q) X.xe s
theorem PW.pt {X : Cx} {e : Expr} {t : TT} (h : PW X e t) : PT X e t:=h _
noncomputable def PA (X : Cx) (es : List Expr) (t : TA) : Prop :=
  ∀ (pos : Pos) (pins : List (Addr × Obj)) (s : Shared) (σ : St) (H : Hp) (Q : List V→Hp→Prop),Inv X pins σ H s→t σ H Q→wpAny (model X.prog X.w) X.A (spliced (backTo pos (starEach es X.env))) (AP X pins σ Q) X.xe s
noncomputable def PS (X : Cx) (st : Stmt) (t : TS) : Prop :=
  ∀ (pins : List (Addr × Obj)) (s : Shared) (σ : St) (H : Hp) (D : Ends),Inv X pins σ H s→t D σ H→wpAny (model X.prog X.w) X.A (exec st X.env) (SP X pins D) X.xe s
noncomputable def PSs (X : Cx) (st : List Stmt) (t : TS) : Prop :=
  ∀ (pins : List (Addr × Obj)) (s : Shared) (σ : St) (H : Hp) (D : Ends),Inv X pins σ H s→t D σ H→wpAny (model X.prog X.w) X.A (execs st X.env) (SP X pins D) X.xe s
theorem thn {α : Type} {t : Sem α} {Q Q' : α→Shared→Prop} {M : Model} {A : Around} {E : Value→Shared→Prop} {s : Shared} (h : wpAny M A t Q E s) (hQ : ∀ a s,Q a s→Q' a s) : wpAny M A t Q' E s:=wpAny_mono h hQ fun _ _ x=>x
end L2
namespace L2
open PySem PySem.Spec PyProof.Rows
section
variable {X : Cx}
inductive TV (o : Option (Option V)) (k : V→Prop) : Prop where
  | mk (v : V) (h : o=some (some v)) (q : k v) : TV o k
noncomputable def tVar (i : Nat) : TE:=fun σ H Q=>TV (σ[i]?) fun v=>Q v H
noncomputable def tC (v : V) : TE:=fun _ H Q=>Q v H
theorem pe_var {i : Nat} {x : Str} {pos : Pos} (hN : X.N[i]?=some x) (hv : Vis X.env.scope x) (hd : (x == ("__debug__" : Str))=false:=by decide) (hcd : (x == ("__classdict__" : Str))=false:=by decide) : PE X (.Name x pos) (tVar i):=by
  intro pins s σ H Q I h
  obtain ⟨v,e,h⟩:=h
  obtain ⟨m,hn,hl⟩:=I.loc
  obtain ⟨u,r,l⟩:=hl i x v hN e hv
  have fin : EP X pins σ Q u s:=⟨v,H,I,r,h⟩
  rcases l with ⟨hk,hm⟩ | ⟨hk,c,hc,hcell⟩
  · exact wpAny_Name (wpAny_loadName_local I.ok.kind hk hn hm fin) hd
  · rcases hk with hk | hk
    · exact wpAny_Name (wpAny_loadName_cell I.ok.kind hk hc hcell fin) hd
    · exact wpAny_Name (wpAny_loadName_free I.ok.kind hk hc hcell fin hcd) hd
theorem pe_int {i j pos} : PE X (.Constant (.int i) j pos) (tC (.int i)):=fun _ _ _ H _ I h=>wpAny_Constant_int ⟨.int i,H,I.tok _,⟨_,rfl⟩,h⟩
theorem pe_bl {b j pos} : PE X (.Constant (.bool b) j pos) (tC (.bl b)):=fun _ _ _ H _ I h=>Constant_bool ⟨.bl b,H,I,rfl,h⟩
theorem pe_non {j pos} : PE X (.Constant .none j pos) (tC .non):=fun _ _ _ H _ I h=>Constant_none ⟨.non,H,I,rfl,h⟩
noncomputable def Gl (X : Cx) (x : Str) : Prop:=X.env.kindOf x=some .globalImplicit
theorem ld_glob {E : Value→Shared→Prop} {pins : List (Addr × Obj)} {s : Shared} {σ : St} {H : Hp} {x : Str} {u : Value} {pos : Pos} {Q : Value→Shared→Prop} (I : Inv X pins σ H s) (hg : Gl X x) (hm : X.mg x=some u) (h : Q u s)
    (hd : (x == ("__debug__" : Str))=false:=by decide) : wpAny (model X.prog X.w) X.A (eval (.Name x pos) X.env) Q E s :=
  Calls.Name_function_global I.ok.kind hg (Calls.loadGlobal_global (by rw [I.ok.glob]; exact I.mod.glob.keeps I.bk) hm h) hd
theorem ld_blt {E : Value→Shared→Prop} {pins : List (Addr × Obj)} {s : Shared} {σ : St} {H : Hp} {x : Str} {u : Value} {pos : Pos} {Q : Value→Shared→Prop} (I : Inv X pins σ H s) (hg : Gl X x) (hm : X.mg x=none) (hv : bootBuiltins x=some u) (h : Q u s)
    (hn : x≠"__name__":=by decide) (hd : (x == ("__debug__" : Str))=false:=by decide) : wpAny (model X.prog X.w) X.A (eval (.Name x pos) X.env) Q E s:=by
  obtain ⟨mb,h1,h2⟩:=I.mod.blt
  exact Calls.Name_function_global I.ok.kind hg (Calls.loadGlobal_builtin (by rw [I.ok.glob]; exact I.mod.glob.keeps I.bk) hm (by rw [I.ok.blt]; exact h1.keeps I.bk) ((h2 x hn).trans hv) h) hd
variable {a b : Expr} {ta tb : TE} {pos : Pos}
noncomputable def PC (X : Cx) (op : CmpOp) (a b : Expr) (t : TE) : Prop :=
  ∀ (pins : List (Addr × Obj)) (s : Shared) (σ : St) (H : Hp) (Q : VK),Inv X pins σ H s→t σ H Q →
    wpAny (model X.prog X.w) X.A (eval a X.env) (fun v s₁=>wpAny (model X.prog X.w) X.A (eval b X.env) (fun u s₂=>wpAny (model X.prog X.w) X.A (compareOp op v u) (EP X pins σ Q) X.xe s₂) X.xe s₁) X.xe s
noncomputable def tB (t : TE) : TT:=fun σ H Q=>t σ H fun x H1=>∃ c,x = .bl c∧Q c H1
theorem pt_val {e : Expr} {t : TE} (h : PE X e t) (he : ∀ whole,isTrue e X.env whole=(do let v ← whole; standAt e.pos; holding [v] (truthy v)):=by intro _; rfl) : PT X e (tB t):=by
  intro pins s σ H Q I hw
  refine isTrue_plain (thn (h pins s σ H _ I hw) fun v s1 ⟨x,H1,I1,r1,q1⟩=>?_) (he _)
  obtain ⟨d,rfl,q⟩:=q1
  cases r1
  exact wpAny_truthy_bool ⟨H1,I1,q⟩
variable {tA tB' : TT} {rest : List Expr}
noncomputable def tAnd (t u : TT) : TT:=fun σ H Q=>t σ H fun c H1=>if c=true then u σ H1 Q else Q false H1
noncomputable def tOr (t u : TT) : TT:=fun σ H Q=>t σ H fun c H1=>if c=true then Q true H1 else u σ H1 Q
noncomputable def tNot (t : TT) : TT:=fun σ H Q=>t σ H fun c H1=>Q (!c) H1
theorem pw_and1 (ha : PT X a tA) : PW X (.BoolOp .And [a] pos) tA:=by
  intro wh pins s σ H Q I h
  refine isTrue_and (thn (ha pins s σ H Q I h) fun c s1 e=>?_)
  cases c with
  | true=>exact isTrue_and_nil e
  | false=>exact e
theorem pw_or1 (ha : PT X a tA) : PW X (.BoolOp .Or [a] pos) tA:=by
  intro wh pins s σ H Q I h
  refine isTrue_or (thn (ha pins s σ H Q I h) fun c s1 e=>?_)
  cases c with
  | false=>exact isTrue_or_nil e
  | true=>exact e
theorem pw_and (ha : PT X a tA) (hb : PW X (.BoolOp .And (b :: rest) pos) tB') : PW X (.BoolOp .And (a :: b :: rest) pos) (tAnd tA tB'):=by
  intro wh pins s σ H Q I h
  refine isTrue_and (thn (ha pins s σ H _ I h) fun c s1 ⟨H1,I1,q1⟩=>?_)
  cases c with
  | true=>exact hb wh pins s1 σ H1 Q I1 q1
  | false=>exact ⟨H1,I1,q1⟩
theorem pw_or (ha : PT X a tA) (hb : PW X (.BoolOp .Or (b :: rest) pos) tB') : PW X (.BoolOp .Or (a :: b :: rest) pos) (tOr tA tB'):=by
  intro wh pins s σ H Q I h
  refine isTrue_or (thn (ha pins s σ H _ I h) fun c s1 ⟨H1,I1,q1⟩=>?_)
  cases c with
  | true=>exact ⟨H1,I1,q1⟩
  | false=>exact hb wh pins s1 σ H1 Q I1 q1
theorem pt_not (ha : PT X a tA) : PT X (.UnaryOp .Not a pos) (tNot tA):=by
  intro pins s σ H Q I h
  exact isTrue_not (ha pins s σ H (fun c H1=>Q (!c) H1) I h)
noncomputable def tAndV (ta tb : TE) : TE:=fun σ H Q=>ta σ H fun x H1=>∃ c,x = .bl c∧if c=true then tb σ H1 Q else Q (.bl false) H1
theorem pe_one {op} {t : TE} (h : PE X a t) : PE X (.BoolOp op [a] pos) t:=fun pins s σ H Q I hw=>BoolOp_one (h pins s σ H Q I hw)
theorem pe_and (ha : PE X a ta) (hb : PE X (.BoolOp .And (b :: rest) pos) tb) : PE X (.BoolOp .And (a :: b :: rest) pos) (tAndV ta tb):=by
  intro pins s σ H Q I h
  refine BoolOp_and (thn (ha pins s σ H _ I h) fun v s1 ⟨x,H1,I1,r1,q1⟩=>?_)
  obtain ⟨c,rfl,q1⟩:=q1
  cases r1
  refine wpAny_truthy_bool ?_
  cases c with
  | true=>exact hb pins s1 σ H1 Q I1 q1
  | false=>exact ⟨.bl false,H1,I1,rfl,q1⟩
noncomputable def tIf (t : TT) (ta tb : TE) : TE:=fun σ H Q=>t σ H fun c H1=>if c=true then ta σ H1 Q else tb σ H1 Q
theorem pe_ifExp {c : Expr} (hc : PT X c tA) (ha : PE X a ta) (hb : PE X b tb) : PE X (.IfExp c a b pos) (tIf tA ta tb):=by
  intro pins s σ H Q I h
  refine wpAny_IfExp (thn (hc pins s σ H _ I h) fun d s1 ⟨H1,I1,q1⟩=>?_)
  cases d with
  | true=>exact ha pins s1 σ H1 Q I1 q1
  | false=>exact hb pins s1 σ H1 Q I1 q1
end
end L2
namespace L2
open PySem PySem.Spec PyProof.Rows
noncomputable def SqL (K : PySem.W.Frag) (H : Hp) (a : Addr) (xs : List V) : Prop :=
  Rd H a (.lst xs) ∨
    ∃ (o : Obj) (its : Array Value) (n : Nat),K.lookup a=some o∧o.cls = .type "list"∧o.dict=none∧o.data = .seq its n∧its.size≤sizeLine∧Vals xs its.toList
noncomputable def SqT (K : PySem.W.Frag) (H : Hp) (a : Addr) (xs : List V) : Prop :=
  Rd H a (.tup xs) ∨
    ∃ (o : Obj) (its : Array Value) (n : Nat),K.lookup a=some o∧o.cls = .type "tuple"∧o.data = .seq its n∧its.size≤sizeLine∧Vals xs its.toList
noncomputable def absV : Value→Option V
  | .none=>some .non
  | .bool b=>some (.bl b)
  | .int i _=>some (.int i)
  | .str x _=>some (.str x)
  | .bytes b _=>some (.byt b)
  | .float b _=>some (.flt b)
  | .ref a=>some (.ref a)
  | .type n=>some (.ty n)
  | _=>none
theorem RelV.abs {x : V} {u : Value} (r : RelV x u) : absV u=some x:=by
  cases x with
  | non=>cases r; rfl
  | bl _=>cases r; rfl
  | int _=>obtain ⟨t,rfl⟩:=r; rfl
  | str _=>obtain ⟨t,rfl⟩:=r; rfl
  | byt _=>obtain ⟨t,rfl⟩:=r; rfl
  | flt _=>obtain ⟨t,rfl⟩:=r; rfl
  | ref _=>cases r; rfl
  | ty _=>cases r; rfl
theorem RelV.inj {x y : V} {u : Value} (r : RelV x u) (q : RelV y u) : x=y:=Option.some.inj (r.abs.symm.trans q.abs)
theorem Vals.inj : ∀ {xs ys : List V} {us : List Value},Vals xs us→Vals ys us→xs=ys
  | _,_,_,.nil,.nil=>rfl
  | _,_,_,.cons r t,.cons r' t'=>by rw [r.inj r',Vals.inj t t']
section
variable {X : Cx} {pins : List (Addr × Obj)} {σ : St} {H : Hp} {s : Shared} {a : Addr} {xs ys : List V}
theorem SqL.of {K : PySem.W.Frag} (h : H a=some (.lst xs)) : SqL K H a xs := .inl (.inl h)
theorem SqT.of {K : PySem.W.Frag} (h : H a=some (.tup xs)) : SqT K H a xs := .inl (.inl h)
theorem Inv.list (I : Inv X pins σ H s) (h : SqL X.K H a xs) : ∃ its : List Value,Vals xs its∧PlainL s.heap a its.toArray∧xs.length≤sizeLine:=by
  rcases h with h | ⟨o,its,n,hk,hc,hd,hs,hz,r⟩
  · obtain ⟨z,its,n,r,e⟩:=h.ok I.hok
    exact ⟨its,r,⟨_,n,e,rfl,rfl,rfl⟩,z⟩
  · refine ⟨its.toList,r,⟨o,n,I.kIn a o hk,hc,hd,by simpa using hs⟩,?_⟩
    have e:=r.length
    simp only [Array.length_toList] at e
    omega
theorem Inv.tuple (I : Inv X pins σ H s) (h : SqT X.K H a xs) : ∃ its : List Value,Vals xs its∧IsTup s.heap a its.toArray∧xs.length≤sizeLine:=by
  rcases h with h | ⟨o,its,n,hk,hc,hs,hz,r⟩
  · obtain ⟨z,its,r,p⟩:=h.ok I.hok
    exact ⟨its,r,p,z⟩
  · refine ⟨its.toList,r,⟨o,I.kIn a o hk,hc,n,by simpa using hs⟩,?_⟩
    have e:=r.length
    simp only [Array.length_toList] at e
    omega
theorem Inv.list_inj (I : Inv X pins σ H s) (h : SqL X.K H a xs) (h' : SqL X.K H a ys) : xs=ys:=by
  obtain ⟨its,r,⟨o,n,e,_,_,d⟩,_⟩:=I.list h
  obtain ⟨its',r',⟨o',n',e',_,_,d'⟩,_⟩:=I.list h'
  rw [e] at e'; cases e'
  rw [d] at d'
  injection d' with d1 _
  have : its=its':=by simpa using congrArg Array.toList d1
  subst this
  exact r.inj r'
end
noncomputable abbrev Cx.wish (X : Cx) (E : Value→Shared→Prop) : Cx:={ X with xe:=E }
noncomputable abbrev Cx.nox (X : Cx) : Cx:=X.wish fun _ _=>False
theorem Cx.Ok.wish {X : Cx} (ok : X.Ok) (E : Value→Shared→Prop) : (X.wish E).Ok :=
  ⟨ok.mod,ok.kind,ok.glob,ok.blt,ok.above,ok.inj,ok.has,ok.cab,ok.hd,ok.frames,ok.stk,ok.exf,ok.bs,ok.bsz,ok.noex,ok.exfs,ok.funs,ok.frf⟩
theorem Cx.Ok.unwish {X : Cx} {E : Value→Shared→Prop} (ok : (X.wish E).Ok) : X.Ok :=
  ⟨ok.mod,ok.kind,ok.glob,ok.blt,ok.above,ok.inj,ok.has,ok.cab,ok.hd,ok.frames,ok.stk,ok.exf,ok.bs,ok.bsz,ok.noex,ok.exfs,ok.funs,ok.frf⟩
section
variable {X : Cx} {pins : List (Addr × Obj)} {σ : St} {H : Hp} {s : Shared} {E : Value→Shared→Prop}
theorem Inv.wish (I : Inv X pins σ H s) (E : Value→Shared→Prop) : Inv (X.wish E) pins σ H s:=⟨I.ok.wish E,I.os,I.bare,I.base,I.loc,I.cell,I.free,I.freeC,I.pin,I.hok,I.len⟩
theorem Inv.unwish (I : Inv (X.wish E) pins σ H s) : Inv X pins σ H s:=⟨I.ok.unwish,I.os,I.bare,I.base,I.loc,I.cell,I.free,I.freeC,I.pin,I.hok,I.len⟩
theorem SP.unwish {D : Ends} {f : Flow} {s' : Shared} (h : SP (X.wish E) pins D f s') : SP X pins D f s':=by
  cases f with
  | next=>obtain ⟨σ',H',I,q⟩:=h; exact ⟨σ',H',I.unwish,q⟩
  | brk=>obtain ⟨σ',H',I,q⟩:=h; exact ⟨σ',H',I.unwish,q⟩
  | cont=>obtain ⟨σ',H',I,q⟩:=h; exact ⟨σ',H',I.unwish,q⟩
  | ret u=>obtain ⟨v,σ',H',I,r,q⟩:=h; exact ⟨v,σ',H',I.unwish,r,q⟩
theorem PE.nox {e : Expr} {t : TE} (h : PE X.nox e t) : PE X e t:=fun pins s σ H Q I hw =>
  wpAny_mono (h pins s σ H Q (I.wish _) hw) (fun _ _ ⟨v,H',I',r,q⟩=>⟨v,H',I'.unwish,r,q⟩) fun _ _ z=>False.elim z
theorem PT.nox {e : Expr} {t : TT} (h : PT X.nox e t) : PT X e t:=fun pins s σ H Q I hw =>
  wpAny_mono (h pins s σ H Q (I.wish _) hw) (fun _ _ ⟨H',I',q⟩=>⟨H',I'.unwish,q⟩) fun _ _ z=>False.elim z
theorem PSs.nox {st : List Stmt} {t : TS} (h : PSs X.nox st t) : PSs X st t:=fun pins s σ H D I hw =>
  wpAny_mono (h pins s σ H D (I.wish _) hw) (fun _ _ q=>q.unwish) fun _ _ z=>False.elim z
end
section
variable {X : Cx} {st : Stmt} {rest : List Stmt} {t u : TS} {e : Expr} {te : TE} {pos : Pos}
noncomputable def tNext : TS:=fun D σ H=>D.nx σ H
noncomputable def tSeq (t u : TS) : TS:=fun D σ H=>t { D with nx:=u D } σ H
theorem pss_nil : PSs X [] tNext:=fun _ _ σ H _ I h=>wpAny_execs_nil ⟨σ,H,I,h⟩
theorem pss_cons (h1 : PS X st t) (h2 : PSs X rest u) : PSs X (st :: rest) (tSeq t u):=by
  intro pins s σ H D I h
  refine wpAny_execs_cons (thn (h1 pins s σ H { D with nx:=u D } I h) fun f s1 q=>?_)
  cases f with
  | next =>
    obtain ⟨σ',H',I',q⟩:=q
    exact h2 pins s1 σ' H' D I' q
  | ret v=>exact q
  | brk=>exact q
  | cont=>exact q
theorem pss_one (h1 : PS X st t) : PSs X [st] t:=by
  intro pins s σ H D I h
  refine wpAny_execs_cons (thn (h1 pins s σ H D I h) fun f s1 q=>?_)
  cases f with
  | next=>exact wpAny_execs_nil q
  | ret v=>exact q
  | brk=>exact q
  | cont=>exact q
theorem ps_pass : PS X (.Pass pos) tNext:=fun _ _ σ H _ I h=>wpAny_Pass ⟨σ,H,I,h⟩
theorem Inv.quiet {pins : List (Addr × Obj)} {σ : St} {H : Hp} {s : Shared} (I : Inv X pins σ H s) : interactive X.env=false:=by simp [interactive,I.ok.kind]
noncomputable def tDrop (te : TE) : TS:=fun D σ H=>te σ H fun _ H1=>D.nx σ H1
theorem ps_expr (he : PE X e te) (hs : swapsWith e none pos.line X.env=pure false:=by rfl) : PS X (.Expr e pos) (tDrop te):=by
  intro pins s σ H D I h
  exact wpAny_Expr_any (thn (he pins s σ H _ I h) fun v s1 ⟨x,H1,I1,r1,q1⟩=>⟨σ,H1,I1,q1⟩) I.quiet hs
noncomputable def tRet (te : TE) : TS:=fun D σ H=>te σ H D.rt
theorem ps_ret (he : PE X e te) : PS X (.Return (some e) pos) (tRet te):=by
  intro pins s σ H D I h
  exact wpAny_Return_some (thn (he pins s σ H _ I h) fun v s1 ⟨x,H1,I1,r1,q1⟩=>⟨x,σ,H1,I1,r1,q1⟩)
noncomputable def tIfS (c : TT) (t u : TS) : TS:=fun D σ H=>c σ H fun b H1=>if b=true then t D σ H1 else u D σ H1
theorem ps_if {c : Expr} {a b : List Stmt} {tc : TT} (hc : PT X c tc) (ha : PSs X a t) (hb : PSs X b u) : PS X (.If c a b pos) (tIfS tc t u):=by
  intro pins s σ H D I h
  refine wpAny_If (thn (hc pins s σ H _ I h) fun d s1 ⟨H1,I1,q1⟩=>?_)
  cases d with
  | true=>exact ha pins s1 σ H1 D I1 q1
  | false=>exact hb pins s1 σ H1 D I1 q1
end
noncomputable abbrev TG:=V→St→Hp→(St→Hp→Prop)→Prop
noncomputable abbrev TGs:=List V→St→Hp→(St→Hp→Prop)→Prop
noncomputable def PG (X : Cx) (target : Expr) (t : TG) : Prop :=
  ∀ (pins : List (Addr × Obj)) (s : Shared) (σ : St) (H : Hp) (v : V) (u : Value) (Q : St→Hp→Prop),Inv X pins σ H s→RelV v u→t v σ H Q →
    wpAny (model X.prog X.w) X.A (assign target X.env u) (fun _ s'=>∃ σ' H',Inv X pins σ' H' s'∧Q σ' H') X.xe s
noncomputable def PGs (X : Cx) (ts : List Expr) (t : TGs) : Prop :=
  ∀ (pins : List (Addr × Obj)) (s : Shared) (σ : St) (H : Hp) (vs : List V) (us : List Value) (Q : St→Hp→Prop),Inv X pins σ H s→Vals vs us→t vs σ H Q →
    wpAny (model X.prog X.w) X.A (assignInOrder ((assignEach ts X.env).map (·.2)) us) (fun _ s'=>∃ σ' H',Inv X pins σ' H' s'∧Q σ' H') X.xe s
noncomputable abbrev TSet:=V→V→V→Hp→(Hp→Prop)→Prop
noncomputable def PSet (X : Cx) (t : TSet) : Prop :=
  ∀ (pins : List (Addr × Obj)) (s : Shared) (σ : St) (H : Hp) (o i v : V) (ov iv u : Value) (Q : Hp→Prop),Inv X pins σ H s→RelV o ov→RelV i iv→RelV v u→t o i v H Q →
    wpAny (model X.prog X.w) X.A (setItem ov iv u) (fun _ s'=>∃ H',Inv X pins σ H' s'∧Q H') X.xe s
section
variable {X : Cx} {pos : Pos}
noncomputable def gName (i : Nat) : TG:=fun v σ H Q=>Q (σ.set i (some v)) H
theorem pg_name {i : Nat} {x : Str} (hN : X.N.Nodup) (hi : X.N[i]?=some x) (hx : Loc X.env.scope x) (hf : X.fn x=true∨X.env.scope.names.lookup x=some .local:=by first | exact .inl rfl | exact .inr rfl | assumption) : PG X (.Name x pos) (gName i):=by
  intro pins s σ H v u Q I r h
  exact wpAny_assign_Name (store_ok I hN hi hx r (fun s' I'=>⟨_,H,I',h⟩) hf)
noncomputable def gNil : TGs:=fun vs σ H Q=>vs=[]∧Q σ H
noncomputable def gCons (t : TG) (u : TGs) : TGs:=fun vs σ H Q=>L23.E2 fun v r=>vs=v :: r∧t v σ H fun σ' H'=>u r σ' H' Q
theorem pgs_nil : PGs X [] gNil:=by
  intro pins s σ H vs us Q I r h
  obtain ⟨e,h⟩:=h
  subst e
  cases r
  exact assignInOrder_nil ⟨σ,H,I,h⟩
theorem pgs_cons {e : Expr} {es : List Expr} {t : TG} {u : TGs} (h1 : PG X e t) (h2 : PGs X es u)
    (hs : (assignEach (e :: es) X.env).map (·.2)=assign e X.env :: (assignEach es X.env).map (·.2):=by rfl) : PGs X (e :: es) (gCons t u):=by
  intro pins s σ H vs us Q I r h
  obtain ⟨v,vr,e1,h⟩:=h
  subst e1
  cases r with
  | cons r rr =>
    rw [hs]
    refine assignInOrder_cons (thn (h1 pins s σ H _ _ _ I r h) fun _ s1 ⟨σ1,H1,I1,q1⟩=>?_)
    exact h2 pins s1 σ1 H1 _ _ Q I1 rr q1
noncomputable def gTup (K : PySem.W.Frag) (n : Nat) (t : TGs) : TG:=fun v σ H Q=>L23.E2 fun a xs=>L23.A4 (v = .ref a) (SqT K H a xs) (xs.length=n) (t xs σ H Q)
theorem pg_tup {es : List Expr} {k : Nat} {t : TGs} {n : Nat} (hc : X.calm=true) (h : PGs X es t)
    (hn : (assignEach es X.env).length=n:=by rfl) (hst : (assignEach es X.env).findIdx? (·.1)=none:=by rfl) : PG X (.Tuple es k pos) (gTup X.K n t):=by
  intro pins s σ H v u Q I r hw
  obtain ⟨a,xs,e1,hq,hl,hw⟩:=hw
  subst e1
  cases r
  obtain ⟨its,rv,ht,hz⟩:=I.tuple hq
  refine assign_Tuple_tuple (I.ok.hd hc) ht (by simp [hn,← hl,rv.length]) hst fun h' hx=>?_
  have I1 : Inv X pins σ H { s with heap:=h' }:=I.kept (t':=s.toks) fun b o e=>hx b o (Nat.ne_of_lt (Heap.lt_size e)) e
  exact h pins _ σ H xs _ Q I1 (by simpa using rv) hw
noncomputable def gSub (to ti : TE) (t : TSet) : TG:=fun v σ H Q=>to σ H fun o H1=>ti σ H1 fun i H2=>t o i v H2 fun H3=>Q σ H3
theorem pg_sub {o i : Expr} {to ti : TE} {t : TSet} (ho : PE X o to) (hi : PE X i ti) (hs : PSet X t)
    (ha : ∀ v,assign (.Subscript o i pos) X.env v=(do
      let ov ← holding [v] (eval o X.env)
      let iv ← holding [v,ov] (eval i X.env)
      standAt pos
      holding [v,ov,iv] (setItem ov iv v)
      release [v,ov,iv] []):=by intro _; rfl) : PG X (.Subscript o i pos) (gSub to ti t):=by
  intro pins s σ H v u Q I r h
  rw [ha]
  refine wpAny_bind (wpAny_holding (thn (ho pins s σ H _ I h) fun ov s1 ⟨x,H1,I1,r1,q1⟩=>?_))
  refine wpAny_bind (wpAny_holding (thn (hi pins s1 σ H1 _ I1 q1) fun iv s2 ⟨y,H2,I2,r2,q2⟩=>?_))
  refine wpAny_bind (wpAny_standAt (wpAny_bind (wpAny_holding (thn (hs pins s2 σ H2 x y v ov iv u _ I2 r1 r2 r q2) fun _ s3 ⟨H3,I3,q3⟩=>?_))))
  exact wpAny_release ⟨σ,H3,I3,q3⟩
noncomputable def tAsg (te : TE) (g : TG) : TS:=fun D σ H=>te σ H fun x H1=>g x σ H1 D.nx
theorem ps_asg {tg e : Expr} {te : TE} {g : TG} (he : PE X e te) (hg : PG X tg g) (hs : swapsWithSole [tg] e pos.line X.env=pure false:=by rfl) (hw : swappedStores [tg] e X.env=pure none:=by rfl)
    (h1 : (assignEach [tg] X.env).map (·.2)=[assign tg X.env]:=by rfl) : PS X (.Assign [tg] e pos) (tAsg te g):=by
  intro pins s σ H D I h
  refine wpAny_Assign_stores (thn (he pins s σ H _ I h) fun v s1 ⟨x,H1,I1,r1,q1⟩=>?_) hs hw
  rw [h1]
  exact thn (hg pins s1 σ H1 x v _ I1 r1 q1) fun _ s2 q=>q
theorem ps_set {i : Nat} {x : Str} {e : Expr} {te : TE} {pos' : Pos} (hN : X.N.Nodup) (hi : X.N[i]?=some x) (hx : Loc X.env.scope x) (he : PE X e te) (hs : swapsWith e (some (.Name x pos')) pos.line X.env=pure false:=by rfl) (hf : X.fn x=true∨X.env.scope.names.lookup x=some .local:=by first | exact .inl rfl | exact .inr rfl | assumption) :
    PS X (.Assign [.Name x pos'] e pos) (tAsg te (gName i)):=by
  intro pins s σ H D I h
  refine wpAny_Assign_Name (thn (he pins s σ H _ I h) fun v s1 ⟨y,H1,I1,r1,q1⟩=>?_) hs
  exact store_ok I1 hN hi hx r1 (fun s2 I2=>⟨_,H1,I2,q1⟩) hf
end
section
variable {X : Cx} {pos : Pos}
noncomputable def tWhile (c : TT) (tb : TS) : TS:=fun D σ H=>∃ W : Nat→St→Hp→Prop,(∃ m,W m σ H)∧∀ m σ H,W m σ H →
  c σ H fun b H1=>if b=true then ∃ N : St→Hp→Prop,(∀ σ' H',N σ' H'→∃ m',m' < m∧W m' σ' H')∧tb { D with nx:=N,ct:=N,bk:=D.nx } σ H1 else D.nx σ H1
theorem ps_while {c : Expr} {body : List Stmt} {tc : TT} {tb : TS} (hp : PassesOwn (model X.prog X.w) X.A X.env X.xe) (hc : PT X c tc) (hb : PSs X body tb) : PS X (.While c body [] pos) (tWhile tc tb):=by
  intro pins s σ H D I h
  obtain ⟨W,⟨m0,w0⟩,turn⟩:=h
  refine wpAny_While (codeAny_whileLoop (fun n s'=>∃ σ' H',Inv X pins σ' H' s'∧W n σ' H') ?_ m0 ⟨σ,H,I,w0⟩)
  rintro n s1 ⟨σ1,H1,I1,w1⟩
  refine wpAny_passesOwn hp (thn (hc pins s1 σ1 H1 _ I1 (turn n σ1 H1 w1)) fun b s2 ⟨H2,I2,q2⟩=>?_)
  cases b with
  | true =>
    obtain ⟨N,hN,q2⟩:=q2
    rw [if_pos rfl]
    refine wpAny_passesOwn hp (thn (hb pins s2 σ1 H2 _ I2 q2) fun f s3 q3=>?_)
    cases f with
    | next =>
      obtain ⟨σ3,H3,I3,n3⟩:=q3
      obtain ⟨m',hm,w3⟩:=hN σ3 H3 n3
      exact ⟨m',hm,σ3,H3,I3,w3⟩
    | cont =>
      obtain ⟨σ3,H3,I3,n3⟩:=q3
      obtain ⟨m',hm,w3⟩:=hN σ3 H3 n3
      exact ⟨m',hm,σ3,H3,I3,w3⟩
    | brk=>exact q3
    | ret v=>exact q3
  | false =>
    rw [if_neg Bool.false_ne_true]
    exact wpAny_execs_nil ⟨σ1,H2,I2,q2⟩
end
structure It where
  go : Nat→Hp→Prop
  yld : Nat→Hp→V→Hp→Prop
  stop : Nat→Hp→Prop
noncomputable def FpOk (X : Cx) (pins : List (Addr × Obj)) (H : Hp) (b : Addr) : Prop :=
  H b=none∧b≠X.env.locals∧b∉X.fs∧(b∈X.ex∨X.s₀.heap.objs.size≤b)∧(∀ x c,X.env.cells.lookup x=some c→c≠b)∧∀ p∈X.pn ++ pins,p.1≠b
theorem Inv.fpOk {X : Cx} {pins : List (Addr × Obj)} {σ : St} {H H' : Hp} {s : Shared} {b : Addr} (I : Inv X pins σ H s) (hb : s.heap.objs.size≤b) (hn : H' b=none) : FpOk X pins H' b:=by
  refine ⟨hn,Nat.ne_of_gt (Nat.lt_of_lt_of_le I.lt hb),I.nofs hb,.inr (Nat.le_trans I.sz hb),fun x c e z=>?_,fun p hp z=>?_⟩
  · obtain ⟨v,q⟩:=I.cell x c e
    exact absurd (Nat.lt_of_lt_of_le q.lt (by rw [z]; exact hb)) (Nat.lt_irrefl _)
  · exact absurd (Nat.lt_of_lt_of_le (Heap.lt_size (I.pin p hp).1) (by rw [z]; exact hb)) (Nat.lt_irrefl _)
structure Turn (P : Program) (w : World) (K : PySem.W.Frag) (tg : Expr) (J : It) (fp : List Addr) (it : Addr) (tn : Nat→Heap→Prop) : Prop where
  mem : it∈fp
  obj : ∀ i h,tn i h→∀ b∈fp,∃ o,h.get? b=some o∧∀ v,o.data ≠ .cell v
  keep : ∀ i h h',tn i h→(∀ b∈fp,∀ o,h.get? b=some o→h'.get? b=some o)→tn i h'
  item : ∀ (X : Cx),X.prog=P→X.w=w→X.K=K→X.calm=true→∀ (i : Nat) (pins : List (Addr × Obj)) (s : Shared) (σ : St) (H : Hp) (E : Value→Shared→Prop),Inv X pins σ H s→(∀ b∈fp,FpOk X pins H b)→tn i s.heap→J.go i H →
    wpAny (model P w) X.A (pyNext (.ref it)) (fun r s1=>∃ u,r=some u ∧
      wpAny (model P w) X.A (letOwnedTupleGo tg (.ref it) u) (fun _ s2=>∃ x H',Inv X pins σ H' s2∧RelV x u∧J.yld i H x H'∧tn (i + 1) s2.heap∧∀ b∈fp,H' b=none) E s1) E s
  done : ∀ (X : Cx),X.prog=P→X.w=w→X.K=K→X.calm=true→∀ (i : Nat) (pins : List (Addr × Obj)) (s : Shared) (σ : St) (H : Hp) (E : Value→Shared→Prop),Inv X pins σ H s→(∀ b∈fp,FpOk X pins H b)→tn i s.heap→J.stop i H →
    wpAny (model P w) X.A (pyNext (.ref it)) (fun r s1=>r=none∧Inv X pins σ H s1) E s
  self : ∀ (A : Around) (i : Nat) (s : Shared) (Q : Value→Shared→Prop) (E : Value→Shared→Prop),tn i s.heap→Q (.ref it) s→wpAny (model P w) A (pyIter (.ref it)) Q E s
noncomputable abbrev TI:=St→Hp→(It→Hp→Prop)→Prop
noncomputable def PIE (X : Cx) (pins : List (Addr × Obj)) (σ : St) (tg : Expr) (R : It→Hp→Prop) (itv : Value) (s2 : Shared) : Prop :=
  ∃ (it : Addr) (fp : List Addr) (tn : Nat→Heap→Prop) (J : It) (H' : Hp),itv = .ref it∧Inv X pins σ H' s2∧Turn X.prog X.w X.K tg J fp it tn∧tn 0 s2.heap∧(∀ b∈fp,FpOk X pins H' b)∧R J H'
noncomputable def PI (X : Cx) (tg iter : Expr) (wi : TI) : Prop :=
  ∀ (pins : List (Addr × Obj)) (s : Shared) (σ : St) (H : Hp) (R : It→Hp→Prop),Inv X pins σ H s→wi σ H R →
    wpAny (model X.prog X.w) X.A (eval iter X.env) (fun v s1=>wpAny (model X.prog X.w) X.A (pyIter v) (PIE X pins σ tg R) X.xe s1) X.xe s
theorem go_of {M : Model} {A : Around} {E : Value→Shared→Prop} {s : Shared} {tg : Expr} {it : Addr} {u : Value} {o : Obj} {n : String} {vs : Array Value} {Q : Unit→Shared→Prop} (ho : s.heap.get? it=some o) (hc : o.cls = .type n) (hd : o.data = .fields vs)
    (hn : ["enumerate","zip","dict_itemiterator","dict_reverseitemiterator","odict_iterator","itertools.zip_longest","itertools.pairwise"].contains n=false) (hQ : Q () s) : wpAny M A (letOwnedTupleGo tg (.ref it) u) Q E s:=by
  unfold letOwnedTupleGo
  cases tg <;> first
    | exact wpAny_pure hQ
    | (cases u <;> first
        | exact wpAny_pure hQ
        | (refine wpAny_bind (wpAny_load ho ?_)
           rw [hc,hd]
           show wpAny M A (if (["enumerate","zip","dict_itemiterator","dict_reverseitemiterator","odict_iterator","itertools.zip_longest","itertools.pairwise"].contains n && vs[0]? == some (rawInt _))=true then _ else _) Q E s
           rw [if_neg (by intro h; rw [hn,Bool.false_and] at h; cases h)]
           exact wpAny_pure hQ))
noncomputable def Itl (K : PySem.W.Frag) (a : Addr) : It :=
  ⟨fun i H=>∃ xs x,SqL K H a xs∧xs[i]?=some x,fun i H x H'=>H'=H∧∀ xs,SqL K H a xs→xs[i]?=some x,fun i H=>∃ xs,SqL K H a xs∧xs.length≤i⟩
noncomputable def Itr (lo : Int) (n : Nat) : It:=⟨fun i _=>i < n,fun i H x H'=>H'=H∧x = .int (lo + i),fun i _=>n≤i⟩
theorem turn_list {P : Program} {w : World} {K : PySem.W.Frag} {tg : Expr} (a it : Addr) : Turn P w K tg (Itl K a) [it] it (fun i h=>h.IsListIter it a i) where
  mem:=by simp
  obj:=fun i h st b hb=>by
    have e : b=it:=by simpa using hb
    subst e
    obtain ⟨o,e,c,d⟩:=st
    exact ⟨o,e,fun v z=>by rw [d] at z; cases z⟩
  keep:=fun i h h' st k=>st.at fun o e=>k it (by simp) o e
  item:=by
    intro X hP hw hK hc i pins s σ H E I hf st hg
    subst hP hw hK
    obtain ⟨xs,x,hq,hx⟩:=hg
    obtain ⟨its,rv,p,hz⟩:=I.list hq
    obtain ⟨u,hu,ru⟩:=rv.get hx
    obtain ⟨f0,f1,f2,f3,f4,f5⟩:=hf it (by simp)
    refine wpAny_pyNext_list_item st p.isList (x:=u) (by simpa using hu) fun h' st' sb=>?_
    have I1 : Inv X pins σ H { s with heap:=h' }:=I.turned (t':=s.toks) (fun b o hb e=>(sb.2 b hb).trans e) f0 f1 f3 f4 f5
    obtain ⟨o,e,c,d⟩:=id st'
    exact ⟨u,rfl,go_of (s:={ s with heap:=h' }) e c d (by decide) ⟨x,H,I1,ru,⟨rfl,fun ys hy=>by rw [I.list_inj hy hq]; exact hx⟩,st',fun b hb=>(hf b hb).1⟩⟩
  done:=by
    intro X hP hw hK hc i pins s σ H E I hf st hg
    subst hP hw hK
    obtain ⟨xs,hq,hx⟩:=hg
    obtain ⟨its,rv,p,hz⟩:=I.list hq
    obtain ⟨f0,f1,f2,f3,f4,f5⟩:=hf it (by simp)
    have hl:=rv.length
    exact wpAny_pyNext_list_end (I.ok.hd hc) st p.isList (by simp; omega) fun h' eb=>⟨rfl,I.turned (t':=s.toks) (fun b o hb e=>eb b o hb e) f0 f1 f3 f4 f5⟩
  self:=fun _ _ _ _ _ st h=>wpAny_pyIter_listiter st h
theorem turn_range {P : Program} {w : World} {K : PySem.W.Frag} {tg : Expr} (it : Addr) (lo : Int) (n : Nat) : Turn P w K tg (Itr lo n) [it] it (fun i h=>IsRangeIter h it (lo + (i : Nat) * 1) ((n : Int) - (i : Nat)) 1) where
  mem:=by simp
  obj:=fun i h st b hb=>by
    have e : b=it:=by simpa using hb
    subst e
    exact ⟨_,st,fun v z=>by
      have z' : Data.fields _=Data.cell v:=z
      cases z'⟩
  keep:=fun i h h' st k=>k it (by simp) _ st
  item:=by
    intro X hP hw hK hc i pins s σ H E I hf st hg
    subst hP hw hK
    obtain ⟨f0,f1,f2,f3,f4,f5⟩:=hf it (by simp)
    have W:=Walks.range (prog:=X.prog) (w:=X.w) (I.ok.hd hc) it lo 1 n
    refine W.item i s _ _ hg st fun v h' tk hv st' kk=>?_
    obtain ⟨t,rfl⟩:=hv
    have I1 : Inv X pins σ H { s with heap:=h',toks:=tk }:=I.turned (fun b o hb e=>kk b o (by simpa using hb) e) f0 f1 f3 f4 f5
    refine ⟨_,rfl,go_of (s:={ s with heap:=h',toks:=tk }) (n:="range_iterator") st' rfl rfl (by decide) ⟨.int (lo + i),H,I1,⟨t,?_⟩,⟨rfl,rfl⟩,st',fun b hb=>(hf b hb).1⟩⟩
    rw [Int.mul_one]
  done:=by
    intro X hP hw hK hc i pins s σ H E I hf st hg
    subst hP hw hK
    obtain ⟨f0,f1,f2,f3,f4,f5⟩:=hf it (by simp)
    exact wpAny_pyNext_range_end (I.ok.hd hc) st (by have : n≤i:=hg; omega) fun h' eb=>⟨rfl,I.turned (t':=s.toks) (fun b o hb e=>eb b o hb e) f0 f1 f3 f4 f5⟩
  self:=fun _ _ _ _ _ st h=>wpAny_pyIter_rangeiter st h
end L2
namespace L2
open PySem PySem.Spec PyProof.Rows
section
variable {X : Cx} {tg : Expr}
noncomputable def iList (K : PySem.W.Frag) (tl : TE) : TI:=fun σ H R=>tl σ H fun x H1=>∃ a,L23.A3 (x = .ref a) ((∃ xs,SqL K H1 a xs)) (R (Itl K a) H1)
theorem pi_list {l : Expr} {tl : TE} (hl : PE X l tl) : PI X tg l (iList X.K tl):=by
  intro pins s σ H R I h
  refine thn (hl pins s σ H _ I h) fun v s1 ⟨x,H1,I1,r1,q1⟩=>?_
  obtain ⟨a,e,⟨xs,hq⟩,q⟩:=q1
  subst e
  cases r1
  obtain ⟨its,rv,p,hz⟩:=I1.list hq
  refine wpAny_pyIter_list p.isList ?_
  refine ⟨s1.heap.objs.size,[s1.heap.objs.size],_,_,H1,rfl,I1.kept (t':=s1.toks) fun b o e=>Heap.get?_push_of_some _ e,turn_list a _,⟨_,Heap.get?_push_size _ rfl,rfl,rfl⟩,fun b hb=>?_,q⟩
  have e : b=s1.heap.objs.size:=by simpa using hb
  subst e
  exact I1.fpOk (Nat.le_refl _) (I1.hok.fresh (Nat.le_refl _))
theorem range_it {pins : List (Addr × Obj)} {σ : St} {H : Hp} {s : Shared} {R : It→Hp→Prop} {E : Value→Shared→Prop} {lo hi : Int} {t u v : Tok} {tk : Nat} (I : Inv X pins σ H s) (h1 : -(2 ^ 62)≤lo) (h2 : lo < 2 ^ 62) (h3 : -(2 ^ 62)≤hi) (h4 : hi < 2 ^ 62)
    (q : R (Itr lo (hi - lo).toNat) H) : wpAny (model X.prog X.w) X.A (pyIter (.ref s.heap.objs.size)) (PIE X pins σ tg R) E { s with heap:=s.heap.push { cls := .type "range",data := .fields #[.int lo t,.int hi u,.int 1 v] },toks:=tk }:=by
  refine wpAny_pyIter_range (IsRange.new ..) (small_one h1 h2 h3 h4) ?_
  have I1 : Inv X pins σ H { s with heap:=s.heap.push { cls := .type "range",data := .fields #[.int lo t,.int hi u,.int 1 v] },toks:=tk }:=I.kept fun b o e=>Heap.get?_push_of_some _ e
  refine ⟨(s.heap.push { cls := .type "range",data := .fields #[.int lo t,.int hi u,.int 1 v] }).objs.size,[(s.heap.push { cls := .type "range",data := .fields #[.int lo t,.int hi u,.int 1 v] }).objs.size],_,_,H,rfl,
    I1.kept (t':=tk) fun b o e=>Heap.get?_push_of_some _ e,turn_range _ lo (hi - lo).toNat,?_,fun b hb=>?_,q⟩
  · have e1 : lo + ((0 : Nat) : Int) * 1=lo:=by simp
    have e2 : (((hi - lo).toNat : Nat) : Int) - ((0 : Nat) : Int)=Builtin.Range.rangeSize lo hi 1:=by rw [rangeSize_one]; split <;> omega
    show IsRangeIter _ _ (lo + ((0 : Nat) : Int) * 1) ((((hi - lo).toNat : Nat) : Int) - ((0 : Nat) : Int)) 1
    rw [e1,e2]
    exact Heap.get?_push_size _ rfl
  · have e : b=(s.heap.push { cls := .type "range",data := .fields #[.int lo t,.int hi u,.int 1 v] }).objs.size:=by simpa using hb
    subst e
    exact I1.fpOk (Nat.le_refl _) (I1.hok.fresh (Nat.le_refl _))
noncomputable def iRng1 (ta : TA) : TI:=fun σ H R=>ta σ H fun vs H1=>∃ (j : Int),L23.A4 (vs=[.int j]) (-(2 ^ 62)≤j) (j < 2 ^ 62) (R (Itr 0 j.toNat) H1)
theorem pi_range1 {a : Expr} {ta : TA} {p pos : Pos} (hg : Gl X "range") (hm : X.mg "range"=none) (ha : PA X [a] ta) (hs : starEach [a] X.env=[(false,eval a X.env)]:=by rfl) : PI X tg (.Call (.Name "range" p) [a] [] pos) (iRng1 ta):=by
  intro pins s σ H R I h
  refine Call_ (ld_blt I hg hm boot_range (PyProof.Rows.callWith_type1 (thn (ha pos pins s σ H _ I h) fun us s1 ⟨vs,H1,I1,r1,q1⟩=>?_) hs rfl))
  obtain ⟨j,e,q1,q2,q⟩:=q1
  subst e
  cases r1 with
  | cons r rr =>
    cases rr
    obtain ⟨t,rfl⟩:=r
    exact call_range_1 (range_it I1 (by omega) (by omega) q1 q2 (by simpa using q))
noncomputable def tFor (wi : TI) (g : TG) (tb : TS) : TS:=fun D σ H=>wi σ H fun J H1=>∃ W : Nat→Nat→St→Hp→Prop,(∃ m,W 0 m σ H1)∧∀ i m σ H,W i m σ H →
  (J.stop i H∧D.nx σ H)∨(J.go i H∧∃ N : St→Hp→Prop,(∀ σ' H',N σ' H'→∃ m',m' < m∧W (i + 1) m' σ' H')∧∀ x H',J.yld i H x H'→g x σ H' fun σ2 H2=>tb { D with nx:=N,ct:=N,bk:=D.nx } σ2 H2)
noncomputable def pinsAt (fp : List Addr) (h : Heap) : List (Addr × Obj):=fp.filterMap fun b=>(h.get? b).map fun o=>(b,o)
theorem mem_pinsAt {fp : List Addr} {h : Heap} {b : Addr} {o : Obj} (hb : b∈fp) (e : h.get? b=some o) : (b,o)∈pinsAt fp h:=List.mem_filterMap.mpr ⟨b,hb,by rw [e]; rfl⟩
theorem of_pinsAt {fp : List Addr} {h : Heap} {p : Addr × Obj} (hp : p∈pinsAt fp h) : p.1∈fp∧h.get? p.1=some p.2:=by
  obtain ⟨b,hb,e⟩:=List.mem_filterMap.mp hp
  cases q : h.get? b with
  | none=>rw [q] at e; cases e
  | some o =>
    rw [q] at e
    have e' : (b,o)=p:=Option.some.inj e
    subst e'
    exact ⟨hb,q⟩
theorem Inv.pinned {pins : List (Addr × Obj)} {σ : St} {H : Hp} {s : Shared} {fp : List Addr} (I : Inv X pins σ H s) (hf : ∀ b∈fp,FpOk X pins H b) (ho : ∀ b∈fp,∃ o,s.heap.get? b=some o∧∀ v,o.data ≠ .cell v) : Inv X (pins ++ pinsAt fp s.heap) σ H s :=
  I.pins_of fun p hp=>(List.mem_append.mp hp).elim (fun z=>I.pin p (List.mem_append_right _ z)) fun z=>by
    obtain ⟨hb,e⟩:=of_pinsAt z
    obtain ⟨f0,f1,f2,_⟩:=hf p.1 hb
    obtain ⟨o,e',d⟩:=ho p.1 hb
    rw [e] at e'; cases e'
    exact ⟨e,f0,f1,f2,d⟩
theorem Inv.unpinned {pins pl : List (Addr × Obj)} {σ : St} {H : Hp} {s : Shared} (I : Inv X (pins ++ pl) σ H s) : Inv X pins σ H s:=I.pins_of fun p hp=>I.pin p (List.mem_append_right _ (List.mem_append_left _ hp))
theorem ps_for {iter : Expr} {body : List Stmt} {wi : TI} {g : TG} {tb : TS} {pos : Pos} (hp : PassesOwn (model X.prog X.w) X.A X.env X.xe) (hc : X.calm=true) (hi : PI X tg iter wi) (hg : PG X tg g) (hb : PSs X body tb)
    (hs : ∀ x,foldedSetIterable iter X.env x=pure x:=by intro _; rfl) : PS X (.For tg iter body [] pos) (tFor wi g tb):=by
  intro pins s σ H D I h
  refine wpAny_For (thn (hi pins s σ H _ I h) fun v s1 h1=>thn h1 fun itv s2 h2=>?_) hs
  obtain ⟨it,fp,tn,J,H2,e,I2,T,st2,f2,W,⟨m0,w0⟩,turn⟩:=h2
  subst e
  have stat : ∀ {H' : Hp},(∀ b∈fp,H' b=none)→∀ b∈fp,FpOk X pins H' b:=fun hn b hb=>⟨hn b hb,(f2 b hb).2⟩
  refine codeAny_forLoop_any (fun n s'=>∃ i σ' H',Inv X pins σ' H' s'∧tn i s'.heap∧(∀ b∈fp,H' b=none)∧W i n σ' H') ?_ m0 ⟨0,σ,H2,I2,st2,fun b hb=>(f2 b hb).1,w0⟩
  rintro n s3 ⟨i,σ3,H3,I3,st3,fr3,w3⟩
  rcases turn i n σ3 H3 w3 with ⟨stop,qn⟩ | ⟨go,N,hN,step⟩
  · refine wpAny_passesOwn hp (thn (T.done X rfl rfl rfl hc i pins s3 σ3 H3 X.xe I3 (stat fr3) st3 stop) fun r s4 ⟨hr,I4⟩=>?_)
    subst hr
    exact wpAny_execs_nil ⟨σ3,H3,I4,qn⟩
  · refine wpAny_passesOwn hp (thn (T.item X rfl rfl rfl hc i pins s3 σ3 H3 X.xe I3 (stat fr3) st3 go) fun r s4 ⟨u,hr,h4⟩=>?_)
    subst hr
    refine wpAny_passesOwn hp (thn h4 fun _ s5 ⟨x,H5,I5,r5,y5,st5,fr5⟩=>?_)
    have I5':=I5.pinned (stat fr5) (T.obj _ _ st5)
    refine wpAny_passesOwn hp (thn (hg _ s5 σ3 H5 x u _ I5' r5 (step x H5 y5)) fun _ s6 ⟨σ6,H6,I6,q6⟩=>?_)
    refine wpAny_passesOwn hp (thn (hb _ s6 σ6 H6 _ I6 q6) fun f s7 q7=>?_)
    have again : ∀ {σ7 : St} {H7 : Hp},Inv X (pins ++ pinsAt fp s5.heap) σ7 H7 s7→N σ7 H7→∃ m,m < n∧∃ i σ' H',Inv X pins σ' H' s7∧tn i s7.heap∧(∀ b∈fp,H' b=none)∧W i m σ' H':=fun {σ7 H7} I7 n7=>by
      obtain ⟨m',hm,w7⟩:=hN σ7 H7 n7
      refine ⟨m',hm,i + 1,σ7,H7,I7.unpinned,T.keep _ _ _ st5 fun b hb o e=>(I7.pin (b,o) (List.mem_append_right _ (List.mem_append_right _ (mem_pinsAt hb e)))).1,fun b hb=>?_,w7⟩
      obtain ⟨o,e,d⟩:=T.obj _ _ st5 b hb
      exact (I7.pin (b,o) (List.mem_append_right _ (List.mem_append_right _ (mem_pinsAt hb e)))).2.1
    cases f with
    | next=>obtain ⟨σ7,H7,I7,n7⟩:=q7; exact again I7 n7
    | cont=>obtain ⟨σ7,H7,I7,n7⟩:=q7; exact again I7 n7
    | brk=>obtain ⟨σ7,H7,I7,q7⟩:=q7; exact ⟨σ7,H7,I7.unpinned,q7⟩
    | ret v=>obtain ⟨x7,σ7,H7,I7,r7,q7⟩:=q7; exact ⟨x7,σ7,H7,I7.unpinned,r7,q7⟩
end
theorem for_list {K : PySem.W.Frag} {a : Addr} {xs : List V} {g : TG} {tb : TS} {D : Ends} {σ : St} {H : Hp} (Pv : Nat→St→Hp→Prop) (h0 : Pv 0 σ H) (hl : ∀ i σ H,i≤xs.length→Pv i σ H→SqL K H a xs)
    (hs : ∀ i x σ H,xs[i]?=some x→Pv i σ H→g x σ H fun σ2 H2=>tb { D with nx:=Pv (i + 1),ct:=Pv (i + 1),bk:=D.nx } σ2 H2) (hd : ∀ σ H,Pv xs.length σ H→D.nx σ H) :
    ∃ W : Nat→Nat→St→Hp→Prop,(∃ m,W 0 m σ H)∧∀ i m σ H,W i m σ H →
      ((Itl K a).stop i H∧D.nx σ H)∨((Itl K a).go i H∧∃ N : St→Hp→Prop,(∀ σ' H',N σ' H'→∃ m',m' < m∧W (i + 1) m' σ' H')∧∀ x H',(Itl K a).yld i H x H'→g x σ H' fun σ2 H2=>tb { D with nx:=N,ct:=N,bk:=D.nx } σ2 H2):=by
  refine ⟨fun i m σ H=>m=xs.length - i∧i≤xs.length∧Pv i σ H,⟨xs.length,by simp,Nat.zero_le _,h0⟩,?_⟩
  rintro i m σ H ⟨rfl,hi,p⟩
  have q:=hl i σ H hi p
  by_cases hlt : i < xs.length
  · refine .inr ⟨⟨xs,xs[i],q,by simp [hlt]⟩,Pv (i + 1),fun σ' H' p'=>⟨xs.length - (i + 1),by omega,rfl,hlt,p'⟩,fun x H' y=>?_⟩
    obtain ⟨e,y⟩:=y
    subst e
    exact hs i x σ _ (y xs q) p
  · have e : i=xs.length:=by omega
    subst e
    exact .inl ⟨⟨xs,q,Nat.le_refl _⟩,hd σ H p⟩
theorem for_range {lo : Int} {n : Nat} {g : TG} {tb : TS} {D : Ends} {σ : St} {H : Hp} (Pv : Nat→St→Hp→Prop) (h0 : Pv 0 σ H)
    (hs : ∀ i σ H,i < n→Pv i σ H→g (.int (lo + i)) σ H fun σ2 H2=>tb { D with nx:=Pv (i + 1),ct:=Pv (i + 1),bk:=D.nx } σ2 H2) (hd : ∀ σ H,Pv n σ H→D.nx σ H) :
    ∃ W : Nat→Nat→St→Hp→Prop,(∃ m,W 0 m σ H)∧∀ i m σ H,W i m σ H →
      ((Itr lo n).stop i H∧D.nx σ H)∨((Itr lo n).go i H∧∃ N : St→Hp→Prop,(∀ σ' H',N σ' H'→∃ m',m' < m∧W (i + 1) m' σ' H')∧∀ x H',(Itr lo n).yld i H x H'→g x σ H' fun σ2 H2=>tb { D with nx:=N,ct:=N,bk:=D.nx } σ2 H2):=by
  refine ⟨fun i m σ H=>m=n - i∧i≤n∧Pv i σ H,⟨n,by simp,Nat.zero_le _,h0⟩,?_⟩
  rintro i m σ H ⟨rfl,hi,p⟩
  by_cases hlt : i < n
  · refine .inr ⟨hlt,Pv (i + 1),fun σ' H' p'=>⟨n - (i + 1),by omega,rfl,hlt,p'⟩,fun x H' y=>?_⟩
    obtain ⟨e,y⟩:=y
    subst e y
    exact hs i σ _ hlt p
  · have e : i=n:=by omega
    subst e
    exact .inl ⟨Nat.le_refl _,hd σ H p⟩
end L2
namespace L2
open PySem PySem.Spec PyProof.Rows
noncomputable abbrev R2:=V→V→Hp→VK→Prop
noncomputable def OpR (X : Cx) (f : Value→Value→Sem Value) (r : R2) : Prop :=
  ∀ (pins : List (Addr × Obj)) (s : Shared) (σ : St) (H : Hp) (x y : V) (v u : Value) (Q : VK),Inv X pins σ H s→RelV x v→RelV y u→r x y H Q →
    wpAny (model X.prog X.w) X.A (f v u) (EP X pins σ Q) X.xe s
noncomputable def UnR (X : Cx) (f : Value→Sem Value) (r : V→Hp→VK→Prop) : Prop :=
  ∀ (pins : List (Addr × Obj)) (s : Shared) (σ : St) (H : Hp) (x : V) (v : Value) (Q : VK),Inv X pins σ H s→RelV x v→r x H Q →
    wpAny (model X.prog X.w) X.A (f v) (EP X pins σ Q) X.xe s
noncomputable def CallR (X : Cx) (f : Value) (r : List V→Hp→VK→Prop) : Prop :=
  ∀ (pins : List (Addr × Obj)) (s : Shared) (σ : St) (H : Hp) (xs : List V) (us : List Value) (Q : VK),Inv X pins σ H s→Vals xs us→r xs H Q →
    wpAny (model X.prog X.w) X.A (call f us) (EP X pins σ Q) X.xe s
noncomputable def tOp (r : R2) (ta tb : TE) : TE:=fun σ H Q=>ta σ H fun x H1=>tb σ H1 fun y H2=>r x y H2 Q
noncomputable def tUn (r : V→Hp→VK→Prop) (ta : TE) : TE:=fun σ H Q=>ta σ H fun x H1=>r x H1 Q
noncomputable def rI (C : Int→Int→Prop) (g : Int→Int→V) : R2:=fun x y H Q=>L23.E2 fun i j=>L23.A4 (x = .int i) (y = .int j) (C i j) (Q (g i j) H)
noncomputable def rI0 (g : Int→Int→V) : R2:=fun x y H Q=>L23.E2 fun i j=>L23.A3 (x = .int i) (y = .int j) (Q (g i j) H)
noncomputable def rU (g : Int→V) : V→Hp→VK→Prop:=fun x H Q=>∃ i,x = .int i∧Q (g i) H
section
variable {X : Cx} {a b c : Expr} {ta tb tc : TE} {pos : Pos}
theorem binT (ha : PE X a ta) (hb : PE X b tb) {pins : List (Addr × Obj)} {s : Shared} {σ : St} {H : Hp} {R : V→V→Hp→Prop} (I : Inv X pins σ H s)
    (h : ta σ H fun x H1=>tb σ H1 fun y H2=>R x y H2) {Q : Value→Shared→Prop} {f : Value→Value→Sem Value}
    (hf : ∀ v u s2 x y H2,Inv X pins σ H2 s2→RelV x v→RelV y u→R x y H2→wpAny (model X.prog X.w) X.A (f v u) Q X.xe s2) :
    wpAny (model X.prog X.w) X.A (eval a X.env) (fun v s₁=>wpAny (model X.prog X.w) X.A (eval b X.env) (fun u s₂=>wpAny (model X.prog X.w) X.A (f v u) Q X.xe s₂) X.xe s₁) X.xe s:=by
  refine thn (ha pins s σ H _ I h) fun v s1 ⟨x,H1,I1,r1,q1⟩=>?_
  refine thn (hb pins s1 σ H1 _ I1 q1) fun u s2 ⟨y,H2,I2,r2,q2⟩=>?_
  exact hf v u s2 x y H2 I2 r1 r2 q2
theorem pe_op {op : Operator} {r : R2} (ho : OpR X (binaryOp op) r) (ha : PE X a ta) (hb : PE X b tb) : PE X (.BinOp a op b pos) (tOp r ta tb):=by
  intro pins s σ H Q I h
  exact wpAny_BinOp (binT ha hb I h fun v u s2 x y H2 I2 rx ry q=>ho pins s2 σ H2 x y v u Q I2 rx ry q)
theorem pe_un {op : UnaryOp} {r : V→Hp→VK→Prop} (ho : UnR X (unaryOp op) r) (ha : PE X a ta) : PE X (.UnaryOp op a pos) (tUn r ta):=by
  intro pins s σ H Q I h
  exact UnaryOp_ (thn (ha pins s σ H _ I h) fun v s1 ⟨x,H1,I1,r1,q1⟩=>ho pins s1 σ H1 x v Q I1 r1 q1)
theorem opI {f : Value→Value→Sem Value} {C : Int→Int→Prop} {g : Int→Int→Int}
    (rule : ∀ (i j : Int) (t u : Tok) (s : Shared) (Q : Value→Shared→Prop) (E : Value→Shared→Prop),C i j→Q (.int (g i j) s.toks) { s with toks:=s.toks + 1 }→wpAny (model X.prog X.w) X.A (f (.int i t) (.int j u)) Q E s) :
    OpR X f (rI C fun i j => .int (g i j)):=by
  intro pins s σ H x y v u Q I rx ry h
  obtain ⟨i,j,rfl,rfl,hc,q⟩:=h
  obtain ⟨t,rfl⟩:=rx
  obtain ⟨t',rfl⟩:=ry
  exact rule i j t t' s _ _ hc ⟨.int (g i j),H,I.tok _,⟨_,rfl⟩,q⟩
theorem opI0 {f : Value→Value→Sem Value} {g : Int→Int→Int}
    (rule : ∀ (i j : Int) (t u : Tok) (s : Shared) (Q : Value→Shared→Prop) (E : Value→Shared→Prop),Q (.int (g i j) s.toks) { s with toks:=s.toks + 1 }→wpAny (model X.prog X.w) X.A (f (.int i t) (.int j u)) Q E s) :
    OpR X f (rI0 fun i j => .int (g i j)):=by
  intro pins s σ H x y v u Q I rx ry h
  obtain ⟨i,j,rfl,rfl,q⟩:=h
  obtain ⟨t,rfl⟩:=rx
  obtain ⟨t',rfl⟩:=ry
  exact rule i j t t' s _ _ ⟨.int (g i j),H,I.tok _,⟨_,rfl⟩,q⟩
theorem opB0 {f : Value→Value→Sem Value} {g : Int→Int→Bool}
    (rule : ∀ (i j : Int) (t u : Tok) (s : Shared) (Q : Value→Shared→Prop) (E : Value→Shared→Prop),Q (.bool (g i j)) s→wpAny (model X.prog X.w) X.A (f (.int i t) (.int j u)) Q E s) :
    OpR X f (rI0 fun i j => .bl (g i j)):=by
  intro pins s σ H x y v u Q I rx ry h
  obtain ⟨i,j,rfl,rfl,q⟩:=h
  obtain ⟨t,rfl⟩:=rx
  obtain ⟨t',rfl⟩:=ry
  exact rule i j t t' s _ _ ⟨.bl (g i j),H,I,rfl,q⟩
noncomputable def CDiv (i j : Int) : Prop:=0 < j∧j < 1073741824
noncomputable def CPow (i j : Int) : Prop:=0≤j∧j≤1000000∧i.natAbs < 2 ^ 64
noncomputable def CMul (i j : Int) : Prop:=(-(2 ^ 64) < i∧i < 2 ^ 64)∨(-(2 ^ 64) < j∧j < 2 ^ 64)
theorem CMul.ok {i j : Int} (h : CMul i j) : IntMulOk i j:=by
  rcases h with ⟨h1,h2⟩ | ⟨h1,h2⟩
  · exact .of_left (intBits_le_64 h1 h2)
  · exact .of_right (intBits_le_64 h1 h2)
theorem two_pow_nn (k : Nat) : (0 : Int)≤2 ^ k:=by
  rw [two_pow_cast]
  exact Int.natCast_nonneg _
theorem op_add : OpR X (binaryOp .Add) (rI0 fun i j => .int (i + j)):=opI0 fun _ _ _ _ _ _ _ q=>add_int q
theorem op_sub : OpR X (binaryOp .Sub) (rI0 fun i j => .int (i - j)):=opI0 fun _ _ _ _ _ _ _ q=>sub_int q
theorem op_mul : OpR X (binaryOp .Mult) (rI CMul fun i j => .int (i * j)):=opI fun _ _ _ _ _ _ _ hc q=>mul_int q hc.ok
theorem op_fdiv : OpR X (binaryOp .FloorDiv) (rI CDiv fun i j => .int (i / j)):=opI fun i j _ _ _ _ _ hc q=>by
  have h1 : (0 : Int) < j:=hc.1
  have h2 : j < 1073741824:=hc.2
  exact floordiv_int (by omega) (by rw [Int.fdiv_eq_ediv_of_nonneg i (by omega)]; exact q) (.inl (PyProof.noPylong_small (by omega)))
theorem op_mod : OpR X (binaryOp .Mod) (rI (fun _ j=>0 < j) fun i j => .int (i % j)):=opI fun i j _ _ _ _ _ hc q=>by
  have h1 : (0 : Int) < j:=hc
  exact mod_int' (by omega) (by rw [Int.fmod_eq_emod_of_nonneg i (by omega)]; exact q)
theorem op_pow : OpR X (binaryOp .Pow) (rI CPow fun i j => .int (i ^ j.toNat)):=opI fun _ _ _ _ _ _ _ hc q=>pow_int_small hc.1 hc.2.1 hc.2.2 q
theorem op_shl : OpR X (binaryOp .LShift) (rI CPow fun i j => .int (i * 2 ^ j.toNat)):=opI fun _ _ _ _ _ _ _ hc q=>lshift_int_small hc.1 hc.2.1 hc.2.2 q
theorem op_shr : OpR X (binaryOp .RShift) (rI (fun _ j=>0≤j) fun i j => .int (i / 2 ^ j.toNat)):=opI fun i j _ _ _ _ _ hc q =>
  rshift_int hc (by rw [Int.fdiv_eq_ediv_of_nonneg i (two_pow_nn _)]; exact q)
theorem op_and : OpR X (binaryOp .BitAnd) (rI0 fun i j => .int (Builtin.bitAnd i j)):=opI0 fun _ _ _ _ _ _ _ q=>and_int q
theorem op_or : OpR X (binaryOp .BitOr) (rI0 fun i j => .int (Builtin.bitOr i j)):=opI0 fun _ _ _ _ _ _ _ q=>or_int q
theorem op_xor : OpR X (binaryOp .BitXor) (rI0 fun i j => .int (Builtin.bitXor i j)):=opI0 fun _ _ _ _ _ _ _ q=>xor_int q
theorem unI {f : Value→Sem Value} {g : Int→Int}
    (rule : ∀ (i : Int) (t : Tok) (s : Shared) (Q : Value→Shared→Prop) (E : Value→Shared→Prop),Q (.int (g i) s.toks) { s with toks:=s.toks + 1 }→wpAny (model X.prog X.w) X.A (f (.int i t)) Q E s) :
    UnR X f (rU fun i => .int (g i)):=by
  intro pins s σ H x v Q I rx h
  obtain ⟨i,rfl,q⟩:=h
  obtain ⟨t,rfl⟩:=rx
  exact rule i t s _ _ ⟨.int (g i),H,I.tok _,⟨_,rfl⟩,q⟩
theorem un_neg : UnR X (unaryOp .USub) (rU fun i => .int (-i)):=unI fun _ _ _ _ _ q=>neg_int q
theorem un_inv : UnR X (unaryOp .Invert) (rU fun i => .int (Builtin.bitNot i)):=unI fun _ _ _ _ _ q=>invert_int q
end
noncomputable def scal : V→V→Bool
  | .non,.non=>true | .non,.int _=>true | .int _,.non=>true | .non,.bl _=>true | .bl _,.non=>true | .non,.str _=>true | .str _,.non=>true
  | .int _,.int _=>true | .bl _,.bl _=>true | .str _,.str _=>true | .byt _,.byt _=>true
  | .int _,.str _=>true | .str _,.int _=>true | .bl _,.str _=>true | .str _,.bl _=>true
  | _,_=>false
noncomputable def rEq : R2:=fun x y H Q=>scal x y=true∧Q (.bl (decide (x=y))) H
noncomputable def rNe : R2:=fun x y H Q=>scal x y=true∧Q (.bl (!decide (x=y))) H
theorem dec_int {i j : Int} : decide (V.int i=V.int j)=(i == j):=by
  rw [Bool.eq_iff_iff]
  simp
theorem dec_bl {i j : Bool} : decide (V.bl i=V.bl j)=(i == j):=by
  rw [Bool.eq_iff_iff]
  simp
theorem dec_str {i j : Str} : decide (V.str i=V.str j)=(i == j):=by
  rw [Bool.eq_iff_iff]
  simp
theorem dec_byt {i j : Array UInt8} : decide (V.byt i=V.byt j)=(i.toList == j.toList):=by
  rw [Bool.eq_iff_iff]
  cases i
  cases j
  simp
section
variable {X : Cx} {a b c : Expr} {ta tb tc : TE} {pos : Pos}
theorem fin_bl {pins : List (Addr × Obj)} {σ : St} {H : Hp} {s : Shared} {Q : VK} {k k' : Bool} (I : Inv X pins σ H s) (q : Q (.bl k) H) (e : k=k') : EP X pins σ Q (.bool k') s:=by
  subst e
  exact ⟨.bl k,H,I,rfl,q⟩
theorem op_eq : OpR X (compareOp .Eq) rEq:=by
  intro pins s σ H x y v u Q I rx ry h
  obtain ⟨hs,q⟩:=h
  cases x with
  | non =>
    cases rx
    cases y with
    | non=>cases ry; exact PySem.EqNone.eq_none_none (fin_bl I q (by simp))
    | bl j=>cases ry; exact PySem.EqNone.eq_none_bool (fin_bl I q (by simp))
    | int j=>obtain ⟨t',rfl⟩:=ry; exact PySem.EqNone.eq_none_int (fin_bl I q (by simp))
    | str j=>obtain ⟨t',rfl⟩:=ry; exact PySem.EqNone.eq_none_str (fin_bl I q (by simp))
    | _=>exact absurd (show false=true from hs) Bool.false_ne_true
  | bl i =>
    cases rx
    cases y with
    | non=>cases ry; exact PySem.EqNone.eq_bool_none (fin_bl I q (by simp))
    | bl j=>cases ry; exact eq_bool (fin_bl I q dec_bl)
    | str j=>obtain ⟨t',rfl⟩:=ry; exact PySem.EqMixed.eq_bool_str (fin_bl I q (by simp))
    | _=>exact absurd (show false=true from hs) Bool.false_ne_true
  | int i =>
    obtain ⟨t,rfl⟩:=rx
    cases y with
    | non=>cases ry; exact PySem.EqNone.eq_int_none (fin_bl I q (by simp))
    | int j=>obtain ⟨t',rfl⟩:=ry; exact eq_int (fin_bl I q dec_int)
    | str j=>obtain ⟨t',rfl⟩:=ry; exact PySem.EqMixed.eq_int_str (fin_bl I q (by simp))
    | _=>exact absurd (show false=true from hs) Bool.false_ne_true
  | str i =>
    obtain ⟨t,rfl⟩:=rx
    cases y with
    | non=>cases ry; exact PySem.EqNone.eq_str_none (fin_bl I q (by simp))
    | bl j=>cases ry; exact PySem.EqMixed.eq_str_bool (fin_bl I q (by simp))
    | int j=>obtain ⟨t',rfl⟩:=ry; exact PySem.EqMixed.eq_str_int (fin_bl I q (by simp))
    | str j=>obtain ⟨t',rfl⟩:=ry; exact eq_str (fin_bl I q dec_str)
    | _=>exact absurd (show false=true from hs) Bool.false_ne_true
  | byt i =>
    obtain ⟨t,rfl⟩:=rx
    cases y with
    | byt j=>obtain ⟨t',rfl⟩:=ry; exact PySem.W.eq_bytes (fin_bl I q dec_byt)
    | _=>exact absurd (show false=true from hs) Bool.false_ne_true
  | _=>cases y <;> exact absurd (show false=true from hs) Bool.false_ne_true
theorem op_ne : OpR X (compareOp .NotEq) rNe:=by
  intro pins s σ H x y v u Q I rx ry h
  obtain ⟨hs,q⟩:=h
  cases x with
  | non =>
    cases rx
    cases y with
    | non=>cases ry; exact PySem.EqNone.ne_none_none (fin_bl I q (by simp))
    | bl j=>cases ry; exact PySem.EqNone.ne_none_bool (fin_bl I q (by simp))
    | int j=>obtain ⟨t',rfl⟩:=ry; exact PySem.EqNone.ne_none_int (fin_bl I q (by simp))
    | str j=>obtain ⟨t',rfl⟩:=ry; exact PySem.EqNone.ne_none_str (fin_bl I q (by simp))
    | _=>exact absurd (show false=true from hs) Bool.false_ne_true
  | bl i =>
    cases rx
    cases y with
    | non=>cases ry; exact PySem.EqNone.ne_bool_none (fin_bl I q (by simp))
    | bl j=>cases ry; exact ne_bool (fin_bl I q (congrArg not dec_bl))
    | str j=>obtain ⟨t',rfl⟩:=ry; exact PySem.EqMixed.ne_bool_str (fin_bl I q (by simp))
    | _=>exact absurd (show false=true from hs) Bool.false_ne_true
  | int i =>
    obtain ⟨t,rfl⟩:=rx
    cases y with
    | non=>cases ry; exact PySem.EqNone.ne_int_none (fin_bl I q (by simp))
    | int j=>obtain ⟨t',rfl⟩:=ry; exact ne_int (fin_bl I q (congrArg not dec_int))
    | str j=>obtain ⟨t',rfl⟩:=ry; exact PySem.EqMixed.ne_int_str (fin_bl I q (by simp))
    | _=>exact absurd (show false=true from hs) Bool.false_ne_true
  | str i =>
    obtain ⟨t,rfl⟩:=rx
    cases y with
    | non=>cases ry; exact PySem.EqNone.ne_str_none (fin_bl I q (by simp))
    | bl j=>cases ry; exact PySem.EqMixed.ne_str_bool (fin_bl I q (by simp))
    | int j=>obtain ⟨t',rfl⟩:=ry; exact PySem.EqMixed.ne_str_int (fin_bl I q (by simp))
    | str j=>obtain ⟨t',rfl⟩:=ry; exact ne_str (fin_bl I q (congrArg not dec_str))
    | _=>exact absurd (show false=true from hs) Bool.false_ne_true
  | byt i =>
    obtain ⟨t,rfl⟩:=rx
    cases y with
    | byt j=>obtain ⟨t',rfl⟩:=ry; exact PySem.W.ne_bytes (fin_bl I q (congrArg not dec_byt))
    | _=>exact absurd (show false=true from hs) Bool.false_ne_true
  | _=>cases y <;> exact absurd (show false=true from hs) Bool.false_ne_true
theorem op_lt : OpR X (compareOp .Lt) (rI0 fun i j => .bl (decide (i < j))):=opB0 fun _ _ _ _ _ _ _ q=>lt_int q
theorem op_le : OpR X (compareOp .LtE) (rI0 fun i j => .bl (decide (i≤j))):=opB0 fun _ _ _ _ _ _ _ q=>le_int q
theorem op_gt : OpR X (compareOp .Gt) (rI0 fun i j => .bl (decide (j < i))):=opB0 fun _ _ _ _ _ _ _ q=>gt_int q
theorem op_ge : OpR X (compareOp .GtE) (rI0 fun i j => .bl (decide (j≤i))):=opB0 fun _ _ _ _ _ _ _ q=>ge_int q
theorem op_isN : OpR X (compareOp .Is) (fun x y H Q=>y = .non∧Q (.bl (decide (x = .non))) H):=by
  intro pins s σ H x y v u Q I rx ry h
  obtain ⟨rfl,q⟩:=h
  cases ry
  refine is_none_gen (fin_bl I q ?_)
  cases x <;> first
    | (cases rx; rfl)
    | (obtain ⟨t,rfl⟩:=rx; rfl)
theorem op_notN : OpR X (compareOp .IsNot) (fun x y H Q=>y = .non∧Q (.bl (!decide (x = .non))) H):=by
  intro pins s σ H x y v u Q I rx ry h
  obtain ⟨rfl,q⟩:=h
  cases ry
  refine isnot_none_gen (fin_bl I q ?_)
  cases x <;> first
    | (cases rx; rfl)
    | (obtain ⟨t,rfl⟩:=rx; rfl)
theorem nomark (b : Expr) {op : CmpOp} (h : op ≠ .In:=by decide) (h2 : op ≠ .NotIn:=by decide) : behindInMarks op b=false:=by
  have e1 : (op == CmpOp.In)=false:=by cases op <;> first | rfl | exact absurd rfl h
  have e2 : (op == CmpOp.NotIn)=false:=by cases op <;> first | rfl | exact absurd rfl h2
  cases b <;> simp [behindInMarks,e1,e2]
theorem pe_cmpR {op : CmpOp} {r : R2} (ho : OpR X (compareOp op) r) (ha : PE X a ta) (hb : PE X b tb) (hm : behindInMarks op b=false) : PE X (.Compare a [op] [b] pos) (tOp r ta tb):=by
  intro pins s σ H Q I h
  exact wpAny_Compare1 (binT ha hb I h fun v u s2 x y H2 I2 rx ry q=>ho pins s2 σ H2 x y v u Q I2 rx ry q) hm
noncomputable def tTest (t : TE) : TT:=fun σ H Q=>t σ H fun x H'=>∃ k,x = .bl k∧Q k H'
theorem pt_cmpR {op : CmpOp} {r : R2} (ho : OpR X (compareOp op) r) (ha : PE X a ta) (hb : PE X b tb) (hm : behindInMarks op b=false) : PT X (.Compare a [op] [b] pos) (tTest (tOp r ta tb)):=by
  intro pins s σ H Q I h
  refine wpAny_isTrue_Compare1 (thn (ha pins s σ H _ I h) fun v s1 ⟨x,H1,I1,r1,q1⟩=>thn (hb pins s1 σ H1 _ I1 q1) fun u s2 ⟨y,H2,I2,r2,q2⟩ =>
    thn (ho pins s2 σ H2 x y v u _ I2 r1 r2 q2) fun c s3 ⟨z,H3,I3,r3,k,e,q3⟩=>?_) hm
  subst e
  cases r3
  exact wpAny_truthy_bool ⟨H3,I3,q3⟩
theorem line63 : (sizeLine : Nat) < 2 ^ 63:=by rw [sizeLine_eq]; decide
theorem vals1 {x : V} {us : List Value} (r : Vals [x] us) : ∃ u,us=[u]∧RelV x u:=by
  cases r with
  | cons r1 r2=>cases r2; exact ⟨_,rfl,r1⟩
theorem vals2 {x y : V} {us : List Value} (r : Vals [x,y] us) : ∃ u w',us=[u,w']∧RelV x u∧RelV y w':=by
  cases r with
  | cons r1 r2 =>
    cases r2 with
    | cons r3 r4=>cases r4; exact ⟨_,_,rfl,r1,r3⟩
theorem call_max2 (hc : X.calm=true) : CallR X (.builtin "max") (fun xs H Q=>L23.E2 fun i j=>xs=[.int i,.int j]∧Q (.int (if j > i then j else i)) H):=by
  intro pins s σ H xs us Q I r h
  obtain ⟨i,j,rfl,q⟩:=h
  obtain ⟨u,w',rfl,⟨t,rfl⟩,⟨t',rfl⟩⟩:=vals2 r
  refine max_two_ints (I.ok.hd hc) fun h' tk k=>⟨_,H,I.kept k,?_,q⟩
  by_cases hj : j > i
  · rw [if_pos hj,if_pos hj]; exact ⟨_,rfl⟩
  · rw [if_neg hj,if_neg hj]; exact ⟨_,rfl⟩
theorem call_min2 (hc : X.calm=true) : CallR X (.builtin "min") (fun xs H Q=>L23.E2 fun i j=>xs=[.int i,.int j]∧Q (.int (if j < i then j else i)) H):=by
  intro pins s σ H xs us Q I r h
  obtain ⟨i,j,rfl,q⟩:=h
  obtain ⟨u,w',rfl,⟨t,rfl⟩,⟨t',rfl⟩⟩:=vals2 r
  refine min_two_ints (I.ok.hd hc) fun h' tk k=>⟨_,H,I.kept k,?_,q⟩
  by_cases hj : j < i
  · rw [if_pos hj,if_pos hj]; exact ⟨_,rfl⟩
  · rw [if_neg hj,if_neg hj]; exact ⟨_,rfl⟩
noncomputable def LenV (K : PySem.W.Frag) (x : V) (H : Hp) (n : Nat) : Prop :=
  match x with
  | .str y=>y.length≤sizeLine∧n=y.length
  | .byt y=>y.size≤sizeLine∧n=y.size
  | .ref p=>(∃ xs,SqL K H p xs∧n=xs.length)∨∃ xs,SqT K H p xs∧n=xs.length
  | _=>False
theorem call_len : CallR X (.builtin "len") (fun xs H Q=>L23.E2 fun x n=>L23.A3 (xs=[x]) (LenV X.K x H n) (Q (.int n) H)):=by
  intro pins s σ H xs us Q I r h
  obtain ⟨x,n,rfl,e,q⟩:=h
  obtain ⟨u,rfl,rx⟩:=vals1 r
  have hl:=line63
  have hs : sizeLine=16777216:=sizeLine_eq
  cases x with
  | str y =>
    obtain ⟨t,rfl⟩:=rx
    obtain ⟨hy,e'⟩ : y.length≤sizeLine∧n=y.length:=e
    subst e'
    exact len_str (by omega) ⟨.int _,H,I.tok _,⟨_,rfl⟩,q⟩
  | byt y =>
    obtain ⟨t,rfl⟩:=rx
    obtain ⟨hy,e'⟩ : y.size≤sizeLine∧n=y.size:=e
    subst e'
    exact PySem.W.len_bytes (by omega) ⟨.int _,H,I.tok _,⟨_,rfl⟩,q⟩
  | ref p =>
    cases rx
    have e' : (∃ xs,SqL X.K H p xs∧n=xs.length)∨∃ xs,SqT X.K H p xs∧n=xs.length:=e
    rcases e' with ⟨xs,hx,e'⟩ | ⟨xs,hx,e'⟩
    · subst e'
      obtain ⟨its,r',pl,hz⟩:=I.list hx
      have hlen:=r'.length
      exact Calls.call_len_list pl.isList (by simp only [List.size_toArray]; omega) ⟨.int xs.length,H,I.tok _,⟨_,by simp only [List.size_toArray]; rw [hlen]⟩,q⟩
    · subst e'
      obtain ⟨its,r',pl,hz⟩:=I.tuple hx
      have hlen:=r'.length
      exact len_tuple pl (by simp only [List.size_toArray]; omega) ⟨.int xs.length,H,I.tok _,⟨_,by simp only [List.size_toArray]; rw [hlen]⟩,q⟩
  | _=>exact (show False from e).elim
end
end L2
namespace L2
open PySem PySem.Spec PyProof.Rows
structure ObjM (h : Heap) (x dx C : Addr) (mA : Str→Option Value) : Prop where
  obj : h.get? x=some (PySem.W.instObj C dx)
  ns : h.Ns1 dx mA
  ne : dx≠x
theorem lookIn_ns {h : Heap} {dx : Addr} {mA : Str→Option Value} (n : h.Ns1 dx mA) : ∃ od,h.get? dx=some od∧∀ name,PySem.W.lookIn name od=some (mA name):=by
  obtain ⟨o,es,ep,ho,hd,hk,_,hm⟩:=n
  refine ⟨o,ho,fun name=>?_⟩
  have e:=hm name
  unfold nsFind findBy at e
  rw [← Array.find?_toList] at e
  unfold PySem.W.lookIn
  rw [hd]
  dsimp only
  split
  · rename_i y q
    rw [q] at e
    exact congrArg some e
  · rename_i q
    rw [q] at e
    have a : es.toList.any (·.refKey)=false:=by
      rw [List.any_eq_false]
      intro y hy
      obtain ⟨z,t,hkey⟩:=hk y (Array.mem_toList_iff.mp hy)
      simp [DictEntry.refKey,hkey]
    have a' : ¬ es.toList.any (·.refKey)=true:=by rw [a]; exact Bool.false_ne_true
    rw [if_neg a']
    exact congrArg some e
theorem ObjM.look {h : Heap} {x dx C : Addr} {mA : Str→Option Value} (I : ObjM h x dx C mA) : ∃ od,PySem.W.InstAt h x (PySem.W.instObj C dx) C (some od)∧∀ name,PySem.W.lookIn name od=some (mA name) :=
  let ⟨od,ho,hl⟩:=lookIn_ns I.ns
  ⟨od,⟨I.obj,rfl,rfl,ho⟩,hl⟩
section
variable {prog : Program} {w : World} {A : Around} {E : Value→Shared→Prop} {s : Shared} {K : PySem.W.Frag} {x dx C f : Addr} {mA : Str→Option Value} {name : Str} {v : Value}
theorem get_map {expr : Bool} {Q : Value→Shared→Prop} (X : K.In s.heap) (I : ObjM s.heap x dx C mA) (hg : PySem.W.plainGet K C name=true) (hh : PySem.W.hasDictIn K C=true)
    (ha : PySem.W.findIn K (.ref C) name=some none) (hv : mA name=some v) (hv' : PySem.W.handedIn v=true) (h : Q v { s with toks:=s.toks + 1 }) :
    wpAny (model prog w) A (getAttr (.ref x) name expr) Q E s:=by
  obtain ⟨od,J,hl⟩:=I.look
  exact PySem.W.get_value X J (PySem.W.plainGet_of hg).1 (PySem.W.findObj_own hh ha rfl (by rw [hl,hv])) hv' h
theorem get_meth {pl : Sem Bool} {Q : Value × List Value→Shared→Prop} (X : K.In s.heap) (I : ObjM s.heap x dx C mA) (hg : PySem.W.plainGet K C name=true)
    (hf : PySem.W.findIn K (.ref C) name=some (some (.ref f))) (ht : PySem.W.isFn K (.ref f)=true) (hv : mA name=none) (h : Q (.ref f,[.ref x]) s) :
    wpAny (model prog w) A (getMethod (.ref x) name pl) Q E s:=by
  obtain ⟨od,J,hl⟩:=I.look
  exact PySem.W.method_fn X J (PySem.W.plainGet_of hg).1 (PySem.W.plainGet_of hg).2 hf (beq_iff_eq.mp ht) (by show (PySem.W.lookIn name od).map (·.isSome)=some false; rw [hl,hv]; rfl) h
theorem set_map {ns : List Str} {Q : Unit→Shared→Prop} (X : K.In s.heap) (I : ObjM s.heap x dx C mA)
    (hs : PySem.W.findIn K (.ref C) "__setattr__"=some (some (.builtin "object.__setattr__"))) (hp : PySem.W.plainOver K C=true) (ht : PySem.W.takerIn K C name=some none) (hh : PySem.W.hasDictIn K C=true)
    (hw : PySem.Within mA ns) (hsz : ns.length≤sizeLine)
    (h : ∀ h',ObjM h' x dx C (fun y=>if y=name then some v else mA y)→Heap.SameBut dx s.heap h'→Q () { s with heap:=h',toks:=s.toks + 2 }) :
    wpAny (model prog w) A (setAttr (.ref x) name v) Q E s:=by
  obtain ⟨od,J,hl⟩:=I.look
  refine PySem.W.set_plain X J hs (PySem.W.osa_open (s:={ s with toks:=s.toks + 1 }) (r:=none) X J hp ht fun b=>?_)
  obtain ⟨cd,hc,hd'⟩:=PySem.W.any_some hh
  have hx : s.heap.get? x=some ⟨.ref C,some dx,.plain,#[]⟩:=I.obj
  refine wpAny_bind (wpAny_pure (wpAny_bind (wpAny_bind (wpAny_loadPart hx (wpAny_bind (PySem.W.Looks.here (s:={ s with toks:=s.toks + 1 }) (PySem.W.looks_clsIn X hc) ?_))))))
  rw [hd']
  refine wpAny_pure (a:=some dx) (wpAny_bind (wpAny_pure (wpAny_bind ?_)))
  refine wpAny_nsSet1 (s:={ s with toks:=s.toks + 1 }) I.ns fun h' hn2 hs2=>?_
  obtain ⟨oD,esD,epD,hoD,hdD,hcD⟩:=hn2.count (PySem.Within.cons name v hw)
  refine wpAny_bind (wpAny_lookBehind hoD (by rw [hdD]; exact pastItsLine_dict (Nat.le_trans hcD (by rw [List.length_cons]; omega))) ?_)
  exact wpAny_pure (h _ ⟨(hs2.2 _ (Ne.symm I.ne)).trans I.obj,hn2,I.ne⟩ hs2)
theorem make_map {R : Result→Shared→Prop} {vs : List Value} {kw : List (Str × Value)} (X : K.In s.heap) (hm : PySem.W.makesIn K C=true)
    (hi : PySem.W.findIn K (.ref C) "__init__"=some (some (.ref f))) (hf : PySem.W.typeIn K (.ref f)=some (.type "function"))
    (h : codeAny (model prog w) (A.under (.builtin "type.__call__" ⟨.ref C :: vs,kw⟩)) (.call (.ref f) ⟨.ref (s.heap.objs.size + 1) :: vs,kw⟩) (PySem.W.InitBack (s.heap.objs.size + 1) R)
      { s with heap:=(s.heap.push PySem.W.emptyDict).push (PySem.W.instObj C s.heap.objs.size) }) :
    codeAny (model prog w) A (.call (.ref C) ⟨vs,kw⟩) R s:=by
  obtain ⟨hh,g,d,t,os⟩:=s
  exact PySem.W.make_core (PySem.W.makes_of X hm) (PySem.W.looks_findIn X hi) (fun self=>PySem.W.bind_fn X self hf) (.inl rfl) h
end
noncomputable def putF (f : Str) (v : V) : List (Str × V)→List (Str × V)
  | []=>[(f,v)]
  | (g,x) :: r=>if g=f then (g,v) :: r else (g,x) :: putF f v r
theorem lookup_putF (f g : Str) (v : V) : ∀ fs : List (Str × V),(putF f v fs).lookup g=if g=f then some v else fs.lookup g
  | []=>by
    show List.lookup g [(f,v)]=_
    by_cases h : g=f
    · have hb : (g == f)=true:=beq_iff_eq.mpr h
      simp only [List.lookup,hb,if_pos h]
    · have hb : (g == f)=false:=beq_eq_false_iff_ne.mpr h
      simp only [List.lookup,hb,if_neg h]
  | (k,x) :: r=>by
    have ih:=lookup_putF f g v r
    rw [show putF f v ((k,x) :: r)=(if k=f then (k,v) :: r else (k,x) :: putF f v r) from rfl]
    by_cases hk : k=f
    · rw [if_pos hk]
      by_cases h : g=k
      · have hb : (g == k)=true:=beq_iff_eq.mpr h
        simp only [List.lookup,hb,if_pos (h.trans hk)]
      · have hb : (g == k)=false:=beq_eq_false_iff_ne.mpr h
        simp only [List.lookup,hb,if_neg (fun e : g=f=>h (e.trans hk.symm))]
    · rw [if_neg hk]
      by_cases h : g=k
      · have hb : (g == k)=true:=beq_iff_eq.mpr h
        simp only [List.lookup,hb,if_neg (fun e : g=f=>hk (h.symm.trans e))]
      · have hb : (g == k)=false:=beq_eq_false_iff_ne.mpr h
        simp only [List.lookup,hb]
        exact ih
theorem keys_putF (f : Str) (v : V) : ∀ fs : List (Str × V),f∈(putF f v fs).map (·.1)∧∀ g,g∈fs.map (·.1)→g∈(putF f v fs).map (·.1)
  | []=>⟨by simp [putF],fun g h=>by simp at h⟩
  | (k,x) :: r=>by
    obtain ⟨i1,i2⟩:=keys_putF f v r
    rw [show putF f v ((k,x) :: r)=(if k=f then (k,v) :: r else (k,x) :: putF f v r) from rfl]
    by_cases hk : k=f
    · rw [if_pos hk]
      subst hk
      exact ⟨by simp,fun g h=>by simpa using h⟩
    · rw [if_neg hk]
      refine ⟨?_,fun g h=>?_⟩
      · rw [List.map_cons]
        exact List.mem_cons_of_mem _ i1
      · rw [List.map_cons] at h ⊢
        rcases List.mem_cons.mp h with e | e
        · exact List.mem_cons.mpr (.inl e)
        · exact List.mem_cons_of_mem _ (i2 g e)
theorem length_putF (f : Str) (v : V) : ∀ fs : List (Str × V),(putF f v fs).length≤fs.length + 1
  | []=>by simp [putF]
  | (k,x) :: r=>by
    have ih:=length_putF f v r
    rw [show putF f v ((k,x) :: r)=(if k=f then (k,v) :: r else (k,x) :: putF f v r) from rfl]
    by_cases hk : k=f
    · rw [if_pos hk,List.length_cons,List.length_cons]; omega
    · rw [if_neg hk,List.length_cons,List.length_cons]; omega
theorem RelO.some_of {v : V} {o : Option Value} (r : RelO (some v) o) : ∃ u,o=some u∧RelV v u:=by
  cases o with
  | none=>exact (show False from r).elim
  | some u=>exact ⟨u,rfl,r⟩
theorem RelO.none_of {o : Option Value} (r : RelO none o) : o=none:=by
  cases o with
  | none=>rfl
  | some u=>exact (show False from r).elim
theorem handed_of {v : V} {u : Value} (r : RelV v u) : PySem.W.handedIn u=true:=by
  cases v with
  | non=>cases (show u=Value.none from r); rfl
  | bl b=>cases (show u=Value.bool b from r); rfl
  | int i=>obtain ⟨t,e⟩:=(show ∃ t,u=Value.int i t from r); cases e; rfl
  | str x=>obtain ⟨t,e⟩:=(show ∃ t,u=Value.str x t from r); cases e; rfl
  | byt b=>obtain ⟨t,e⟩:=(show ∃ t,u=Value.bytes b t from r); cases e; rfl
  | flt b=>obtain ⟨t,e⟩:=(show ∃ t,u=Value.float b t from r); cases e; rfl
  | ref a=>cases (show u=Value.ref a from r); rfl
  | ty n=>cases (show u=Value.type n from r); rfl
section
variable {P : Program} {w : World} {H H' : Hp} {h h' : Heap} {a C dx : Addr} {fs fs' : List (Str × V)}
theorem ins_get (hok : HOk P w H h) (e : H a=some (.ins C dx fs)) : ∃ mA,ObjM h a dx C mA∧(∀ f,RelO (fs.lookup f) (mA f))∧PySem.Within mA (fs.map (·.1))∧fs.length≤1000∧H dx=some (.own a):=by
  obtain ⟨d,z,ne,ob,mA,n,r,q⟩:=(show ObjOk P w H h a (.ins C dx fs) from hok a _ e)
  exact ⟨mA,⟨ob,n,ne⟩,r,q,z,d⟩
end
structure Cls (K : PySem.W.Frag) (C : Addr) : Prop where
  pg : PySem.W.plainGet K C Str.empty=true
  hd : PySem.W.hasDictIn K C=true
  po : PySem.W.plainOver K C=true
  sa : PySem.W.findIn K (.ref C) "__setattr__"=some (some (.builtin "object.__setattr__"))
theorem Cls.get {K : PySem.W.Frag} {C : Addr} (c : Cls K C) (f : Str) : PySem.W.plainGet K C f=true:=c.pg
noncomputable def NoAttr (K : PySem.W.Frag) (C : Addr) (f : Str) : Prop:=PySem.W.findIn K (.ref C) f=some none
theorem NoAttr.taker {K : PySem.W.Frag} {C : Addr} {f : Str} (n : NoAttr K C f) : PySem.W.takerIn K C f=some none:=by
  unfold PySem.W.takerIn
  rw [show PySem.W.findIn K (.ref C) f=some none from n]
  rfl
structure Con (K : PySem.W.Frag) (C : Addr) (f : Str) (v : V) (u : Value) : Prop where
  at_ : PySem.W.findIn K (.ref C) f=some (some u)
  rel : RelV v u
  get : PySem.W.specialIn K u "__get__"=some none
  cp : PySem.W.copiedNames.contains f=false
structure Meth (K : PySem.W.Frag) (C : Addr) (m : Str) (f : Addr) : Prop where
  at_ : PySem.W.findIn K (.ref C) m=some (some (.ref f))
  fn : PySem.W.isFn K (.ref f)=true
  kp : PySem.W.keepIn K (.ref f)=true
section
variable {X : Cx} {pins : List (Addr × Obj)} {σ : St} {H : Hp} {s : Shared} {a C dx : Addr} {fs : List (Str × V)} {f : Str} {v : V} {A : Around} {E : Value→Shared→Prop}
theorem getattr_ok {b : Bool} {Q : Value→Shared→Prop} (I : Inv X pins σ H s) (e : H a=some (.ins C dx fs)) (c : Cls X.K C) (n : NoAttr X.K C f) (l : fs.lookup f=some v)
    (h : ∀ u s',Inv X pins σ H s'→RelV v u→Q u s') : wpAny (model X.prog X.w) A (getAttr (.ref a) f b) Q E s:=by
  obtain ⟨mA,O,r,_,_,_⟩:=ins_get I.hok e
  obtain ⟨u,hu,ru⟩:=RelO.some_of (v:=v) (o:=mA f) (by rw [← l]; exact r f)
  exact get_map I.kIn O (c.get f) c.hd n hu (handed_of ru) (h u _ (I.tok _) ru)
theorem getmeth_ok {m : Str} {g : Addr} {pl : Sem Bool} {Q : Value × List Value→Shared→Prop} (I : Inv X pins σ H s) (e : H a=some (.ins C dx fs)) (c : Cls X.K C) (k : Meth X.K C m g) (l : fs.lookup m=none)
    (h : Q (.ref g,[.ref a]) s) : wpAny (model X.prog X.w) A (getMethod (.ref a) m pl) Q E s:=by
  obtain ⟨mA,O,r,_,_,_⟩:=ins_get I.hok e
  have hn : mA m=none:=RelO.none_of (by rw [← l]; exact r m)
  exact get_meth I.kIn O (c.get m) k.at_ k.fn hn h
theorem setattr_ok {y : V} {u : Value} {Q : Unit→Shared→Prop} (I : Inv X pins σ H s) (e : H a=some (.ins C dx fs)) (c : Cls X.K C) (n : NoAttr X.K C f) (hl : fs.length < 1000) (ry : RelV y u)
    (h : ∀ s',Inv X pins σ (upd H a (.ins C dx (putF f y fs))) s'→Q () s') : wpAny (model X.prog X.w) A (setAttr (.ref a) f u) Q E s:=by
  obtain ⟨mA,O,r,wi,_,ho⟩:=ins_get I.hok e
  have hz : (fs.map (·.1)).length≤sizeLine:=by rw [List.length_map,sizeLine_eq]; omega
  refine set_map I.kIn O c.sa c.po n.taker c.hd wi hz fun h' O' sb=>h _ ?_
  have hd : ∃ o,h'.get? dx=some o:=let ⟨o,_,_,e',_⟩:=O'.ns; ⟨o,e'⟩
  refine I.write (x:=a) (e:=dx) (by rw [e]; exact True.intro) (.inr ho) (fun b q hb z=>(sb.2 b hb).trans z) hd ?_
  refine ⟨by rw [upd_ne O.ne]; exact ho,?_,O.ne,O'.obj,_,O'.ns,fun g=>?_,fun g hg=>?_⟩
  · have:=length_putF f y fs; omega
  · show RelO ((putF f y fs).lookup g) (if g=f then some u else mA g)
    rw [lookup_putF]
    by_cases q : g=f
    · rw [if_pos q,if_pos q]; exact ry
    · rw [if_neg q,if_neg q]; exact r g
  · by_cases q : g=f
    · rw [q]; exact (keys_putF f y fs).1
    · refine (keys_putF f y fs).2 g (wi g fun z=>hg ?_)
      show (if g=f then some u else mA g)=none
      rw [if_neg q]; exact z
theorem Inv.made (I : Inv X pins σ H s) : Inv X pins σ (upd (upd H s.heap.objs.size (.own (s.heap.objs.size + 1))) (s.heap.objs.size + 1) (.ins C s.heap.objs.size []))
    { s with heap:=(s.heap.push PySem.W.emptyDict).push (PySem.W.instObj C s.heap.objs.size) }:=by
  have e1 : (s.heap.push PySem.W.emptyDict).get? s.heap.objs.size=some PySem.W.emptyDict:=Heap.get?_push_size s.heap rfl
  have e2 : ((s.heap.push PySem.W.emptyDict).push (PySem.W.instObj C s.heap.objs.size)).get? (s.heap.objs.size + 1)=some (PySem.W.instObj C s.heap.objs.size):=by
    have:=Heap.get?_push_size (s.heap.push PySem.W.emptyDict) (o:=PySem.W.instObj C s.heap.objs.size) rfl
    rwa [Heap.size_push] at this
  have e3 : (s.heap.push PySem.W.emptyDict).Ns s.heap.objs.size (fun _=>none):=⟨PySem.W.emptyDict,#[],_,e1,rfl,(fun e he=>absurd he (by simp)),fun _=>rfl⟩
  have I1:=I.laid (a:=s.heap.objs.size) (o := .own (s.heap.objs.size + 1)) (h':=s.heap.push PySem.W.emptyDict) (t':=s.toks) (fun b u q=>Heap.get?_push_of_some _ q) (Nat.le_refl _) ⟨_,e1⟩
  refine I1.laid (a:=s.heap.objs.size + 1) (o := .ins C s.heap.objs.size []) (t':=s.toks) (fun b u q=>Heap.get?_push_of_some _ q) (Nat.le_of_eq (Heap.size_push _ _)) ?_
  have ne : s.heap.objs.size≠s.heap.objs.size + 1:=Nat.ne_of_lt (Nat.lt_succ_self _)
  refine ⟨by rw [upd_ne ne,upd_same],Nat.zero_le _,ne,e2,fun _=>none,(Heap.Ns1.of_empty e3).at fun o q=>Heap.get?_push_of_some _ q,fun _=>True.intro,fun y hy=>absurd rfl hy⟩
theorem attr_of {prog : Program} {w : World} {env : Env} {e : Expr} {f : Str} {pos : Pos} {s : Shared} {Q : Value→Shared→Prop} (hb : attributeBase e f env (eval e env)=eval e env)
    (h : wpAny (model prog w) A (eval e env) (fun o s₁=>wpAny (model prog w) A (getAttr o f true) Q E s₁) E s) : wpAny (model prog w) A (eval (.Attribute e f pos) env) Q E s :=
  Attribute_any_ h (by rw [arm_eval_Attribute,hb])
end
noncomputable def tFld (K : PySem.W.Frag) (ta : TE) (f : Str) : TE:=fun σ H Q=>ta σ H fun x H1=>L23.E5 fun a C dx fs v=>L23.A6 (x = .ref a) (H1 a=some (.ins C dx fs)) (Cls K C) (NoAttr K C f) (fs.lookup f=some v) (Q v H1)
noncomputable def sFld (K : PySem.W.Frag) (ta tv : TE) (f : Str) : TS:=fun D σ H=>tv σ H fun y H1=>ta σ H1 fun x H2=>L23.E4 fun a C dx fs=>L23.A6 (x = .ref a) (H2 a=some (.ins C dx fs)) (Cls K C) (NoAttr K C f) (fs.length < 1000) (D.nx σ (upd H2 a (.ins C dx (putF f y fs))))
section
variable {X : Cx} {o e value : Expr} {f : Str} {pos pos' tpos : Pos} {ta tv : TE}
theorem pe_fld (he : PE X e ta) (hb : attributeBase e f X.env (eval e X.env)=eval e X.env) : PE X (.Attribute e f pos) (tFld X.K ta f):=by
  intro pins s σ H Q I h
  refine attr_of hb (thn (he pins s σ H _ I h) fun u s1 ⟨x,H1,I1,rx,a,C,dx,fs,v,ex,ea,c,n,l,q⟩=>?_)
  subst ex
  obtain rfl : u=Value.ref a:=rx
  exact getattr_ok I1 ea c n l fun u' s2 I2 ru=>⟨v,H1,I2,ru,q⟩
theorem ps_fld (ha : PE X o ta) (hv : PE X value tv) (hs : swapsWith value (some (.Attribute o f pos')) pos.line X.env=pure false) : PS X (.Assign [.Attribute o f pos'] value pos) (sFld X.K ta tv f):=by
  intro pins s σ H D I h
  refine plainObj_wpAny_Assign_Attribute (thn (hv pins s σ H _ I h) fun u s1 ⟨y,H1,I1,ry,q⟩=>thn (ha pins s1 σ H1 _ I1 q) fun ov s2 ⟨x,H2,I2,rx,a,C,dx,fs,ex,ea,c,n,l,q2⟩=>?_) hs
  subst ex
  obtain rfl : ov=Value.ref a:=rx
  exact setattr_ok I2 ea c n l ry fun s3 I3=>⟨σ,_,I3,q2⟩
end
section
variable {X : Cx} {pins : List (Addr × Obj)} {σ : St} {H : Hp} {s : Shared} {A : Around} {E : Value→Shared→Prop} {Q : Value→Shared→Prop} {c : Value} {b : Bool}
inductive TyOf (K : PySem.W.Frag) (H : Hp) : V→Value→Prop where
  | non : TyOf K H .non (.type "NoneType")
  | bl (x : Bool) : TyOf K H (.bl x) (.type "bool")
  | int (i : Int) : TyOf K H (.int i) (.type "int")
  | str (x : Str) : TyOf K H (.str x) (.type "str")
  | flt (x : UInt64) : TyOf K H (.flt x) (.type "float")
  | lst {a : Addr} {xs : List V} (e : H a=some (.lst xs)) : TyOf K H (.ref a) (.type "list")
  | frz {a : Addr} {o : Obj} {xs : List V} (e : H a=some (.frz o (.lst xs))) : TyOf K H (.ref a) (.type "list")
  | tup {a : Addr} {xs : List V} (e : H a=some (.tup xs)) : TyOf K H (.ref a) (.type "tuple")
  | dK {a : Addr} {kvs : List (Key × V)} (e : H a=some (.dK kvs)) : TyOf K H (.ref a) (.type "dict")
  | dT {a : Addr} {kvs : List (List Key × V)} (e : H a=some (.dT kvs)) : TyOf K H (.ref a) (.type "dict")
  | ins {a C dx : Addr} {fs : List (Str × V)} (e : H a=some (.ins C dx fs)) (cl : Cls K C) (ha : PySem.W.findIn K (.ref C) "__class__"=some (some (.builtin "object.__class__")))
      (hn : PySem.W.specialIn K (.builtin "object.__class__") "__get__"=some (some (.builtin "getset_descriptor.__get__"))) (htk : PySem.W.takesIn K (.builtin "object.__class__")=some true)
      (hm : PySem.W.mroIn K C (.type "object")=some true) : TyOf K H (.ref a) (.ref C)
end
end L2
namespace L2
open PySem PySem.Spec PyProof.Rows
structure Room (k : Nat) (A : Around) : Prop where
  hd : A.handled=none
  dp : A.depth + 3 * k + 5 < recursionLimit
  un : A.units + 16 * k + 200 < cLine
theorem Room.mono {j k : Nat} {A : Around} (r : Room k A) (h : j≤k) : Room j A:=⟨r.hd,by have:=r.dp; omega,by have:=r.un; omega⟩
theorem Room.deeper {k : Nat} {A : Around} (r : Room (k + 1) A) (env : Env) : Room k (A.deeper env) :=
  ⟨r.hd,by have:=r.dp; show A.depth + 1 + 3 * k + 5 < _; omega,by have:=r.un; show A.units + 3 + 16 * k + 200 < _; omega⟩
theorem Room.in1 {k : Nat} {A : Around} (r : Room (k + 1) A) : Room k A.in1 :=
  ⟨r.hd,by have:=r.dp; show A.depth + 3 * k + 5 < _; omega,by have:=r.un; show A.units + 1 + 16 * k + 200 < _; omega⟩
theorem make_depth {A : Around} {C : Addr} {us : List Value} {kw : List (Str × Value)} : (A.under (.builtin "type.__call__" ⟨.ref C :: us,kw⟩)).depth=A.depth + 1:=by
  first | rfl | simp [Around.under,Code.weight,Code.isCreation,Code.isGuard,Code.isCaller,Code.frames,Code.isFrame,guardIds]
theorem make_units {A : Around} {C : Addr} {us : List Value} {kw : List (Str × Value)} : (A.under (.builtin "type.__call__" ⟨.ref C :: us,kw⟩)).units=A.units + 1:=by
  first | rfl | simp [Around.under,Code.cUnits,Code.frames,Code.isFrame]
theorem Room.make {k : Nat} {A : Around} (r : Room (k + 1) A) (C : Addr) (us : List Value) (kw : List (Str × Value)) : Room k (A.under (.builtin "type.__call__" ⟨.ref C :: us,kw⟩)) :=
  ⟨r.hd,by have:=r.dp; rw [make_depth]; omega,by have:=r.un; rw [make_units]; omega⟩
theorem Room.depth {k : Nat} {A : Around} (r : Room k A) : A.depth < recursionLimit:=by have:=r.dp; omega
theorem Room.units {k : Nat} {A : Around} (r : Room k A) : A.units + 64 < cLine:=by have:=r.un; omega
noncomputable def tNil : TA:=fun _ H Q=>Q [] H
noncomputable def tCons (ta : TE) (tr : TA) : TA:=fun σ H Q=>ta σ H fun x H1=>tr σ H1 fun xs H2=>Q (x :: xs) H2
section
variable {X : Cx} {e : Expr} {es : List Expr} {te : TE} {t : TA} {pos : Pos}
theorem pa_nil : PA X [] tNil:=fun _ _ _ _ H Q I h=>Calls.spliced_nil ⟨[],H,I,.nil,h⟩
theorem pa_cons (ha : PE X e te) (hr : PA X es t) (hs : starEach (e :: es) X.env=(false,eval e X.env) :: starEach es X.env:=by rfl) : PA X (e :: es) (tCons te t):=by
  intro pos pins s σ H Q I h
  rw [hs]
  show wpAny _ _ (spliced ((false,eval e X.env) :: backTo pos (starEach es X.env))) _ _ s
  refine Calls.spliced_cons (thn (ha pins s σ H _ I h) fun u s1 ⟨x,H1,I1,r1,q1⟩=>?_)
  exact thn (hr pos pins s1 σ H1 _ I1 q1) fun us s2 ⟨xs,H2,I2,r2,q2⟩=>⟨x :: xs,H2,I2,.cons r1 r2,q2⟩
noncomputable def tTup (t : TA) : TE:=fun σ H Q=>t σ H fun xs H1=>xs.length≤sizeLine∧∀ p,H1 p=none→Q (.ref p) (upd H1 p (.tup xs))
noncomputable def tLst (t : TA) : TE:=fun σ H Q=>t σ H fun xs H1=>xs.length≤sizeLine∧∀ p,H1 p=none→Q (.ref p) (upd H1 p (.lst xs))
theorem pe_tup {x1} (h : PA X es t) : PE X (.Tuple es x1 pos) (tTup t):=by
  intro pins s σ H Q I hq
  refine wpAny_Tuple_spliced (thn (h pos pins s σ H _ I hq) fun us s1 ⟨xs,H1,I1,r,z,q⟩=>⟨by rw [← r.length]; exact z,?_⟩)
  have hf : H1 s1.heap.objs.size=none:=I1.hok.fresh (Nat.le_refl _)
  refine ⟨.ref s1.heap.objs.size,upd H1 s1.heap.objs.size (.tup xs),I1.laid (t':=s1.toks) (fun b u e=>Heap.get?_push_of_some _ e) (Nat.le_refl _) ?_,rfl,q _ hf⟩
  exact ⟨z,us,r,⟨_,Heap.get?_push_size _ rfl,rfl,_,rfl⟩⟩
theorem pe_lst (h : PA X es t) : PE X (.List es pos) (tLst t):=by
  intro pins s σ H Q I hq
  refine wpAny_List_spliced (thn (h pos pins s σ H _ I hq) fun us s1 ⟨xs,H1,I1,r,z,q⟩=>⟨by rw [← r.length]; exact z,?_⟩)
  have hf : H1 s1.heap.objs.size=none:=I1.hok.fresh (Nat.le_refl _)
  refine ⟨.ref s1.heap.objs.size,upd H1 s1.heap.objs.size (.lst xs),I1.laid (t':=s1.toks) (fun b u e=>Heap.get?_push_of_some _ e) (Nat.le_refl _) ?_,rfl,q _ hf⟩
  exact ⟨z,us,0,r,Heap.get?_push_size _ rfl⟩
end
noncomputable abbrev Sp:=List V→Hp→VK→XK→Prop
noncomputable abbrev CXT:=List Env→Hp→Shared→XK→Value→Shared→Prop
structure Env0 (P : Program) (w : World) (K : PySem.W.Frag) (mg : Str→Option Value) (base : Heap) (A : Around) (outer : List Env) (s : Shared) (H : Hp) : Prop where
  frames : A.frames=some outer
  mod : Mod K mg base
  bs : ∀ b o,base.get? b=some o→s.heap.get? b=some o∧H b=none
  bsz : base.objs.size≤s.heap.objs.size
  funs : s.heap.FunFrames base outer
  frf : ∀ b∈frs outer,H b=none
  hok : HOk P w H s.heap
  bare : AllBare s.gens
noncomputable def CE (outer : List Env) (P : Program) (w : World) (H : Hp) (s : Shared) (Q : VK) (u : Value) (s' : Shared) : Prop :=
  ∃ v H',s'.os=s.os∧AllBare s'.gens∧Un (frs outer) [] H H' s.heap s'.heap∧HOk P w H' s'.heap∧RelV v u∧Q v H'
noncomputable def CR (CX : CXT) (outer : List Env) (P : Program) (w : World) (H : Hp) (s : Shared) (Q : VK) (E : XK) (r : Result) (s' : Shared) : Prop :=
  match r with
  | .ok (.ret u)=>CE outer P w H s Q u s'
  | .ok _=>False
  | .error e=>CX outer H s E e s'
structure FnOk (P : Program) (w : World) (K : PySem.W.Frag) (mg : Str→Option Value) (base : Heap) (CX : CXT) (k : Nat) (f : Addr) (fd : FuncData) (ps : List Str) (sp : Sp) : Prop where
  len : ∀ vs H Q E,sp vs H Q E→vs.length=ps.length
  run : ∀ (A : Around) (outer : List Env) (s : Shared) (H : Hp) (args : Args) (us : List Value) (vs : List V) (Q : VK) (E : XK),Room k A→Env0 P w K mg base A outer s H→BindsTo s fd args (ps.zip us)→Vals vs us→sp vs H Q E →
    codeAny (model P w) A (.call (.ref f) args) (CR CX outer P w H s Q E) s
theorem Env0.make {P : Program} {w : World} {K : PySem.W.Frag} {mg : Str→Option Value} {base : Heap} {A : Around} {outer : List Env} {s : Shared} {H : Hp} (e : Env0 P w K mg base A outer s H) (C : Addr) (us : List Value) (kw : List (Str × Value)) :
    Env0 P w K mg base (A.under (.builtin "type.__call__" ⟨.ref C :: us,kw⟩)) outer s H:=⟨by first | exact e.frames | (simpa [Around.under,Code.envs,Code.isFrame,pushEnvs] using e.frames),e.mod,e.bs,e.bsz,e.funs,e.frf,e.hok,e.bare⟩
theorem Env0.in1 {P : Program} {w : World} {K : PySem.W.Frag} {mg : Str→Option Value} {base : Heap} {A : Around} {outer : List Env} {s : Shared} {H : Hp} (e : Env0 P w K mg base A outer s H) :
    Env0 P w K mg base A.in1 outer s H:=⟨e.frames,e.mod,e.bs,e.bsz,e.funs,e.frf,e.hok,e.bare⟩
section
variable {X : Cx} {pins : List (Addr × Obj)} {σ : St} {H : Hp} {s s' : Shared}
theorem Inv.env0 (I : Inv X pins σ H s) : Env0 X.prog X.w X.K X.mg X.base X.A X.stack s H :=
  ⟨I.ok.frames,I.ok.mod,I.bs,Nat.le_trans I.ok.bsz I.sz,I.stack,I.stkFree,I.hok,I.bare⟩
theorem Inv.after {Q : VK} {u : Value} (I : Inv X pins σ H s) (h : CE X.stack X.prog X.w H s Q u s') : EP X pins σ Q u s':=by
  obtain ⟨v,H',os,bare,un,hok,r,q⟩:=h
  obtain ⟨hh,g,d,t,os'⟩:=s'
  obtain rfl : os'=s.os:=os
  exact ⟨v,H',I.call (h':=hh) (g':=g) (d':=d) (t':=t) (ch:=[]) un hok bare (fun b z=>absurd z (by simp)),r,q⟩
end
noncomputable def tCall (sp : Sp) (dvs : List V) (E : XK) (t : TA) : TE:=fun σ H Q=>t σ H fun vs H1=>sp (vs ++ dvs) H1 Q E
noncomputable def tMeth (C : Addr) (m : Str) (sp : Sp) (dvs : List V) (E : XK) (ta : TE) (t : TA) : TE:=fun σ H Q=>ta σ H fun x H1=>L23.E3 fun a dx fs=>L23.A4 (x = .ref a) (H1 a=some (.ins C dx fs)) (fs.lookup m=none) (t σ H1 fun vs H2=>sp (x :: (vs ++ dvs)) H2 Q E)
noncomputable def tMake (C : Addr) (sp : Sp) (dvs : List V) (E : XK) (t : TA) : TE:=fun σ H Q=>t σ H fun vs H1=>∀ x dx,H1 x=none→H1 dx=none→dx≠x →
  sp (.ref x :: (vs ++ dvs)) (upd (upd H1 dx (.own x)) x (.ins C dx [])) (fun v H2=>v = .non∧Q (.ref x) H2) E
noncomputable def Binds (K : PySem.W.Frag) (fd : FuncData) (ps : List Str) (ds : List Value) : Prop :=
  ∀ (s : Shared) (us : List Value),K.In s.heap→(us ++ ds).length=ps.length→BindsTo s fd ⟨us,[]⟩ (ps.zip (us ++ ds))
theorem Binds.all {K : PySem.W.Frag} {fd : FuncData} {ps : List Str} (h : ∀ us : List Value,us.length=ps.length→bindArgs fd ⟨us,[]⟩=pure (ps.zip us)) : Binds K fd ps []:=fun s us _ hl=>by
  rw [List.append_nil] at hl ⊢
  exact .of_eq (h us hl)
noncomputable def Passes (CX : CXT) (X : Cx) (E : XK) : Prop:=∀ (pins : List (Addr × Obj)) (σ : St) (H : Hp) (s : Shared) (e : Value) (s' : Shared),Inv X pins σ H s→CX X.stack H s E e s'→X.xe e s'
section
variable {X : Cx} {CX : CXT} {k : Nat} {f C : Addr} {fd : FuncData} {ps : List Str} {sp : Sp} {dvs : List V} {ds : List Value} {E : XK} {x m : Str} {p pos apos : Pos} {e o : Expr} {es : List Expr} {ta : TE} {t : TA}
theorem run_fn {pins : List (Addr × Obj)} {σ : St} {H : Hp} {s : Shared} {Q : VK} {us : List Value} {vs : List V} (F : FnOk X.prog X.w X.K X.mg X.base CX k f fd ps sp) (hr : Room k X.A) (hb : Binds X.K fd ps ds) (hd : Vals dvs ds) (hx : Passes CX X E)
    (I : Inv X pins σ H s) (r : Vals vs us) (h : sp (vs ++ dvs) H Q E) : wpAny (model X.prog X.w) X.A (call (.ref f) us) (EP X pins σ Q) X.xe s:=by
  have r2 : Vals (vs ++ dvs) (us ++ ds):=r.append hd
  have hl : (us ++ ds).length=ps.length:=by rw [← r2.length]; exact F.len _ _ _ _ h
  refine wpAny_call (codeAny_mono (F.run X.A X.stack s H ⟨us,[]⟩ (us ++ ds) (vs ++ dvs) Q E hr I.env0 (hb s us I.kIn hl) r2 h) fun r s' hq=>?_)
  cases r with
  | error e=>exact hx pins σ H s e s' I hq
  | ok fl =>
    cases fl with
    | ret u=>exact I.after hq
    | next=>exact False.elim hq
    | brk=>exact False.elim hq
    | cont=>exact False.elim hq
theorem pe_call (F : FnOk X.prog X.w X.K X.mg X.base CX k f fd ps sp) (hr : Room k X.A) (hg : Gl X x) (hm : X.mg x=some (.ref f)) (hk : PySem.W.keepIn X.K (.ref f)=true) (hb : Binds X.K fd ps ds) (hd : Vals dvs ds) (hx : Passes CX X E)
    (ha : PA X (e :: es) t) (hdb : (x == ("__debug__" : Str))=false:=by decide) (he : starEach (e :: es) X.env=(false,eval e X.env) :: starEach es X.env:=by rfl) (hpl : (backTo pos (starEach es X.env)).any (·.1)=false:=by rfl) :
    PE X (.Call (.Name x p) (e :: es) [] pos) (tCall sp dvs E t):=by
  intro pins s σ H Q I h
  refine wpAny_Call_Name_kw (ld_glob I hg hm ?_ hdb)
  refine PySem.W.callWith_K (h₀:=X.base) I.ok.mod.kin hk (thn (ha pos pins s σ H _ I h) fun us s1 ⟨vs,H1,I1,r,q⟩=>⟨I1.kIn,?_⟩) he hpl
  exact run_fn F hr hb hd hx I1 r q
theorem pe_meth {pl : Sem Bool} (he : PE X o ta) (c : Cls X.K C) (hm : Meth X.K C m f) (F : FnOk X.prog X.w X.K X.mg X.base CX k f fd ps sp) (hr : Room k X.A) (hb : Binds X.K fd ps ds) (hd : Vals dvs ds) (hx : Passes CX X E) (ha : PA X (e :: es) t)
    (hst : starEach (e :: es) X.env=(false,eval e X.env) :: starEach es X.env:=by rfl) (hpl : (backTo pos (starEach es X.env)).any (·.1)=false:=by rfl)
    (ht : eval (.Call (.Attribute o m apos) (e :: es) [] pos) X.env=(do
      let ov ← eval o X.env
      standAt apos.atName
      let (f,first) ← holding [ov] (getMethod ov m pl)
      callWith pos f first (backTo pos (starEach (e :: es) X.env)) (backToKw pos (keywordEach [] X.env))):=by rfl) :
    PE X (.Call (.Attribute o m apos) (e :: es) [] pos) (tMeth C m sp dvs E ta t):=by
  intro pins s σ H Q I h
  refine PySem.W.methodCall_KW (pl:=pl) (thn (he pins s σ H _ I h) fun u s1 ⟨x,H1,I1,rx,a,dx,fs,ex,ea,l,q⟩=>?_) ht
  subst ex
  obtain rfl : u=Value.ref a:=rx
  refine getmeth_ok I1 ea c hm l ?_
  refine PySem.W.callWith_K (first:=[.ref a]) (h₀:=X.base) I.ok.mod.kin hm.kp (thn (ha pos pins s1 σ H1 _ I1 q) fun us s2 ⟨vs,H2,I2,r,q2⟩=>⟨I2.kIn,?_⟩) hst hpl
  exact run_fn (us := .ref a :: us) (vs := .ref a :: vs) F hr hb hd hx I2 (.cons rfl r) q2
theorem pe_meth0 {pl : Sem Bool} (he : PE X o ta) (c : Cls X.K C) (hm : Meth X.K C m f) (F : FnOk X.prog X.w X.K X.mg X.base CX k f fd ps sp) (hr : Room k X.A) (hb : Binds X.K fd ps ds) (hd : Vals dvs ds) (hx : Passes CX X E)
    (ht : eval (.Call (.Attribute o m apos) [] [] pos) X.env=(do
      let ov ← eval o X.env
      standAt apos.atName
      let (f,first) ← holding [ov] (getMethod ov m pl)
      callWith pos f first (backTo pos (starEach [] X.env)) (backToKw pos (keywordEach [] X.env))):=by rfl) :
    PE X (.Call (.Attribute o m apos) [] [] pos) (tMeth C m sp dvs E ta tNil):=by
  intro pins s σ H Q I h
  refine PySem.W.methodCall_KW (pl:=pl) (thn (he pins s σ H _ I h) fun u s1 ⟨x,H1,I1,rx,a,dx,fs,ex,ea,l,q⟩=>?_) ht
  subst ex
  obtain rfl : u=Value.ref a:=rx
  refine getmeth_ok I1 ea c hm l ?_
  exact PySem.W.callWith_K0 (first:=[.ref a]) I1.kIn hm.kp (run_fn (us:=[.ref a]) (vs:=[.ref a]) F hr hb hd hx I1 (.cons rfl .nil) q)
structure Mk (K : PySem.W.Frag) (C f : Addr) : Prop where
  makes : PySem.W.makesIn K C=true
  init : PySem.W.findIn K (.ref C) "__init__"=some (some (.ref f))
  fn : PySem.W.isFn K (.ref f)=true
  kp : PySem.W.keepIn K (.ref C)=true
theorem run_make {pins : List (Addr × Obj)} {σ : St} {H : Hp} {s : Shared} {Q : VK} {us : List Value} {vs : List V} (M : Mk X.K C f) (F : FnOk X.prog X.w X.K X.mg X.base CX k f fd ps sp) (hr : Room (k + 1) X.A) (hb : Binds X.K fd ps ds) (hd : Vals dvs ds)
    (hx : Passes CX X E) (I : Inv X pins σ H s) (r : Vals vs us)
    (h : ∀ x dx,H x=none→H dx=none→dx≠x→sp (.ref x :: (vs ++ dvs)) (upd (upd H dx (.own x)) x (.ins C dx [])) (fun v H2=>v = .non∧Q (.ref x) H2) E) :
    wpAny (model X.prog X.w) X.A (call (.ref C) us) (EP X pins σ Q) X.xe s:=by
  have hq:=h (s.heap.objs.size + 1) s.heap.objs.size (I.hok.fresh (Nat.le_succ _)) (I.hok.fresh (Nat.le_refl _)) (Nat.ne_of_lt (Nat.lt_succ_self _))
  have I2:=Inv.made (C:=C) I
  have r2 : Vals (V.ref (s.heap.objs.size + 1) :: (vs ++ dvs)) (Value.ref (s.heap.objs.size + 1) :: (us ++ ds)) := .cons rfl (r.append hd)
  have hl : (Value.ref (s.heap.objs.size + 1) :: us ++ ds).length=ps.length:=by
    have e:=r2.length
    rw [F.len _ _ _ _ hq] at e
    exact e.symm
  refine wpAny_call (make_map (f:=f) I.kIn M.makes M.init (beq_iff_eq.mp M.fn) (codeAny_mono (F.run _ X.stack _ _ ⟨Value.ref (s.heap.objs.size + 1) :: us,[]⟩ (Value.ref (s.heap.objs.size + 1) :: (us ++ ds)) _ _ E (hr.make C us [])
    (I2.env0.make C us []) (hb _ (Value.ref (s.heap.objs.size + 1) :: us) I2.kIn hl) r2 hq) fun r s' hq'=>?_))
  cases r with
  | error e=>exact hx pins σ _ _ e s' I2 hq'
  | ok fl =>
    cases fl with
    | ret u =>
      obtain ⟨v,H',I3,rv,ev,q3⟩:=I2.after hq'
      subst ev
      exact ⟨rv,⟨V.ref (s.heap.objs.size + 1),H',I3,rfl,q3⟩⟩
    | next=>exact False.elim hq'
    | brk=>exact False.elim hq'
    | cont=>exact False.elim hq'
theorem pe_make (M : Mk X.K C f) (F : FnOk X.prog X.w X.K X.mg X.base CX k f fd ps sp) (hr : Room (k + 1) X.A) (hg : Gl X x) (hm : X.mg x=some (.ref C)) (hb : Binds X.K fd ps ds) (hd : Vals dvs ds) (hx : Passes CX X E)
    (ha : PA X (e :: es) t) (hdb : (x == ("__debug__" : Str))=false:=by decide) (he : starEach (e :: es) X.env=(false,eval e X.env) :: starEach es X.env:=by rfl) (hpl : (backTo pos (starEach es X.env)).any (·.1)=false:=by rfl) :
    PE X (.Call (.Name x p) (e :: es) [] pos) (tMake C sp dvs E t):=by
  intro pins s σ H Q I h
  refine wpAny_Call_Name_kw (ld_glob I hg hm ?_ hdb)
  refine PySem.W.callWith_K (h₀:=X.base) I.ok.mod.kin M.kp (thn (ha pos pins s σ H _ I h) fun us s1 ⟨vs,H1,I1,r,q⟩=>⟨I1.kIn,?_⟩) he hpl
  exact run_make M F hr hb hd hx I1 r q
end
noncomputable def PK (X : Cx) (kws : List Keyword) (t : TA) : Prop :=
  ∀ (pos : Pos) (pins : List (Addr × Obj)) (s : Shared) (σ : St) (H : Hp) (Q : List V→Hp→Prop),Inv X pins σ H s→t σ H Q→wpAny (model X.prog X.w) X.A (evalAll ((backToKw pos (keywordEach kws X.env)).map (·.2))) (AP X pins σ Q) X.xe s
section
variable {X : Cx} {CX : CXT} {k : Nat} {f C : Addr} {fd : FuncData} {ps ks : List Str} {sp : Sp} {E : XK} {x m : Str} {p pos apos kpos : Pos} {e o : Expr} {es : List Expr} {kws : List Keyword} {te ta : TE} {t tk : TA} {nm : Option Str}
theorem pk_nil : PK X [] tNil:=fun _ _ _ _ H Q I h=>wpAny_evalAll_nil ⟨[],H,I,.nil,h⟩
theorem pk_cons (ha : PE X e te) (hr : PK X kws t) : PK X (⟨nm,e,kpos⟩ :: kws) (tCons te t):=by
  intro pos pins s σ H Q I h
  show wpAny _ _ (evalAll ((do let v ← eval e X.env; standAt pos; pure v) :: (backToKw pos (keywordEach kws X.env)).map (·.2))) _ _ s
  refine wpAny_evalAll_cons (wpAny_bind (thn (ha pins s σ H _ I h) fun u s1 ⟨x,H1,I1,r1,q1⟩=>wpAny_bind (wpAny_standAt (wpAny_pure ?_))))
  exact thn (hr pos pins s1 σ H1 _ I1 q1) fun us s2 ⟨xs,H2,I2,r2,q2⟩=>⟨x :: xs,H2,I2,.cons r1 r2,q2⟩
structure KBinds (K : PySem.W.Frag) (fd : FuncData) (ps ks : List Str) (g : List Value→List Value→List Value) (gV : List V→List V→List V) : Prop where
  to : ∀ (s : Shared) (us ws : List Value),K.In s.heap→(g us ws).length=ps.length→BindsTo s fd ⟨us,ks.zip ws⟩ (ps.zip (g us ws))
  rel : ∀ {vs : List V} {us : List Value} {zs : List V} {ws : List Value},Vals vs us→Vals zs ws→Vals (gV vs zs) (g us ws)
variable {g : List Value→List Value→List Value} {gV : List V→List V→List V}
end
structure FnScope (N P : List Str) (sc : Scope) : Prop where
  kind : sc.kind = .function
  co : sc.isCoroutine=false
  gen : sc.isGenerator=false
  nd : N.Nodup
  pre : N.take P.length=P
  par : ∀ x∈P,sc.names.lookup x=some .local∨sc.names.lookup x=some .cell
  nofree : ∀ y∈sc.names,y.2 ≠ .free
theorem bindL_out {kindOf : Str→Option NameKind} {x : Str} : ∀ {binds : List (Str × Value)} {m : Str→Option Value},(∀ v,(x,v)∉binds)→bindL kindOf binds m x=m x
  | [],_,_=>rfl
  | (n,v) :: r,m,h=>by
    unfold bindL
    rw [bindL_out fun w hw=>h w (List.mem_cons_of_mem _ hw)]
    split
    · have : x≠n:=by rintro rfl; exact h v List.mem_cons_self
      simp [this]
    · rfl
theorem bindC_out {kindOf : Str→Option NameKind} {x : Str} : ∀ {binds : List (Str × Value)} {m : Str→Option Value},(∀ v,(x,v)∉binds)→bindC kindOf binds m x=m x
  | [],_,_=>rfl
  | (n,v) :: r,m,h=>by
    unfold bindC
    rw [bindC_out fun w hw=>h w (List.mem_cons_of_mem _ hw)]
    split
    · rfl
    · have : x≠n:=by rintro rfl; exact h v List.mem_cons_self
      simp [this]
theorem bindL_get {kindOf : Str→Option NameKind} {x : Str} {v : Value} : ∀ {P : List Str} {vs : List Value} {i : Nat} {m : Str→Option Value},P.Nodup→P[i]?=some x→vs[i]?=some v→kindOf x=some .local →
    bindL kindOf (P.zip vs) m x=some v
  | [],_,_,_,_,h,_,_=>by simp at h
  | _ :: _,[],_,_,_,_,h,_=>by simp at h
  | p :: P,w :: vs,0,m,nd,h1,h2,hk=>by
    simp at h1 h2; subst h1; subst h2
    show bindL kindOf ((p,w) :: P.zip vs) m p=_
    unfold bindL
    rw [bindL_out fun v hv=>(List.nodup_cons.mp nd).1 (List.of_mem_zip hv).1,if_pos hk]
    simp
  | p :: P,w :: vs,i + 1,m,nd,h1,h2,hk=>by
    show bindL kindOf ((p,w) :: P.zip vs) m x=_
    unfold bindL
    exact bindL_get (i:=i) (List.nodup_cons.mp nd).2 (by simpa using h1) (by simpa using h2) hk
theorem bindC_get {kindOf : Str→Option NameKind} {x : Str} {v : Value} : ∀ {P : List Str} {vs : List Value} {i : Nat} {m : Str→Option Value},P.Nodup→P[i]?=some x→vs[i]?=some v→kindOf x≠some .local →
    bindC kindOf (P.zip vs) m x=some v
  | [],_,_,_,_,h,_,_=>by simp at h
  | _ :: _,[],_,_,_,_,h,_=>by simp at h
  | p :: P,w :: vs,0,m,nd,h1,h2,hk=>by
    simp at h1 h2; subst h1; subst h2
    show bindC kindOf ((p,w) :: P.zip vs) m p=_
    unfold bindC
    rw [bindC_out fun v hv=>(List.nodup_cons.mp nd).1 (List.of_mem_zip hv).1,if_neg hk]
    simp
  | p :: P,w :: vs,i + 1,m,nd,h1,h2,hk=>by
    show bindC kindOf ((p,w) :: P.zip vs) m x=_
    unfold bindC
    exact bindC_get (i:=i) (List.nodup_cons.mp nd).2 (by simpa using h1) (by simpa using h2) hk
noncomputable def start (N : List Str) (vs : List V) : St:=vs.map some ++ List.replicate (N.length - vs.length) none
noncomputable def cxOf (CX : CXT) (P : Program) (w : World) (K : PySem.W.Frag) (mg : Str→Option Value) (base : Heap) (N : List Str) (qual : Str) (scope : Scope) (f : Addr) (cd : Value) (A : Around) (outer : List Env) (s : Shared) (H : Hp) (E : XK) : Cx where
  prog:=P
  w:=w
  K:=K
  mg:=mg
  base:=base
  A:=A.deeper (envOfC qual scope s.heap.objs.size f cd)
  N:=N
  s₀:=s
  H₀:=H
  env:=envOfC qual scope s.heap.objs.size f cd
  outer:=outer
  stack:=envOfC qual scope s.heap.objs.size f cd :: outer
  ex:=[]
  calm:=true
  fn:=fun _=>true
  pn:=[]
  xe:=fun e s'=>wpAny (model P w) (A.deeper (envOfC qual scope s.heap.objs.size f cd)) (leaving (envOfC qual scope s.heap.objs.size f cd) e) (fun _ s''=>CX outer H s E e s'') (fun e' s''=>CX outer H s E e' s'') s'
theorem cell_has {sc : Scope} {n : Nat} {x : Str} (h : sc.names.lookup x=some .cell) : ∃ c,(cellsFrom n sc.names []).lookup x=some c:=by
  have q:=PySem.W.cellsFrom_some sc.names n [] (.inl h)
  exact Option.isSome_iff_exists.mp q
theorem inv_start {CX : CXT} {P : Program} {w : World} {K : PySem.W.Frag} {mg : Str→Option Value} {base : Heap} {N ps : List Str} {qual : Str} {scope : Scope} {f : Addr} {cd : Value} {A : Around} {outer : List Env} {s s1 : Shared} {H : Hp} {E : XK} {us : List Value} {vs : List V}
    (S : FnScope N ps scope) (hd : A.handled=none) (e0 : Env0 P w K mg base A outer s H) (hl : vs.length=ps.length) (r : Vals vs us)
    (x : InCallC s s.heap.objs.size (bindL (envOfC qual scope s.heap.objs.size f cd).kindOf (ps.zip us) fun _=>none) (cellsFrom (s.heap.objs.size + 1) scope.names []) (bindC (envOfC qual scope s.heap.objs.size f cd).kindOf (ps.zip us) fun _=>none) s1) :
    Inv (cxOf CX P w K mg base N qual scope f cd A outer s H E) [] (start N vs) H s1:=by
  have hpl : ps.length≤N.length:=by have:=congrArg List.length S.pre; rw [List.length_take] at this; omega
  obtain ⟨h1,tk,rfl,hk⟩:=x.done
  have noA : ∀ b : Addr,b∉(cxOf CX P w K mg base N qual scope f cd A outer s H E).ex:=fun b z=>absurd (show b∈([] : List Addr) from z) (by simp)
  refine ⟨⟨e0.mod,S.kind,rfl,rfl,Nat.le_refl _,fun y z c h1 h2=>?_,fun y hy=>?_,fun y c _ h=>?_,fun _=>hd,Around.frames_deeper e0.frames,.inr ⟨rfl,rfl⟩,fun b z=>absurd z (noA b),e0.bs,e0.bsz,fun b _ _=>noA b,fun b z=>absurd z (noA b),e0.funs,e0.frf⟩,
    rfl,e0.bare,Un.kept hk,⟨_,x.toInCall.ns,fun i y v h1 h2 h3=>?_⟩,fun y c h=>⟨_,x.cell y c h⟩,e0.hok.fresh (Nat.le_refl _),fun y c h=>?_,fun p hp=>absurd (show p∈([] : List (Addr × Obj)) from hp) (by simp),e0.hok.kept hk,?_⟩
  · exact name_of_addr x.apart (PySem.mem_of_lookup h1) (PySem.mem_of_lookup h2)
  · have hy : scope.names.lookup y=some .cell∨scope.names.lookup y=some .free:=hy
    rcases hy with hy | hy
    · exact cell_has hy
    · exact absurd rfl (S.nofree _ (PySem.mem_of_lookup hy))
  · exact Nat.le_of_lt (x.above y c (PySem.mem_of_lookup h))
  · have hi : i < vs.length:=by
      unfold start at h2
      by_cases hi : i < vs.length
      · exact hi
      · rw [List.getElem?_append_right (by simpa using hi)] at h2
        rw [List.getElem?_replicate] at h2
        split at h2 <;> cases h2
    have ha : vs[i]?=some v:=by
      unfold start at h2
      rw [List.getElem?_append_left (by simpa using hi),List.getElem?_map] at h2
      cases e : vs[i]? with
      | none=>rw [e] at h2; cases h2
      | some a=>rw [e] at h2; cases h2; rfl
    obtain ⟨u,hu,rv⟩:=r.get ha
    have hp : ps[i]?=some y:=by
      rw [← S.pre,List.getElem?_take_of_lt (by omega)]; exact h1
    have ndP : ps.Nodup:=by rw [← S.pre]; exact S.nd.sublist (List.take_sublist _ _)
    refine ⟨u,rv,?_⟩
    rcases S.par y (List.mem_of_getElem? hp) with k | k
    · exact .inl ⟨k,bindL_get ndP hp hu k⟩
    · obtain ⟨c,e⟩:=cell_has (n:=s.heap.objs.size + 1) k
      refine .inr ⟨.inl k,c,e,?_⟩
      have q:=x.cell y c e
      rw [bindC_get ndP hp hu (by show scope.names.lookup y≠_; rw [k]; decide)] at q
      exact q
  · exact e0.hok.fresh (Nat.le_of_lt (x.above y c (PySem.mem_of_lookup h)))
  · unfold start
    show _=N.length
    rw [List.length_append,List.length_map,List.length_replicate]
    omega
theorem fn_of {CX : CXT} {P : Program} {w : World} {K : PySem.W.Frag} {mg : Str→Option Value} {base : Heap} {k : Nat} {f : Addr} {name qual : Str} {params : Arguments} {body : List Stmt} {scope : Scope} {dV kV doc pm cdv ct oc : Value} {an od : Option Addr}
    {osl : Array (Option Value)} {N ps : List Str} {sp : Sp} (lk : K.lookup f=some ⟨oc,od,.func (PySem.W.fnOf name qual params body scope dV kV doc pm an cdv ct),osl⟩) (hcd : PySem.W.codeIn K cdv qual=true) (S : FnScope N ps scope)
    (len : ∀ vs H Q E,sp vs H Q E→vs.length=ps.length)
    (hbody : ∀ (A : Around) (outer : List Env) (s : Shared) (H : Hp) (vs : List V) (Q : VK) (E : XK),Room k (A.deeper (envOfC qual scope s.heap.objs.size f cdv))→sp vs H Q E →
      ∃ t,PSs (cxOf CX P w K mg base N qual scope f cdv A outer s H E) body t∧t { nx:=fun _ H'=>Q .non H',rt:=Q } (start N vs) H) :
    FnOk P w K mg base CX (k + 1) f (PySem.W.fnOf name qual params body scope dV kV doc pm an cdv ct) ps sp:=by
  refine ⟨len,fun A outer s H args us vs Q E hr e0 hb r hsp=>?_⟩
  have hl:=len _ _ _ _ hsp
  have KX : K.In s.heap:=e0.mod.kin.keeps fun b o e=>(e0.bs b o e).1
  have lim : s.heap.NoLimit:=e0.mod.nolimit.keeps fun b o e=>(e0.bs b o e).1
  have hkind : ∀ y∈ps.zip us,scope.names.lookup y.1=some .local∨(scope.names.lookup y.1=some .cell∧((cellsFrom (s.heap.objs.size + 1) scope.names []).lookup y.1).isSome=true):=fun ⟨n,v⟩ hy=>by
    rcases S.par n (List.of_mem_zip hy).1 with q | q
    · exact .inl q
    · exact .inr ⟨q,PySem.W.cellsFrom_some _ _ _ (.inl q)⟩
  refine codeAny_call_function hr.depth (KX _ _ lk) rfl S.co S.gen rfl (PySem.W.codeRec_of KX hcd) (hb _ _ _ _ ?_)
  refine wpAny_newFunctionEnv_cells S.kind hkind fun env he s1 x=>?_
  subst he
  refine ⟨lim.keeps x.toInCall.keep,codeAny_func ?_⟩
  obtain ⟨t,ht,hq⟩:=hbody A outer s H vs Q E (hr.deeper _) hsp
  have I : Inv (cxOf CX P w K mg base N qual scope f cdv A outer s H E) [] (start N vs) H s1:=inv_start S hr.hd e0 hl r x
  refine wpAny_mono (ht [] s1 (start N vs) H _ I hq) (fun fl s' hs=>?_) fun e s' hs=>hs
  have fin : ∀ {σ' : St} {H' : Hp} {v : V} {u : Value},Inv (cxOf CX P w K mg base N qual scope f cdv A outer s H E) [] σ' H' s'→RelV v u→Q v H'→CE outer P w H s Q u s' :=
    fun {σ' H' v u} J rv q=>⟨v,H',J.os,J.bare,J.base,J.hok,rv,q⟩
  cases fl with
  | ret u =>
    obtain ⟨v,σ',H',J,rv,q⟩:=hs
    exact fin J rv q
  | next =>
    obtain ⟨σ',H',J,q⟩:=hs
    exact fin (v:=V.non) (u:=Value.none) J rfl q
  | brk =>
    obtain ⟨_,_,_,q⟩:=hs
    exact False.elim q
  | cont =>
    obtain ⟨_,_,_,q⟩:=hs
    exact False.elim q
end L2
namespace L2
open PySem PySem.Spec PyProof.Rows
section
variable {X : Cx} {x : Str} {p pos : Pos} {e : Expr} {es : List Expr} {t : TA} {id T : String} {r : List V→Hp→VK→Prop}
noncomputable def tCB (r : List V→Hp→VK→Prop) (t : TA) : TE:=fun σ H Q=>t σ H fun vs H1=>r vs H1 Q
theorem pe_callB (hc : CallR X (.builtin id) r) (hg : Gl X x) (hm : X.mg x=none) (hv : bootBuiltins x=some (.builtin id)) (ha : PA X (e :: es) t) (hn : x≠"__name__":=by decide) (hdb : (x == ("__debug__" : Str))=false:=by decide)
    (he : starEach (e :: es) X.env=(false,eval e X.env) :: starEach es X.env:=by rfl) (hpl : (backTo pos (starEach es X.env)).any (·.1)=false:=by rfl) : PE X (.Call (.Name x p) (e :: es) [] pos) (tCB r t):=by
  intro pins s σ H Q I h
  refine wpAny_Call_Name_kw (ld_blt I hg hm hv ?_ hn hdb)
  exact PyProof.Rows.callWith_builtin1 (thn (ha pos pins s σ H _ I h) fun us s1 ⟨vs,H1,I1,r1,q1⟩=>hc pins s1 σ H1 vs us Q I1 r1 q1) he hpl
theorem pe_callTy (hc : CallR X (.type T) r) (hg : Gl X x) (hm : X.mg x=none) (hv : bootBuiltins x=some (.type T)) (ha : PA X (e :: es) t) (hn : x≠"__name__":=by decide) (hdb : (x == ("__debug__" : Str))=false:=by decide)
    (he : starEach (e :: es) X.env=(false,eval e X.env) :: starEach es X.env:=by rfl) (hpl : (backTo pos (starEach es X.env)).any (·.1)=false:=by rfl) : PE X (.Call (.Name x p) (e :: es) [] pos) (tCB r t):=by
  intro pins s σ H Q I h
  refine wpAny_Call_Name_kw (ld_blt I hg hm hv ?_ hn hdb)
  exact PyProof.Rows.callWith_type1 (thn (ha pos pins s σ H _ I h) fun us s1 ⟨vs,H1,I1,r1,q1⟩=>hc pins s1 σ H1 vs us Q I1 r1 q1) he hpl
end
end L2
namespace HT
open PySem PyProof.Rows
noncomputable def lexLt : List Int→List Int→Bool
  | [],[]=>false
  | [],_ :: _=>true
  | _ :: _,[]=>false
  | x :: xs,y :: ys=>if x=y then lexLt xs ys else decide (x < y)
theorem lexLt_cons (x y : Int) (xs ys : List Int) : lexLt (x :: xs) (y :: ys)=if x=y then lexLt xs ys else decide (x < y):=rfl
theorem lexLt_nil_nil : lexLt [] []=false:=rfl
theorem lexLt_nil_cons (y : Int) (ys : List Int) : lexLt [] (y :: ys)=true:=rfl
theorem lexLt_cons_nil (x : Int) (xs : List Int) : lexLt (x :: xs) []=false:=rfl
theorem eqAt_int (A : Around) (s : Shared) (a : Int) (t : Tok) (c : Int) (u : Tok) : ∃ e,SeqAt.EqAt A s (.int a t) (.int c u) e∧(e=true↔a=c) :=
  ⟨(a == c),SeqAt.EqAt.int_int a t c u,by simp⟩
theorem rcLt_int (A : Around) (s : Shared) (a : Int) (t : Tok) (c : Int) (u : Tok) (prog : Program) (w : World) (E : Value→Shared→Prop) (Q : Value→Shared→Prop) (h : Q (.bool (decide (a < c))) s) :
    wpAny (model prog w) A (richCompare .Lt (.int a t) (.int c u)) Q E s :=
  (PyProof.Rows.lt_int h : wpAny (model prog w) A (compareOp .Lt (.int a t) (.int c u)) Q E s)
section
open PySem.SeqAt
open PySem.AutoSeq1 (wpAny_loadPart')
open PySem.MeetsSeq PySem.MeetsSeq2 PySem.MeetsSeq3
theorem tuple_lt_ints (l b : Addr) (items items2 : Array Value) (n n2 : Nat) (dd dd2 : Option Addr) (sl sl2 : Array (Option Value)) (ns ms : List Int) (hi : IntsAre items.toList ns) (hj : IntsAre items2.toList ms) :
    Meets (Builtin.«tuple.__lt__» ⟨[.ref l,.ref b],[]⟩)
      (fun _ R s=>s.heap.get? l=some { cls := .type "tuple",dict:=dd,data := .seq items n,slots:=sl }∧s.heap.get? b=some { cls := .type "tuple",dict:=dd2,data := .seq items2 n2,slots:=sl2 } ∧
        R (.ok (.ret (.bool (lexLt ns ms)))) s) :=
  .of_wp fun prog w A R s h=>by
    obtain ⟨hp,g,d,tk,os⟩:=s; obtain ⟨hl,hb,h⟩:=h
    have f2:=AutoSeq1.sub_tuple_tuple
    have z1 : items.size=ns.length:=by rw [← hi.length]; simp
    have z2 : items2.size=ms.length:=by rw [← hj.length]; simp
    wp_walk using wpAny_loadPart' hl,wpAny_loadPart' hb,wpAny_forIn_list _ (fun rest b s'=>b.1=none∧s'=⟨hp,g,d,tk,os⟩∧∃ (vs ws : List Value) (ns' ms' : List Int),rest=vs.zip ws ∧
      IntsAre vs ns'∧IntsAre ws ms'∧ns'.length + items2.size=ms'.length + items.size∧R (.ok (.ret (.bool (lexLt ns' ms')))) ⟨hp,g,d,tk,os⟩) _
    case turn =>
      rintro ⟨y,x⟩ rest b s' ⟨hb',rfl,vs,ws,ns',ms',hz,hvi,hwi,hlen,hR⟩
      cases hvi with
      | nil=>rw [List.zip_nil_left] at hz; cases hz
      | cons a t hvi' =>
        cases hwi with
        | nil=>rw [List.zip_nil_right] at hz; cases hz
        | cons c u hwi' =>
          rw [List.zip_cons_cons] at hz
          injection hz with hyx hrest
          injection hyx with hy hx
          subst hy hx
          rw [lexLt_cons] at hR
          simp only [List.length_cons] at hlen
          obtain ⟨e,he,hiff⟩:=eqAt_int A.in1 ⟨hp,g,d,tk,os⟩ a t c u
          refine wpAny_bind (he prog w _ _ ?_)
          cases e with
          | true =>
            rw [if_pos (hiff.mp rfl)] at hR
            wp_walk
            exact ⟨rfl,rfl,_,_,_,_,hrest,hvi',hwi',by omega,hR⟩
          | false =>
            rw [if_neg (fun q=>absurd (hiff.mpr q) Bool.false_ne_true)] at hR
            have hri:=rcLt_int A.in1 ⟨hp,g,d,tk,os⟩ a t c u prog w
            wp_walk using hri
            exact ⟨_,rfl,by simpa using hR⟩
    case fin =>
      rintro ⟨b1,b2⟩ s' ⟨hb',rfl,vs,ws,ns',ms',hz,hvi,hwi,hlen,hR⟩
      simp only at hb'
      subst hb'
      have hv : lexLt ns' ms'=decide (items.size < items2.size):=by
        cases hvi with
        | nil =>
          cases hwi with
          | nil =>
            simp only [List.length_nil] at hlen
            rw [lexLt_nil_nil]
            exact (decide_eq_false (by omega)).symm
          | cons c u hw =>
            simp only [List.length_nil,List.length_cons] at hlen
            rw [lexLt_nil_cons]
            exact (decide_eq_true (by omega)).symm
        | cons a t hv =>
          cases hwi with
          | nil =>
            simp only [List.length_nil,List.length_cons] at hlen
            rw [lexLt_cons_nil]
            exact (decide_eq_false (by omega)).symm
          | cons c u hw =>
            rw [List.zip_cons_cons] at hz
            cases hz
      rw [hv] at hR
      wp_walk
      exact ⟨_,rfl,by simpa [Builtin.Tuple.tupleCompareSizes] using hR⟩
    case h =>
      exact ⟨rfl,rfl,items.toList,items2.toList,ns,ms,rfl,hi,hj,by omega,h⟩
end
section
variable {prog : Program} {w : World} {A : Around} {E : Value→Shared→Prop} {s : Shared}
theorem lt_tupInts {l b : Addr} {items items2 : Array Value} {ns ms : List Int} {Q : Value→Shared→Prop} (hl : IsTup s.heap l items) (hb : IsTup s.heap b items2) (hi : IntsAre items.toList ns) (hj : IntsAre items2.toList ms)
    (hu : A.units < cLine) (h : Q (.bool (lexLt ns ms)) s) : wpAny (model prog w) A (compareOp .Lt (.ref l) (.ref b)) Q E s:=by
  obtain ⟨⟨cls,dd,data,sl⟩,ho,hc,n,hd⟩:=id hl
  obtain ⟨⟨cls2,dd2,data2,sl2⟩,ho2,hc2,n2,hd2⟩:=id hb
  simp only at hc hd hc2 hd2
  subst hc hd hc2 hd2
  exact richCompare_meets_room (op := .Lt) ⟨_,ho,rfl⟩ ⟨_,ho2,rfl⟩ PySem.F.slot_tuple_lt PySem.F.entry_tuple_lt (PySem.F.args_tuple_lt_2 _ _) (tuple_lt_ints l b items items2 n n2 dd dd2 sl sl2 ns ms hi hj)
    ⟨ho,ho2,show Value.bool (lexLt ns ms)≠Value.notImplemented∧Q (.bool (lexLt ns ms)) s from ⟨(fun x=>nomatch x),h⟩⟩ hu
noncomputable def sIx (n d : Nat) : Option Int→Nat
  | none=>d
  | some v=>if v < 0 then (v + (n : Int)).toNat else min v.toNat n
theorem sIx_none (n d : Nat) : sIx n d none=d:=rfl
theorem sIx_nat (n d k : Nat) : sIx n d (some (k : Int))=min k n:=by
  show (if (k : Int) < 0 then ((k : Int) + (n : Int)).toNat else min (k : Int).toNat n)=min k n
  rw [if_neg (by omega),Int.toNat_natCast]
end
end HT
namespace L2
open PySem PySem.Spec PyProof.Rows
noncomputable abbrev TO:=St→Hp→(Option Int→Hp→Prop)→Prop
noncomputable def PO (X : Cx) (e : Option Expr) (t : TO) : Prop :=
  ∀ (pins : List (Addr × Obj)) (s : Shared) (σ : St) (H : Hp) (Q : Option Int→Hp→Prop),Inv X pins σ H s→t σ H Q →
    wpAny (model X.prog X.w) X.A (evalPart e X.env) (fun u s'=>∃ o H',Inv X pins σ H' s'∧IsPart u o∧Q o H') X.xe s
noncomputable def tNoPart : TO:=fun _ H Q=>Q none H
noncomputable def tPart (t : TE) : TO:=fun σ H Q=>t σ H fun x H1=>∃ i,x = .int i∧Q (some i) H1
theorem intsAre_of {ns : List Int} : ∀ {us : List Value},Vals (ns.map V.int) us→IntsAre us ns:=by
  induction ns with
  | nil=>intro us r; rw [List.map_nil] at r; cases r; exact .nil
  | cons n ns ih =>
    intro us r
    rw [List.map_cons] at r
    cases r with
    | cons r1 r2 =>
      obtain ⟨t,e⟩:=r1
      subst e
      exact .cons n t (ih r2)
section
variable {X : Cx} {e : Expr} {te : TE} {lo hi : Option Expr} {tl th : TO} {pos p2 : Pos}
theorem po_none : PO X none tNoPart:=by
  intro pins s σ H Q I h
  rw [evalPart_none]
  exact wpAny_pure ⟨none,H,I,.none,h⟩
theorem po_some (h : PE X e te) : PO X (some e) (tPart te):=by
  intro pins s σ H Q I hw
  rw [evalPart_some]
  refine thn (h pins s σ H _ I hw) fun u s1 ⟨x,H1,I1,r1,q1⟩=>?_
  obtain ⟨i,rfl,q⟩:=q1
  obtain ⟨t,rfl⟩:=r1
  exact ⟨some i,H1,I1,.int i t,q⟩
noncomputable def SlR (X : Cx) (r : V→Option Int→Option Int→Hp→VK→Prop) : Prop :=
  ∀ (pins : List (Addr × Obj)) (s : Shared) (σ : St) (H : Hp) (x : V) (v vl vu : Value) (lo hi : Option Int) (sl : Addr) (Q : VK),Inv X pins σ H s→RelV x v→s.heap.IsSliceOf sl vl vu .none→IsPart vl lo→IsPart vu hi→r x lo hi H Q →
    ∃ T id,typeLookup (.type T) "__getitem__"=pure (some (.builtin id))∧s.TypeIs v T∧wpAny (model X.prog X.w) X.A (getItem v (.ref sl)) (EP X pins σ Q) X.xe s
noncomputable def tSl (r : V→Option Int→Option Int→Hp→VK→Prop) (te : TE) (tl th : TO) : TE:=fun σ H Q=>te σ H fun x H1=>tl σ H1 fun l H2=>th σ H2 fun u H3=>r x l u H3 Q
theorem pe_slice {r : V→Option Int→Option Int→Hp→VK→Prop} (hr : SlR X r) (he : PE X e te) (hl : PO X lo tl) (hu : PO X hi th) : PE X (.Subscript e (.Slice lo hi none p2) pos) (tSl r te tl th):=by
  intro pins s σ H Q I h
  refine Subscript_ (thn (he pins s σ H _ I h) fun v s1 ⟨x,H1,I1,r1,q1⟩=>?_)
  refine wpAny_Slice (thn (hl pins s1 σ H1 _ I1 q1) fun vl s2 ⟨l,H2,I2,pl,q2⟩=>thn (hu pins s2 σ H2 _ I2 q2) fun vu s3 ⟨u,H3,I3,pu,q3⟩=>?_)
  rw [evalPart_none]
  refine wpAny_pure ?_
  have I4 : Inv X pins σ H3 { s3 with heap:=s3.heap.push { cls := .type "slice",data := .fields #[vl,vu,.none] } }:=I3.kept (t':=s3.toks) fun b ob q=>Heap.get?_push_of_some _ q
  obtain ⟨T,id,hT,ht,hg⟩:=hr pins { s3 with heap:=s3.heap.push { cls := .type "slice",data := .fields #[vl,vu,.none] } } σ H3 x v vl vu l u s3.heap.objs.size Q I4 r1 (Heap.IsSliceOf.new ..) pl pu q3
  show wpAny (model X.prog X.w) X.A (subscriptTail e (.Slice lo hi none p2) v (.ref s3.heap.objs.size)) (EP X pins σ Q) X.xe { s3 with heap:=s3.heap.push { cls := .type "slice",data := .fields #[vl,vu,.none] } }
  exact tail_any (ops:=[.ref s3.heap.objs.size,v]) ht hT hg (by with_unfolding_all rfl)
noncomputable def cutV (xs : List V) (lo hi : Option Int) : List V:=(xs.drop (HT.sIx xs.length 0 lo)).take (HT.sIx xs.length xs.length hi - HT.sIx xs.length 0 lo)
theorem cutV_length (xs : List V) (lo hi : Option Int) : (cutV xs lo hi).length≤xs.length:=by
  unfold cutV
  rw [List.length_take,List.length_drop]
  omega
noncomputable def rLtT (K : PySem.W.Frag) : R2:=fun x y H Q=>L23.E4 fun a b ns ms=>L23.A5 (x = .ref a) (y = .ref b) (SqT K H a (ns.map V.int)) (SqT K H b (ms.map V.int)) (Q (.bl (HT.lexLt ns ms)) H)
theorem op_ltT (hu : X.A.units < cLine) : OpR X (compareOp .Lt) (rLtT X.K):=by
  intro pins s σ H x y v u Q I rx ry h
  obtain ⟨a,b,ns,ms,rfl,rfl,ha,hb,q⟩:=h
  cases rx
  cases ry
  obtain ⟨its,r1,p1,_⟩:=I.tuple ha
  obtain ⟨its2,r2,p2,_⟩:=I.tuple hb
  have i1 : IntsAre its.toArray.toList ns:=intsAre_of r1
  have i2 : IntsAre its2.toArray.toList ms:=intsAre_of r2
  exact HT.lt_tupInts p1 p2 i1 i2 hu ⟨.bl (HT.lexLt ns ms),H,I,rfl,q⟩
end
end L2
namespace L2
open PySem PySem.Spec PyProof.Rows
noncomputable def ixN (n : Nat) (i : Int) : Option Nat:=if 0≤i then (if i < n then some i.toNat else none) else if -(n : Int)≤i then some (i + n).toNat else none
noncomputable def atI {α : Type} (xs : List α) (i : Int) : Option α:=(ixN xs.length i).bind fun j=>xs[j]?
theorem ixN_seq {n : Nat} {i : Int} {j : Nat} (h : ixN n i=some j) : seqIndex? i n=some j∧j < n ∧ -(n : Int)≤i∧i < n:=by
  unfold ixN at h
  by_cases h0 : 0≤i
  · rw [if_pos h0] at h
    by_cases h1 : i < n
    · rw [if_pos h1] at h
      have e : i.toNat=j:=Option.some.inj h
      exact ⟨by rw [seqIndex_of h0 h1,e],by omega,by omega,h1⟩
    · rw [if_neg h1] at h; cases h
  · rw [if_neg h0] at h
    by_cases h1 : -(n : Int)≤i
    · rw [if_pos h1] at h
      have e : (i + n).toNat=j:=Option.some.inj h
      exact ⟨by rw [seqIndex_neg (by omega) h1,e],by omega,h1,by omega⟩
    · rw [if_neg h1] at h; cases h
theorem atI_get {α : Type} {xs : List α} {i : Int} {v : α} (h : atI xs i=some v) : ∃ j,seqIndex? i xs.length=some j∧xs[j]?=some v∧j < xs.length ∧ -(xs.length : Int)≤i∧i < xs.length:=by
  unfold atI at h
  cases e : ixN xs.length i with
  | none=>rw [e] at h; cases h
  | some j =>
    rw [e] at h
    obtain ⟨h1,h2,h3,h4⟩:=ixN_seq e
    exact ⟨j,h1,h,h2,h3,h4⟩
theorem atI_nat {α : Type} {xs : List α} {j : Nat} {v : α} (h : xs[j]?=some v) : atI xs (j : Int)=some v:=by
  have hj : j < xs.length:=(List.getElem?_eq_some_iff.mp h).1
  have e : ixN xs.length (j : Int)=some j:=by
    unfold ixN
    rw [if_pos (by omega),if_pos (by omega)]; simp
  unfold atI; rw [e]; exact h
noncomputable def PlainIx (b : Expr) : Prop:=∀ o i,subscripted b false o i=operate [o,i] (getItem o i)
noncomputable def IxR (X : Cx) (r : R2) : Prop :=
  ∀ (value slice : Expr) (pins : List (Addr × Obj)) (s : Shared) (σ : St) (H : Hp) (x y : V) (v u : Value) (Q : VK),Inv X pins σ H s→RelV x v→RelV y u→r x y H Q →
    subscripted slice false v u=operate [v,u] (getItem v u)→wpAny (model X.prog X.w) X.A (subscriptTail value slice v u) (EP X pins σ Q) X.xe s
noncomputable def MtR (X : Cx) (id : String) (r : V→List V→Hp→VK→Prop) : Prop :=
  ∀ (pins : List (Addr × Obj)) (s : Shared) (σ : St) (H : Hp) (x : V) (xs : List V) (v : Value) (us : List Value) (Q : VK),Inv X pins σ H s→RelV x v→Vals xs us→r x xs H Q →
    wpAny (model X.prog X.w) X.A (call (.builtin id) (v :: us)) (EP X pins σ Q) X.xe s
section
variable {X : Cx} {a b : Expr} {ta tb : TE} {pos : Pos}
theorem IxR.or {r r' : R2} (h : IxR X r) (h' : IxR X r') : IxR X (fun x y H Q=>r x y H Q∨r' x y H Q):=by
  intro value slice pins s σ H x y v u Q I rx ry q hs
  rcases q with q | q
  · exact h value slice pins s σ H x y v u Q I rx ry q hs
  · exact h' value slice pins s σ H x y v u Q I rx ry q hs
theorem pe_ix {r : R2} (hr : IxR X r) (ha : PE X a ta) (hb : PE X b tb) (hs : PlainIx b) : PE X (.Subscript a b pos) (tOp r ta tb):=by
  intro pins s σ H Q I h
  exact Subscript_ (binT ha hb I h fun v u s2 x y H2 I2 rx ry q=>hr a b pins s2 σ H2 x y v u Q I2 rx ry q (hs _ _))
noncomputable def rIxL (K : PySem.W.Frag) : R2:=fun x y H Q=>L23.E4 fun p xs i v=>L23.A5 (x = .ref p) (y = .int i) (SqL K H p xs) (atI xs i=some v) (Q v H)
noncomputable def rIxT (K : PySem.W.Frag) : R2:=fun x y H Q=>L23.E4 fun p xs i v=>L23.A5 (x = .ref p) (y = .int i) (SqT K H p xs) (atI xs i=some v) (Q v H)
noncomputable def rIxS : R2:=fun x y H Q=>L23.E3 fun z i c=>L23.A5 (x = .str z) (y = .int i) (z.length≤sizeLine) (atI z.cps.toList i=some c) (Q (.str ⟨#[c]⟩) H)
theorem ix_list : IxR X (rIxL X.K):=by
  intro value slice pins s σ H x y v u Q I rx ry h hs
  obtain ⟨p,xs,i,z,rfl,rfl,hq,he,q⟩:=h
  cases rx
  obtain ⟨t,rfl⟩:=ry
  obtain ⟨its,r,pl,hz⟩:=I.list hq
  obtain ⟨j,h1,h2,h3,h4,h5⟩:=atI_get he
  obtain ⟨w,ew,rw'⟩:=r.get h2
  have hl:=r.length
  have hn:=line63
  have fin : EP X pins σ Q w s:=⟨z,H,I,rw',q⟩
  by_cases h0 : 0≤i
  · have hj : i.toNat=j:=by
      rw [seqIndex_of h0 h5] at h1
      exact Option.some.inj h1
    exact item_listR pl.isList h0 (by omega) (by rw [hj]; simpa using ew) fin hs
  · have hj : (i + (its.toArray.size : Int)).toNat=j:=by
      rw [seqIndex_neg (by omega) h4] at h1
      rw [List.size_toArray,← hl]
      exact Option.some.inj h1
    exact subscriptTail_builtinR (x:=w) pl.isList.typeIs slot_list_getitem.lookup
      (wpAny_getItem_list_neg (Q:=fun r s'=>r=w∧EP X pins σ Q r s') pl.isList (by omega) (by rw [List.size_toArray] <;> omega) (by omega) (by rw [hj]; simpa using ew) ⟨rfl,fin⟩) hs
theorem ix_tup : IxR X (rIxT X.K):=by
  intro value slice pins s σ H x y v u Q I rx ry h hs
  obtain ⟨p,xs,i,z,rfl,rfl,hq,he,q⟩:=h
  cases rx
  obtain ⟨t,rfl⟩:=ry
  obtain ⟨its,r,pl,hz⟩:=I.tuple hq
  obtain ⟨j,h1,h2,h3,h4,h5⟩:=atI_get he
  obtain ⟨w,ew,rw'⟩:=r.get h2
  have hl:=r.length
  have hn:=line63
  have fin : EP X pins σ Q w s:=⟨z,H,I,rw',q⟩
  exact subscriptTail_builtinR (x:=w) pl.typeIs slot_tuple_getitem.lookup
    (getItem_tuple (j:=j) (Q:=fun r s'=>r=w∧EP X pins σ Q r s') pl (by omega) (by omega) (by rw [List.size_toArray,← hl]; exact h1) (by simpa using ew) ⟨rfl,fin⟩) hs
theorem ix_str : IxR X rIxS:=by
  intro value slice pins s σ H x y v u Q I rx ry h hs
  obtain ⟨z,i,c,rfl,rfl,hz,he,q⟩:=h
  obtain ⟨t,rfl⟩:=rx
  obtain ⟨t',rfl⟩:=ry
  obtain ⟨j,h1,h2,h3,h4,h5⟩:=atI_get he
  have hl : z.cps.toList.length=z.length:=by simp [Str.length]
  rw [hl] at h1 h4 h5
  have hn:=line63
  exact tail_any (typeIs_str s z t) slot_str_getitem.lookup (getItem_str (c:=c) (by
    have e1 : decide (i < -(2 ^ 63 : Int))=false:=decide_eq_false (by omega)
    have e2 : decide (i ≥ 2 ^ 63)=false:=decide_eq_false (by omega)
    rw [e1,e2,Bool.or_false]) (by rw [h1]; simpa using h2) ⟨.str ⟨#[c]⟩,H,I.tok _,⟨_,rfl⟩,q⟩) hs
noncomputable def rIx (K : PySem.W.Frag) : R2:=fun x y H Q=>rIxL K x y H Q∨rIxT K x y H Q∨rIxS x y H Q
theorem ix_seq : IxR X (rIx X.K):=ix_list.or (ix_tup.or ix_str)
theorem mapSeq_set (its : List Value) (n j : Nat) (u : Value) : Obj.mapSeq (·.setIfInBounds j u) { cls := .type "list",data := .seq its.toArray n }={ cls := .type "list",data := .seq (its.set j u).toArray n }:=by
  simp [Obj.mapSeq]
theorem Inv.lst {pins : List (Addr × Obj)} {σ : St} {H : Hp} {s : Shared} {p : Addr} {xs : List V} (I : Inv X pins σ H s) (h : H p=some (.lst xs)) :
    ∃ (its : List Value) (n : Nat),Vals xs its∧s.heap.get? p=some { cls := .type "list",data := .seq its.toArray n }∧xs.length≤sizeLine:=by
  obtain ⟨z,its,n,r,e⟩:=I.hok p _ h
  exact ⟨its,n,r,e,z⟩
theorem Inv.lstUpd {pins : List (Addr × Obj)} {σ : St} {H : Hp} {s : Shared} {p : Addr} {xs ys : List V} {its its' : List Value} {n n' : Nat} {f : Obj→Obj} (I : Inv X pins σ H s) (h : H p=some (.lst xs))
    (ho : s.heap.get? p=some { cls := .type "list",data := .seq its.toArray n }) (hf : f { cls := .type "list",data := .seq its.toArray n }={ cls := .type "list",data := .seq its'.toArray n' }) (r : Vals ys its') (hz : ys.length≤sizeLine) (t : Nat) :
    Inv X pins σ (upd H p (.lst ys)) { s with heap:=s.heap.update p f,toks:=t }:=by
  have e : (s.heap.update p f).get? p=some { cls := .type "list",data := .seq its'.toArray n' }:=by
    rw [Heap.get?_update_self f ho (by rw [hf] <;> rfl),hf]
  refine I.write (x:=p) (e:=p) (by rw [h]; trivial) (.inl rfl) (fun b u hb q=>(Heap.get?_update_other _ _ (Ne.symm hb)).trans q) ⟨_,e⟩ ?_
  exact ⟨hz,its',n',r,e⟩
noncomputable def rSetL : V→V→V→Hp→(Hp→Prop)→Prop:=fun o i v H Q=>L23.E4 fun p xs k j=>L23.A5 (o = .ref p) (i = .int k) (H p=some (.lst xs)) (ixN xs.length k=some j) (Q (upd H p (.lst (xs.set j v))))
theorem set_list : PSet X rSetL:=by
  intro pins s σ H o i v ov iv u Q I ro ri rv h
  obtain ⟨p,xs,k,j,rfl,rfl,hp,hj,q⟩:=h
  cases ro
  obtain ⟨t,rfl⟩:=ri
  obtain ⟨its,n,r,ho,hz⟩:=I.lst hp
  obtain ⟨h1,h2,h3,h4⟩:=ixN_seq hj
  have hl:=r.length
  have hn:=line63
  have I' : Inv X pins σ (upd H p (.lst (xs.set j v))) { s with heap:=s.heap.update p (Obj.mapSeq (·.setIfInBounds j u)) } :=
    I.lstUpd hp ho (mapSeq_set its n j u) (r.set rv j) (by rw [List.length_set]; exact hz) s.toks
  by_cases h0 : 0≤k
  · have hk : k.toNat=j:=by
      rw [seqIndex_of h0 h4] at h1
      exact Option.some.inj h1
    exact PySem.W.ki_setAt ho h0 (by omega) (by rw [List.size_toArray,← hl]; exact h4) (by rw [hk]; exact ⟨_,I',q⟩)
  · have hk : (k + (its.toArray.size : Int)).toNat=j:=by
      rw [seqIndex_neg (by omega) h3] at h1
      rw [List.size_toArray,← hl]
      exact Option.some.inj h1
    exact PySem.W.ki_setBack ho (by omega) (by rw [List.size_toArray,← hl]; exact h3) (by omega) (by rw [hk]; exact ⟨_,I',q⟩)
theorem slice_bounds (lo hi : Option Int) (n : Nat) : (sliceBounds lo hi none n).1=((HT.sIx n 0 lo : Nat) : Int)∧(sliceBounds lo hi none n).2.1=((HT.sIx n n hi : Nat) : Int)∧(sliceBounds lo hi none n).2.2=1:=by
  refine ⟨?_,?_,rfl⟩
  · cases lo with
    | none=>simp [sliceBounds,HT.sIx]
    | some i =>
      simp only [sliceBounds,HT.sIx,Option.getD_none,show (1 : Int) > 0 by decide,if_true]
      by_cases h : i < 0
      · simp only [h,if_true] <;> omega
      · simp only [h,if_false] <;> omega
  · cases hi with
    | none=>simp [sliceBounds,HT.sIx]
    | some i =>
      simp only [sliceBounds,HT.sIx,Option.getD_none,show (1 : Int) > 0 by decide,if_true]
      by_cases h : i < 0
      · simp only [h,if_true] <;> omega
      · simp only [h,if_false] <;> omega
theorem slicePick_cut (its : List Value) (lo hi : Option Int) : slicePick its.toArray lo hi none=((its.drop (HT.sIx its.length 0 lo)).take (HT.sIx its.length its.length hi - HT.sIx its.length 0 lo)).toArray:=by
  obtain ⟨h1,h2,h3⟩:=slice_bounds lo hi its.toArray.size
  unfold slicePick
  rw [h1,h2,h3]
  simp only [sliceRange_one,pick_run,List.size_toArray] <;> rfl
noncomputable def rSlL (K : PySem.W.Frag) : V→Option Int→Option Int→Hp→VK→Prop:=fun x lo hi H Q=>L23.E2 fun a xs=>L23.A3 (x = .ref a) (SqL K H a xs) (∀ p,H p=none→Q (.ref p) (upd H p (.lst (cutV xs lo hi))))
theorem sl_list : SlR X (rSlL X.K):=by
  intro pins s σ H x v vl vu lo hi sl Q I rx hs pl pu h
  obtain ⟨a,xs,rfl,hx,q⟩:=h
  cases rx
  obtain ⟨its,r,ht,hz⟩:=I.list hx
  have hlen:=r.length
  refine ⟨"list",_,slot_list_getitem.lookup,ht.isList.typeIs,?_⟩
  refine wpAny_getItem_list_slice ht.isList hs pl pu .none (by simp) ?_ (by rw [List.size_toArray] <;> omega)
  rw [slicePick_cut,← hlen]
  refine ⟨.ref s.heap.objs.size,_,I.laid (t':=s.toks) (o := .lst (cutV xs lo hi)) (fun b ob q=>Heap.get?_push_of_some _ q) (Nat.le_refl _) ?_,rfl,q _ (I.hok.fresh (Nat.le_refl _))⟩
  exact ⟨Nat.le_trans (cutV_length xs lo hi) hz,_,0,(r.drop (HT.sIx xs.length 0 lo)).take (HT.sIx xs.length xs.length hi - HT.sIx xs.length 0 lo),Heap.get?_push_size _ rfl⟩
noncomputable def flatV : V→Bool
  | .non=>true
  | .bl _=>true
  | .int _=>true
  | .str _=>true
  | _=>false
noncomputable def eqV : V→V→Bool
  | .non,.non=>true
  | .bl a,.bl b=>a == b
  | .bl a,.int b=>(if a then 1 else 0) == b
  | .int a,.bl b=>a == (if b then 1 else 0)
  | .int a,.int b=>a == b
  | .str a,.str b=>a == b
  | _,_=>false
theorem eqAt_V {A : Around} {s : Shared} {y x : V} {u v : Value} (ry : RelV y u) (rx : RelV x v) (fy : flatV y=true) (fx : flatV x=true) : SeqAt.EqAt A s u v (eqV y x):=by
  cases y with
  | non =>
    cases ry
    cases x with
    | non=>cases rx; exact SeqAt.EqAt.same _
    | bl b=>cases rx; exact SeqAt.EqAt.none_bool b
    | int b=>obtain ⟨t,rfl⟩:=rx; exact SeqAt.EqAt.none_int b t
    | str b=>obtain ⟨t,rfl⟩:=rx; exact SeqAt.EqAt.none_str b t
    | _=>exact absurd (show false=true from fx) Bool.false_ne_true
  | bl a =>
    cases ry
    cases x with
    | non=>cases rx; exact SeqAt.EqAt.bool_none a
    | bl b=>cases rx; exact SeqAt.EqAt.bool_bool a b
    | int b=>obtain ⟨t,rfl⟩:=rx; exact SeqAt.EqAt.bool_int a b t
    | str b=>obtain ⟨t,rfl⟩:=rx; exact SeqAt.EqAt.bool_str a b t
    | _=>exact absurd (show false=true from fx) Bool.false_ne_true
  | int a =>
    obtain ⟨t',rfl⟩:=ry
    cases x with
    | non=>cases rx; exact SeqAt.EqAt.int_none a t'
    | bl b=>cases rx; exact SeqAt.EqAt.int_bool a t' b
    | int b=>obtain ⟨t,rfl⟩:=rx; exact SeqAt.EqAt.int_int a t' b t
    | str b=>obtain ⟨t,rfl⟩:=rx; exact SeqAt.EqAt.int_str a t' b t
    | _=>exact absurd (show false=true from fx) Bool.false_ne_true
  | str a =>
    obtain ⟨t',rfl⟩:=ry
    cases x with
    | non=>cases rx; exact SeqAt.EqAt.str_none a t'
    | bl b=>cases rx; exact SeqAt.EqAt.str_bool a t' b
    | int b=>obtain ⟨t,rfl⟩:=rx; exact SeqAt.EqAt.str_int a t' b t
    | str b=>obtain ⟨t,rfl⟩:=rx; exact SeqAt.EqAt.str_str a t' b t
    | _=>exact absurd (show false=true from fx) Bool.false_ne_true
  | _=>exact absurd (show false=true from fy) Bool.false_ne_true
noncomputable def eqU (x : V) (u : Value) : Bool:=match u with
  | .none=>eqV .non x
  | .bool b=>eqV (.bl b) x
  | .int i _=>eqV (.int i) x
  | .str z _=>eqV (.str z) x
  | _=>false
theorem eqU_of {x y : V} {u : Value} (r : RelV y u) (f : flatV y=true) : eqU x u=eqV y x:=by
  cases y with
  | non=>cases r; rfl
  | bl b=>cases r; rfl
  | int i=>obtain ⟨t,rfl⟩:=r; rfl
  | str z=>obtain ⟨t,rfl⟩:=r; rfl
  | _=>exact absurd (show false=true from f) Bool.false_ne_true
theorem any_eqU {x : V} : ∀ {xs : List V} {us : List Value},Vals xs us→xs.all flatV=true→us.any (eqU x)=xs.any fun y=>eqV y x
  | _,_,.nil,_=>rfl
  | y :: xs,u :: us,.cons r t,f=>by
    rw [List.all_cons,Bool.and_eq_true] at f
    rw [List.any_cons,List.any_cons,eqU_of r f.1,any_eqU t f.2]
theorem mem_eqAt {A : Around} {s : Shared} {x : V} {v : Value} (rx : RelV x v) (fx : flatV x=true) : ∀ {xs : List V} {us : List Value},Vals xs us→xs.all flatV=true→∀ u∈us,SeqAt.EqAt A s u v (eqU x u)
  | _,_,.nil,_=>fun u hu=>by cases hu
  | y :: xs,u :: us,.cons r t,f=>fun u' hu=>by
    rw [List.all_cons,Bool.and_eq_true] at f
    rcases List.mem_cons.mp hu with rfl | hu
    · rw [eqU_of r f.1]; exact eqAt_V r rx f.1 fx
    · exact mem_eqAt rx fx t f.2 u' hu
noncomputable def inV (x : V) (xs : List V) : Bool:=xs.any fun y=>eqV y x
noncomputable def rIn (K : PySem.W.Frag) (neg : Bool) : R2:=fun x y H Q=>L23.E2 fun p xs=>L23.A5 (y = .ref p) ((SqL K H p xs∨SqT K H p xs)) (flatV x=true) (xs.all flatV=true) (Q (.bl (if neg then !inV x xs else inV x xs)) H)
theorem op_notIn_seq : OpR X (compareOp .NotIn) (rIn X.K true):=by
  intro pins s σ H x y v u Q I rx ry h
  obtain ⟨p,xs,rfl,hq,fx,fs,q⟩:=h
  cases ry
  rcases hq with hq | hq
  · obtain ⟨its,r,pl,hz⟩:=I.list hq
    refine SeqAt.notIn_listAt (eqU x) pl.isList (fun w hw=>mem_eqAt rx fx r fs w (by simpa using hw)) ⟨.bl _,H,I,rfl,?_⟩
    rw [show its.toArray.any (eqU x)=its.any (eqU x) by simp,any_eqU r fs]
    exact q
  · obtain ⟨its,r,pl,hz⟩:=I.tuple hq
    refine SeqAt.notIn_tupleAt (eqU x) pl (fun w hw=>mem_eqAt rx fx r fs w (by simpa using hw)) ⟨.bl _,H,I,rfl,?_⟩
    rw [show its.toArray.any (eqU x)=its.any (eqU x) by simp,any_eqU r fs]
    exact q
theorem call_list_of : CallR X (.type "list") (fun xs H Q=>L23.E2 fun p ys=>L23.A3 (xs=[.ref p]) ((SqL X.K H p ys∨SqT X.K H p ys)) (∀ l,H l=none→Q (.ref l) (upd H l (.lst ys)))):=by
  intro pins s σ H xs us Q I r h
  obtain ⟨p,ys,rfl,hq,q⟩:=h
  obtain ⟨u,rfl,rx⟩:=vals1 r
  cases rx
  have fin : ∀ (its : List Value),Vals ys its→ys.length≤sizeLine→∀ (h' : Heap) (c' : Nat),(∀ b o',s.heap.get? b=some o'→h'.get? b=some o') →
      h'.get? s.heap.objs.size=some { cls := .type "list",dict:=none,data := .seq its.toArray c',slots:=#[] }→EP X pins σ Q (.ref s.heap.objs.size) { s with heap:=h' }:=fun its r' hz h' c' kp e =>
    ⟨.ref s.heap.objs.size,_,I.laid (t':=s.toks) kp (Nat.le_refl _) (show ObjOk X.prog X.w _ h' _ (.lst ys) from ⟨hz,its,c',r',e⟩),rfl,q _ (I.hok.fresh (Nat.le_refl _))⟩
  rcases hq with hq | hq
  · obtain ⟨its,r',pl,hz⟩:=I.list hq
    have hlen:=r'.length
    obtain ⟨o,ho,hc,n,hd⟩:=pl.isList
    exact call_list_seq p (.inl rfl) ho hc hd (fun h' c' kp e=>fin its r' hz h' c' kp e) (by simp only [List.size_toArray] <;> omega)
  · obtain ⟨its,r',pl,hz⟩:=I.tuple hq
    have hlen:=r'.length
    obtain ⟨o,ho,hc,n,hd⟩:=pl
    exact call_list_seq p (.inr rfl) ho hc hd (fun h' c' kp e=>fin its r' hz h' c' kp e) (by simp only [List.size_toArray] <;> omega)
noncomputable def tyV (K : PySem.W.Frag) (T : String) (x : V) (H : Hp) : Prop:=match x with
  | .str _=>T="str"
  | .int _=>T="int"
  | .ref p=>(T="list"∧∃ xs,SqL K H p xs)∨(T="tuple"∧∃ o,K.lookup p=some o∧o.cls = .type "tuple"∧o.dict=none) ∨
      (T="dict"∧((∃ kvs,H p=some (.dK kvs))∨∃ kvs,H p=some (.dT kvs)))∨(T="set"∧∃ S n,H p=some (.set S n))
  | _=>False
theorem tyV_is {pins : List (Addr × Obj)} {σ : St} {H : Hp} {s : Shared} {T : String} {x : V} {v : Value} (I : Inv X pins σ H s) (r : RelV x v) (ty : tyV X.K T x H) :
    s.TypeIs v T∧∀ a,v = .ref a→∃ ob,s.heap.get? a=some ob∧ob.dict=none:=by
  cases x with
  | str z =>
    obtain ⟨t,rfl⟩:=r
    cases (show T="str" from ty)
    exact ⟨typeIs_str s z t,fun _ e=>nomatch e⟩
  | int i =>
    obtain ⟨t,rfl⟩:=r
    cases (show T="int" from ty)
    exact ⟨typeIs_int s i t,fun _ e=>nomatch e⟩
  | ref p =>
    cases r
    rcases ty with ⟨rfl,xs,hq⟩ | ⟨rfl,o,hk,hc,hd⟩ | ⟨rfl,hk⟩ | ⟨rfl,S,n,hk⟩
    · obtain ⟨its,_,pl,_⟩:=I.list hq
      refine ⟨pl.isList.typeIs,fun a e=>?_⟩
      cases e
      obtain ⟨o,n,e,c,hd,_⟩:=pl
      exact ⟨o,e,hd⟩
    · refine ⟨⟨o,I.kIn p o hk,hc⟩,fun a e=>?_⟩
      cases e
      exact ⟨o,I.kIn _ o hk,hd⟩
    · have z : ∃ o,s.heap.get? p=some o∧o.ExactDict:=by
        rcases hk with ⟨kvs,hk⟩ | ⟨kvs,hk⟩
        · obtain ⟨_,_,_,_,o,_,_,e,ex,_⟩:=I.hok p _ hk
          exact ⟨o,e,ex⟩
        · obtain ⟨_,_,_,_,o,_,_,e,ex,_⟩:=I.hok p _ hk
          exact ⟨o,e,ex⟩
      obtain ⟨o,e,ex⟩:=z
      refine ⟨⟨o,e,ex.1⟩,fun a e2=>?_⟩
      cases e2
      exact ⟨o,e,ex.2.1⟩
    · obtain ⟨o,_,_,_,e,ex,_⟩:=I.hok p _ hk
      refine ⟨⟨o,e,ex.1⟩,fun a e2=>?_⟩
      cases e2
      exact ⟨o,e,ex.2.1⟩
  | _=>exact False.elim ty
noncomputable def tBM0 (K : PySem.W.Frag) (T : String) (r : V→List V→Hp→VK→Prop) (to : TE) : TE:=fun σ H Q=>to σ H fun x H1=>tyV K T x H1∧r x [] H1 Q
noncomputable def tBM (K : PySem.W.Frag) (T : String) (r : V→List V→Hp→VK→Prop) (to : TE) (t : TA) : TE:=fun σ H Q=>to σ H fun x H1=>tyV K T x H1∧t σ H1 fun xs H2=>r x xs H2 Q
variable {o e : Expr} {es : List Expr} {to : TE} {t : TA} {name : Str} {apos cpos : Pos} {T id : String} {r : V→List V→Hp→VK→Prop}
theorem pe_bm0 (pa : PlainAttrs T) (slot : Slot T name id) (hty : typeOf (.builtin id)=pure (.type "method_descriptor")) (hm : MtR X id r) (ho : PE X o to)
    (hbase : attributeBase o name X.env (eval o X.env)=eval o X.env:=by rfl) (hline : (apos.endLine == cpos.line)=true:=by rfl) : PE X (.Call (.Attribute o name apos) [] [] cpos) (tBM0 X.K T r to):=by
  intro pins s σ H Q I h
  refine wpAny_Call_method0_late hbase hline (thn (ho pins s σ H _ I h) fun v s1 ⟨x,H1,I1,r1,ty,q1⟩=>?_)
  obtain ⟨h1,h2⟩:=tyV_is I1 r1 ty
  exact ⟨T,id,pa,slot,hty,h1,h2,Calls.callWith_builtin rfl (PySem.evalArgs_none (hm pins s1 σ H1 x [] v [] Q I1 r1 .nil q1))⟩
theorem pe_bm (pa : PlainAttrs T) (slot : Slot T name id) (hty : typeOf (.builtin id)=pure (.type "method_descriptor")) (hm : MtR X id r) (ho : PE X o to) (ha : PA X (e :: es) t)
    (hbase : attributeBase o name X.env (eval o X.env)=eval o X.env:=by rfl)
    (hfew : ((backTo cpos (starEach (e :: es) X.env)).all (fun x=>!x.1) && (backToKw cpos (keywordEach [] X.env)).all (fun x=>x.1.isSome)
      && decide ((e :: es).length + ([] : List Keyword).length + (if ([] : List Keyword).isEmpty then 0 else 1) < 30))=true:=by rfl)
    (hline : (apos.endLine == cpos.line)=true:=by rfl) (hs : starEach (e :: es) X.env=(false,eval e X.env) :: starEach es X.env:=by rfl) (hplain : (backTo cpos (starEach es X.env)).any (·.1)=false:=by rfl) :
    PE X (.Call (.Attribute o name apos) (e :: es) [] cpos) (tBM X.K T r to t):=by
  intro pins s σ H Q I h
  refine wpAny_Call_method_late hbase hfew hline rfl (thn (ho pins s σ H _ I h) fun v s1 ⟨x,H1,I1,r1,ty,q1⟩=>?_)
  obtain ⟨h1,h2⟩:=tyV_is I1 r1 ty
  refine ⟨T,id,pa,slot,hty,h1,h2,?_⟩
  have hA:=ha cpos pins s1 σ H1 _ I1 q1
  rw [hs] at hA ⊢
  refine Calls.callWith_builtin (by show (false || (backTo cpos (starEach es X.env)).any (·.1))=false; rw [hplain] <;> rfl) (Calls.evalArgs_plain ?_)
  exact thn hA fun us s2 ⟨vs,H2,I2,r2,q2⟩=>hm pins s2 σ H2 x vs v us Q I2 r1 r2 q2
end
end L2
namespace L2
open PySem PySem.Spec PyProof.Rows
noncomputable def MtM (X : Cx) (id : String) (r : V→List V→Hp→VK→Prop) : Prop :=
  ∀ (pins : List (Addr × Obj)) (s : Shared) (σ : St) (H : Hp) (x : V) (xs : List V) (v : Value) (us : List Value) (Q : VK),Inv X pins σ H s→RelV x v→Vals xs us→r x xs H Q →
    wpAny (model X.prog X.w) X.A (call (.builtin id) (v :: us)) (EP X pins σ Q) X.xe s
theorem Vals.one : ∀ {x : V} {us : List Value},Vals [x] us→∃ u,us=[u]∧RelV x u
  := by intro _ _ h; cases h with | cons r t=>cases t; exact ⟨_,rfl,r⟩
theorem Vals.zero : ∀ {us : List Value},Vals [] us→us=[]
  | _,.nil=>rfl
theorem Vals.rep {xs : List V} {us : List Value} (h : Vals xs us) : ∀ k : Nat,Vals (List.replicate k xs).flatten (List.replicate k us).flatten
  | 0 => .nil
  | k + 1=>by
    rw [List.replicate_succ,List.replicate_succ,List.flatten_cons,List.flatten_cons]
    exact Vals.append h (Vals.rep h k)
theorem foldl_rep (its : List Value) : ∀ (k : Nat) (acc : List Value),
    List.foldl (fun x1 x2=>x1 ++ x2) acc.toArray (List.replicate k its.toArray)=(acc ++ (List.replicate k its).flatten).toArray
  | 0,acc=>by simp
  | k + 1,acc=>by
    have e : acc.toArray ++ its.toArray=(acc ++ its).toArray:=by simp
    have e2 : (acc ++ its) ++ (List.replicate k its).flatten=acc ++ (List.replicate (k + 1) its).flatten:=by
      rw [List.replicate_succ,List.flatten_cons,List.append_assoc]
    rw [← e2,← foldl_rep its k (acc ++ its),← e,List.replicate_succ,List.foldl_cons]
section
variable {X : Cx} {pins : List (Addr × Obj)} {σ : St} {H : Hp} {s : Shared} {l b : Addr} {xs ys zs : List V}
theorem Inv.lset {its its' : List Value} {n : Nat} {f : Array Value→Array Value} {t' : Nat} (I : Inv X pins σ H s) (hH : H l=some (.lst xs))
    (e : s.heap.get? l=some { cls := .type "list",data := .seq its.toArray n }) (hf : f its.toArray=its'.toArray) (hv : Vals ys its') (hz : ys.length≤sizeLine) :
    Inv X pins σ (upd H l (.lst ys)) { s with heap:=s.heap.update l (Obj.mapSeq f),toks:=t' }:=by
  have q:=PySem.IsL.update e f
  rw [hf] at q
  refine I.write (x:=l) (e:=l) (by rw [hH]; exact trivial) (.inl rfl) (fun b' u hb hu=>(Heap.get?_update_other s.heap (Obj.mapSeq f) (Ne.symm hb)).trans hu) ⟨_,q⟩ ?_
  exact ⟨hz,its',_,hv,q⟩
theorem Inv.lnew {its : List Value} {t' : Nat} (I : Inv X pins σ H s) (hv : Vals ys its) (hz : ys.length≤sizeLine) :
    Inv X pins σ (upd H s.heap.objs.size (.lst ys)) { s with heap:=s.heap.push { cls := .type "list",data := .seq its.toArray },toks:=t' } :=
  I.laid (fun _ _ q=>Heap.get?_push_of_some _ q) (Nat.le_refl _) ⟨hz,its,0,hv,Heap.get?_push_size _ rfl⟩
theorem Inv.fresh (I : Inv X pins σ H s) : H s.heap.objs.size=none:=I.hok.fresh (Nat.le_refl _)
theorem Inv.lstM (I : Inv X pins σ H s) (hH : H l=some (.lst xs)) : xs.length≤sizeLine∧∃ (its : List Value) (n : Nat),Vals xs its∧xs.length=its.length∧s.heap.get? l=some { cls := .type "list",data := .seq its.toArray n }:=by
  obtain ⟨z,its,n,r,e⟩:=I.hok l _ hH
  exact ⟨z,its,n,r,r.length,e⟩
theorem notLongL {n : Nat} (h : n≤sizeLine) : Builtin.List.listTooLong n=false:=by
  unfold Builtin.List.listTooLong
  exact decide_eq_false (by omega)
end
section
variable {X : Cx}
noncomputable def rAppend : V→List V→Hp→VK→Prop:=fun x vs H Q=>L23.E3 fun l xs y=>L23.A5 (x = .ref l) (vs=[y]) (H l=some (.lst xs)) (xs.length < sizeLine) (Q .non (upd H l (.lst (xs ++ [y]))))
theorem mt_append : MtM X "list.append" rAppend:=by
  intro pins s σ H x vs v us Q I rx rv h
  obtain ⟨l,xs,y,rfl,rfl,hH,hz,q⟩:=h
  cases rx
  obtain ⟨u,rfl,ru⟩:=rv.one
  obtain ⟨z,its,n,r,hl,e⟩:=I.lstM hH
  refine call_meets F.slot_list_append ⟨_,e,rfl⟩ F.entry_list_append (F.args_list_append_2 _ _) (PySem.list_append l its.toArray n u (by rw [List.size_toArray]; omega)) ⟨e,?_⟩
  refine ⟨.non,_,I.lset (its':=its ++ [u]) hH e (by simp) (r.append (.cons ru .nil)) ?_,rfl,q⟩
  rw [List.length_append,List.length_singleton]
  omega
noncomputable def rExtend : V→List V→Hp→VK→Prop:=fun x vs H Q=>L23.E4 fun l b xs zs=>L23.A6 (x = .ref l) (vs=[.ref b]) (H l=some (.lst xs)) (H b=some (.lst zs)) (xs.length + zs.length≤sizeLine) (Q .non (upd H l (.lst (xs ++ zs))))
theorem mt_extend : MtM X "list.extend" rExtend:=by
  intro pins s σ H x vs v us Q I rx rv h
  obtain ⟨l,b,xs,zs,rfl,rfl,hH,hB,hz,q⟩:=h
  cases rx
  obtain ⟨u,rfl,ru⟩:=rv.one
  cases ru
  obtain ⟨z,its,n,r,hl,e⟩:=I.lstM hH
  obtain ⟨z2,its2,n2,r2,hl2,e2⟩:=I.lstM hB
  have hsz : its.toArray.size + its2.toArray.size≤sizeLine:=by rw [List.size_toArray,List.size_toArray]; omega
  have hlong : ¬ (!its.toArray.isEmpty && Builtin.List.listTooLong (its.toArray.size + its2.toArray.size))=true:=by
    rw [notLongL hsz,Bool.and_false]
    exact Bool.false_ne_true
  refine call_meets F.slot_list_extend ⟨_,e,rfl⟩ F.entry_list_extend (F.args_list_extend_2 _ _)
    (AutoSeq1.list_extend_list_list_0 l its.toArray n b its2.toArray n2 hlong (by rw [List.size_toArray]; omega) (by omega)) ⟨e,e2,?_⟩
  refine ⟨.non,_,I.lset (its':=its ++ its2) hH e (by simp) (r.append r2) ?_,rfl,q⟩
  rw [List.length_append]
  omega
noncomputable def rCat : R2:=fun x y H Q=>L23.E4 fun l b xs zs=>L23.A6 (x = .ref l) (y = .ref b) (H l=some (.lst xs)) (H b=some (.lst zs)) (xs.length + zs.length≤sizeLine) (∀ p,H p=none→Q (.ref p) (upd H p (.lst (xs ++ zs))))
theorem op_cat : OpR X (binaryOp .Add) rCat:=by
  intro pins s σ H x y v u Q I rx ry h
  obtain ⟨l,b,xs,zs,rfl,rfl,hH,hB,hz,q⟩:=h
  cases rx
  cases ry
  obtain ⟨z,its,n,r,hl,e⟩:=I.lstM hH
  obtain ⟨z2,its2,n2,r2,hl2,e2⟩:=I.lstM hB
  refine PySem.P.add_list e e2 ?_ (by rw [List.size_toArray,List.size_toArray]; omega)
  have ea : its.toArray ++ its2.toArray=(its ++ its2).toArray:=by simp
  rw [ea]
  exact ⟨.ref _,_,I.lnew (t':=s.toks) (r.append r2) (by rw [List.length_append]; omega),rfl,q _ I.fresh⟩
noncomputable def rRep : R2:=fun x y H Q=>L23.E3 fun l k xs=>L23.A7 (x = .ref l) (y = .int k) (H l=some (.lst xs)) (-(2 ^ 63)≤k) (k < 2 ^ 63) (xs.length * k.toNat≤sizeLine) (∀ p,H p=none→Q (.ref p) (upd H p (.lst (List.replicate k.toNat xs).flatten)))
theorem len_rep {α : Type} (xs : List α) (k : Nat) : (List.replicate k xs).flatten.length=k * xs.length:=by
  induction k with
  | zero=>simp
  | succ k ih=>rw [List.replicate_succ,List.flatten_cons,List.length_append,ih,Nat.succ_mul,Nat.add_comm]
theorem op_rep : OpR X (binaryOp .Mult) rRep:=by
  intro pins s σ H x y v u Q I rx ry h
  obtain ⟨l,k,xs,rfl,rfl,hH,h1,h2,hz,q⟩:=h
  cases rx
  obtain ⟨t,rfl⟩:=ry
  obtain ⟨z,its,n,r,hl,e⟩:=I.lstM hH
  have hlen : its.toArray.size * k.toNat≤sizeLine:=by rw [List.size_toArray,← hl]; exact hz
  have hcap : ¬ its.toArray.size * k.toNat > (2 ^ 63 - 1) / 8:=by
    have : (sizeLine : Nat)≤(2 ^ 63 - 1) / 8:=by decide
    omega
  have hfit : ¬ (!Builtin.List.listFitsIndex k)=true:=by
    rw [fitsIndex_both h1 h2]
    exact Bool.false_ne_true
  have hlong : ¬ Builtin.List.listTooLong (its.toArray.size * k.toNat)=true:=by
    rw [notLongL hlen]
    exact Bool.false_ne_true
  have hnew : List.foldl (fun x1 x2=>x1 ++ x2) #[] (List.replicate (if its.toArray.isEmpty=true then 0 else k.toNat) its.toArray)=(List.replicate k.toNat its).flatten.toArray:=by
    have f0 : ∀ m : Nat,List.foldl (fun x1 x2=>x1 ++ x2) #[] (List.replicate m its.toArray)=(List.replicate m its).flatten.toArray:=fun m=>by
      have:=foldl_rep its m []
      rw [List.nil_append] at this
      exact this
    rw [f0]
    cases its with
    | nil=>simp
    | cons a r'=>rw [if_neg (by simp)]
  refine wpAny_binaryOp_repeat_ref (T:="list") (U:="int") (by decide) ⟨_,e,rfl⟩ (fun s'=>typeIs_int s' k t) noFill_list_mul F.fills_int_mul F.slot_int_rmul repeat_list F.slot_int_index.lookup
    (call_meets F.slot_int_rmul (typeIs_int s k t) F.entry_int_rmul (F.args_int_rmul_2 _ _) (int___rmul___int_list k t l its.toArray n)
      ⟨e,rfl,⟨_,e,rfl⟩,call_meets F.slot_list_mul ⟨_,e,rfl⟩ F.entry_list_mul (F.args_list_mul_2 _ _) (AutoListH.list___mul___list_int_3 l its.toArray n k t hfit hcap hlong) ⟨e,?_⟩⟩)
  rw [hnew]
  exact ⟨.ref _,_,I.lnew (t':=s.toks) (r.rep k.toNat) (by rw [len_rep,Nat.mul_comm]; exact hz),rfl,q _ I.fresh⟩
end
section
variable {prog : Program} {w : World} {A : Around} {E : Value→Shared→Prop} {s : Shared}
end
section
variable {X : Cx}
end
end L2
namespace L2
open PySem PySem.Spec PyProof.Rows
section
variable {κ : Type} [DecidableEq κ]
noncomputable def valV (kvs : List (κ × V)) (k : κ) : Option V:=(kvs.find? fun kv=>decide (kv.1=k)).map (·.2)
noncomputable def putK (kvs : List (κ × V)) (k : κ) (v : V) : List (κ × V) :=
  if (kvs.any fun kv=>decide (kv.1=k))=true then kvs.map (fun kv=>if kv.1=k then (kv.1,v) else kv) else kvs ++ [(k,v)]
theorem RelO.getD {o : Option V} {u : Option Value} {d : V} {d' : Value} (r : RelO o u) (rd : RelV d d') : RelV (o.getD d) (u.getD d'):=by
  cases o with
  | none=>cases u with
    | none=>exact rd
    | some _=>exact (show False from r).elim
  | some _=>cases u with
    | none=>exact (show False from r).elim
    | some _=>exact r
end
noncomputable abbrev KT (H : Hp) : List (List Key × V)→List (List Key × Addr × Value)→Prop:=Paired fun p q=>p.1=q.1∧H q.2.1=some (.tup (p.1.map kV))∧RelV p.2 q.2.2
theorem KT.keeps {H H' : Hp} {kvs : List (List Key × V)} {xs : List (List Key × Addr × Value)} (r : KT H kvs xs) (ht : ∀ b ys,H b=some (.tup ys)→H' b=some (.tup ys)) : KT H' kvs xs :=
  Paired.mapP r fun _ _ z=>⟨z.1,ht _ _ z.2.1,z.2.2⟩
section
variable {P : Program} {w : World} {H : Hp} {h : Heap} {a : Addr}
end
noncomputable def DGet (H : Hp) (a : Addr) (y : V) (r : Option V) : Prop :=
  (∃ kvs k,Rd H a (.dK kvs)∧y=kV k∧r=valV kvs k)∨∃ kvs k b,Rd H a (.dT kvs)∧y = .ref b∧H b=some (.tup (k.map kV))∧r=valV kvs k
noncomputable def DPut (H : Hp) (a : Addr) (y v : V) (H' : Hp) : Prop :=
  (∃ kvs k,H a=some (.dK kvs)∧y=kV k∧kvs.length < sizeLine∧H'=upd H a (.dK (putK kvs k v))) ∨
  ∃ kvs k b,H a=some (.dT kvs)∧y = .ref b∧H b=some (.tup (k.map kV))∧kvs.length < sizeLine∧H'=upd H a (.dT (putK kvs k v))
theorem DGet.k {H : Hp} {a : Addr} {kvs : List (Key × V)} {k : Key} (e : H a=some (.dK kvs)) : DGet H a (kV k) (valV kvs k) := .inl ⟨kvs,k,.inl e,rfl,rfl⟩
theorem DGet.t {H : Hp} {a b : Addr} {kvs : List (List Key × V)} {k : List Key} (e : H a=some (.dT kvs)) (eb : H b=some (.tup (k.map kV))) : DGet H a (.ref b) (valV kvs k) := .inr ⟨kvs,k,b,.inl e,rfl,eb,rfl⟩
theorem DPut.k {H : Hp} {a : Addr} {kvs : List (Key × V)} {k : Key} {v : V} (e : H a=some (.dK kvs)) (hl : kvs.length < sizeLine) : DPut H a (kV k) v (upd H a (.dK (putK kvs k v))) := .inl ⟨kvs,k,e,rfl,hl,rfl⟩
theorem DPut.t {H : Hp} {a b : Addr} {kvs : List (List Key × V)} {k : List Key} {v : V} (e : H a=some (.dT kvs)) (eb : H b=some (.tup (k.map kV))) (hl : kvs.length < sizeLine) :
    DPut H a (.ref b) v (upd H a (.dT (putK kvs k v))) := .inr ⟨kvs,k,b,e,rfl,eb,hl,rfl⟩
section
variable {X : Cx} {pins : List (Addr × Obj)} {σ : St} {H : Hp} {s : Shared} {a : Addr} {y v : V} {u r : Value} {o : Option V} {A : Around} {E : Value→Shared→Prop}
end
section
variable {X : Cx} {pins : List (Addr × Obj)} {σ : St} {H : Hp} {s : Shared} {a : Addr} {kvs : List (Key × V)} {k : Key} {u : Value} {A : Around} {E : Value→Shared→Prop}
end
section
variable {X : Cx} {o i e value : Expr} {pos pos' tpos : Pos} {td ty tv : TE}
end
section
variable {X : Cx} {pos : Pos}
end
structure M1 (X : Cx) (o : Expr) (m : Str) (apos : Pos) (e : Expr) (cpos : Pos) : Prop where
  base : attributeBase o m X.env (eval o X.env)=eval o X.env
  few : ((backTo cpos (starEach [e] X.env)).all (fun x=>!x.1) && (backToKw cpos (keywordEach [] X.env)).all (fun x=>x.1.isSome)
    && decide (([e] : List Expr).length + ([] : List Keyword).length + (if ([] : List Keyword).isEmpty then 0 else 1) < 30))=true
  line : (apos.endLine == cpos.line)=true
  trees : backTo cpos (starEach [e] X.env)=[(false,eval e X.env)]
structure M2 (X : Cx) (o : Expr) (m : Str) (apos : Pos) (e f : Expr) (cpos : Pos) : Prop where
  base : attributeBase o m X.env (eval o X.env)=eval o X.env
  few : ((backTo cpos (starEach [e,f] X.env)).all (fun x=>!x.1) && (backToKw cpos (keywordEach [] X.env)).all (fun x=>x.1.isSome)
    && decide (([e,f] : List Expr).length + ([] : List Keyword).length + (if ([] : List Keyword).isEmpty then 0 else 1) < 30))=true
  line : (apos.endLine == cpos.line)=true
  trees : backTo cpos (starEach [e,f] X.env)=[(false,eval e X.env),(false,eval f X.env)]
section
variable {X : Cx} {pins : List (Addr × Obj)} {σ : St} {H : Hp} {s : Shared} {a : Addr} {y d : V} {u r : Value} {o : Option V} {A : Around} {E : Value→Shared→Prop}
end
section
variable {X : Cx} {o e f : Expr} {apos cpos : Pos} {td ty tx : TE}
end
section
variable {X : Cx} {pins : List (Addr × Obj)} {σ : St} {H : Hp} {s : Shared} {a : Addr} {kvs : List (Key × V)} {A : Around} {E : Value→Shared→Prop}
end
section
variable {X : Cx} {pins : List (Addr × Obj)} {σ : St} {H : Hp} {s : Shared} {a : Addr} {y : V} {u : Value} {A : Around} {E : Value→Shared→Prop}
end
end L2
namespace Att
open PySem PySem.W PySem.Calls PyProof.Rows
theorem ints_of_wellAll {P : Params} {h : Heap} : ∀ (ns : List Int) (vs : List Value),WellAll P h vs (ns.map WData.int)→IntsAre vs ns:=by
  intro ns
  induction ns with
  | nil =>
    intro vs w
    rw [List.map_nil] at w
    cases w
    exact .nil
  | cons n ns ih =>
    intro vs w
    rw [List.map_cons] at w
    cases w with
    | cons a b =>
      cases a
      exact .cons _ _ (ih _ b)
theorem script_of {l : OpenLaw} {n : Nat} (hn : l.most=some n) {P : Params} {h : Heap} {args : List WData} {vals : List Value}
    (hpre : l.row.toRowW.claim.pre args=true) (hwl : WellAll P h vals args) :
    ∃ a vs ns,vals=[Value.ref a]∧args=[WData.list (ns.map WData.int)]∧h.get? a=some { cls := .type "list",data := .seq vs.toArray }∧IntsAre vs ns∧ns.length≤n:=by
  have hsh : WShape.hasAll [] args [.list .int]=true:=(pre_splitW hpre).1
  have hc : l.pre.holds [] { args:=args }=true:=(pre_splitW hpre).2
  obtain ⟨d,r,rfl,h1,h2⟩:=hasAllW_cons hsh
  obtain rfl:=hasAllW_nil h2
  obtain ⟨xs,rfl,h3⟩:=hasW_list h1
  obtain ⟨ns,rfl⟩:=items_int h3
  have hlen : ns.length≤n:=by
    unfold OpenLaw.pre at hc
    have h4 : (WTm.not (.lt (.lit (.int (n : Int))) (.len (.arg 0)))).holds [] { args:=[.list (ns.map .int)] }=true:=by
      have h4:=(holds_andW hc).1
      rw [hn] at h4
      exact h4
    have h5:=condW_of h4 (w_not (w_lt w_lit (w_len_list (w_arg rfl))))
    rw [List.length_map] at h5
    refine Nat.le_of_not_lt fun q=>?_
    have q' : (n : Int) < ((ns.length : Nat) : Int):=by omega
    first
      | (rw [decide_eq_true q'] at h5; exact absurd h5 (by decide))
      | (simp at h5; omega)
  cases hwl with
  | cons w1 w2 =>
    cases w2
    cases w1 with
    | list ho hall=>exact ⟨_,_,ns,rfl,rfl,ho,ints_of_wellAll ns _ hall,hlen⟩
theorem post_true (l : OpenLaw) (args : List WData) : l.row.toRowW.claim.post args (.bool true) args=true :=
  postW_of (r:=l.row.toRowW) (X:=(true == true))
    (show WShape.has [] (.bool true) .bool=true by first | rfl | decide | simp [WShape.has,WShape.arms,WShape.armsAll])
    (show (WTm.eq .res (.lit (.bool true))).value [] { args:=args,res:=some (.bool true),after:=args }=some (.bool (true == true)) from w_eq_bool (w_res rfl) w_lit) rfl
theorem attach_call {l : OpenLaw} {n : Nat} {q : Program} {loose : List Str} {XP : (Str→Option Value)→Heap→Prop} {YP : World→Heap→Prop} {d : DefRec}
    (hn : l.most=some n) (hdf : d.params.defaults=[])
    (call : ∀ (w : World) (s₀ s₁ : Shared) (mg mb : Str→Option Value) (fa : Addr) (o : Obj) (pm cd doc : Value) (a : Addr) (vs : List Value) (ns : List Int),
      Ground q loose [] XP w s₀ mg mb s₁.heap→YP w s₁.heap →
      s₁.heap.get? fa=some o→o.data = .func (docDef d.name d.params d.body d.scope pm cd doc)→s₁.heap.CodeRec cd d.name→mg d.name=some (.ref fa) →
      s₁.heap.get? a=some { cls := .type "list",data := .seq vs.toArray }→IntsAre vs ns→ns.length≤n→s₁.gens=#[] →
      codeAny (model l.prog w) callerA (.call (.ref fa) ⟨[.ref a],[]⟩) (fun r s'=>r = .ok (.ret (.bool true))∧OldK s₁.heap s'.heap∧s'.os=s₁.os∧AllBare s'.gens) s₁) :
    WalkO q loose XP YP l.row.toRowW d [] (fun f vs=>PySem.call f vs):=by
  intro w s₀ s₁ mg mb G Y fa o pm cd doc dV kV ho hd hcd hD hmg hg args vals as hpre hlay hrd hwl hlo
  obtain rfl : dV = .none:=Dflts.none hD hdf
  obtain rfl : kV = .none:=Dflts.noKw hD
  obtain ⟨a,vs,ns,rfl,rfl,hobj,hints,hlen⟩:=script_of hn hpre hwl
  refine enter_call (codeAny_mono (call w s₀ s₁ mg mb fa o pm cd doc a vs ns G Y ho (fd_plain hd) hcd hmg hobj hints hlen hg) fun r s' hq=>?_)
  obtain ⟨rfl,h2,h3,h4⟩:=hq
  exact ⟨.inl ⟨.bool true,.bool true,[],rfl,fun _=>rfl,.bool true,post_true l _,fun _=>⟨List.Pairwise.nil,fun _ hm=>(nomatch hm)⟩⟩,h2,h3,h4⟩
section
variable {prog : Program} {w : World} {A : Around} {E : Value→Shared→Prop} {s : Shared} {K : Frag}
noncomputable def noObjs (h : Heap) : Heap:={ h with objs:=#[] }
theorem noObjs_get (h : Heap) (b : Addr) : (noObjs h).get? b=none:=by
  cases e : (noObjs h).get? b with
  | none=>rfl
  | some o=>exact absurd (Heap.lt_size e) (Nat.not_lt_zero _)
noncomputable def ledger (h : Heap) (L d : Addr) : List (Addr × Obj):=(List.range h.objs.size).filterMap fun a=>if a=L∨a=d then none else (h.get? a).map fun o=>(a,o)
theorem fr_all {h : Heap} {L : Addr} {m : Str→Option Value} (n : h.Ns L m) : Fr (noObjs h) L h m :=
  ⟨n,fun b o e=>(by rw [noObjs_get] at e; cases e),Nat.zero_le _⟩
end
end Att
namespace L2
open PySem PySem.Spec PyProof.Rows
theorem vals_ints : ∀ {vs : List Value} {ns : List Int},IntsAre vs ns→Vals (ns.map V.int) vs
  | _,_,.nil => .nil
  | _,_,.cons n t h => .cons ⟨t,rfl⟩ (vals_ints h)
end L2
namespace L2
open PySem PySem.Spec PyProof.Rows
end L2
namespace L2
open PySem PySem.Spec PyProof.Rows
noncomputable def inClass (s : Stmt) (j : Nat) : Stmt:=match s with
  | .ClassDef _ _ _ body _ _ _ _ _ _ _=>body.getD j (.Pass ⟨0,0,0,0⟩)
  | _ => .Pass ⟨0,0,0,0⟩
noncomputable def defArgs (s : Stmt) : Arguments:=match s with
  | .FunctionDef _ a _ _ _ _ _ _ _ _=>a
  | _=>{ posonlyargs:=[],args:=[],vararg:=none,kwonlyargs:=[],kw_defaults:=[],kwarg:=none,defaults:=[] }
noncomputable def defBody (s : Stmt) : List Stmt:=match s with
  | .FunctionDef _ _ b _ _ _ _ _ _ _=>b
  | _=>[]
noncomputable def defScope (s : Stmt) : Scope:=match s with
  | .FunctionDef _ _ _ _ _ _ sc _ _ _=>sc
  | _=>{ kind := .function,names:=[],isGenerator:=false,isCoroutine:=false }
noncomputable abbrev CX0 : CXT:=fun _ _ _ _ _ _=>False
noncomputable abbrev E0 : XK:=fun _ _ _=>False
theorem pass0 {X : Cx} : Passes CX0 X E0:=fun _ _ _ _ _ _ _ h=>h.elim
structure Fun (K : PySem.W.Frag) (x qual : Str) (st : Stmt) (f : Addr) (fd : FuncData) : Prop where
  ex : ∃ (oc : Value) (od : Option Addr) (kV doc pm : Value) (an : Option Addr) (cdv ct : Value) (osl : Array (Option Value)),
    fd=PySem.W.fnOf x qual (defArgs st) (defBody st) (defScope st) .none kV doc pm an cdv ct∧K.lookup f=some ⟨oc,od,.func fd,osl⟩∧PySem.W.codeIn K cdv qual=true
  kp : PySem.W.keepIn K (.ref f)=true
section
variable {P : Program} {w : World} {K : PySem.W.Frag} {mg : Str→Option Value} {base : Heap}
theorem Fun.ok {x qual : Str} {st : Stmt} {f : Addr} {fd : FuncData} {N ps : List Str} {k : Nat} {sp : Sp} (F : Fun K x qual st f fd) (S : FnScope N ps (defScope st)) (len : ∀ vs H Q E,sp vs H Q E→vs.length=ps.length)
    (hbody : ∀ (cdv : Value) (A : Around) (outer : List Env) (s : Shared) (H : Hp) (vs : List V) (Q : VK) (E : XK),Room k (A.deeper (envOfC qual (defScope st) s.heap.objs.size f cdv))→sp vs H Q E →
      ∃ t,PSs (cxOf CX0 P w K mg base N qual (defScope st) f cdv A outer s H E).nox (defBody st) t∧t { nx:=fun _ H'=>Q .non H',rt:=Q } (start N vs) H) : FnOk P w K mg base CX0 (k + 1) f fd ps sp:=by
  obtain ⟨oc,od,kV,doc,pm,an,cdv,ct,osl,rfl,lk,hcd⟩:=F.ex
  refine fn_of lk hcd S len fun A outer s H vs Q E hr hsp=>?_
  obtain ⟨t,h,q⟩:=hbody cdv A outer s H vs Q E hr hsp
  exact ⟨t,h.nox,q⟩
theorem Fun.binds {x qual : Str} {st : Stmt} {f : Addr} {fd : FuncData} {ps : List Str} (F : Fun K x qual st f fd)
    (h : ∀ (kV doc pm : Value) (an : Option Addr) (cdv ct : Value) (us : List Value),us.length=ps.length→bindArgs (PySem.W.fnOf x qual (defArgs st) (defBody st) (defScope st) .none kV doc pm an cdv ct) ⟨us,[]⟩=pure (ps.zip us)) : Binds K fd ps []:=by
  obtain ⟨oc,od,kV,doc,pm,an,cdv,ct,osl,rfl,lk,hcd⟩:=F.ex
  exact .all (h kV doc pm an cdv ct)
theorem fun_mk {x qual : Str} {st : Stmt} {f : Addr} {oc : Value} {od an : Option Addr} {osl : Array (Option Value)} {kV doc pm cdv ct : Value} (l : K.lookup f=some ⟨oc,od,.func (PySem.W.fnOf x qual (defArgs st) (defBody st) (defScope st) .none kV doc pm an cdv ct),osl⟩)
    (c : PySem.W.codeIn K cdv qual=true) (k : PySem.W.keepIn K (.ref f)=true) : Fun K x qual st f (PySem.W.fnOf x qual (defArgs st) (defBody st) (defScope st) .none kV doc pm an cdv ct):=⟨⟨oc,od,kV,doc,pm,an,cdv,ct,osl,rfl,l,c⟩,k⟩
end
theorem hu_of {A : Around} {k : Nat} (hr : Room k A) : A.units + 1 < cLine:=Nat.lt_of_le_of_lt (Nat.add_le_add_left (by decide : 1≤64) _) hr.units
section
variable {X : Cx}
end
theorem iteF {A B : Prop} (h : B) : if false=true then A else B:=by
  rw [if_neg Bool.false_ne_true]
  exact h
theorem iteT {A B : Prop} (h : A) : if true=true then A else B:=by
  rw [if_pos rfl]
  exact h
theorem ite2 {c A B : Prop} [Decidable c] (h1 : c→A) (h2 : ¬ c→B) : if c then A else B:=by
  by_cases h : c
  · rw [if_pos h]
    exact h1 h
  · rw [if_neg h]
    exact h2 h
noncomputable def Same (H H' : Hp) : Prop:=∀ b o,H b=some o→H' b=some o
theorem Same.refl (H : Hp) : Same H H:=fun _ _ h=>h
theorem Same.trans {H H1 H2 : Hp} (a : Same H H1) (b : Same H1 H2) : Same H H2:=fun c o h=>b c o (a c o h)
theorem Same.free {H H' : Hp} (e : Same H H') {l : Addr} (h : H' l=Option.none) : H l=Option.none:=by
  cases q : H l with
  | none=>rfl
  | some o =>
    rw [e l o q] at h
    cases h
theorem Same.seq {K : PySem.W.Frag} {H H' : Hp} {a : Addr} {xs : List V} (e : Same H H') (h : SqL K H a xs) : SqL K H' a xs:=by
  rcases h with (h | ⟨o,h⟩) | h
  · exact .inl (.inl (e _ _ h))
  · exact .inl (.inr ⟨o,e _ _ h⟩)
  · exact .inr h
section
variable {X : Cx}
end
section
variable {κ : Type} [DecidableEq κ]
end
end L2
namespace L3
open PySem PySem.Spec PyProof.Rows L2
noncomputable def wQ (env : Env) : List (Str × NameKind)→List (Str × Addr)→List (Str × Addr)
  | [],cs=>cs
  | (n,k) :: r,cs=>wQ env r (if k == .free then match env.cells.lookup n with | some c=>(n,c) :: cs | none=>cs else cs)
noncomputable def xN (scope : Scope) (env : Env) : List (Str × Addr):=wQ env scope.names []
theorem We {scope : Scope} {env : Env} (h : ∀ p∈scope.names,p.2 = .free→∃ c,env.cells.lookup p.1=some c) : closureFor scope env=pure (xN scope env):=by
  unfold closureFor xN
  have go : ∀ (l : List (Str × NameKind)) (cs : List (Str × Addr)),(∀ p∈l,p.2 = .free→∃ c,env.cells.lookup p.1=some c) →
      (forIn l cs fun (p : Str × NameKind) (r : List (Str × Addr))=>(do
        if p.2 == NameKind.free then
          let c ← cellOf env p.1
          pure (ForInStep.yield ((p.1,c) :: r))
        else pure (ForInStep.yield r) : Sem (ForInStep (List (Str × Addr)))))=(pure (wQ env l cs) : Sem (List (Str × Addr))):=by
    intro l
    induction l with
    | nil=>intro cs _; rfl
    | cons p l ih =>
      intro cs hl
      obtain ⟨n,k⟩:=p
      rw [List.forIn_cons]
      by_cases hk : k = .free
      · subst hk
        obtain ⟨c,hc⟩:=hl (n,.free) List.mem_cons_self rfl
        have e : cellOf env n=pure c:=by
          unfold cellOf
          have hc' : env.cells.lookup n=some c:=hc
          rw [hc']
        simp only [beq_self_eq_true,if_true,e,pure_bind]
        rw [ih _ fun p hp=>hl p (List.mem_cons_of_mem _ hp)]
        have hc' : env.cells.lookup n=some c:=hc
        simp only [wQ,beq_self_eq_true,if_true,hc']
      · have hb : (k == NameKind.free)=false:=by simpa using hk
        simp only [hb,Bool.false_eq_true,if_false,pure_bind]
        rw [ih _ fun p hp=>hl p (List.mem_cons_of_mem _ hp)]
        simp only [wQ,hb,Bool.false_eq_true,if_false]
  have:=go scope.names [] h
  simp only [bind_pure] at this ⊢
  exact this
theorem Z7 {env : Env} : ∀ {l : List (Str × NameKind)} {cs : List (Str × Addr)} {n : Str} {c : Addr},(n,c)∈wQ env l cs→(n,c)∈cs∨((n,NameKind.free)∈l∧env.cells.lookup n=some c)
  | [],_,_,_,h => .inl h
  | (m,k) :: r,cs,n,c,h=>by
    rcases Z7 (l:=r) h with h | ⟨h1,h2⟩
    · by_cases hk : k = .free
      · subst hk
        simp only [beq_self_eq_true,if_true] at h
        cases e : env.cells.lookup m with
        | none=>rw [e] at h; exact .inl h
        | some d =>
          rw [e] at h
          rcases List.mem_cons.mp h with q | q
          · cases q
            exact .inr ⟨List.mem_cons_self,e⟩
          · exact .inl q
      · have hb : (k == NameKind.free)=false:=by simpa using hk
        simp only [hb,Bool.false_eq_true,if_false] at h
        exact .inl h
    · exact .inr ⟨List.mem_cons_of_mem _ h1,h2⟩
theorem Zy {env : Env} : ∀ {l : List (Str × NameKind)} {cs : List (Str × Addr)} {p : Str × Addr},p∈cs→p∈wQ env l cs
  | [],_,_,h=>h
  | (m,k) :: r,cs,p,h=>by
    refine Zy (l:=r) ?_
    by_cases hk : k = .free
    · subst hk
      simp only [beq_self_eq_true,if_true]
      cases e : env.cells.lookup m with
      | none=>exact h
      | some d=>exact List.mem_cons_of_mem _ h
    · have hb : (k == NameKind.free)=false:=by simpa using hk
      simp only [hb,Bool.false_eq_true,if_false]
      exact h
theorem Yr {env : Env} {n : Str} {c : Addr} (e : env.cells.lookup n=some c) : ∀ {l : List (Str × NameKind)} {cs : List (Str × Addr)},(n,NameKind.free)∈l→(n,c)∈wQ env l cs
  | (m,k) :: r,cs,h=>by
    rcases List.mem_cons.mp h with q | q
    · cases q
      refine Zy (l:=r) ?_
      simp only [beq_self_eq_true,if_true,e]
      exact List.mem_cons_self
    · exact Yr e (l:=r) q
theorem Zv {α : Type} {n : Str} {c : α} : ∀ {l : List (Str × α)},(n,c)∈l→∃ d,l.lookup n=some d
  | (m,d) :: r,h=>by
    by_cases e : n=m
    · subst e
      exact ⟨d,by simp⟩
    · have hb : (n == m)=false:=beq_eq_false_iff_ne.mpr e
      rcases List.mem_cons.mp h with q | q
      · cases q; exact absurd rfl e
      · obtain ⟨d',hd⟩:=Zv q
        exact ⟨d',by simp only [List.lookup,hb]; exact hd⟩
theorem vV {scope : Scope} {env : Env} {x : Str} : ∀ {names : List (Str × NameKind)} {k : NameKind},
    (names.map fun (n,k)=>if (k == NameKind.free && env.scope.kind == .function && env.kindOf n == some .cell) then (n,NameKind.cell) else (n,k)).lookup x=some k →
    names.lookup x=some k∨(names.lookup x=some .free∧k = .cell)
  | [],k,h=>by simp at h
  | (n,j) :: r,k,h=>by
    have ih:=@vV scope env x r k
    rw [List.map_cons] at h
    dsimp only at h
    cases hx : x == n with
    | true =>
      simp only [List.lookup_cons,hx]
      by_cases hc : (j == NameKind.free && env.scope.kind == .function && env.kindOf n == some .cell)=true
      · rw [if_pos hc] at h
        simp only [List.lookup_cons,hx] at h
        have hj : j = .free:=by
          have:=(Bool.and_eq_true_iff.mp (Bool.and_eq_true_iff.mp hc).1).1
          simpa using this
        cases h
        exact .inr ⟨by rw [hj],rfl⟩
      · rw [if_neg hc] at h
        simp only [List.lookup_cons,hx] at h
        exact .inl h
    | false =>
      simp only [List.lookup_cons,hx]
      by_cases hc : (j == NameKind.free && env.scope.kind == .function && env.kindOf n == some .cell)=true
      · rw [if_pos hc] at h; simp only [List.lookup_cons,hx] at h; exact ih h
      · rw [if_neg hc] at h; simp only [List.lookup_cons,hx] at h; exact ih h
theorem Zz {env : Env} {x : Str} : ∀ {names : List (Str × NameKind)},names.lookup x=some .free →
    (names.map fun (n,k)=>if (k == NameKind.free && env.scope.kind == .function && env.kindOf n == some .cell) then (n,NameKind.cell) else (n,k)).lookup x=some .cell ∨
    (names.map fun (n,k)=>if (k == NameKind.free && env.scope.kind == .function && env.kindOf n == some .cell) then (n,NameKind.cell) else (n,k)).lookup x=some .free
  | [],h=>by simp at h
  | (n,j) :: r,h=>by
    have ih:=@Zz env x r
    rw [List.map_cons]
    dsimp only
    cases hx : x == n with
    | true =>
      simp only [List.lookup_cons,hx] at h
      cases h
      by_cases hc : (NameKind.free == NameKind.free && env.scope.kind == .function && env.kindOf n == some .cell)=true
      · rw [if_pos hc]; exact .inl (by simp only [List.lookup_cons,hx])
      · rw [if_neg hc]; exact .inr (by simp only [List.lookup_cons,hx])
    | false =>
      simp only [List.lookup_cons,hx] at h
      by_cases hc : (j == NameKind.free && env.scope.kind == .function && env.kindOf n == some .cell)=true
      · rw [if_pos hc]; simp only [List.lookup_cons,hx]; exact ih h
      · rw [if_neg hc]; simp only [List.lookup_cons,hx]; exact ih h
noncomputable def zU (X : Cx) (N : List Str) (scope : Scope) (fp : List Addr) (s : Shared) (H : Hp) : Cx where
  prog:=X.prog
  w:=X.w
  K:=X.K
  mg:=X.mg
  base:=X.base
  A:=X.A
  N:=N
  s₀:=s
  H₀:=H
  env:=compEnvC scope (xN scope X.env) s.heap.objs.size X.env
  outer:=X.stack
  stack:=X.stack
  ex:=fp
  fn:=fun _=>false
  calm:=X.calm
  pn:=[]
  xe:=fun _ _=>False
structure vM (X : Cx) (scope : Scope) (N : List Str) (own : Nat) (js : List Nat) : Prop where
  kind : scope.kind = .function
  cells : ∀ p∈scope.names,p.2 ≠ .cell
  locs : ∀ p∈scope.names,p.2 = .local→scope.names.lookup p.1=some .local
  frees : ∀ p∈scope.names,p.2 = .free→scope.names.lookup p.1=some .free∧(X.env.scope.names.lookup p.1=some .cell∨X.env.scope.names.lookup p.1=some .free)
  len : N.length=own + js.length
  at_ : ∀ (k i : Nat) (x : Str),js[k]?=some i→N[own + k]?=some x→X.N[i]?=some x∧scope.names.lookup x=some .free
noncomputable def VI (scope sc : Scope) (N M : List Str) (own : Nat) (js : List Nat) : Bool :=
  decide (scope.kind = .function) && scope.names.all (fun p=>p.2 != .cell) && scope.names.all (fun p=>p.2 != .local || scope.names.lookup p.1 == some .local) &&
  scope.names.all (fun p=>p.2 != .free || (scope.names.lookup p.1 == some .free && (sc.names.lookup p.1 == some .cell || sc.names.lookup p.1 == some .free))) &&
  decide (N.length=own + js.length) && (js.zip (N.drop own)).all fun q=>M[q.1]? == some q.2 && scope.names.lookup q.2 == some .free
theorem zM {X : Cx} {scope : Scope} {N : List Str} {own : Nat} {js : List Nat} (sc : Scope) (M : List Str) (h1 : X.env.scope=sc) (h2 : X.N=M) (h : VI scope sc N M own js=true) : vM X scope N own js:=by
  unfold VI at h
  simp only [Bool.and_eq_true,decide_eq_true_eq,List.all_eq_true] at h
  obtain ⟨⟨⟨⟨⟨a1,a2⟩,a3⟩,a4⟩,a5⟩,a6⟩:=h
  refine ⟨a1,fun p hp=>by simpa using a2 p hp,fun p hp hk=>?_,fun p hp hk=>?_,a5,fun k i x e1 e2=>?_⟩
  · have:=a3 p hp
    rw [hk] at this
    simpa using this
  · have:=a4 p hp
    rw [hk] at this
    rw [h1]
    simpa using this
  · have hm : (i,x)∈js.zip (N.drop own):=by
      refine List.mem_of_getElem? (i:=k) ?_
      rw [List.getElem?_zip_eq_some]
      exact ⟨e1,by rw [List.getElem?_drop]; exact e2⟩
    have:=a6 _ hm
    rw [h2]
    simpa using this
noncomputable def jn (own : Nat) (js : List Nat) (σ : L2.St) : L2.St:=List.replicate own none ++ js.map fun i=>(σ[i]?).join
section
variable {X : Cx} {pins : List (Addr × Obj)} {σ : L2.St} {H : Hp} {s : Shared} {scope : Scope} {N : List Str} {own : Nat} {js : List Nat} {fp : List Addr}
theorem xx (I : Inv X pins σ H s) {x : Str} {c : Addr} (e : (xN scope X.env).lookup x=some c) : X.env.cells.lookup x=some c:=by
  rcases Z7 (PySem.mem_of_lookup e) with h | ⟨_,h⟩
  · cases h
  · exact h
theorem Z8 (C : vM X scope N own js) (I : Inv X pins σ H s) {x : Str} (h : scope.names.lookup x=some .free) : ∃ c,(xN scope X.env).lookup x=some c∧X.env.cells.lookup x=some c:=by
  have hm:=PySem.mem_of_lookup h
  obtain ⟨c,hc⟩:=I.ok.has x (C.frees _ hm rfl).2
  obtain ⟨d,hd⟩:=Zv (Yr (cs:=[]) hc hm)
  exact ⟨d,hd,xx I hd⟩
theorem Zw (C : vM X scope N own js) (I : Inv X pins σ H s) : closureFor scope X.env=pure (xN scope X.env) :=
  We fun p hp hk=>I.ok.has p.1 (C.frees p hp hk).2
theorem V2 (C : vM X scope N own js) (I : Inv X pins σ H s) (hf : ∀ b∈fp,FpOk X pins H b) (ho : ∀ b∈fp,∃ o,s.heap.get? b=some o∧∀ v,o.data ≠ .cell v) {h₁ : Heap} {t₁ : Nat} {m : Str→Option Value}
    (hn : h₁.Ns s.heap.objs.size m) (hk : ∀ b o,s.heap.get? b=some o→h₁.get? b=some o) : Inv (zU X N scope fp s H) [] (jn own js σ) H { s with heap:=h₁,toks:=t₁ }:=by
  have hlt : ∀ b∈fp,b < s.heap.objs.size:=fun b hb=>by
    obtain ⟨o,e,_⟩:=ho b hb
    exact Heap.lt_size e
  refine ⟨⟨I.ok.mod,C.kind,I.ok.glob,I.ok.blt,Nat.le_refl _,fun x y c h1 h2=>?_,fun x hx=>?_,fun x c hx _=>?_,I.ok.hd,I.ok.frames,.inl rfl,fun b hb=>⟨Nat.ne_of_lt (hlt b hb),fun x c e=>?_⟩,I.bs,Nat.le_trans I.ok.bsz I.sz,fun b o e hb=>?_,fun b hb z=>?_,I.stack,I.stkFree⟩,
    rfl,I.bare,Un.kept hk,⟨m,hn,fun i x v h1 h2 h3=>?_⟩,fun x c e=>?_,I.hok.fresh (Nat.le_refl _),fun x c e=>I.freeC x c (xx I e),fun p hp=>?_,I.hok.kept hk,?_⟩
  · exact I.ok.inj x y c (xx I h1) (xx I h2)
  · have hx' : (relabel scope X.env).names.lookup x=some .cell∨(relabel scope X.env).names.lookup x=some .free:=hx
    have hfree : scope.names.lookup x=some .free:=by
      rcases hx' with hx' | hx'
      · rcases vV (scope:=scope) hx' with q | ⟨q,_⟩
        · exact absurd rfl (C.cells _ (PySem.mem_of_lookup q))
        · exact q
      · rcases vV (scope:=scope) hx' with q | ⟨q,_⟩
        · exact q
        · exact q
    obtain ⟨c,hc,_⟩:=Z8 C I hfree
    exact ⟨c,hc⟩
  · exact absurd hx Bool.false_ne_true
  · exact (hf b hb).2.2.2.2.1 x c (xx I e)
  · rcases (hf b hb).2.2.2.1 with z | z
    · exact I.ok.noex b o e z
    · exact absurd (Nat.lt_of_lt_of_le (Heap.lt_size e) (Nat.le_trans I.ok.bsz z)) (Nat.lt_irrefl _)
  · rcases List.mem_cons.mp (I.stkSub b z) with q | q
    · exact (hf b hb).2.1 q
    · exact (hf b hb).2.2.1 q
  · -- a name of the block that has a value
    have hN : N[i]?=some x:=h1
    have hi : own≤i:=by
      refine Nat.le_of_not_lt fun hlt'=>?_
      unfold jn at h2
      rw [List.getElem?_append_left (by simpa using hlt'),List.getElem?_replicate] at h2
      split at h2 <;> cases h2
    obtain ⟨k,rfl⟩:=Nat.exists_eq_add_of_le hi
    unfold jn at h2
    rw [List.getElem?_append_right (by simp),List.length_replicate,Nat.add_sub_cancel_left,List.getElem?_map] at h2
    cases ej : js[k]? with
    | none=>rw [ej] at h2; cases h2
    | some j =>
      rw [ej] at h2
      have h2' : (σ[j]?).join=some v:=Option.some.inj h2
      have hσ : σ[j]?=some (some v):=by
        cases eσ : σ[j]? with
        | none=>rw [eσ] at h2'; cases h2'
        | some ov =>
          rw [eσ] at h2'
          have : ov=some v:=h2'
          rw [this]
      obtain ⟨hXN,hfree⟩:=C.at_ k j x ej hN
      have hkind:=(C.frees _ (PySem.mem_of_lookup hfree) rfl).2
      obtain ⟨m0,hn0,hl⟩:=I.loc
      obtain ⟨u,r,l⟩:=hl j x v hXN hσ (by rcases hkind with q | q; exact .inr (.inl q); exact .inr (.inr q))
      refine ⟨u,r,.inr ⟨Zz hfree,?_⟩⟩
      obtain ⟨c,hc,hc'⟩:=Z8 C I hfree
      refine ⟨c,hc,?_⟩
      rcases l with ⟨l1,_⟩ | ⟨_,c',e',z⟩
      · have l1' : X.env.scope.names.lookup x=some .local:=l1
        rcases hkind with q | q
        · rw [q] at l1'; cases l1'
        · rw [q] at l1'; cases l1'
      · rw [hc'] at e'
        cases e'
        obtain ⟨o,ho',hd'⟩:=z
        exact ⟨o,hk _ _ ho',hd'⟩
  · obtain ⟨v,o,ho',hd'⟩:=I.cell x c (xx I e)
    exact ⟨v,o,hk _ _ ho',hd'⟩
  · exact absurd (show p∈([] : List (Addr × Obj)) from hp) (by simp)
  · unfold jn
    show _=N.length
    rw [List.length_append,List.length_replicate,List.length_map,C.len]
theorem za5 {σ' : L2.St} {H' : Hp} {s' : Shared} (I : Inv X pins σ H s) (hf : ∀ b∈fp,FpOk X pins H b) (J : Inv (zU X N scope fp s H) [] σ' H' s') : Inv X pins σ H' s' :=
  I.call' (ch:=fp) J.os J.base J.hok J.bare fun b hb=>⟨(hf b hb).2.2.2.1,(hf b hb).2.1,(hf b hb).2.2.2.2.1,(hf b hb).2.2.2.2.2⟩
end
noncomputable def Ye (X : Cx) (ifs : List Expr) (t : TT) : Prop :=
  ∀ (pins : List (Addr × Obj)) (s : Shared) (σ : L2.St) (H : Hp) (Q : Bool→Hp→Prop),Inv X pins σ H s→t σ H Q →
    wpAny (model X.prog X.w) X.A (forIn ifs true fun c r=>if r=true then do let ok ← isTrue c X.env (eval c X.env); pure (ForInStep.yield ok) else pure (ForInStep.yield r)) (TP X pins σ Q) X.xe s
noncomputable def zeW : TT:=fun _ H Q=>Q true H
theorem zG {X : Cx} : Ye X [] zeW:=fun _ _ _ H _ I h=>wpAny_tests_nil ⟨H,I,h⟩
theorem vn {X : Cx} {c : Expr} {t : TT} (hc : PT X c t) : Ye X [c] t:=fun pins s σ H Q I h=>wpAny_tests_one (hc pins s σ H Q I h)
noncomputable def vZ (D : Addr) (J : It) (g : TG) (tc : TT) (te : TE) (Q : Hp→Prop) (W : Nat→Nat→List V→L2.St→Hp→Prop) : Prop :=
  ∀ i m ys σ H,W i m ys σ H→H D=some (.lst ys)∧ys.length < sizeLine ∧
    ((J.stop i H∧Q H)∨(J.go i H∧∃ (N1 : V→L2.St→Hp→Prop) (N0 : L2.St→Hp→Prop),
      (∀ y σ2 H4,N1 y σ2 H4→H4 D=some (.lst ys)∧∃ m',m' < m∧W (i + 1) m' (ys ++ [y]) σ2 (upd H4 D (.lst (ys ++ [y]))))∧(∀ σ2 H3,N0 σ2 H3→∃ m',m' < m∧W (i + 1) m' ys σ2 H3) ∧
      ∀ x H1,J.yld i H x H1→g x σ H1 fun σ2 H2=>tc σ2 H2 fun b H3=>if b=true then te σ2 H3 fun y H4=>N1 y σ2 H4 else N0 σ2 H3))
noncomputable def zb4 (own : Nat) (js : List Nat) (wi : TI) (g : TG) (tc : TT) (te : TE) : TE:=fun σ H Q=>wi σ H fun J H1=>∀ D,H1 D=none →
  ∃ W : Nat→Nat→List V→L2.St→Hp→Prop,(∃ m,W 0 m [] (jn own js σ) (upd H1 D (.lst [])))∧vZ D J g tc te (fun H'=>Q (.ref D) H') W
section
variable {X : Cx} {elt tg iter : Expr} {ifs : List Expr} {scope : Scope} {pos : Pos} {N : List Str} {own : Nat} {js : List Nat} {wi : TI} {g : TG} {tc : TT} {te : TE}
theorem Ys {pins : List (Addr × Obj)} {σ : L2.St} {H : Hp} {s : Shared} {it : Addr} {fp : List Addr} {tn : Nat→Heap→Prop} {J : It} {E : Value→Shared→Prop} {Q : V→Hp→Prop} {R : Value→Addr→Result→Shared→Prop}
    (hc : X.calm=true) (C : vM X scope N own js) (hg : ∀ fp s H,PG (zU X N scope fp s H) tg g) (ht : ∀ fp s H,Ye (zU X N scope fp s H) ifs tc) (he : ∀ fp s H,PE (zU X N scope fp s H) elt te)
    (I : Inv X pins σ H s) (T : Turn X.prog X.w X.K tg J fp it tn) (st : tn 0 s.heap) (hf : ∀ b∈fp,FpOk X pins H b)
    (h : ∀ D,H D=none→∃ W : Nat→Nat→List V→L2.St→Hp→Prop,(∃ m,W 0 m [] (jn own js σ) (upd H D (.lst [])))∧vZ D J g tc te (fun H'=>Q (.ref D) H') W)
    (hR : ∀ (D L : Addr) (H' : Hp) (s' : Shared),Inv X pins σ H' s'→(∃ m,s'.heap.Ns L m)→H' L=none→L≠X.env.locals→X.s₀.heap.objs.size≤L→(∀ x c,X.env.cells.lookup x=some c→c≠L)→(∀ p∈X.pn ++ pins,p.1≠L) →
      Q (.ref D) H'→R (.ref D) L (.ok .next) s') :
    wpAny (model X.prog X.w) X.A (newList []) (fun acc s₃=>wpAny (model X.prog X.w) X.A (newFunctionEnv scope X.env.globals (xN scope X.env) [] X.env.qual none .none (some X.env)) (fun cenv s₄ =>
      codeAny (model X.prog X.w) X.A (.compStart (.ListComp elt [⟨tg,iter,ifs,0⟩] scope pos) 0 (.ref it) acc { cenv with scope:=relabel scope X.env }) (R acc cenv.locals) s₄) E s₃) E s:=by
  have hD : H s.heap.objs.size=none:=I.hok.fresh (Nat.le_refl _)
  obtain ⟨W,⟨m0,w0⟩,turn⟩:=h _ hD
  refine wpAny_newObj_type (wpAny_newFunctionEnv C.cells (by intro y hy; simp at hy) (fun h₁ za6 za7=>?_) C.kind)
  have I3 : Inv X pins σ (upd H s.heap.objs.size (.lst [])) { s with heap:=s.heap.push { cls := .type "list",data := .seq ([] : List Value).toArray },toks:=s.toks }:=I.lnew (its:=[]) .nil (Nat.zero_le _)
  have hf3 : ∀ b∈fp,FpOk X pins (upd H s.heap.objs.size (.lst [])) b:=fun b hb=>by
    obtain ⟨o,e,_⟩:=T.obj 0 _ st b hb
    exact ⟨by rw [upd_ne (Nat.ne_of_lt (Heap.lt_size e))]; exact (hf b hb).1,(hf b hb).2⟩
  have st3 : tn 0 (s.heap.push { cls := .type "list",data := .seq ([] : List Value).toArray }):=T.keep 0 _ _ st fun b hb o e=>Heap.get?_push_of_some _ e
  dsimp only at za6 za7 ⊢
  generalize hs3 : ({ s with heap:=s.heap.push { cls := .type "list",data := .seq ([] : List Value).toArray },toks:=s.toks } : Shared)=s3 at I3
  have eh : s.heap.push { cls := .type "list",dict:=none,data := .seq ([] : List Value).toArray }=s3.heap:=by rw [← hs3]
  rw [eh] at za6 za7 st3 ⊢
  have old : ∀ b o,s3.heap.get? b=some o→h₁.get? b=some o:=fun b o e=>za7.extBut b o (Nat.ne_of_lt (Heap.lt_size e)) (Heap.get?_push_of_some _ e)
  generalize hH3 : upd H s.heap.objs.size (.lst [])=H3 at I3 hf3 w0
  have J0 : Inv (zU X N scope fp s3 H3) [] (jn own js σ) H3 { s3 with heap:=h₁,toks:=s3.toks + ([] : List (Str × Value)).length }:=V2 C I3 hf3 (T.obj 0 _ st3) za6 old
  have st0 : tn 0 h₁:=T.keep 0 _ _ st3 fun b hb o e=>old b o e
  have stat : ∀ {H' : Hp},(∀ b∈fp,H' b=none)→∀ b∈fp,FpOk (zU X N scope fp s3 H3) [] H' b:=fun hn b hb=>by
    refine ⟨hn b hb,J0.ok.exf b hb |>.1,J0.ok.exfs b hb,.inl hb,(J0.ok.exf b hb).2,fun p hp=>absurd (show p∈([] : List (Addr × Obj)) from hp) (by simp)⟩
  have loop : ∀ s₄ : Shared,s₄={ s3 with heap:=h₁,toks:=s3.toks + ([] : List (Str × Value)).length } →
      codeAny (model X.prog X.w) X.A (.compLoop (.ListComp elt [⟨tg,iter,ifs,0⟩] scope pos) 0 (.ref it) (.ref s.heap.objs.size) (zU X N scope fp s3 H3).env) (R (.ref s.heap.objs.size) s3.heap.objs.size) s₄:=by
    rintro s₄ rfl
    refine codeAny_loop rfl (fun n s'=>∃ i ys σ' H',Inv (zU X N scope fp s3 H3) [] σ' H' s'∧tn i s'.heap∧(∀ b∈fp,H' b=none)∧W i n ys σ' H') ?_ m0 ⟨0,[],_,_,J0,st0,fun b hb=>(hf3 b hb).1,w0⟩
    rintro n s5 ⟨i,ys,σ5,H5,I5,st5,fr5,w5⟩
    show wpAny _ X.A ((compTurn (.ListComp elt [⟨tg,iter,ifs,0⟩] scope pos) 0 (.ref it) (.ref s.heap.objs.size) (zU X N scope fp s3 H3).env).onRaise (fun x=>do noteFrame x (zU X N scope fp s3 H3).env; theTreesLotGoes x)) _ _ s5
    refine wpAny_noted ?_
    rw [compTurn_list]
    obtain ⟨hD5,hz5,hw5⟩:=turn i n ys σ5 H5 w5
    refine wpAny_bind (wpAny_standAt (wpAny_bind ?_))
    rcases hw5 with ⟨stop,q⟩ | ⟨go,N1,N0,hN1,hN0,step⟩
    · refine wpAny_mono (T.done (zU X N scope fp s3 H3) rfl rfl rfl hc i [] s5 σ5 H5 (fun _ _=>False) I5 (stat fr5) st5 stop) (fun r s6 ⟨hr,I6⟩=>?_) fun _ _ z=>z.elim
      subst hr
      obtain ⟨m,hm,_⟩:=id I6.loc
      have IX:=za5 I3 hf3 I6
      exact wpAny_pure (hR _ s3.heap.objs.size H5 s6 IX ⟨m,hm⟩ I6.free (Nat.ne_of_gt I3.lt) I3.sz (fun x c e z=>by
        obtain ⟨v,o,ho,_⟩:=I3.cell x c e
        rw [z] at ho
        exact absurd (Heap.lt_size ho) (Nat.lt_irrefl _)) (fun p hp z=>by
        have e:=(I3.pin p hp).1
        rw [z] at e
        exact absurd (Heap.lt_size e) (Nat.lt_irrefl _)) q)
    · refine wpAny_mono (T.item (zU X N scope fp s3 H3) rfl rfl rfl hc i [] s5 σ5 H5 (fun _ _=>False) I5 (stat fr5) st5 go) (fun r s6 ⟨u,hr,h6⟩=>?_) fun _ _ z=>z.elim
      subst hr
      refine wpAny_bind (wpAny_mono h6 (fun _ s7 ⟨x,H7,I7,r7,y7,st7,fr7⟩=>?_) fun _ _ z=>z.elim)
      have I7':=I7.pinned (stat fr7) (T.obj _ _ st7)
      refine wpAny_bind (wpAny_mono (hg fp s3 H3 _ s7 σ5 H7 x u _ I7' r7 (step x H7 y7)) (fun _ s8 ⟨σ8,H8,I8,q8⟩=>?_) fun _ _ z=>z.elim)
      refine wpAny_bind (wpAny_mono (ht fp s3 H3 _ s8 σ8 H8 _ I8 q8) (fun ok s9 ⟨H9,I9,q9⟩=>?_) fun _ _ z=>z.elim)
      have again : ∀ {sx : Shared} {Hx : Hp} {ys' : List V},Inv (zU X N scope fp s3 H3) ([] ++ pinsAt fp s7.heap) σ8 Hx sx→(∃ m',m' < n∧W (i + 1) m' ys' σ8 Hx) →
          ∃ m,m < n∧∃ i ys σ' H',Inv (zU X N scope fp s3 H3) [] σ' H' sx∧tn i sx.heap∧(∀ b∈fp,H' b=none)∧W i m ys σ' H':=fun {sx Hx ys'} Ix ⟨m',hm,wx⟩=>by
        refine ⟨m',hm,i + 1,ys',σ8,Hx,Ix.unpinned,T.keep _ _ _ st7 fun b hb o e=>(Ix.pin (b,o) (List.mem_append_right _ (List.mem_append_right _ (mem_pinsAt hb e)))).1,fun b hb=>?_,wx⟩
        obtain ⟨o,e,d⟩:=T.obj _ _ st7 b hb
        exact (Ix.pin (b,o) (List.mem_append_right _ (List.mem_append_right _ (mem_pinsAt hb e)))).2.1
      cases ok with
      | false =>
        rw [if_neg Bool.false_ne_true] at q9
        exact wpAny_pure ⟨rfl,again I9 (hN0 _ _ q9)⟩
      | true =>
        rw [if_pos rfl] at q9
        show wpAny _ X.A ((do let _ ← call (.builtin "list.append") [.ref s.heap.objs.size,← eval elt (zU X N scope fp s3 H3).env]) >>= _) _ _ s9
        refine wpAny_bind (wpAny_bind (wpAny_mono (he fp s3 H3 _ s9 σ8 H9 _ I9 q9) (fun v s10 ⟨y,H10,I10,r10,n10⟩=>?_) fun _ _ z=>z.elim))
        obtain ⟨za8,q10⟩:=hN1 _ _ _ n10
        refine wpAny_bind (wpAny_mono (mt_append (X:=zU X N scope fp s3 H3) _ s10 σ8 H10 (.ref s.heap.objs.size) [y] (.ref s.heap.objs.size) [v] (fun _ H'=>H'=upd H10 s.heap.objs.size (.lst (ys ++ [y]))) I10 rfl (.cons r10 .nil)
          ⟨_,ys,y,rfl,rfl,za8,hz5,rfl⟩) (fun _ s11 ⟨_,H11,I11,_,e11⟩=>?_) fun _ _ z=>z.elim)
        subst e11
        exact wpAny_pure (wpAny_pure ⟨rfl,again I11 q10⟩)
  have es : ({ s with heap:=h₁,toks:=s.toks + ([] : List (Str × Value)).length } : Shared)={ s3 with heap:=h₁,toks:=s3.toks + ([] : List (Str × Value)).length }:=by rw [← hs3]
  exact codeAny_compStart_list (loop _ es) (T.self _ _ _ _ _ st0 (loop _ es))
theorem zN (hc : X.calm=true) (C : vM X scope N own js) (hi : PI X tg iter wi) (hg : ∀ fp s H,PG (zU X N scope fp s H) tg g) (ht : ∀ fp s H,Ye (zU X N scope fp s H) ifs tc) (he : ∀ fp s H,PE (zU X N scope fp s H) elt te)
    (hs : ∀ x,foldedSetIterable iter X.env x=pure x:=by intro _; rfl) : PE X (.ListComp elt [⟨tg,iter,ifs,0⟩] scope pos) (zb4 own js wi g tc te):=by
  intro pins s σ H Q I h
  rw [eval_ListComp]
  refine wpAny_comprehension_free (use:=none) rfl hs (Zw C I) C.kind C.locs (thn (hi pins s σ H _ I h) fun v s1 h1=>thn h1 fun itv s2 h2=>?_)
  obtain ⟨it,fp,tn,J,H2,e,I2,T,st2,f2,hW⟩:=h2
  subst e
  refine Ys (R:=fun acc L=>compPost (model X.prog X.w) X.A X.xe none (EP X pins σ Q) acc L) hc C hg ht he I2 T st2 f2 hW fun D L H' s' I' hm hL1 hL2 hL3 hL4 hL5 q=>?_
  obtain ⟨m,hm⟩:=hm
  refine ⟨m,hm,fun h' sb=>⟨.ref D,H',?_,rfl,q⟩⟩
  exact I'.turned (t':=s'.toks) (fun b o hb e=>(sb.2 b hb).trans e) hL1 hL2 (.inr hL3) hL4 hL5
noncomputable def zb5 (i own : Nat) (js : List Nat) (wi : TI) (g : TG) (tc : TT) (te : TE) : TS:=fun D σ H=>zb4 own js wi g tc te σ H fun v H'=>D.nx (σ.set i (some v)) H'
theorem zcu {i : Nat} {x : Str} {px : Pos} (hc : X.calm=true) (nd : X.N.Nodup) (hx : X.N[i]?=some x) (hl : X.env.kindOf x=some .local) (C : vM X scope N own js) (hi : PI X tg iter wi) (hg : ∀ fp s H,PG (zU X N scope fp s H) tg g)
    (ht : ∀ fp s H,Ye (zU X N scope fp s H) ifs tc) (he : ∀ fp s H,PE (zU X N scope fp s H) elt te) {spos : Pos}
    (hsw : swapsWith (.ListComp elt [⟨tg,iter,ifs,0⟩] scope pos) (some (.Name x px)) spos.line X.env=pure true) (hs : ∀ x,foldedSetIterable iter X.env x=pure x:=by intro _; rfl) :
    PS X (.Assign [.Name x px] (.ListComp elt [⟨tg,iter,ifs,0⟩] scope pos) spos) (zb5 i own js wi g tc te):=by
  intro pins s σ H D I h
  rw [exec_Assign_Name_used _ _ _ _ hsw]
  refine wpAny_bind (wpAny_standAt (wpAny_bind ?_))
  show wpAny _ X.A (do let _ ← comprehension (.ListComp elt [⟨tg,iter,ifs,0⟩] scope pos) scope X.env _ (newList []) false (eval iter X.env) (some (assign (.Name x px) X.env))) _ _ s
  refine wpAny_bind (wpAny_mono (wpAny_comprehension_free (use:=some (assign (.Name x px) X.env)) (Q:=fun _ s'=>SP X pins D .next s') rfl hs (Zw C I) C.kind C.locs
    (thn (hi pins s σ H _ I h) fun v s1 h1=>thn h1 fun itv s2 h2=>?_)) (fun _ s' hq=>wpAny_pure (wpAny_pure hq)) fun _ _ e=>e)
  obtain ⟨it,fp,tn,J,H2,e,I2,T,st2,f2,hW⟩:=h2
  subst e
  refine Ys (Q:=fun v H'=>D.nx (σ.set i (some v)) H') (R:=fun acc L=>compPost (model X.prog X.w) X.A X.xe (some (assign (.Name x px) X.env)) (fun _ s'=>SP X pins D .next s') acc L) hc C hg ht he I2 T st2 f2 hW fun A L H' s' I' hm hL1 hL2 hL3 hL4 hL5 q=>?_
  obtain ⟨m,hm⟩:=hm
  show wpAny _ X.A (assign (.Name x px) X.env (.ref A)) _ _ _
  refine wpAny_assign_Name (store_ok2 I' nd hx (.inl hl) (v := .ref A) rfl (fun s7 I7 ⟨a,sb,ha⟩=>?_) (.inr hl))
  have hLa : L≠a:=by
    rcases ha with rfl | ha
    · exact hL2
    · exact (hL4 _ _ ha).symm
  refine ⟨m,hm.sameBut sb hLa,fun h' sb'=>⟨_,H',?_,q⟩⟩
  exact I7.turned (t':=s7.toks) (fun b o hb e=>(sb'.2 b hb).trans e) hL1 hL2 (.inr hL3) hL4 hL5
end
end L3
namespace L3
open PySem PySem.Spec PyProof.Rows L2
mutual
noncomputable def zx (K : PySem.W.Frag) (H : Hp) : V→PyData→Prop
  | v,.none=>v = .non
  | v,.bool b=>v = .bl b
  | v,.int i=>v = .int i
  | v,.str x=>v = .str x
  | v,.list ds=>∃ a xs,v = .ref a∧Rd H a (.lst xs)∧zc K H xs ds
  | v,.tuple ds=>∃ a xs,v = .ref a∧H a=some (.tup xs)∧zc K H xs ds
  | _,.dict _=>False
noncomputable def zc (K : PySem.W.Frag) (H : Hp) : List V→List PyData→Prop
  | xs,[]=>xs=[]
  | xs,d :: ds=>∃ y ys,xs=y :: ys∧zx K H y d∧zc K H ys ds
end
theorem Rd.same {H H' : Hp} {a : Addr} {u : HO} (e : Same H H') (h : Rd H a u) : Rd H' a u:=by
  rcases h with h | ⟨o,h⟩
  · exact .inl (e _ _ h)
  · exact .inr ⟨o,e _ _ h⟩
mutual
theorem zx.same {K : PySem.W.Frag} {H H' : Hp} (e : Same H H') : ∀ (d : PyData) {v : V},zx K H v d→zx K H' v d
  | .none,_,h=>by unfold zx at h ⊢; exact h
  | .bool _,_,h=>by unfold zx at h ⊢; exact h
  | .int _,_,h=>by unfold zx at h ⊢; exact h
  | .str _,_,h=>by unfold zx at h ⊢; exact h
  | .list ds,v,h=>by
    unfold zx at h ⊢
    obtain ⟨a,xs,h1,h2,h3⟩:=h
    exact ⟨a,xs,h1,Rd.same e h2,zc.same e ds h3⟩
  | .tuple ds,v,h=>by
    unfold zx at h ⊢
    obtain ⟨a,xs,h1,h2,h3⟩:=h
    exact ⟨a,xs,h1,e _ _ h2,zc.same e ds h3⟩
  | .dict _,_,h=>by unfold zx at h; exact h.elim
theorem zc.same {K : PySem.W.Frag} {H H' : Hp} (e : Same H H') : ∀ (ds : List PyData) {xs : List V},zc K H xs ds→zc K H' xs ds
  | [],_,h=>by unfold zc at h ⊢; exact h
  | d :: ds,_,h=>by
    unfold zc at h ⊢
    obtain ⟨y,ys,h1,h2,h3⟩:=h
    exact ⟨y,ys,h1,zx.same e d h2,zc.same e ds h3⟩
end
section
variable {X : Cx}
theorem XZ : OpR X (compareOp .IsNot) (fun x y H Q=>L23.E2 fun c d=>L23.A3 (x = .bl c) (y = .bl d) (Q (.bl (c != d)) H)):=by
  intro pins s σ H x y v u Q I rx ry h
  obtain ⟨c,d,rfl,rfl,q⟩:=h
  cases rx
  cases ry
  exact isnot_bool ⟨.bl _,H,I,rfl,q⟩
theorem ZA (hc : X.calm=true) : CallR X (.builtin "all") (fun xs H Q=>L23.E2 fun (p : Addr) (bs : List Bool)=>L23.A3 (xs=[.ref p]) (SqL X.K H p (bs.map V.bl)) (Q (.bl (bs.all id)) H)):=by
  intro pins s σ H xs us Q I r h
  obtain ⟨p,bs,rfl,hq,q⟩:=h
  obtain ⟨u,rfl,rx⟩:=vals1 r
  cases rx
  obtain ⟨its,rv,pl,hz⟩:=I.list hq
  have hl:=rv.length
  rw [List.length_map] at hl
  refine call_all_walk (wpAny_pyIter_list pl.isList ?_)
  have hp : p < s.heap.objs.size:=by obtain ⟨o,n,e,_⟩:=pl; exact Heap.lt_size e
  refine ⟨s.heap.objs.size,_,_,its.toArray.size,_,_,fun i=>bs.getD i true,rfl,Walks.list (by show X.A.handled=none; exact I.ok.hd hc) s.heap.objs.size p (Nat.ne_of_lt hp) its.toArray,
    ⟨⟨_,Heap.get?_push_size _ rfl,rfl,rfl⟩,pl.isList.push _⟩,fun i v s' Q' E' hv hQ=>?_,fun h' tk hk=>?_⟩
  · have hv' : its[i]?=some v:=by simpa using hv
    have hi : i < its.length:=(List.getElem?_eq_some_iff.mp hv').1
    obtain ⟨u',e1,r1⟩:=rv.get (x:=V.bl (bs[i]'(by omega))) (i:=i) (by rw [List.getElem?_map,List.getElem?_eq_getElem (by omega)]; rfl)
    rw [hv'] at e1
    cases e1
    cases r1
    refine wpAny_truthy_bool ?_
    have e2 : bs.getD i true=bs[i]'(by omega):=by rw [List.getD_eq_getElem?_getD,List.getElem?_eq_getElem (by omega)]; rfl
    have hQ' : Q' (bs.getD i true) s':=hQ
    rw [e2] at hQ'
    exact hQ'
  · have e : (List.range its.toArray.size).all (fun i=>bs.getD i true)=bs.all id:=by
      rw [List.size_toArray,← hl]
      clear q hq rv hl
      rw [Bool.eq_iff_iff,List.all_eq_true,List.all_eq_true]
      constructor
      · intro h1 b hb
        obtain ⟨i,hi,rfl⟩:=List.mem_iff_getElem.mp hb
        have:=h1 i (List.mem_range.mpr hi)
        rw [List.getD_eq_getElem?_getD,List.getElem?_eq_getElem hi] at this
        exact this
      · intro h1 i hi
        have hi':=List.mem_range.mp hi
        rw [List.getD_eq_getElem?_getD,List.getElem?_eq_getElem hi']
        exact h1 _ (List.getElem_mem hi')
    rw [e]
    refine ⟨.bl _,H,I.kept fun b o eb=>hk b o ?_ (Heap.get?_push_of_some _ eb),rfl,q⟩
    intro z
    have : b=s.heap.objs.size:=by simpa using z
    rw [this] at eb
    exact absurd (Heap.lt_size eb) (Nat.lt_irrefl _)
end
structure jo (J : It) (xs : List V) (P : Hp→Prop) : Prop where
  go : ∀ i H,P H→i < xs.length→J.go i H
  stop : ∀ H,P H→J.stop xs.length H
  yld : ∀ i H x H',P H→i < xs.length→J.yld i H x H'→H'=H∧xs[i]?=some x
theorem zF {K : PySem.W.Frag} {a : Addr} {xs : List V} : jo (Itl K a) xs (fun H=>SqL K H a xs) where
  go:=fun i H h hi=>⟨xs,xs[i],h,by simp [hi]⟩
  stop:=fun H h=>⟨xs,h,Nat.le_refl _⟩
  yld:=fun i H x H' h _ y=>⟨y.1,y.2 xs h⟩
theorem xO {lo : Int} {n : Nat} {P : Hp→Prop} : jo (Itr lo n) ((List.range n).map fun i=>V.int (lo + (i : Nat))) P where
  go:=fun i H _ hi=>(by simpa using hi : i < n)
  stop:=fun H _=>by show n≤_; simp
  yld:=fun i H x H' _ hi y=>by
    obtain ⟨e1,e2⟩:=y
    subst e2
    have hi' : i < n:=by simpa using hi
    exact ⟨e1,by rw [List.getElem?_map,List.getElem?_range hi']; rfl⟩
theorem j6 {J : It} {xs : List V} {P : Hp→Prop} {D : Addr} {g : TG} {tc : TT} {te : TE} {Q : Hp→Prop} {σ : L2.St} {H : Hp} (Y : jo J xs P) (Pv : Nat→List V→L2.St→Hp→Prop) (h0 : Pv 0 [] σ H)
    (hD : ∀ i ys σ H,Pv i ys σ H→P H∧H D=some (.lst ys)∧ys.length≤i) (hz : xs.length < sizeLine)
    (step : ∀ i x ys σ H,xs[i]?=some x→Pv i ys σ H→g x σ H fun σ2 H2=>tc σ2 H2 fun b H3=>if b=true then te σ2 H3 fun y H4=>H4 D=some (.lst ys)∧Pv (i + 1) (ys ++ [y]) σ2 (upd H4 D (.lst (ys ++ [y]))) else Pv (i + 1) ys σ2 H3)
    (hq : ∀ ys σ H,Pv xs.length ys σ H→Q H) : ∃ W : Nat→Nat→List V→L2.St→Hp→Prop,(∃ m,W 0 m [] σ H)∧vZ D J g tc te Q W:=by
  refine ⟨fun i m ys σ H=>m=xs.length - i∧i≤xs.length∧Pv i ys σ H,⟨xs.length,by simp,Nat.zero_le _,h0⟩,?_⟩
  rintro i m ys σ H ⟨rfl,hi,p⟩
  obtain ⟨h1,h2,h3⟩:=hD i ys σ H p
  refine ⟨h2,by omega,?_⟩
  by_cases hlt : i < xs.length
  · refine .inr ⟨Y.go i H h1 hlt,fun y σ2 H4=>H4 D=some (.lst ys)∧Pv (i + 1) (ys ++ [y]) σ2 (upd H4 D (.lst (ys ++ [y]))),fun σ2 H3=>Pv (i + 1) ys σ2 H3,fun y σ2 H4 q=>⟨q.1,xs.length - (i + 1),by omega,rfl,hlt,q.2⟩,
      fun σ2 H3 q=>⟨xs.length - (i + 1),by omega,rfl,hlt,q⟩,fun x H1 y=>?_⟩
    obtain ⟨e,y'⟩:=Y.yld i H x H1 h1 hlt y
    subst e
    exact step i x ys σ _ y' p
  · have e : i=xs.length:=by omega
    subst e
    exact .inl ⟨Y.stop H h1,hq ys σ H p⟩
end L3
namespace L3
open PySem PySem.Spec PyProof.Rows L2
theorem vN {J : It} {xs : List V} {P : Hp→Prop} {D : Addr} {g : TG} {tc : TT} {te : TE} {Q : Hp→Prop} {σ : L2.St} {H : Hp} (hD : H D=none) (Y : jo J xs P) (S : L2.St→Prop) (f : V→Option V) (h0 : S σ) (hP : ∀ H',Same H H'→P H') (hz : xs.length < sizeLine)
    (step : ∀ (x : V) (ys : List V) (σ : L2.St) (H' : Hp) (R1 : L2.St→V→Hp→Prop) (R0 : L2.St→Hp→Prop),x∈xs→S σ→Same H H'→(∀ σ2 y H4,S σ2→f x=some y→Same H' H4→R1 σ2 y H4)→(∀ σ2 H3,S σ2→f x=none→Same H' H3→R0 σ2 H3) →
      g x σ H' fun σ2 H2=>tc σ2 H2 fun b H3=>if b=true then te σ2 H3 fun y H4=>R1 σ2 y H4 else R0 σ2 H3)
    (hq : ∀ H',Same H H'→H' D=some (.lst (xs.filterMap f))→Q H') : ∃ W : Nat→Nat→List V→L2.St→Hp→Prop,(∃ m,W 0 m [] σ (upd H D (.lst [])))∧vZ D J g tc te Q W:=by
  have up : ∀ {H' : Hp} {o : HO},Same H H'→Same H (upd H' D o):=fun {H' o} s b ob e=>by
    rw [upd_ne (ne_of_none e hD)]
    exact s b ob e
  refine j6 Y (fun i ys σ H'=>Same H H'∧H' D=some (.lst ys)∧ys=(xs.take i).filterMap f∧S σ) ⟨up (Same.refl H),upd_same,by simp,h0⟩ (fun i ys σ H' ⟨s,e,e2,_⟩=>⟨hP H' s,e,?_⟩) hz (fun i x ys σ H' hx ⟨s,e,e2,hS⟩=>?_) fun ys σ H' ⟨s,e,e2,_⟩=>?_
  · rw [e2]
    exact Nat.le_trans (List.length_filterMap_le _ _) (by rw [List.length_take]; omega)
  · have hi : i < xs.length:=(List.getElem?_eq_some_iff.mp hx).1
    have et : xs.take (i + 1)=xs.take i ++ [x]:=by rw [List.take_succ,hx]; rfl
    refine step x ys σ H' _ _ (List.mem_of_getElem? hx) hS s (fun σ2 y H4 h2 hf s4=>⟨s4 _ _ e,up (s.trans s4),upd_same,?_,h2⟩) fun σ2 H3 h2 hf s3=>⟨s.trans s3,s3 _ _ e,?_,h2⟩
    · rw [et,List.filterMap_append,← e2]; simp [hf]
    · rw [et,List.filterMap_append,← e2]; simp [hf]
  · refine hq H' s ?_
    rw [e,e2,List.take_length]
end L3
namespace L3
open PySem PySem.Spec PyProof.Rows L2
section
variable {X : Cx}
end
end L3
namespace L3
open PySem PySem.Spec PyProof.Rows L2
section
variable {X : Cx}
noncomputable abbrev TF:=L2.St→Hp→Str→(Str→Hp→Prop)→Prop
noncomputable def PF (X : Cx) (es : List Expr) (t : TF) : Prop :=
  ∀ (pins : List (Addr × Obj)) (s : Shared) (σ : L2.St) (H : Hp) (acc : Str) (Q : Str→Hp→Prop),Inv X pins σ H s→t σ H acc Q→wpAny (model X.prog X.w) X.A (joinParts acc (evalEach es X.env)) (EP X pins σ fun v H'=>∃ z,v = .str z∧Q z H') X.xe s
end
end L3
namespace L3
open PySem PySem.Spec PyProof.Rows L2
section
variable (K : PySem.W.Frag)
end
theorem Same.upd {H H' : Hp} {a : Addr} {o : HO} (s : Same H H') (h : H a=none) : Same H (L2.upd H' a o):=fun b ob e=>by
  rw [upd_ne (ne_of_none e h)]
  exact s b ob e
theorem Same.zp {H : Hp} {a : Addr} {o : HO} (h : H a=none) : Same H (L2.upd H a o):=Same.upd (Same.refl H) h
end L3
namespace L3
open PySem PySem.Spec PyProof.Rows L2
noncomputable def za9 (sc : Scope) (M : List Str) (i : Nat) (x : Str) : Bool :=
  (M[i]? == some x) && (sc.names.lookup x == some .local || sc.names.lookup x == some .cell || sc.names.lookup x == some .free) && !(x == ("__debug__" : Str)) && !(x == ("__classdict__" : Str))
noncomputable def setB (sc : Scope) (M : List Str) (i : Nat) (x : Str) : Bool:=(M[i]? == some x) && decide M.Nodup && sc.names.lookup x == some .local
noncomputable def Wi (sc : Scope) (M : List Str) (i : Nat) (x : Str) : Bool:=(M[i]? == some x) && decide M.Nodup && sc.names.lookup x == some .cell
noncomputable def glB (sc : Scope) (x : Str) : Bool:=(sc.names.lookup x == some .globalImplicit) && !(x == ("__debug__" : Str)) && !(x == ("__name__" : Str))
noncomputable def zb (scope sc : Scope) : Scope :=
  { scope with names:=scope.names.map fun (n,k)=>if (k == .free && sc.kind == .function && sc.names.lookup n == some .cell) then (n,.cell) else (n,k) }
section
variable {X : Cx} {i : Nat} {x : Str} {pos : Pos} {sc : Scope} {M : List Str}
theorem pvN (h1 : X.env.scope=sc) (h2 : X.N=M) (hb : za9 sc M i x=true) : PE X (.Name x pos) (tVar i):=by
  unfold za9 at hb
  simp only [Bool.and_eq_true,Bool.or_eq_true,Bool.not_eq_true',beq_iff_eq] at hb
  obtain ⟨⟨⟨a1,a2⟩,a3⟩,a4⟩:=hb
  refine pe_var (by rw [h2]; exact a1) ?_ a3 a4
  unfold Vis
  rw [h1]
  rcases a2 with (a2 | a2) | a2
  · exact .inl a2
  · exact .inr (.inl a2)
  · exact .inr (.inr a2)
theorem pvA (i : Nat) (sc : Scope) (M : List Str) (h1 : X.env.scope=sc) (h2 : X.N=M) (hb : za9 sc M i x=true:=by decide +kernel) : PE X (.Name x pos) (tVar i):=pvN h1 h2 hb
theorem pgN (h1 : X.env.scope=sc) (h2 : X.N=M) (hb : setB sc M i x=true) : PG X (.Name x pos) (gName i):=by
  unfold setB at hb
  simp only [Bool.and_eq_true,decide_eq_true_eq,beq_iff_eq] at hb
  obtain ⟨⟨a1,a2⟩,a3⟩:=hb
  have l : X.env.scope.names.lookup x=some .local:=by rw [h1]; exact a3
  exact pg_name (by rw [h2]; exact a2) (by rw [h2]; exact a1) (.inl l) (.inr l)
theorem pgC (h1 : X.env.scope=sc) (h2 : X.N=M) (h3 : X.fn x=true) (hb : Wi sc M i x=true) : PG X (.Name x pos) (gName i):=by
  unfold Wi at hb
  simp only [Bool.and_eq_true,decide_eq_true_eq,beq_iff_eq] at hb
  obtain ⟨⟨a1,a2⟩,a3⟩:=hb
  have l : X.env.scope.names.lookup x=some .cell:=by rw [h1]; exact a3
  exact pg_name (by rw [h2]; exact a2) (by rw [h2]; exact a1) (.inr l) (.inl h3)
variable {e : Expr} {te : TE} {pos' : Pos}
theorem psN (h1 : X.env.scope=sc) (h2 : X.N=M) (hb : setB sc M i x=true) (he : PE X e te) (hs : swapsWith e (some (.Name x pos')) pos.line X.env=pure false:=by rfl) : PS X (.Assign [.Name x pos'] e pos) (tAsg te (gName i)):=by
  unfold setB at hb
  simp only [Bool.and_eq_true,decide_eq_true_eq,beq_iff_eq] at hb
  obtain ⟨⟨a1,a2⟩,a3⟩:=hb
  have l : X.env.scope.names.lookup x=some .local:=by rw [h1]; exact a3
  exact ps_set (by rw [h2]; exact a2) (by rw [h2]; exact a1) (.inl l) he hs (.inr l)
theorem psC (h1 : X.env.scope=sc) (h2 : X.N=M) (h3 : X.fn x=true) (hb : Wi sc M i x=true) (he : PE X e te) (hs : swapsWith e (some (.Name x pos')) pos.line X.env=pure false:=by rfl) : PS X (.Assign [.Name x pos'] e pos) (tAsg te (gName i)):=by
  unfold Wi at hb
  simp only [Bool.and_eq_true,decide_eq_true_eq,beq_iff_eq] at hb
  obtain ⟨⟨a1,a2⟩,a3⟩:=hb
  have l : X.env.scope.names.lookup x=some .cell:=by rw [h1]; exact a3
  exact ps_set (by rw [h2]; exact a2) (by rw [h2]; exact a1) (.inr l) he hs (.inl h3)
theorem glN (h1 : X.env.scope=sc) (hb : glB sc x=true) : Gl X x∧(x == ("__debug__" : Str))=false∧x≠"__name__":=by
  unfold glB at hb
  simp only [Bool.and_eq_true,Bool.not_eq_true',beq_iff_eq] at hb
  obtain ⟨⟨a1,a2⟩,a3⟩:=hb
  refine ⟨?_,a2,fun z=>?_⟩
  · show X.env.scope.names.lookup x=_
    rw [h1]
    exact a1
  · rw [beq_eq_false_iff_ne] at a3
    exact a3 z
end
section
variable {X : Cx} {CX : CXT} {k : Nat} {f : Addr} {fd : FuncData} {ps : List Str} {sp : Sp} {dvs : List V} {ds : List Value} {E : XK} {x : Str} {p pos : Pos} {e : Expr} {es : List Expr} {t : TA} {sc : Scope} {r : List V→Hp→VK→Prop} {id T : String}
theorem zk (F : FnOk X.prog X.w X.K X.mg X.base CX k f fd ps sp) (hr : Room k X.A) (h1 : X.env.scope=sc) (hg : glB sc x=true) (hm : X.mg x=some (.ref f)) (hk : PySem.W.keepIn X.K (.ref f)=true) (hb : Binds X.K fd ps ds) (hd : Vals dvs ds) (hx : Passes CX X E)
    (ha : PA X (e :: es) t) (he : starEach (e :: es) X.env=(false,eval e X.env) :: starEach es X.env:=by rfl) (hpl : (backTo pos (starEach es X.env)).any (·.1)=false:=by rfl) : PE X (.Call (.Name x p) (e :: es) [] pos) (tCall sp dvs E t) :=
  pe_call F hr (glN h1 hg).1 hm hk hb hd hx ha (glN h1 hg).2.1 he hpl
theorem zo (hc : CallR X (.builtin id) r) (h1 : X.env.scope=sc) (hg : glB sc x=true) (hm : X.mg x=none) (hv : bootBuiltins x=some (.builtin id)) (ha : PA X (e :: es) t)
    (he : starEach (e :: es) X.env=(false,eval e X.env) :: starEach es X.env:=by rfl) (hpl : (backTo pos (starEach es X.env)).any (·.1)=false:=by rfl) : PE X (.Call (.Name x p) (e :: es) [] pos) (tCB r t) :=
  pe_callB hc (glN h1 hg).1 hm hv ha (glN h1 hg).2.2 (glN h1 hg).2.1 he hpl
theorem wX (hc : CallR X (.type T) r) (h1 : X.env.scope=sc) (hg : glB sc x=true) (hm : X.mg x=none) (hv : bootBuiltins x=some (.type T)) (ha : PA X (e :: es) t)
    (he : starEach (e :: es) X.env=(false,eval e X.env) :: starEach es X.env:=by rfl) (hpl : (backTo pos (starEach es X.env)).any (·.1)=false:=by rfl) : PE X (.Call (.Name x p) (e :: es) [] pos) (tCB r t) :=
  pe_callTy hc (glN h1 hg).1 hm hv ha (glN h1 hg).2.2 (glN h1 hg).2.1 he hpl
theorem glR (h1 : X.env.scope=sc) (hg : glB sc x=true) : Gl X x:=(glN h1 hg).1
end
theorem yd : bootBuiltins "len"=some (.builtin "len"):=by decide +kernel
theorem WI : bootBuiltins "all"=some (.builtin "all"):=by decide +kernel
theorem vO : bootBuiltins "sum"=some (.builtin "sum"):=by decide +kernel
theorem vP : bootBuiltins "sorted"=some (.builtin "sorted"):=by decide +kernel
theorem WJ : bootBuiltins "min"=some (.builtin "min"):=by decide +kernel
theorem Yt : bootBuiltins "max"=some (.builtin "max"):=by decide +kernel
theorem jV : bootBuiltins "list"=some (.type "list"):=by decide +kernel
theorem WK : bootBuiltins "enumerate"=some (.type "enumerate"):=by decide +kernel
end L3
namespace L3
open PySem PySem.Spec PyProof.Rows L2
theorem vp {X : Cx} {elt tg iter : Expr} {ifs : List Expr} {scope : Scope} {pos : Pos} {N : List Str} {own : Nat} {js : List Nat} {wi : TI} {g : TG} {tc : TT} {te : TE} {i : Nat} {x : Str} {px : Pos} {sc : Scope} {M : List Str} (hc : X.calm=true) (h1 : X.env.scope=sc) (h2 : X.N=M) (hb : setB sc M i x=true)
    (C : vM X scope N own js) (hi : PI X tg iter wi) (hg : ∀ fp s H,PG (zU X N scope fp s H) tg g) (ht : ∀ fp s H,Ye (zU X N scope fp s H) ifs tc) (he : ∀ fp s H,PE (zU X N scope fp s H) elt te) {spos : Pos}
    (hsw : swapsWith (.ListComp elt [⟨tg,iter,ifs,0⟩] scope pos) (some (.Name x px)) spos.line X.env=pure true) (hs : ∀ x,foldedSetIterable iter X.env x=pure x:=by intro _; rfl) :
    PS X (.Assign [.Name x px] (.ListComp elt [⟨tg,iter,ifs,0⟩] scope pos) spos) (zb5 i own js wi g tc te):=by
  unfold setB at hb
  simp only [Bool.and_eq_true,decide_eq_true_eq,beq_iff_eq] at hb
  obtain ⟨⟨a1,a2⟩,a3⟩:=hb
  exact zcu hc (by rw [h2]; exact a2) (by rw [h2]; exact a1) (by show X.env.scope.names.lookup x=_; rw [h1]; exact a3) C hi hg ht he hsw hs
end L3
namespace L4
open PySem PySem.Spec PyProof.Rows L2 L3
structure Gr (D H D' H' : Hp) : Prop where
  dd : Same D D'
  hh : Same H H'
  dh : Same D' H'
  nw : ∀ b o,H b=some o→D b=none→D' b=none
section
variable {D D' D'' H H' H'' : Hp} {p : Addr} {o : HO} {K : PySem.W.Frag}
theorem Gr.refl (s : Same D H) : Gr D H D H:=⟨Same.refl D,Same.refl H,s,fun _ _ _ n=>n⟩
theorem Gr.trans (a : Gr D H D' H') (b : Gr D' H' D'' H'') : Gr D H D'' H'' :=
  ⟨a.dd.trans b.dd,a.hh.trans b.hh,b.dh,fun c o e n=>b.nw c o (a.hh c o e) (a.nw c o e n)⟩
theorem Gr.heap (s : Same D H) (h : Same H H') : Gr D H D H':=⟨Same.refl D,h,s.trans h,fun _ _ _ n=>n⟩
theorem Gr.then (a : Gr D H D' H') (h : Same H' H'') : Gr D H D' H'':=a.trans (Gr.heap a.dh h)
theorem VJ (s : Same D H) (h : H p=none) : D p=none:=s.free h
theorem Gr.lay (s : Same D H) (h : H p=none) : Gr D H (upd D p o) (upd H p o):=by
  refine ⟨Same.zp (VJ s h),Same.zp h,fun b u e=>?_,fun b u e n=>?_⟩
  · by_cases hb : b=p
    · subst hb; rw [upd_same] at e ⊢; exact e
    · rw [upd_ne hb] at e ⊢; exact s b u e
  · rw [upd_ne (ne_of_none e h)]; exact n
theorem Gr.zcT (s : Same D H) (h : H p=none) : Gr D H D (upd H p o):=Gr.heap s (Same.zp h)
theorem Gr.fix (a : Gr D H D' H') (h : H p=none) (n : D' p=none) (e : H' p=some o) : Gr D H (upd D' p o) H':=by
  refine ⟨a.dd.trans (Same.zp n),a.hh,fun b u q=>?_,fun b u q z=>?_⟩
  · by_cases hb : b=p
    · subst hb; rw [upd_same] at q; rw [e]; exact q
    · rw [upd_ne hb] at q; exact a.dh b u q
  · rw [upd_ne (ne_of_none q h)]; exact a.nw b u q z
theorem Gr.set (a : Gr D H D' H') (h : H p=none) (n : D' p=none) : Gr D H D' (upd H' p o) :=
  ⟨a.dd,fun b u e=>by rw [upd_ne (ne_of_none e h)]; exact a.hh b u e,fun b u e=>by rw [upd_ne (ne_of_none e n)]; exact a.dh b u e,a.nw⟩
theorem Gr.old (a : Gr D H D' H') (e : H p=some o) (n : D p=none) : H' p=some o∧D' p=none:=⟨a.hh p o e,a.nw p o e n⟩
theorem zK (s : Same D H) (n : D p=none) : Same D (upd H p o):=fun b u e=>by
  rw [upd_ne (ne_of_none e n)]; exact s b u e
end
end L4
namespace L3
open PySem PySem.Spec PyProof.Rows L2 L4
section
variable {D D' D'' H H' H'' : Hp} {p : Addr} {o : HO} {K : PySem.W.Frag}
theorem zc.length : ∀ {ds : List PyData} {xs : List V},zc K H xs ds→xs.length=ds.length
  | [],xs,h=>by unfold zc at h; rw [h]; rfl
  | d :: ds,xs,h=>by
    unfold zc at h
    obtain ⟨y,ys,rfl,_,h3⟩:=h
    rw [List.length_cons,List.length_cons,zc.length h3]
theorem zc.nil : zc K H [] []:=by unfold zc; rfl
theorem zc.cons {x : V} {xs : List V} {d : PyData} {ds : List PyData} (h1 : zx K H x d) (h2 : zc K H xs ds) : zc K H (x :: xs) (d :: ds):=by unfold zc; exact ⟨x,xs,rfl,h1,h2⟩
theorem zc.snoc {x : V} {d : PyData} (h1 : zx K H x d) : ∀ {ds : List PyData} {xs : List V},zc K H xs ds→zc K H (xs ++ [x]) (ds ++ [d])
  | [],xs,h=>by unfold zc at h; subst h; exact zc.cons h1 zc.nil
  | d :: ds,xs,h=>by
    unfold zc at h
    obtain ⟨y,ys,rfl,h2,h3⟩:=h
    exact zc.cons h2 (zc.snoc h1 h3)
theorem zc.at_ : ∀ {ds : List PyData} {xs : List V} {i : Nat} {d : PyData},zc K H xs ds→ds[i]?=some d→∃ x,xs[i]?=some x∧zx K H x d
  | [],_,_,_,_,e=>by simp at e
  | d :: ds,xs,0,d',h,e=>by
    unfold zc at h
    obtain ⟨y,ys,rfl,h2,h3⟩:=h
    simp at e; subst e
    exact ⟨y,rfl,h2⟩
  | d :: ds,xs,i + 1,d',h,e=>by
    unfold zc at h
    obtain ⟨y,ys,rfl,h2,h3⟩:=h
    obtain ⟨x,e1,e2⟩:=zc.at_ (i:=i) h3 (by simpa using e)
    exact ⟨x,by simpa using e1,e2⟩
theorem zc.back : ∀ {ds : List PyData} {xs : List V} {i : Nat} {x : V},zc K H xs ds→xs[i]?=some x→∃ d,ds[i]?=some d∧zx K H x d:=fun {ds xs i x} h e=>by
  have hl:=zc.length h
  have hi : i < xs.length:=(List.getElem?_eq_some_iff.mp e).1
  obtain ⟨y,e1,e2⟩:=zc.at_ h (List.getElem?_eq_getElem (show i < ds.length by omega))
  rw [e] at e1
  cases e1
  exact ⟨_,List.getElem?_eq_getElem (by omega),e2⟩
theorem zc.up {v : List V} {d : List PyData} (h : zc K D v d) (s : Same D H) : zc K H v d:=zc.same s d h
theorem zx.mkT {xs : List V} {ds : List PyData} (h : zc K D xs ds) (e : H p=some (.tup xs)) (s : Same D H) : zx K H (.ref p) (.tuple ds):=by
  unfold zx
  exact ⟨p,xs,rfl,e,h.up s⟩
theorem zx.tup {v : V} {ds : List PyData} (h : zx K H v (.tuple ds)) : ∃ a xs,v = .ref a∧H a=some (.tup xs)∧zc K H xs ds:=by unfold zx at h; exact h
theorem zx.int {v : V} {i : Int} (h : zx K H v (.int i)) : v = .int i:=by unfold zx at h; exact h
theorem zx.ofInt {i : Int} : zx K H (.int i) (.int i):=by unfold zx; rfl
theorem zc.jf : ∀ {ss : List Int} {xs : List V},zc K H xs (ss.map PyData.int)→xs=ss.map V.int
  | [],xs,h=>by unfold zc at h; exact h
  | z :: ss,xs,h=>by
    unfold zc at h
    obtain ⟨y,ys,rfl,h2,h3⟩:=h
    rw [zx.int h2,zc.jf h3]; rfl
theorem zc.zao {d : PyData} {ds : List PyData} {xs : List V} (h : zc K H xs (d :: ds)) : ∃ y ys,xs=y :: ys∧zx K H y d∧zc K H ys ds:=by unfold zc at h; exact h
theorem zc.none {xs : List V} (h : zc K H xs []) : xs=[]:=by unfold zc at h; exact h
theorem zc.append : ∀ {ds es : List PyData} {xs ys : List V},zc K H xs ds→zc K H ys es→zc K H (xs ++ ys) (ds ++ es)
  | [],es,xs,ys,h,k=>by unfold zc at h; subst h; exact k
  | d :: ds,es,xs,ys,h,k=>by
    unfold zc at h
    obtain ⟨y,zs,rfl,h2,h3⟩:=h
    exact zc.cons h2 (zc.append h3 k)
end
end L3
namespace L4
open PySem PySem.Spec PyProof.Rows L2 L3
theorem take_snoc {α : Type} {l : List α} {i : Nat} {x : α} (h : l[i]?=some x) : l.take (i + 1)=l.take i ++ [x]:=by rw [List.take_succ,h]; rfl
theorem jg {K : PySem.W.Frag} {J : It} {xs : List V} {P : Hp→Prop} {q : Addr} {g : TG} {tc : TT} {te : TE} {Q : Hp→Prop} {σ : L2.St} {D H : Hp} (s0 : Same D H) (hq0 : H q=none) (Y : jo J xs P) (S : L2.St→Prop) (rs : List (Option PyData))
    (hl : rs.length=xs.length) (h0 : S σ) (hP : ∀ H',Same H H'→P H') (hz : xs.length < sizeLine)
    (step : ∀ (i : Nat) (x : V) (r : Option PyData) (σ : L2.St) (D1 H1 : Hp) (R1 : L2.St→V→Hp→Prop) (R0 : L2.St→Hp→Prop),xs[i]?=some x→rs[i]?=some r→S σ→Gr D H D1 H1 →
      (∀ d σ2 y D4 H4,r=some d→S σ2→Gr D1 H1 D4 H4→zx K D4 y d→R1 σ2 y H4)→(∀ σ2 D3 H3,r=none→S σ2→Gr D1 H1 D3 H3→R0 σ2 H3) →
      g x σ H1 fun σ2 H2=>tc σ2 H2 fun b H3=>if b=true then te σ2 H3 fun y H4=>R1 σ2 y H4 else R0 σ2 H3)
    (hq : ∀ D' H' ys,Gr D H D' H'→H' q=some (.lst ys)→D' q=none→zc K D' ys (rs.filterMap id)→Q H') :
    ∃ W : Nat→Nat→List V→L2.St→Hp→Prop,(∃ m,W 0 m [] σ (upd H q (.lst [])))∧vZ q J g tc te Q W:=by
  refine j6 Y (fun i ys σ H'=>∃ D',Gr D H D' H'∧H' q=some (.lst ys)∧D' q=none∧zc K D' ys ((rs.take i).filterMap id)∧S σ) ⟨D,Gr.zcT s0 hq0,upd_same,s0.free hq0,by simp; exact zc.nil,h0⟩
    (fun i ys σ H' ⟨D',G,e,_,hA,_⟩=>⟨hP H' G.hh,e,?_⟩) hz (fun i x ys σ H' hx ⟨D',G,e,n,hA,hS⟩=>?_) fun ys σ H' ⟨D',G,e,n,hA,_⟩=>?_
  · rw [zc.length hA]
    exact Nat.le_trans (List.length_filterMap_le _ _) (by rw [List.length_take]; omega)
  · have hi : i < xs.length:=(List.getElem?_eq_some_iff.mp hx).1
    have hr : rs[i]?=some (rs[i]'(by omega)):=List.getElem?_eq_getElem (by omega)
    refine step i x _ σ D' H' _ _ hx hr hS G (fun d σ2 y D4 H4 er h2 G4 hy=>?_) fun σ2 D3 H3 er h2 G3=>?_
    · obtain ⟨e4,n4⟩:=G4.old e n
      have T:=G.trans G4
      refine ⟨e4,D4,⟨T.dd,fun b o eb=>?_,zK T.dh n4,T.nw⟩,upd_same,n4,?_,h2⟩
      · rw [upd_ne (ne_of_none eb hq0)]; exact T.hh b o eb
      · rw [take_snoc hr,List.filterMap_append,er]
        exact zc.snoc hy (hA.up G4.dd)
    · obtain ⟨e4,n4⟩:=G3.old e n
      refine ⟨D3,G.trans G3,e4,n4,?_,h2⟩
      rw [take_snoc hr,List.filterMap_append,er]
      simp only [List.filterMap_cons,id,List.filterMap_nil,List.append_nil]
      exact hA.up G3.dd
  · rw [← hl,List.take_length] at hA
    exact hq D' H' ys G e n hA
theorem filterMap_some {α : Type} (l : List α) : (l.map some).filterMap id=l:=by
  induction l with
  | nil=>rfl
  | cons a l ih=>simp
end L4
namespace L4
open PySem L2
end L4
namespace L4
open PySem PySem.Spec PyProof.Rows L2 L3
noncomputable def cs (x : Str) : List Nat:=x.cps.toList
structure Figs (n : Int) (t : Str) : Prop where
  pos : 1≤t.length
  most : t.length≤60
  digs : ∀ c∈cs t,48≤c∧c≤57
  reads : PySem.intText? t=some n
  lead : t="0"∨(cs t).head?≠some 48
end L4
namespace L4
open PySem L2
end L4
namespace L4
open PySem PySem.Spec PyProof.Rows L2 L3
section
variable {X : Cx} {K : PySem.W.Frag}
theorem kIx {r : PySem.W.Frag→R2} (h : X.K=K) (o : IxR X (r X.K)) : IxR X (r K):=h ▸ o
theorem kOp {r : PySem.W.Frag→R2} {f : Value→Value→Sem Value} (h : X.K=K) (o : OpR X f (r X.K)) : OpR X f (r K):=h ▸ o
theorem kMt {r : PySem.W.Frag→V→List V→Hp→VK→Prop} {id : String} (h : X.K=K) (o : MtR X id (r X.K)) : MtR X id (r K):=h ▸ o
theorem kE {r : PySem.W.Frag→TE} {e : Expr} (h : X.K=K) (o : PE X e (r X.K)) : PE X e (r K):=h ▸ o
theorem yU {es : List Expr} {k : Nat} {t : TGs} {n : Nat} {pos : Pos} (h : X.K=K) (o : PG X (.Tuple es k pos) (gTup X.K n t)) : PG X (.Tuple es k pos) (gTup K n t):=h ▸ o
theorem kBM {e : Expr} {T : String} {r : V→List V→Hp→VK→Prop} {to : TE} {t : TA} (h : X.K=K) (o : PE X e (tBM X.K T r to t)) : PE X e (tBM K T r to t):=h ▸ o
noncomputable def zfI (K : PySem.W.Frag) : List V→Hp→VK→Prop:=fun xs H Q=>L23.E2 fun x n=>L23.A3 (xs=[x]) (LenV K x H n) (Q (.int n) H)
end
end L4
namespace L4
open PySem PySem.Spec PyProof.Rows L2 L3
noncomputable def zfJ (t u : TS) : TS:=fun D σ H=>∃ P : L2.St→Hp→Prop,t { D with nx:=P } σ H∧∀ σ' H',P σ' H'→u D σ' H'
theorem VL {X : Cx} {st : Stmt} {rest : List Stmt} {t u : TS} (h1 : PS X st t) (h2 : PSs X rest u) : PSs X (st :: rest) (zfJ t u):=by
  intro pins s σ H D I ⟨P,h,k⟩
  refine wpAny_execs_cons (thn (h1 pins s σ H { D with nx:=P } I h) fun f s1 q=>?_)
  cases f with
  | next=>obtain ⟨σ',H',I',q⟩:=q; exact h2 pins s1 σ' H' D I' (k σ' H' q)
  | ret v=>exact q
  | brk=>exact q
  | cont=>exact q
end L4
namespace L5
open PySem PySem.Spec PyProof.Rows L2 L3 L4
open Sem (wp)
section
variable {prog : Program} {w : World} {A : Around} {E : Value→Shared→Prop} {s : Shared}
end
end L5
namespace L5
open PySem PySem.Spec PyProof.Rows L2 L3 L4
open Sem (wp)
section
variable {prog : Program} {w : World} {A : Around} {E : Value→Shared→Prop} {s : Shared}
end
theorem zap {prog : Program} {w : World} {A : Around} (hh : A.handled=none) (it l : Addr) (hne : l≠it) (items : Array Value) (lo : Nat) :
    Draws prog w A it [it,l] (lo + items.size) (fun i v=>∃ j,i=lo + j∧items[j]?=some v) (fun i h=>∃ j,i=lo + j∧h.IsListIter it l j∧h.IsList l items) where
  live:=fun _ _ ⟨_,_,st⟩=>(Draws.list (prog:=prog) (w:=w) hh it l hne items).live _ _ st
  frame:=fun _ _ _ ⟨j,e,st⟩ k=>⟨j,e,(Draws.list (prog:=prog) (w:=w) hh it l hne items).frame _ _ _ st k⟩
  item:=fun i s Q E hi ⟨j,e,st⟩ q=>(Draws.list (prog:=prog) (w:=w) hh it l hne items).item j s Q E (by omega) st fun x h' tk p st' sm=>q x h' tk ⟨j,e,p⟩ ⟨j + 1,by omega,st'⟩ sm
  done:=fun s Q E ⟨j,e,st⟩ q=>(Draws.list (prog:=prog) (w:=w) hh it l hne items).done s Q E (by rw [show items.size=j by omega]; exact st) q
theorem zaq {prog : Program} {w : World} {A : Around} (hh : A.handled=none) (it l : Addr) (items : Array Value) :
    Draws prog w A it [it,l] 0 (fun _ _=>True) (fun _ h=>∃ i,items.size≤i∧h.IsListIter it l i∧h.IsList l items) where
  live:=fun _ _ ⟨_,_,⟨o,e,_⟩,_⟩=>⟨o,e⟩
  frame:=fun _ _ _ ⟨i,hi,a,b⟩ k=>⟨i,hi,a.at fun o e=>k it (by simp) o e,b.at fun o e=>k l (by simp) o e⟩
  item:=fun _ _ _ _ hi=>absurd hi (Nat.not_lt_zero _)
  done:=fun _ _ _ ⟨_,hi,a,b⟩ q=>wpAny_nextOf_list_end hh a b (Array.getElem?_eq_none hi) q
theorem _root_.L2.Inv.Xu {X : Cx} {pins : List (Addr × Obj)} {σ : L2.St} {H : Hp} {s : Shared} {h' : Heap} {t' : Nat} {its : List Addr} (I : Inv X pins σ H s) (k : ∀ b o,b∉its→s.heap.get? b=some o→h'.get? b=some o) (hf : ∀ b∈its,FpOk X pins H b) :
    Inv X pins σ H { s with heap:=h',toks:=t' }:=by
  have nit : ∀ b u,H b=some u→b∉its:=fun b u e z=>by rw [(hf b z).1] at e; cases e
  have hL : X.env.locals∉its:=fun z=>(hf _ z).2.1 rfl
  refine I.step (g':=s.gens) (d':=s.drawn) (ch:=its) (fun b hb=>⟨(hf b hb).2.2.2.1,(hf b hb).2.1,(hf b hb).2.2.2.2.1,(hf b hb).2.2.2.2.2⟩) (fun b o _ _ hc e _=>k b o hc e) (fun b o _ _ hc e _=>⟨o.slots,k b o hc e⟩) (fun _ _ _ _ n=>n)
    (fun b o hc e=>⟨o,k b o hc e⟩) (fun _ _ e=>e) (fun _ _ _ e=>e) (fun b ps e=>⟨#[],by rw [e]; simp⟩) (fun m ⟨o,es,ep,ho,r⟩=>⟨o,es,ep,k _ o hL ho,r⟩) (fun b u e=>?_) I.bare
  refine (I.hok b u e).stay (fun c v hc q=>k c v ?_ q) (fun _ q=>q) fun _ _ q=>q
  rcases hc with z | z
  · rw [z]; exact nit b u e
  · exact nit c _ z
noncomputable def Ite (K : PySem.W.Frag) (a : Addr) (lo : Int) : It :=
  ⟨fun i H=>∃ xs x,SqL K H a xs∧xs[i]?=some x,fun i H v H'=>∃ T y,v = .ref T∧H T=none∧H'=upd H T (.tup [.int (lo + i),y])∧∀ xs,SqL K H a xs→xs[i]?=some y,fun i H=>∃ xs,SqL K H a xs∧xs.length≤i⟩
theorem zba {h : Heap} {a e it : Addr} {c : Int} {old : Value} {items : Array Value} (he : IsEnum h e it c old) (hl : h.IsList a items) : e≠a:=fun z=>by
  obtain ⟨o,eo,co,_⟩:=hl
  rw [← z,show h.get? e=some _ from he] at eo
  rw [← Option.some.inj eo] at co
  exact absurd (show Value.type "enumerate"=Value.type "list" from co) (by decide)
theorem zbb {h : Heap} {a it : Addr} {i : Nat} {items : Array Value} (hi : h.IsListIter it a i) (hl : h.IsList a items) : a≠it:=fun z=>by
  obtain ⟨o,eo,co,_⟩:=hl
  obtain ⟨o',eo',co',_⟩:=hi
  rw [z,eo'] at eo
  rw [← Option.some.inj eo,co'] at co
  exact absurd co (by decide)
theorem zar {P : Program} {w : World} {K : PySem.W.Frag} {elts : List Expr} {kt : Nat} {pt : Pos} (a e it : Addr) (lo : Nat) (hne : e≠it) :
    Turn P w K (.Tuple elts kt pt) (Ite K a lo) [e,it] e (fun i h=>(∃ old,IsEnum h e it ((lo + i : Nat) : Int) old)∧h.IsListIter it a i) where
  mem:=by simp
  obj:=fun i h ⟨⟨old,he⟩,st⟩ b hb=>by
    rcases List.mem_cons.mp hb with rfl | hb
    · exact ⟨_,he,fun v z=>by cases (show Data.fields _=Data.cell v from z)⟩
    · obtain ⟨o,e',c,d⟩:=st
      rw [List.mem_singleton.mp hb]
      exact ⟨o,e',fun v z=>by rw [d] at z; cases z⟩
  keep:=fun i h h' ⟨⟨old,he⟩,st⟩ k=>⟨⟨old,k e (by simp) _ he⟩,st.at fun o e'=>k it (by simp) o e'⟩
  item:=by
    intro X hP hw hK hc i pins s σ H E I hf st hg
    subst hP hw hK
    obtain ⟨⟨old,he⟩,st⟩:=st
    obtain ⟨xs,x,hq,hx⟩:=hg
    obtain ⟨its,rv,p,hz⟩:=I.list hq
    obtain ⟨u,hu,ru⟩:=rv.get hx
    have hil : i < its.length:=(List.getElem?_eq_some_iff.mp hu).1
    have hea:=zba he p.isList
    have hia:=zbb st p.isList
    have ec : ((lo + i : Nat) : Int)=(lo : Int) + (i : Nat):=by omega
    refine wpAny_pyNext_enum_itemD (zap (A:=X.A.in1) (I.ok.hd hc) it a hia its.toArray lo) he ⟨i,rfl,st,p.isList⟩ (by rw [List.size_toArray]; omega) hne (by simp [hne,hea]) fun u' h' tk ⟨j,ej,eu⟩ eo ⟨j',ej',st',_⟩ tp sz kk=>⟨_,rfl,?_⟩
    obtain rfl : j=i:=by omega
    obtain rfl : j'=j + 1:=by omega
    obtain rfl : u'=u:=by
      rw [List.getElem?_toArray,hu] at eu
      exact (Option.some.inj eu).symm
    refine wpAny_letOwnedTupleGo_enum eo fun h2 he2 sm=>?_
    have k2 : ∀ b o,b≠e→h'.get? b=some o→h2.get? b=some o:=fun b o hb q=>Heap.SameBut.extBut sm b o hb q
    have lte : e < s.heap.objs.size:=Heap.lt_size he
    have lti : it < s.heap.objs.size:=by obtain ⟨o,e',_⟩:=id st; exact Heap.lt_size e'
    have zfK : ∀ b o,b∉[e,it]→s.heap.get? b=some o→h2.get? b=some o:=fun b o hb q=>k2 b o (fun z=>hb (by simp [z])) (kk b o (fun z=>hb (by simp [z])) (fun z=>hb (by simp [z])) q)
    have ff : ∀ b∈[e,it],FpOk X pins (upd H s.heap.objs.size (.tup [.int (lo + (j : Nat)),x])) b:=fun b hb=>by
      obtain ⟨z0,z1⟩:=hf b hb
      have hb' : b≠s.heap.objs.size:=by
        rcases List.mem_cons.mp hb with rfl | hb
        · exact Nat.ne_of_lt lte
        · rw [List.mem_singleton.mp hb]; exact Nat.ne_of_lt lti
      exact ⟨by rw [upd_ne hb']; exact z0,z1⟩
    have nw : (s.heap.push { cls := .type "tuple",data := .seq #[.int ((lo + j : Nat) : Int) tk,u'] }).get? s.heap.objs.size=some { cls := .type "tuple",data := .seq #[.int ((lo + j : Nat) : Int) tk,u'] }:=Heap.get?_push_size _ rfl
    have I3 : Inv X pins σ (upd H s.heap.objs.size (.tup [.int (lo + (j : Nat)),x])) { s with heap:=s.heap.push { cls := .type "tuple",data := .seq #[.int ((lo + j : Nat) : Int) tk,u'] },toks:=s.toks } :=
      I.laid (fun b o q=>Heap.get?_push_of_some _ q) (Nat.le_refl _) ⟨by show 2≤sizeLine; decide,[.int ((lo + j : Nat) : Int) tk,u'],.cons ⟨tk,by rw [ec]⟩ (.cons ru .nil),⟨_,nw,rfl,_,rfl⟩⟩
    have I4:=I3.Xu (t':=tk + 1) (h':=h2) (its:=[e,it]) (fun b o hb q=>?_) ff
    refine ⟨.ref s.heap.objs.size,_,I4,rfl,⟨_,x,rfl,I.fresh,rfl,fun ys hy=>by rw [I.list_inj hy hq]; exact hx⟩,⟨⟨u',?_⟩,?_⟩,fun b hb=>(ff b hb).1⟩
    rotate_right
    · by_cases hT : b=s.heap.objs.size
      · subst hT
        rw [show o=_ from Option.some.inj ((show _=some o from q).symm.trans nw)]
        exact k2 _ _ (Nat.ne_of_gt lte) tp
      · exact zfK b o hb (by rw [← Heap.get?_push_ne _ _ _ hT]; exact q)
    · rw [show ((lo + (j + 1) : Nat) : Int)=((lo + j : Nat) : Int) + 1 by omega]
      exact he2
    · obtain ⟨o,eo',r⟩:=st'
      exact ⟨o,k2 it o hne.symm eo',r⟩
  done:=by
    intro X hP hw hK hc i pins s σ H E I hf st hg
    subst hP hw hK
    obtain ⟨⟨old,he⟩,st⟩:=st
    obtain ⟨xs,hq,hx⟩:=hg
    obtain ⟨its,rv,p,hz⟩:=I.list hq
    obtain ⟨g0,g1,g2,g3,g4,g5⟩:=hf it (by simp)
    have hl:=rv.length
    exact wpAny_pyNext_enum_endD (zaq (A:=X.A.in1) (I.ok.hd hc) it a its.toArray) he ⟨i,by rw [List.size_toArray]; omega,st,p.isList⟩ fun h' eb=>⟨rfl,I.turned (t':=s.toks) (fun b o hb e=>eb b o hb e) g0 g1 g3 g4 g5⟩
  self:=fun A i s Q E ⟨⟨old,he⟩,_⟩ h=>wpAny_pyIter_enum he h
section
variable {X : Cx} {a : Expr} {ta : TE} {p pos kp ip : Pos} {elts : List Expr} {kt : Nat} {pt : Pos} {j : Option Str}
noncomputable def zeX (K : PySem.W.Frag) (ta : TA) : TI:=fun σ H R=>ta σ H fun vs H1=>∃ l,L23.A3 (vs=[.ref l]) ((∃ xs,SqL K H1 l xs)) (R (Ite K l 0) H1)
theorem zcv {pins : List (Addr × Obj)} {σ : L2.St} {H : Hp} {s : Shared} {R : It→Hp→Prop} {l : Addr} {lo : Nat} {h' : Heap} {E : Value→Shared→Prop} (I : Inv X pins σ H s) (he : IsEnum h' (s.heap.objs.size + 1) s.heap.objs.size lo .none) (hi : h'.IsListIter s.heap.objs.size l 0)
    (kk : ∀ b o,s.heap.get? b=some o→h'.get? b=some o) (q : R (Ite X.K l lo) H) (t : Nat) : wpAny (model X.prog X.w) X.A (pyIter (.ref (s.heap.objs.size + 1))) (PIE X pins σ (.Tuple elts kt pt) R) E { s with heap:=h',toks:=t }:=by
  refine wpAny_pyIter_enum he ⟨_,[s.heap.objs.size + 1,s.heap.objs.size],_,_,H,rfl,I.kept (t':=t) kk,zar l _ _ lo (Nat.succ_ne_self _),⟨⟨.none,?_⟩,hi⟩,fun b hb=>?_,q⟩
  · rw [Nat.add_zero]; exact he
  · have hb' : s.heap.objs.size≤b:=by
      rcases List.mem_cons.mp hb with rfl | hb
      · omega
      · rw [List.mem_singleton.mp hb]; exact Nat.le_refl _
    exact I.fpOk hb' (I.hok.fresh hb')
theorem xH {ta : TA} (h1 : Gl X "enumerate") (hm : X.mg "enumerate"=none) (ha : PA X [a] ta) (hs : starEach [a] X.env=(false,eval a X.env) :: starEach [] X.env:=by rfl) :
    PI X (.Tuple elts kt pt) (.Call (.Name "enumerate" p) [a] [] pos) (zeX X.K ta):=by
  intro pins s σ H R I h
  refine wpAny_Call_Name_kw (ld_blt I h1 hm WK (PyProof.Rows.callWith_type1 (thn (ha pos pins s σ H _ I h) fun us s1 ⟨vs,H1,I1,r1,l,ex,⟨xs,hq⟩,q1⟩=>?_) hs rfl))
  subst ex
  obtain ⟨u,rfl,ru⟩:=vals1 r1
  cases ru
  obtain ⟨its,rv,pl,hz⟩:=I1.list hq
  exact call_enumerate_list pl.isList fun h' he hi _ kk=>zcv (lo:=0) I1 he hi kk q1 _
end
theorem vq {K : PySem.W.Frag} {a : Addr} {xs : List V} {lo : Int} {g : TG} {tb : TS} {D : Ends} {σ : L2.St} {H : Hp} (Pv : Nat→L2.St→Hp→Prop) (h0 : Pv 0 σ H) (hl : ∀ i σ H,i≤xs.length→Pv i σ H→SqL K H a xs)
    (hs : ∀ i y σ H T,xs[i]?=some y→Pv i σ H→H T=none→g (.ref T) σ (upd H T (.tup [.int (lo + (i : Nat)),y])) fun σ2 H2=>tb { D with nx:=Pv (i + 1),ct:=Pv (i + 1),bk:=D.nx } σ2 H2) (hd : ∀ σ H,Pv xs.length σ H→D.nx σ H) :
    ∃ W : Nat→Nat→L2.St→Hp→Prop,(∃ m,W 0 m σ H)∧∀ i m σ H,W i m σ H →
      ((Ite K a lo).stop i H∧D.nx σ H)∨((Ite K a lo).go i H∧∃ N : L2.St→Hp→Prop,(∀ σ' H',N σ' H'→∃ m',m' < m∧W (i + 1) m' σ' H')∧∀ x H',(Ite K a lo).yld i H x H'→g x σ H' fun σ2 H2=>tb { D with nx:=N,ct:=N,bk:=D.nx } σ2 H2):=by
  refine ⟨fun i m σ H=>m=xs.length - i∧i≤xs.length∧Pv i σ H,⟨xs.length,rfl,Nat.zero_le _,h0⟩,?_⟩
  rintro i m σ H ⟨rfl,hi,p⟩
  have q:=hl i σ H hi p
  by_cases hlt : i < xs.length
  · refine .inr ⟨⟨xs,xs[i],q,by simp [hlt]⟩,Pv (i + 1),fun σ' H' p'=>⟨xs.length - (i + 1),by omega,rfl,hlt,p'⟩,fun x H' ⟨T,y,e1,e2,e3,e4⟩=>?_⟩
    subst e1 e3
    exact hs i y σ H T (e4 xs q) p e2
  · obtain rfl : i=xs.length:=by omega
    exact .inl ⟨⟨xs,q,Nat.le_refl _⟩,hd σ H p⟩
end L5
namespace L5
open PySem PySem.Spec PyProof.Rows L2 L3 L4
noncomputable def yV (f : Nat→V→Option V) (xs : List V) (n : Nat) : List V:=(List.range n).filterMap fun j=>(xs[j]?).bind (f j)
theorem Yu {f : Nat→V→Option V} {xs : List V} {i : Nat} {y : V} (h : xs[i]?=some y) : yV f xs (i + 1)=yV f xs i ++ (f i y).toList:=by
  unfold yV
  rw [List.range_succ,List.filterMap_append,List.filterMap_cons,h]
  cases e : f i y with
  | none=>simp [e]
  | some z=>simp [e]
theorem jz {K : PySem.W.Frag} {a : Addr} {xs : List V} {lo : Int} {D : Addr} {g : TG} {tc : TT} {te : TE} {Q : Hp→Prop} {σ : L2.St} {H : Hp} (hD : H D=none) (hl : ∀ H',Same H H'→SqL K H' a xs) (S : L2.St→Prop) (f : Nat→V→Option V) (h0 : S σ) (hz : xs.length < sizeLine)
    (step : ∀ (i : Nat) (y : V) (σ : L2.St) (H' : Hp) (T : Addr) (R1 : L2.St→V→Hp→Prop) (R0 : L2.St→Hp→Prop),xs[i]?=some y→S σ→Same H H'→H' T=none→(∀ σ2 z H4,S σ2→f i y=some z→Same H' H4→R1 σ2 z H4)→(∀ σ2 H3,S σ2→f i y=none→Same H' H3→R0 σ2 H3) →
      g (.ref T) σ (upd H' T (.tup [.int (lo + (i : Nat)),y])) fun σ2 H2=>tc σ2 H2 fun b H3=>if b=true then te σ2 H3 fun z H4=>R1 σ2 z H4 else R0 σ2 H3)
    (hq : ∀ H',Same H H'→H' D=some (.lst (yV f xs xs.length))→Q H') : ∃ W : Nat→Nat→List V→L2.St→Hp→Prop,(∃ m,W 0 m [] σ (upd H D (.lst [])))∧vZ D (Ite K a lo) g tc te Q W:=by
  have up : ∀ {H' : Hp} {o : HO},Same H H'→Same H (upd H' D o):=fun {H' o} s b ob e=>by
    rw [upd_ne (ne_of_none e hD)]
    exact s b ob e
  refine ⟨fun i m ys σ H'=>m=xs.length - i∧i≤xs.length∧Same H H'∧H' D=some (.lst ys)∧ys=yV f xs i∧S σ,⟨xs.length,by simp,Nat.zero_le _,up (Same.refl H),upd_same,by unfold yV; simp,h0⟩,?_⟩
  rintro i m ys σ H' ⟨rfl,hi,s,e,e2,hS⟩
  have hlen : ys.length≤i:=by
    rw [e2]
    unfold yV
    exact Nat.le_trans (List.length_filterMap_le _ _) (by rw [List.length_range]; exact Nat.le_refl _)
  refine ⟨e,by omega,?_⟩
  by_cases hlt : i < xs.length
  · refine .inr ⟨⟨xs,xs[i],hl H' s,by simp [hlt]⟩,fun y σ2 H4=>H4 D=some (.lst ys)∧Same H (upd H4 D (.lst (ys ++ [y])))∧ys ++ [y]=yV f xs (i + 1)∧S σ2,fun σ2 H3=>Same H H3∧H3 D=some (.lst ys)∧ys=yV f xs (i + 1)∧S σ2,
      fun y σ2 H4 q=>⟨q.1,xs.length - (i + 1),by omega,rfl,hlt,q.2.1,upd_same,q.2.2.1,q.2.2.2⟩,fun σ2 H3 q=>⟨xs.length - (i + 1),by omega,rfl,hlt,q⟩,fun x H1 ⟨T,y,e1,e3,e4,e5⟩=>?_⟩
    subst e1 e4
    have hy:=e5 xs (hl H' s)
    refine step i y σ H' T (fun σ2 z H4=>_) (fun σ2 H3=>_) hy hS s e3 (fun σ2 z H4 h2 hf s4=>⟨s4 _ _ e,up (s.trans s4),?_,h2⟩) fun σ2 H3 h2 hf s3=>⟨s.trans s3,s3 _ _ e,?_,h2⟩
    · rw [Yu hy,hf,e2]
      rfl
    · rw [Yu hy,hf,e2]
      exact (List.append_nil _).symm
  · obtain rfl : i=xs.length:=by omega
    refine .inl ⟨⟨xs,hl H' s,Nat.le_refl _⟩,hq H' s ?_⟩
    rw [e,e2]
end L5
namespace L4
open PySem PySem.Spec PyProof.Rows L2 L3
theorem WL {xs : List V} (k : Nat) (h : k≤xs.length) : cutV xs (some (k : Int)) none=xs.drop k:=by
  unfold cutV
  rw [HT.sIx_nat,HT.sIx_none,Nat.min_eq_left h]
  exact List.take_of_length_le (by rw [List.length_drop]; omega)
end L4
namespace L6
open PySem PySem.Spec PyProof.Rows L2 L3 L4
noncomputable def zcU (xs : Array Nat) : Prop:=∀ i k,i < k→k < xs.size→xs.getD i 0 < xs.getD k 0
structure Good (t : SetTable) (n : Nat) (led : Bool) : Prop where
  fits : t.fits n=true
  led : t.led=led
  rise : t.plain=true→zcU t.place
end L6
namespace L6
open PySem PySem.Spec PyProof.Rows L2 L3 L4
open Sem (wp)
section
variable {prog : Program} {w : World} {A : Around} {E : Value→Shared→Prop} {s : Shared}
end
end L6
namespace L6
open PySem PySem.Spec PyProof.Rows L2 L3 L4
open Sem (wp)
theorem Wf {ns : List Int} {i : Nat} (h : i < ns.length) : ns.take (i + 1)=ns.take i ++ [ns.getD i 0]:=by
  rw [List.take_succ,List.getD_eq_getElem?_getD,List.getElem?_eq_getElem h]; rfl
section
variable {prog : Program} {w : World} {A : Around} {E : Value→Shared→Prop} {s : Shared}
end
end L6
namespace L6
open PySem PySem.Spec PyProof.Rows L2 L3 L4
open Sem (wp)
section
variable {M : Model} {A : Around} {E : Value→Shared→Prop} {s : Shared}
end
section
variable {prog : Program} {w : World} {A : Around} {E : Value→Shared→Prop} {s : Shared} {I a : Addr} {i ep : Nat} {o : Obj} {es : Array (Int × Value)} {t : SetTable}
end
end L6
namespace L6
open PySem PySem.Spec PyProof.Rows L2 L3 L4
open Sem (wp)
section
variable {prog : Program} {w : World} {A : Around} {E : Value→Shared→Prop} {s : Shared} {I a : Addr} {i ep : Nat} {o : Obj} {es : Array (Int × Value)} {t : SetTable}
end
section
variable {prog : Program} {w : World} {A : Around} {E : Value→Shared→Prop} {s : Shared} {a : Addr}
end
end L6
namespace L6
open PySem PySem.Spec PyProof.Rows L2 L3 L4
open Sem (wp)
theorem vals_ints : ∀ {ns : List Int} {us : List Value},Vals (ns.map V.int) us→IntsAre us ns
  | [],_,.nil => .nil
  | _ :: _,_,.cons r t=>by
    obtain ⟨k,rfl⟩:=r
    exact .cons _ k (vals_ints t)
section
variable {X : Cx}
end
end L6
namespace CB
open PySem PyProof.Rows
noncomputable def maskOf (ns : List Nat) : Nat:=ns.foldl (fun m n=>m ||| 2 ^ n) 0
noncomputable def yC (m : Nat) : List Nat:=(List.range (Builtin.Int.intBits (m : Int))).filter fun k=>m.testBit k
theorem WM (k : Nat) : ∀ (ns : List Nat) (m : Nat),(ns.foldl (fun m n=>m ||| 2 ^ n) m).testBit k=(m.testBit k || ns.contains k)
  | [],m=>by simp
  | n :: r,m=>by
    rw [List.foldl_cons,WM k r,Nat.testBit_or,Nat.testBit_two_pow,List.contains_cons,Bool.or_assoc]
    congr 2
    by_cases h : n=k
    · subst h; simp
    · rw [decide_eq_false h]
      exact (beq_eq_false_iff_ne.mpr (fun z=>h z.symm)).symm
theorem j7 (ns : List Nat) (k : Nat) : (maskOf ns).testBit k=ns.contains k:=by unfold maskOf; rw [WM]; simp
theorem or_cast (m n : Nat) : Builtin.bitOr (m : Int) (n : Int)=((m ||| n : Nat) : Int):=by
  have e : ∀ k : Nat,Builtin.bitNot (Builtin.bitNot (k : Int))=(k : Int):=fun k=>by unfold Builtin.bitNot; omega
  have z : ∀ k : Nat,¬ 0≤Builtin.bitNot (k : Int):=fun k=>by unfold Builtin.bitNot; omega
  unfold Builtin.bitOr
  have h : Builtin.bitAnd (Builtin.bitNot (m : Int)) (Builtin.bitNot (n : Int))=Builtin.bitNot (((m ||| n : Nat)) : Int):=by
    have:=bitAnd_nn (z m) (z n)
    rw [this,e,e,Int.toNat_natCast,Int.toNat_natCast]
  rw [h,e]
theorem zcV (m n : Nat) : (m &&& n) + (m ||| n)=m + n:=by
  have h:=or_cast m n
  rw [bitOr_and,bitAnd_pp (by omega) (by omega),Int.toNat_natCast,Int.toNat_natCast] at h
  omega
theorem and_cast (m n : Nat) : Builtin.bitAnd (m : Int) (n : Int)=((m &&& n : Nat) : Int):=by rw [bitAnd_pp (by omega) (by omega),Int.toNat_natCast,Int.toNat_natCast]
theorem jq (k : Nat) : (2 : Int) ^ k=((2 ^ k : Nat) : Int):=(PySem.W.kbt_cast k).symm
theorem VM (m : Nat) : m < 2 ^ Builtin.Int.intBits (m : Int):=by
  have:=(intBits_le_iff (m:=Builtin.Int.intBits (m : Int)) (x:=(m : Int))).mp (Nat.le_refl _)
  simpa using this
theorem xj {m k : Nat} : k∈yC m↔m.testBit k=true:=by
  unfold yC
  rw [List.mem_filter,List.mem_range]
  constructor
  · exact fun h=>h.2
  · intro h
    refine ⟨?_,h⟩
    rcases Nat.lt_or_ge k (Builtin.Int.intBits (m : Int)) with z | z
    · exact z
    · have : m < 2 ^ k:=Nat.lt_of_lt_of_le (VM m) (Nat.pow_le_pow_right (by decide) z)
      rw [Nat.testBit_lt_two_pow this] at h
      cases h
theorem jW (m : Nat) : (yC m).Pairwise (· < ·):=List.Pairwise.filter _ List.pairwise_lt_range
theorem VN : ∀ {xs ys : List Nat},xs.Pairwise (· < ·)→ys.Pairwise (· < ·)→(∀ k,k∈xs↔k∈ys)→xs=ys:=by
  intro xs ys hx hy h
  have nx : xs.Nodup:=hx.imp fun h=>Nat.ne_of_lt h
  have ny : ys.Nodup:=hy.imp fun h=>Nat.ne_of_lt h
  exact List.Perm.eq_of_pairwise (le:=(· < ·)) (fun a b _ _ h1 h2=>absurd (Nat.lt_trans h1 h2) (Nat.lt_irrefl _)) hx hy ((List.perm_ext_iff_of_nodup nx ny).mpr h)
theorem zcW (m n : Nat) : decide (Builtin.bitAnd ((m : Int) / 2 ^ n) 1=1)=m.testBit n:=by
  rw [bitAnd_m1,jq]
  have e : (m : Int) / ((2 ^ n : Nat) : Int) % 2=((m / 2 ^ n % 2 : Nat) : Int):=by omega
  rw [e,Nat.testBit_eq_decide_div_mod_eq]
  exact decide_eq_decide.mpr (by omega)
theorem low_split : ∀ (m : Nat),m≠0→∃ k a : Nat,m=2 ^ k * (2 * a + 1):=by
  intro m
  induction m using Nat.strongRecOn with
  | _ m ih =>
    intro h
    by_cases e : m % 2=0
    · obtain ⟨k,a,e2⟩:=ih (m / 2) (by omega) (by omega)
      refine ⟨k + 1,a,?_⟩
      rw [Nat.pow_succ,Nat.mul_comm (2 ^ k) 2,Nat.mul_assoc,← e2]
      omega
    · exact ⟨0,m / 2,by omega⟩
theorem zbc (k : Nat) : Builtin.Int.intBits ((2 : Int) ^ k)=k + 1:=by
  rw [jq]
  have h1 : Builtin.Int.intBits ((2 ^ k : Nat) : Int)≤k + 1:=intBits_le_iff.mpr (by rw [Int.natAbs_natCast]; exact Nat.pow_lt_pow_right (by decide) (by omega))
  have h2 : ¬ Builtin.Int.intBits ((2 ^ k : Nat) : Int)≤k:=fun z=>by
    have:=intBits_le_iff.mp z
    rw [Int.natAbs_natCast] at this
    omega
  omega
theorem zcX {m : Nat} (h : m≠0) : ∃ k : Nat,(yC m)[0]?=some k∧((Builtin.Int.intBits (Builtin.bitAnd (m : Int) (-(m : Int))) : Nat) : Int) - 1=(k : Int):=by
  obtain ⟨k,a,e⟩:=low_split m h
  refine ⟨k,?_,?_⟩
  · have hk : m.testBit k=true:=by
      rw [Nat.testBit_eq_decide_div_mod_eq,e,Nat.mul_div_cancel_left _ (Nat.two_pow_pos k)]
      exact decide_eq_true (by omega)
    have lo : ∀ j,m.testBit j=true→k≤j:=fun j hj=>by
      rcases Nat.lt_or_ge j k with z | z
      · rw [Nat.testBit_eq_decide_div_mod_eq,e] at hj
        have h1 : 2 ^ k=2 ^ j * (2 * 2 ^ (k - j - 1)):=by
          rw [← Nat.pow_succ',← Nat.pow_add]
          congr 1
          omega
        rw [h1,Nat.mul_assoc,Nat.mul_div_cancel_left _ (Nat.two_pow_pos j),Nat.mul_assoc,Nat.mul_mod_right] at hj
        simp at hj
      · exact z
    have hm:=xj.mpr hk
    have up:=jW m
    cases hl : yC m with
    | nil=>rw [hl] at hm; cases hm
    | cons b r =>
      rw [hl] at hm up
      have hb : m.testBit b=true:=xj.mp (by rw [hl]; exact List.mem_cons_self)
      have:=lo b hb
      rcases List.mem_cons.mp hm with z | z
      · rw [z]; rfl
      · have:=(List.pairwise_cons.mp up).1 k z
        omega
  · have e' : (m : Int)=2 ^ k * (2 * (a : Int) + 1):=by rw [e,jq]; simp
    rw [e',PySem.W.kbt_low,zbc]
    omega
noncomputable def less (m n : Nat) : Nat:=m - (m &&& n)
theorem zas (m n : Nat) : Builtin.bitAnd (m : Int) (Builtin.bitNot (n : Int))=((less m n : Nat) : Int):=by
  rw [bitAnd_not,and_cast]
  unfold less
  have h:=Nat.and_le_left (n:=m) (m:=n)
  omega
theorem WN (m n k : Nat) : (less m n).testBit k=(m.testBit k && !n.testBit k):=by
  have h2 : (m &&& (m ^^^ n))=less m n:=by
    unfold less
    have e1:=zcV (m &&& n) (m &&& (m ^^^ n))
    have e2 : (m &&& n) &&& (m &&& (m ^^^ n))=0:=by
      apply Nat.eq_of_testBit_eq
      intro i
      simp only [Nat.testBit_and,Nat.testBit_xor,Nat.zero_testBit]
      cases m.testBit i <;> cases n.testBit i <;> rfl
    have e3 : (m &&& n) ||| (m &&& (m ^^^ n))=m:=by
      apply Nat.eq_of_testBit_eq
      intro i
      simp only [Nat.testBit_and,Nat.testBit_or,Nat.testBit_xor]
      cases m.testBit i <;> cases n.testBit i <;> rfl
    rw [e2,e3] at e1
    omega
  rw [← h2,Nat.testBit_and,Nat.testBit_xor]
  cases m.testBit k <;> cases n.testBit k <;> rfl
end CB
namespace L6
open PySem PySem.Spec PyProof.Rows L2 L3 L4
section
variable {X : Cx}
theorem vW : MtR X "int.bit_length" (fun x xs H Q=>xs=[]∧∃ (i : Int),x = .int i∧Q (.int (Builtin.Int.intBits i : Nat)) H):=by
  intro pins s σ H x xs v us Q I rx rv h
  obtain ⟨rfl,i,rfl,q⟩:=h
  obtain ⟨t,rfl⟩:=rx
  cases rv
  exact call_int_bit_length ⟨.int (Builtin.Int.intBits i : Nat),H,I.tok _,⟨_,rfl⟩,q⟩
end
end L6
namespace L6
open PySem PySem.Spec PyProof.Rows L2 L3 L4
noncomputable def nV (ns : List Nat) : List V:=ns.map fun n : Nat=>V.int n
noncomputable def nD (ns : List Nat) : List PyData:=ns.map fun n : Nat=>PyData.int n
theorem zcY (ns : List Nat) : nV ns=(ns.map fun n : Nat=>(n : Int)).map V.int:=by unfold nV; rw [List.map_map]; rfl
end L6
namespace L6
open PySem PySem.Spec PyProof.Rows L2 L3 L4
theorem zfL (xs : List V) : cutV xs (some 1) none=xs.drop 1:=by
  cases xs with
  | nil=>decide
  | cons x r =>
    rw [show (1 : Int)=((1 : Nat) : Int) from rfl,WL]
    show 1≤r.length + 1
    omega
end L6
namespace L6
end L6
namespace L7
open PySem PySem.Spec PyProof.Rows L2 L3 L4
section
variable {X : Cx} {tg : Expr}
theorem WO : ∀ {xs : List V} {us : List Value},xs.length=us.length→(∀ (i : Nat) (x : V) (u : Value),xs[i]?=some x→us[i]?=some u→RelV x u)→Vals xs us
  | [],[],_,_ => .nil
  | x :: xs,u :: us,hl,h => .cons (h 0 x u rfl rfl) (WO (by simpa using hl) fun i x' u' h1 h2=>h (i + 1) x' u' (by simpa using h1) (by simpa using h2))
  | [],_ :: _,hl,_=>by simp at hl
  | _ :: _,[],hl,_=>by simp at hl
theorem xA (hc : X.calm=true) : CallR X (.builtin "sum") (fun xs H Q=>L23.E2 fun (p : Addr) (ns : List Int)=>L23.A3 (xs=[.ref p]) (SqL X.K H p (ns.map V.int)) (Q (.int (preSum (fun i=>ns.getD i 0) ns.length)) H)):=by
  intro pins s σ H xs us Q I r h
  obtain ⟨p,ns,rfl,hq,q⟩:=h
  obtain ⟨u,rfl,rx⟩:=vals1 r
  cases rx
  obtain ⟨its,rv,pl,hz⟩:=I.list hq
  have hl:=rv.length
  rw [List.length_map] at hl
  refine call_sum_walkAnyS (wpAny_pyIter_list pl.isList ?_)
  have hp : p < s.heap.objs.size:=by obtain ⟨o,n,e,_⟩:=pl; exact Heap.lt_size e
  refine ⟨s.heap.objs.size,_,_,_,its.toArray.size,_,_,fun i=>ns.getD i 0,rfl,(Walks.list (by show X.A.handled=none; exact I.ok.hd hc) s.heap.objs.size p (Nat.ne_of_lt hp) its.toArray).toS,
    ⟨⟨_,Heap.get?_push_size _ rfl,rfl,rfl⟩,pl.isList.push _⟩,fun b hb=>?_,fun i v hv=>?_,fun s' t' hm=>?_⟩
  · show b < (s.heap.push _).objs.size
    rw [Heap.size_push]
    rcases List.mem_cons.mp hb with e | hb
    · rw [e]; exact Nat.lt_succ_self _
    · rw [List.mem_singleton.mp hb]; exact Nat.lt_succ_of_lt hp
  · have hv' : its[i]?=some v:=by simpa using hv
    have hi : i < its.length:=(List.getElem?_eq_some_iff.mp hv').1
    obtain ⟨u',e1,t,e2⟩:=rv.get (x:=V.int (ns[i]'(by omega))) (i:=i) (by rw [List.getElem?_map,List.getElem?_eq_getElem (by omega)]; rfl)
    rw [hv'] at e1
    cases e1
    refine ⟨t,?_⟩
    rw [e2]
    show _=Value.int (ns.getD i 0) t
    rw [List.getD_eq_getElem?_getD,List.getElem?_eq_getElem (by omega)]; rfl
  · have hk : ∀ b o,s.heap.get? b=some o→s'.heap.get? b=some o:=fun b o e =>
      hm.heap b o (fun z=>absurd (Heap.lt_size e) (by rw [List.mem_singleton.mp z]; exact Nat.lt_irrefl _)) (Heap.get?_push_of_some _ e)
    rw [Moved.eq_with hm]
    refine ⟨.int (preSum (fun i=>ns.getD i 0) ns.length),H,I.kept (t':=s'.toks) hk,⟨t',?_⟩,q⟩
    rw [List.size_toArray,← hl]
theorem Z9 (ns : List Int) : ∀ k,k≤ns.length→preSum (fun i=>ns.getD i 0) k=(ns.take k).foldl (· + ·) 0
  | 0,_=>by simp [preSum]
  | k + 1,h=>by
    show preSum (fun i=>ns.getD i 0) k + ns.getD k 0=_
    rw [Z9 ns k (by omega),L6.Wf (by omega),List.foldl_append]
    rfl
theorem wY (ns : List Int) : preSum (fun i=>ns.getD i 0) ns.length=ns.foldl (· + ·) 0:=by rw [Z9 ns _ (Nat.le_refl _),List.take_length]
end
end L7
namespace L7
open PySem PySem.Spec PyProof.Rows L2 L3 L4 L6
theorem walked {H H2 : Hp} {d : Addr} {o : Obj} {kvs : List (Key × V)} (h : H d=some (.dK kvs)∧H2=upd H d (.frz o (.dK kvs))∨H d=some (.frz o (.dK kvs))∧H2=H) :
    H2 d=some (.frz o (.dK kvs))∧(∀ b u,Rd H b u→Rd H2 b u)∧∀ b,H b=none→H2 b=none:=by
  rcases h with ⟨e,rfl⟩ | ⟨e,rfl⟩
  · refine ⟨upd_same,fun b u r=>?_,fun b hb=>?_⟩
    · by_cases hb : b=d
      · subst hb
        rcases r with r | ⟨o',r⟩
        · rw [e] at r
          rw [← Option.some.inj r]
          exact .inr ⟨o,upd_same⟩
        · rw [e] at r
          cases r
      · rcases r with r | ⟨o',r⟩
        · exact .inl (by rw [upd_ne hb]; exact r)
        · exact .inr ⟨o',by rw [upd_ne hb]; exact r⟩
    · rw [upd_ne (fun z=>by rw [z,e] at hb; cases hb)]; exact hb
  · exact ⟨e,fun _ _ r=>r,fun _ h=>h⟩
end L7
namespace L3
open PySem PySem.Spec PyProof.Rows L2
section
variable {X : Cx}
end
end L3
namespace CG
noncomputable def sumZ (l : List Int) : Int:=l.foldl (· + ·) 0
theorem foldl_add (l : List Int) : ∀ z : Int,l.foldl (· + ·) z=z + sumZ l:=by
  unfold sumZ
  induction l with
  | nil=>intro z; exact (Int.add_zero z).symm
  | cons a r ih =>
    intro z
    show r.foldl (· + ·) (z + a)=z + r.foldl (· + ·) (0 + a)
    rw [ih (z + a),ih (0 + a)]
    omega
theorem X3 (a : Int) (l : List Int) : sumZ (a :: l)=a + sumZ l:=by
  show l.foldl (· + ·) (0 + a)=_
  rw [foldl_add]
  omega
theorem Xv {l : List Nat} {i x : Nat} (h : l[i]?=some x) : l.getD i 0=x:=by
  rw [List.getD_eq_getElem?_getD,h]
  rfl
theorem filterMap_some {α β : Type} {f : α→Option β} {g : α→β} : ∀ {l : List α},(∀ i∈l,f i=some (g i))→l.filterMap f=l.map g
  | [],_=>rfl
  | a :: r,h=>by
    rw [List.filterMap_cons,h a (List.mem_cons_self),List.map_cons]
    exact congrArg (_ :: ·) (filterMap_some fun i hi=>h i (List.mem_cons_of_mem _ hi))
theorem zcw (m w : Nat) : (((m : Int) / 2 ^ w) % 2=1)↔m.testBit w=true:=by
  rw [show ((2 : Int) ^ w)=((2 ^ w : Nat) : Int) by rw [Int.natCast_pow]; rfl,← Int.natCast_ediv,show ((m / 2 ^ w : Nat) : Int) % 2=((m / 2 ^ w % 2 : Nat) : Int) by rw [Int.natCast_emod]; rfl]
  rw [Nat.testBit_eq_decide_div_mod_eq,decide_eq_true_eq]
  omega
structure Good (most : Nat) (ws os ms : List Nat) : Prop where
  len : ws.length=ms.length
  one : 1≤ws.length
  six : ws.length≤6
  many : os.length≤most
  wl : ∀ w∈ws,w≤60
  wt : ∀ (k w : Nat),ws[k]?=some w→1≤k→w≤3
  ol : ∀ o∈os,1≤o∧o≤9
  ml : ∀ m∈ms,m < 2 ^ os.length
end CG
namespace L7
open PySem PySem.Spec PyProof.Rows L2 L3 L4 L6
section
variable {X : Cx}
theorem zat (hc : X.calm=true) : CallR X (.builtin "max") (fun xs H Q=>L23.E2 fun (p : Addr) (ns : List Int)=>L23.A4 (xs=[.ref p]) (SqL X.K H p (ns.map V.int)) (ns≠[]) (∀ m,m∈ns→(∀ x∈ns,x≤m)→Q (.int m) H)):=by
  intro pins s σ H xs us Q I r h
  obtain ⟨p,ns,rfl,hq,hne,q⟩:=h
  obtain ⟨u,rfl,rx⟩:=vals1 r
  cases rx
  obtain ⟨its,rv,pl,hz⟩:=I.list hq
  have hl:=rv.length
  rw [List.length_map] at hl
  have hpos : 0 < ns.length:=List.length_pos_iff.mpr hne
  refine call_max_walk (wpAny_pyIter_list pl.isList ?_)
  have hp : p < s.heap.objs.size:=by obtain ⟨o,n,e,_⟩:=pl; exact Heap.lt_size e
  have hval : ∀ (i : Nat) (v : Value),its.toArray[i]?=some v→∃ t : Tok,v=Value.int (ns.getD i 0) t:=fun i v hv=>by
    have hv' : its[i]?=some v:=by simpa using hv
    have hi : i < its.length:=(List.getElem?_eq_some_iff.mp hv').1
    obtain ⟨u',e1,t,e2⟩:=rv.get (x:=V.int (ns[i]'(by omega))) (i:=i) (by rw [List.getElem?_map,List.getElem?_eq_getElem (by omega)]; rfl)
    rw [hv'] at e1
    cases e1
    refine ⟨t,?_⟩
    rw [e2]
    show _=Value.int (ns.getD i 0) t
    rw [List.getD_eq_getElem?_getD,List.getElem?_eq_getElem (by omega)]; rfl
  refine ⟨s.heap.objs.size,_,_,its.toArray.size,_,_,fun i j=>decide (ns.getD i 0 > ns.getD j 0),rfl,Walks.list (by show X.A.handled=none; exact I.ok.hd hc) s.heap.objs.size p (Nat.ne_of_lt hp) its.toArray,
    ⟨⟨_,Heap.get?_push_size _ rfl,rfl,rfl⟩,pl.isList.push _⟩,fun b hb=>?_,by rw [List.size_toArray]; omega,CmpOf.ints_gt (fun i=>ns.getD i 0) hval,fun v h' tk hP hk=>?_⟩
  · show b < (s.heap.push _).objs.size
    rw [Heap.size_push]
    rcases List.mem_cons.mp hb with e | hb
    · rw [e]; exact Nat.lt_succ_self _
    · rw [List.mem_singleton.mp hb]; exact Nat.lt_succ_of_lt hp
  · obtain ⟨t,rfl⟩:=hval _ _ hP
    obtain ⟨h1,h2⟩:=argBest_gt (fun i=>ns.getD i 0) (its.toArray.size - 1)
    rw [List.size_toArray] at h1 h2
    have hk' : ∀ b o,s.heap.get? b=some o→h'.get? b=some o:=fun b o e =>
      hk b o (fun z=>absurd (Heap.lt_size e) (by rw [List.mem_singleton.mp z]; exact Nat.lt_irrefl _)) (Heap.get?_push_of_some _ e)
    rw [List.size_toArray] at hP ⊢
    generalize argBest (fun i j=>decide (ns.getD i 0 > ns.getD j 0)) (its.length - 1)=b at h1 h2 ⊢
    have hb : b < ns.length:=by omega
    have eb : ns.getD b 0=ns[b]:=by rw [List.getD_eq_getElem?_getD,List.getElem?_eq_getElem hb]; rfl
    refine ⟨.int (ns.getD b 0),H,I.kept (t':=tk) hk',⟨_,rfl⟩,q _ (eb ▸ List.getElem_mem hb) fun x hx=>?_⟩
    obtain ⟨j,hj,rfl⟩:=List.getElem_of_mem hx
    have:=h2 j (by omega)
    rw [List.getD_eq_getElem?_getD,List.getElem?_eq_getElem hj] at this
    exact this
end
end L7
namespace L3
open PySem PySem.Spec PyProof.Rows L2 L3
theorem xo {J : It} {xs : List V} {P : Hp→Prop} {D : Addr} {g : TG} {tc : TT} {te : TE} {Q : Hp→Prop} {σ : L2.St} {H : Hp} (hD : H D=none) (Y : jo J xs P) (S : L2.St→Prop) (zs : List V) (hlz : zs.length=xs.length) (h0 : S σ) (hP : ∀ H',Same H H'→P H') (hz : xs.length < sizeLine)
    (step : ∀ (i : Nat) (x z : V) (σ : L2.St) (H' : Hp) (R1 : L2.St→V→Hp→Prop) (R0 : L2.St→Hp→Prop),xs[i]?=some x→zs[i]?=some z→S σ→Same H H'→(∀ σ2 H4,S σ2→Same H' H4→R1 σ2 z H4) →
      g x σ H' fun σ2 H2=>tc σ2 H2 fun b H3=>if b=true then te σ2 H3 fun y H4=>R1 σ2 y H4 else R0 σ2 H3)
    (hq : ∀ H',Same H H'→H' D=some (.lst zs)→Q H') : ∃ W : Nat→Nat→List V→L2.St→Hp→Prop,(∃ m,W 0 m [] σ (upd H D (.lst [])))∧vZ D J g tc te Q W:=by
  have up : ∀ {H' : Hp} {o : HO},Same H H'→Same H (upd H' D o):=fun {H' o} s b ob e=>by
    rw [upd_ne (ne_of_none e hD)]
    exact s b ob e
  refine j6 Y (fun i ys σ H'=>Same H H'∧H' D=some (.lst ys)∧ys=zs.take i∧S σ) ⟨up (Same.refl H),upd_same,by simp,h0⟩ (fun i ys σ H' ⟨s,e,e2,_⟩=>⟨hP H' s,e,?_⟩) hz (fun i x ys σ H' hx ⟨s,e,e2,hS⟩=>?_) fun ys σ H' ⟨s,e,e2,_⟩=>?_
  · rw [e2,List.length_take]
    omega
  · have hi : i < xs.length:=(List.getElem?_eq_some_iff.mp hx).1
    have hi' : i < zs.length:=by omega
    have ez : zs[i]?=some zs[i]:=List.getElem?_eq_getElem hi'
    refine step i x zs[i] σ H' (fun σ2 y H4=>H4 D=some (.lst ys)∧Same H (upd H4 D (.lst (ys ++ [y])))∧upd H4 D (.lst (ys ++ [y])) D=some (.lst (ys ++ [y]))∧ys ++ [y]=zs.take (i + 1)∧S σ2) _ hx ez hS s (fun σ2 H4 h2 s4=>⟨s4 _ _ e,up (s.trans s4),upd_same,?_,h2⟩)
    rw [List.take_succ,ez,e2]
    rfl
  · refine hq H' s ?_
    rw [e,e2,← hlz,List.take_length]
end L3
namespace L3
open PySem PySem.Spec PyProof.Rows L2 L3
end L3
namespace L12
open PySem PySem.Spec PySem.W PyProof.Rows L2 L3
noncomputable def bare : Heap:={}
theorem X4 (b : Addr) : bare.get? b=none:=by
  unfold bare Heap.get?
  simp
noncomputable def WQ (h : Heap) (L : Addr) : List (Addr × Obj):=(List.range h.objs.size).filterMap fun b=>if b=L then none else (h.get? b).map fun o=>(b,o)
theorem Yg {h : Heap} {L b : Addr} {o : Obj} (e : h.get? b=some o) (hb : b≠L) : (b,o)∈WQ h L :=
  List.mem_filterMap.mpr ⟨b,List.mem_range.mpr (Heap.lt_size e),by rw [if_neg hb,e]; rfl⟩
theorem WR {h : Heap} {L : Addr} {p : Addr × Obj} (hp : p∈WQ h L) : h.get? p.1=some p.2∧p.1≠L:=by
  obtain ⟨b,_,e⟩:=List.mem_filterMap.mp hp
  by_cases hb : b=L
  · rw [if_pos hb] at e
    cases e
  · rw [if_neg hb] at e
    obtain ⟨o,ho,rfl⟩:=Option.map_eq_some_iff.mp e
    exact ⟨ho,hb⟩
theorem news_all (h : Heap) (L : Addr) : News bare L h (WQ h L):=fun p hp=>⟨(WR hp).1,(WR hp).2,X4 _⟩
theorem zcx {P : Program} {w : World} {H : Hp} {h : Heap} {a : Addr} {o : HO} (k : ObjOk P w H h a o) : ∃ u,h.get? a=some u:=by
  cases o with
  | lst=>obtain ⟨_,_,_,_,e⟩:=k; exact ⟨_,e⟩
  | tup=>obtain ⟨_,_,_,u,e,_⟩:=k; exact ⟨u,e⟩
  | dK=>obtain ⟨_,_,_,_,u,_,_,e,_⟩:=k; exact ⟨u,e⟩
  | dT=>obtain ⟨_,_,_,_,u,_,_,e,_⟩:=k; exact ⟨u,e⟩
  | set=>obtain ⟨u,_,_,_,e,_⟩:=k; exact ⟨u,e⟩
  | ins=>obtain ⟨_,_,_,e,_⟩:=k; exact ⟨_,e⟩
  | own=>exact k
  | xd=>obtain ⟨_,⟨u,_,_,e,_⟩,_⟩:=k; exact ⟨u,e⟩
  | rng=>obtain ⟨_,_,_,e⟩:=k; exact ⟨_,e⟩
  | frz u=>exact ⟨u,k.1⟩
  | tbl=>exact ⟨_,k⟩
  | met=>exact ⟨_,k⟩
  | ext=>obtain ⟨_,x,_⟩:=k; exact x
section
variable {X : Cx} {pins : List (Addr × Obj)} {σ : L2.St} {H : Hp} {s : Shared}
theorem fr_all (I : Inv X pins σ H s) : ∃ m,Fr bare X.env.locals s.heap m:=by
  obtain ⟨m,hn,_⟩:=I.loc
  exact ⟨m,hn,(fun b o e=>by rw [X4] at e; cases e),Nat.zero_le _⟩
theorem zbd (I : Inv X pins σ H s) {m : Str→Option Value} (F : Fr bare X.env.locals s.heap m) {h' : Heap} {D : Addr} {its : List Value} {c : Nat} {zs : List V} {t' : Nat} (F' : Fr bare X.env.locals h' m)
    (kept : News bare X.env.locals h' (WQ s.heap X.env.locals)) (eD : h'.get? D=some { cls := .type "list",data := .seq its.toArray c }) (hD : ∀ q∈WQ s.heap X.env.locals,q.1 < D) (hL : D≠X.env.locals) (rv : Vals zs its) (hz : zs.length≤sizeLine) :
    H D=none∧Inv X pins σ (upd H D (.lst zs)) { s with heap:=h',toks:=t' }:=by
  have keep : ∀ b o,b≠X.env.locals→s.heap.get? b=some o→h'.get? b=some o:=fun b o hb e=>(kept _ (Yg e hb)).1
  have neD : ∀ b o,s.heap.get? b=some o→b≠D:=fun b o e z=>by
    by_cases hb : b=X.env.locals
    · exact hL (z ▸ hb)
    · exact absurd (hD _ (Yg e hb)) (by rw [z]; exact Nat.lt_irrefl _)
  have inH : ∀ b u,H b=some u→∃ o,s.heap.get? b=some o:=fun b u e=>zcx (I.hok b u e)
  have noD : H D=none:=by
    cases e : H D with
    | none=>rfl
    | some u =>
      obtain ⟨o,ho⟩:=inH D u e
      exact absurd rfl (neD D o ho)
  have neL : ∀ b u,H b=some u→b≠X.env.locals:=fun b u e z=>by rw [z,I.free] at e; cases e
  have old : ∀ b u,H b=some u→upd H D (.lst zs) b=some u:=fun b u e=>by
    obtain ⟨o,ho⟩:=inH b u e
    rw [upd_ne (neD b o ho)]
    exact e
  refine ⟨noD,I.step (g':=s.gens) (d':=s.drawn) (ch:=[]) (fun b hb=>nomatch hb) (fun b o h1 _ _ e _=>keep b o h1 e) (fun b o h1 _ _ e _=>⟨o.slots,keep b o h1 e⟩) (fun b o _ e n=>?_) (fun b o _ e=>?_) (fun b xs e=>old b _ e) (fun b o u e=>old b _ e) (fun b ps e=>⟨#[],by rw [old b _ e]; simp⟩) (fun m' hm'=>?_) (fun b u e=>?_) I.bare⟩
  · rw [upd_ne (neD b o e)]
    exact n
  · by_cases hb : b=X.env.locals
    · obtain ⟨o',_,_,ho',_⟩:=F'.ns
      rw [hb]
      exact ⟨o',ho'⟩
    · exact ⟨o,keep b o hb e⟩
  · have : m'=m:=funext fun x=>hm'.agree F.ns x
    rw [this]
    exact F'.ns
  · by_cases hb : b=D
    · subst hb
      rw [upd_same] at e
      cases e
      exact ⟨hz,its,c,rv,eD⟩
    · rw [upd_ne hb] at e
      refine (I.hok b u e).stay (fun x o hx q=>keep x o ?_ q) (fun x q=>old x _ q) fun x xs q=>old x _ q
      rcases hx with rfl | hx
      · exact neL _ _ e
      · exact neL _ _ hx
end
end L12
namespace L12
open PySem PySem.Spec PySem.W PyProof.Rows L2
noncomputable def yD (n : Nat) {α : Type} (R : α→Prop) : KasT α→Prop
  | .ret a=>R a
  | .ask i j k=>i < n∧j < n∧∀ b,yD n R (k b)
theorem yD.bind {n : Nat} {α β : Type} {R : α→Prop} {S : β→Prop} {f : α→KasT β} (hf : ∀ a,R a→yD n S (f a)) : ∀ {t : KasT α},yD n R t→yD n S (t.bind f)
  | .ret a,h=>hf a h
  | .ask _ _ _,h=>⟨h.1,h.2.1,fun b=>yD.bind hf (h.2.2 b)⟩
noncomputable def zV (n : Nat) (p : Array Nat) : Prop:=p.Perm (List.toArray (List.range n))
theorem zV.lt {n : Nat} {p : Array Nat} (h : zV n p) (hn : 0 < n) (i : Nat) : p.getD i 0 < n:=by
  by_cases hi : i < p.size
  · have e : p.getD i 0=p[i]:=by simp [Array.getD,hi]
    rw [e]
    have hm : p[i]∈p.toList:=by simp
    have:=(Array.perm_iff_toList_perm.mp h).mem_iff.mp hm
    simpa using this
  · have e : p.getD i 0=0:=by simp [Array.getD,hi]
    rw [e]
    exact hn
theorem zV.rev {n : Nat} {p : Array Nat} (h : zV n p) (i j : Nat) : zV n (kas_rev p i j):=(mirror_perm p i j _).trans h
theorem yM {n : Nat} {α : Type} {R : α→Prop} {a b : KasT α} {c : Prop} [Decidable c] (ha : yD n R a) (hb : yD n R b) : yD n R (if c then a else b):=by
  split
  · exact ha
  · exact hb
section
variable {n : Nat} (hn : 0 < n)
include hn
theorem Yh {p : Array Nat} (hp : zV n p) : ∀ f k,yD n (fun _=>True) (kas_asc p f k)
  | 0,_=>trivial
  | f + 1,k=>⟨hp.lt hn _,hp.lt hn _,fun c=>yM trivial (Yh hp f (k + 1))⟩
theorem jA : ∀ f {p : Array Nat} k q,zV n p→yD n (fun r : Array Nat × Nat × Nat=>zV n r.1) (kas_desc f p k q)
  | 0,_,_,_,hp=>hp
  | f + 1,p,k,q,hp=>⟨hp.lt hn _,hp.lt hn _,fun c=>yM (yM (jA f _ _ (hp.rev _ _)) (jA f _ _ hp)) ⟨hp.lt hn _,hp.lt hn _,fun d=>yM hp (jA f _ _ hp)⟩⟩
theorem Yv {p : Array Nat} (hp : zV n p) (a b : Nat) : yD n (fun r : Nat × Array Nat=>zV n r.2) (kas_tail3 a b p):=by
  unfold kas_tail3
  refine yD.bind (fun m _=>?_) (Yh hn (hp.rev 0 a) _ _)
  have h0 : yD n (fun r : Nat × Array Nat=>zV n r.2) (.ret (m,kas_rev p 0 a)):=hp.rev 0 a
  exact h0
theorem Zx {p : Array Nat} (hp : zV n p) (a b : Nat) : yD n (fun r : Nat × Array Nat=>zV n r.2) (kas_descPart a b p):=by
  unfold kas_descPart
  exact yD.bind (fun r hr=>yM (Yv hn (hr.rev _ _) _ _) (Yv hn hr _ _)) (jA hn _ _ _ hp)
theorem Yw {p : Array Nat} (hp : zV n p) (b : Nat) : yD n (fun r : Nat × Array Nat=>zV n r.2) (kas_count b p):=by
  unfold kas_count
  refine yD.bind (fun k _=>?_) (Yh hn hp _ _)
  have h0 : yD n (fun r : Nat × Array Nat=>zV n r.2) (.ret (k,p)):=hp
  refine yM h0 (yM ?_ (Zx hn hp _ _))
  exact ⟨hp.lt hn _,hp.lt hn _,fun c=>yM h0 (Zx hn (hp.rev _ _) _ _)⟩
theorem j8 {p : Array Nat} (hp : zV n p) (k : Nat) : ∀ f l r,yD n (fun _=>True) (kas_place p k f l r)
  | 0,_,_=>trivial
  | f + 1,l,r=>yM trivial ⟨hp.lt hn _,hp.lt hn _,fun c=>yM (j8 hp k f _ _) (j8 hp k f _ _)⟩
theorem WS : ∀ f {p : Array Nat} k,zV n p→yD n (zV n) (kas_bin f p k)
  | 0,_,_,hp=>hp
  | f + 1,p,k,hp=>yD.bind (fun l _=>WS f (k + 1) ((bubble_perm p k _).trans hp)) (j8 hn hp k _ _ _)
theorem zau : yD n (zV n) (kas_sort n):=by
  unfold kas_sort
  refine yD.bind (fun r hr=>?_) (Yw hn (Array.Perm.refl _) n)
  have h0 : yD n (zV n) (.ret r.2):=hr
  exact yM (WS hn _ _ hr) h0
end
noncomputable def IsPair (h : Heap) (v : Value) : Prop:=∃ x o n i j t u,v = .ref x∧h.get? x=some o∧o.cls = .type "tuple"∧o.data = .seq #[.int i t,.int j u] n
section
variable {prog : Program} {w : World} {A : Around} {E : Value→Shared→Prop} {s : Shared}
theorem X5 : ∀ {vs : List Value},(∀ v∈vs,IsPair s.heap v)→∃ fs,KatTups s.heap vs fs∧fs.length=vs.length∧∀ f∈fs,∃ i t,f=Value.int i t
  | [],_=>⟨[],trivial,rfl,fun _ h=>nomatch h⟩
  | v :: vs,h=>by
    obtain ⟨fs,k,l,q⟩:=X5 fun v hv=>h v (List.mem_cons_of_mem _ hv)
    obtain ⟨x,o,n,i,j,t,t',rfl,ho,hc,hd⟩:=h v (List.mem_cons_self ..)
    refine ⟨.int i t :: fs,KatTups.cons ho hc hd rfl k,congrArg (· + 1) l,fun f hf=>?_⟩
    rcases List.mem_cons.mp hf with rfl | hf
    · exact ⟨i,t,rfl⟩
    · exact q f hf
theorem zbe {a : Addr} {v : Option Value} {n : Nat} {P : PySem.Fin→Shared→Prop} (hq : s.heap.get? a=some { cls := .type "list",data := .seq v.toArray n })
    (q : ∀ h' c,(∀ b o,b≠a→s.heap.get? b=some o→h'.get? b=some o)→h'.get? a=some { cls := .type "list",data := .seq v.toArray c }→P (.done (.ret .none)) { s with heap:=h' }) : wpAny (model prog w) A (Builtin.«list.sort» ⟨[.ref a],[]⟩) P E s:=by
  rw [list_sort_plain]
  have sz : v.toArray.size < 2:=by cases v <;> simp
  have line : 2≤sizeLine:=by decide
  wp_walk using wpAny_loadPart' hq
  rw [if_neg (show ¬ v.toArray.toList.toArray.size > sizeLine by rw [Array.toArray_toList]; omega)]
  have e1 : (s.heap.update a (Obj.mapSeq fun _=>(#[] : Array Value))).get? a=some { cls := .type "list",data := .seq #[] (if ((#[] : Array Value).size == v.toArray.size)=true then n else n + 1) }:=Heap.get?_update_self _ hq rfl
  wp_walk
  rw [if_pos sz]
  refine wpAny_pure ?_
  have e2:=Heap.get?_push_of_some { cls := .type "list",data := .seq #[] } (Heap.get?_push_of_some { cls := .type "tuple",data := .seq v.toArray.toList.toArray } e1)
  wp_walk using wpAny_loadPart' e2
  have ez : Array.map (fun x=>x.snd) (arrOf (SortSt.mk' general' (v.toArray.zip v.toArray) #[] 7 none))=v.toArray:=by
    show Array.map (fun x=>x.snd) (v.toArray.zip v.toArray)=v.toArray
    cases v <;> simp
  rw [ez]
  have el : (Obj.mapSeq (fun _=>v.toArray) { cls := .type "list",data:=Data.seq #[] (if ((#[] : Array Value).size == v.toArray.size)=true then n else n + 1) }).data.pastItsLine=none:=by cases v <;> rfl
  rw [el]
  refine wpAny_pure ?_
  dsimp only
  rw [if_neg (by simp)]
  refine wpAny_pure (q _ _ (fun b o hb e=>?_) (Heap.get?_update_self _ e2 rfl))
  rw [Heap.get?_update_ne _ _ _ _ hb]
  refine Heap.get?_push_of_some _ (Heap.get?_push_of_some _ ?_)
  rw [Heap.get?_update_ne _ _ _ _ hb]
  exact e
theorem V3 {l : Addr} {v : Option Value} {Q : Value→Shared→Prop} (hl : s.heap.IsList l v.toArray)
    (q : ∀ h' D c,(∀ b o,s.heap.get? b=some o→h'.get? b=some o)→s.heap.objs.size≤D→h'.get? D=some { cls := .type "list",data := .seq v.toArray c }→Q (.ref D) { s with heap:=h' }) : wpAny (model prog w) A (call (.builtin "sorted") [.ref l]) Q E s:=by
  have hl' : s.heap.IsList l v.toArray.toList.toArray:=by rw [Array.toArray_toList]; exact hl
  have few : v.toArray.toList.length≤1:=by cases v <;> simp
  have line : 2≤sizeLine:=by decide
  refine Calls.call_function_entry kind_sorted plain_sorted entry_sorted (args_sorted1 _) ?_
  unfold Builtin.«sorted»
  refine wpAny_bind (m:=checkCount "sorted" 1 1 _) (wpAny_pure (wpAny_bind (collect_list hl' ?_ (by omega))))
  generalize hg : (s.heap.push (seqObj "list" #[] 0)).update s.heap.objs.size (Obj.mapSeq (· ++ v.toArray.toList.toArray))=g
  have gs : g.objs.size=s.heap.objs.size + 1:=by rw [← hg,Heap.size_update,size_push']
  have gk : ∀ b o,s.heap.get? b=some o→g.get? b=some o:=fun b o e=>by
    rw [← hg,Heap.get?_update_ne _ _ _ _ (Nat.ne_of_lt (Heap.lt_size e))]
    exact Heap.get?_push_of_some _ e
  refine wpAny_bind (wpAny_newList ?_ (by omega))
  have eD : (g.push { cls := .type "list",data := .seq v.toArray.toList.toArray }).get? g.objs.size=some { cls := .type "list",data := .seq v.toArray 0 }:=by
    rw [Heap.get?_push_size _ rfl,Array.toArray_toList]
  refine wpAny_bind (wpAny_holding (wpAny_call_entry slot_list_sort ⟨_,eD,rfl⟩ entry_list_sort (zbe (s:={ s with heap:=g.push { cls := .type "list",data := .seq v.toArray.toList.toArray } }) eD fun h' c k e=>⟨_,rfl,wpAny_pure ⟨_,rfl,?_⟩⟩) (args_list_sort _)))
  refine q h' g.objs.size c (fun b o eb=>?_) (by omega) e
  have hb : b≠g.objs.size:=Nat.ne_of_lt (Nat.lt_trans (Heap.lt_size eb) (by omega))
  exact k b o hb (Heap.get?_push_of_some _ (gk b o eb))
end
section
variable {X : Cx}
theorem zcy : ∀ {its : List Value},its.length < 2→∃ v : Option Value,its.toArray=v.toArray
  | [],_=>⟨none,rfl⟩
  | [x],_=>⟨some x,rfl⟩
  | _ :: _ :: l,h=>absurd h (by rw [List.length_cons,List.length_cons]; omega)
end
end L12
namespace L12
open PySem PySem.Spec PySem.W PyProof.Rows L2 L3 L6
section
variable {X : Cx}
noncomputable def zav (K : PySem.W.Frag) : V→List V→Hp→VK→Prop:=fun x vs H Q=>L23.E3 fun (l : Addr) (ns : List Int) (k : Int)=>L23.A4 (x = .ref l) (vs=[.int k]) (SqL K H l (ns.map V.int)) (Q (.int (ns.count k : Nat)) H)
theorem zbf : MtR X "list.count" (zav X.K):=by
  intro pins s σ H x vs v us Q I rx rv h
  obtain ⟨l,ns,k,rfl,rfl,hq,q⟩:=h
  cases rx
  obtain ⟨u,rfl,t,rfl⟩:=vals1 rv
  obtain ⟨its,r,pl,hz⟩:=I.list hq
  exact count_list_ints pl.isList (vals_ints r) ⟨.int _,H,I.tok _,⟨_,rfl⟩,q⟩
open Classical in
open Classical in
end
theorem hu0 {A : Around} {k : Nat} (hr : Room k A) : A.units < cLine:=Nat.lt_of_succ_lt (hu_of hr)
theorem vP : bootBuiltins "sorted"=some (.builtin "sorted"):=by decide +kernel
end L12
namespace L12
open PySem PySem.Spec PySem.W PyProof.Rows L2 L3
section
variable {prog : Program} {w : World} {A : Around} {E : Value→Shared→Prop} {s : Shared}
end
section
variable {X : Cx}
end
end L12
namespace L5
open PySem PySem.Spec PyProof.Rows L2 L3 L4
theorem zcz : bootBuiltins "zip"=some (.type "zip"):=by decide +kernel
noncomputable def Ity (K : PySem.W.Frag) (a b : Addr) : It :=
  ⟨fun i H=>∃ xs ys x y,SqL K H a xs∧SqL K H b ys∧xs[i]?=some x∧ys[i]?=some y,
   fun i H v H'=>∃ T x y,v = .ref T∧H T=none∧H'=upd H T (.tup [x,y])∧(∀ xs,SqL K H a xs→xs[i]?=some x)∧∀ ys,SqL K H b ys→ys[i]?=some y,
   fun i H=>∃ xs ys,SqL K H a xs∧SqL K H b ys∧(xs.length≤i∨ys.length≤i)⟩
theorem zaw {P : Program} {w : World} {K : PySem.W.Frag} {elts : List Expr} {kt : Nat} {pt : Pos} (a b z TI TO i1 i2 : Addr) (D : ZipApart z TI TO i1 i2 a b) :
    Turn P w K (.Tuple elts kt pt) (Ity K a b) [z,TI,TO,i1,i2] z (fun i h=>IsZip h z TI TO .none∧IsPair h TI (.ref i1) (.ref i2)∧(∃ c d,IsPair h TO c d)∧h.IsListIter i1 a i∧h.IsListIter i2 b i) where
  mem:=by simp
  obj:=fun i h ⟨hz,hTI,⟨c,d,hTO⟩,h1,h2⟩ x hx=>by
    obtain ⟨o1,e1,_,d1⟩:=h1
    obtain ⟨o2,e2,_,d2⟩:=h2
    simp only [List.mem_cons,List.not_mem_nil,or_false] at hx
    rcases hx with rfl | rfl | rfl | rfl | rfl
    · exact ⟨_,hz,fun v q=>by cases (show Data.fields _=Data.cell v from q)⟩
    · exact ⟨_,hTI,fun v q=>by cases (show Data.seq _ _=Data.cell v from q)⟩
    · exact ⟨_,hTO,fun v q=>by cases (show Data.seq _ _=Data.cell v from q)⟩
    · exact ⟨o1,e1,fun v q=>by rw [d1] at q; cases q⟩
    · exact ⟨o2,e2,fun v q=>by rw [d2] at q; cases q⟩
  keep:=fun i h h' ⟨hz,hTI,⟨c,d,hTO⟩,⟨o1,e1,r1⟩,⟨o2,e2,r2⟩⟩ k=>⟨k z (by simp) _ hz,k TI (by simp) _ hTI,⟨c,d,k TO (by simp) _ hTO⟩,⟨o1,k i1 (by simp) _ e1,r1⟩,⟨o2,k i2 (by simp) _ e2,r2⟩⟩
  item:=by
    intro X hP hw hK hc i pins s σ H E I hf st hg
    subst hP hw hK
    obtain ⟨hz,hTI,⟨c,d,hTO⟩,h1,h2⟩:=st
    obtain ⟨xs,ys,x,y,hq1,hq2,hx,hy⟩:=hg
    obtain ⟨zcZ,rv1,p1,_⟩:=I.list hq1
    obtain ⟨its2,rv2,p2,_⟩:=I.list hq2
    obtain ⟨u,hu,ru⟩:=rv1.get hx
    obtain ⟨v,hv,rv⟩:=rv2.get hy
    have lt1 : z < s.heap.objs.size:=Heap.lt_size hz
    have lt2 : TI < s.heap.objs.size:=Heap.lt_size hTI
    have lt3 : TO < s.heap.objs.size:=Heap.lt_size hTO
    have lt4 : i1 < s.heap.objs.size:=by obtain ⟨o,e,_⟩:=id h1; exact Heap.lt_size e
    have lt5 : i2 < s.heap.objs.size:=by obtain ⟨o,e,_⟩:=id h2; exact Heap.lt_size e
    refine wpAny_pyNext_zip_item D hz hTI hTO h1 h2 p1.isList p2.isList (x:=u) (y:=v) (by simpa using hu) (by simpa using hv) fun h' a1 a2 a3 a4 a5 _ kk=>⟨_,rfl,?_⟩
    refine wpAny_letOwnedTupleGo_zip a1 fun g2 z2 b2=>?_
    replace b2 : Heap.SameBut z h' g2:=b2
    obtain ⟨g1,eg1⟩ : ∃ g1,g1=s.heap.push { cls := .type "tuple",data := .seq #[u,v] }:=⟨_,rfl⟩
    have e1 : g1.get? s.heap.objs.size=some { cls := .type "tuple",data := .seq #[u,v] }:=by rw [eg1]; exact Heap.get?_push_size _ rfl
    have I1 : Inv X pins σ (upd H s.heap.objs.size (.tup [x,y])) { s with heap:=g1,toks:=s.toks } :=
      I.laid (fun b o q=>by rw [eg1]; exact Heap.get?_push_of_some _ q) (Nat.le_refl _) ⟨by show 2≤sizeLine; decide,[u,v],.cons ru (.cons rv .nil),⟨_,e1,rfl,_,rfl⟩⟩
    have lt : ∀ b∈[z,TI,TO,i1,i2],b < s.heap.objs.size:=fun b hb=>by
      simp only [List.mem_cons,List.not_mem_nil,or_false] at hb
      rcases hb with rfl | rfl | rfl | rfl | rfl <;> assumption
    have ff : ∀ b∈[z,TI,TO,i1,i2],FpOk X pins (upd H s.heap.objs.size (.tup [x,y])) b:=fun b hb=>by
      obtain ⟨q0,q1⟩:=hf b hb
      refine ⟨?_,q1⟩
      rw [upd_ne (Nat.ne_of_lt (lt b hb))]
      exact q0
    have I2:=I1.Xu (t':=s.toks) (h':=g2) (its:=[z,TI,TO,i1,i2]) (fun b o hb q=>?_) ff
    · refine ⟨.ref s.heap.objs.size,_,I2,rfl,⟨_,x,y,rfl,I.fresh,rfl,(fun zs hzs=>by rw [I.list_inj hzs hq1]; exact hx),fun zs hzs=>by rw [I.list_inj hzs hq2]; exact hy⟩,⟨z2,b2.extBut _ _ D.TIz (kk _ _ D.TIz D.TITO D.TIi1 D.TIi2 hTI),⟨u,v,b2.extBut _ _ D.TOz a2⟩,a3.at fun o e=>b2.extBut _ _ D.i1z e,a4.at fun o e=>b2.extBut _ _ D.i2z e⟩,fun b hb=>(ff b hb).1⟩
    · have n1 : b≠z:=fun q=>hb (by simp [q])
      have n2 : b≠TO:=fun q=>hb (by simp [q])
      have n3 : b≠i1:=fun q=>hb (by simp [q])
      have n4 : b≠i2:=fun q=>hb (by simp [q])
      by_cases hT : b=s.heap.objs.size
      · subst hT
        rw [show g1.get? s.heap.objs.size=some o from q] at e1
        rw [Option.some.inj e1]
        exact b2.extBut _ _ n1 a5
      · refine b2.extBut _ _ n1 (kk b o n1 n2 n3 n4 ?_)
        have q' : (s.heap.push { cls := .type "tuple",data := .seq #[u,v] }).get? b=some o:=by rw [← eg1]; exact q
        rw [Heap.get?_push_ne _ _ _ hT] at q'
        exact q'
  done:=by
    intro X hP hw hK hc i pins s σ H E I hf st hg
    subst hP hw hK
    obtain ⟨hz,hTI,⟨c,d,hTO⟩,h1,h2⟩:=st
    obtain ⟨xs,ys,hq1,hq2,hlen⟩:=hg
    obtain ⟨zcZ,rv1,p1,_⟩:=I.list hq1
    obtain ⟨its2,rv2,p2,_⟩:=I.list hq2
    have l1:=rv1.length
    have l2:=rv2.length
    refine wpAny_pyNext_zip_end (I.ok.hd hc) D hz hTI hTO h1 h2 p1.isList p2.isList (hlen.imp (fun h=>by simp; omega) fun h=>by simp; omega) fun h' kk=>⟨rfl,?_⟩
    exact I.Xu (t':=s.toks) (its:=[z,TI,TO,i1,i2]) (fun b o hb e=>kk b o (fun q=>hb (by simp [q])) (fun q=>hb (by simp [q])) (fun q=>hb (by simp [q])) (fun q=>hb (by simp [q])) e) hf
  self:=fun A i s Q E ⟨hz,_⟩ h=>wpAny_pyIter_zip hz h
theorem V4 {n a b : Nat} (la : a < n) (lb : b < n) : ZipApart (n + 4) (n + 2) (n + 3) n (n + 1) a b :=
  ⟨(show (n + 2)≠(n + 4) by omega),(show (n + 3)≠(n + 4) by omega),(show n≠(n + 4) by omega),(show (n + 1)≠(n + 4) by omega),(show (n + 2)≠(n + 3) by omega),(show (n + 2)≠n by omega),(show (n + 2)≠(n + 1) by omega),(show (n + 3)≠n by omega),(show (n + 3)≠(n + 1) by omega),(show n≠(n + 1) by omega),(show a≠(n + 4) by omega),(show a≠(n + 3) by omega),(show a≠n by omega),(show a≠(n + 1) by omega),(show b≠(n + 4) by omega),(show b≠(n + 3) by omega),(show b≠n by omega),(show b≠(n + 1) by omega)⟩
section
variable {X : Cx} {e1 e2 : Expr} {p pos : Pos} {elts : List Expr} {kt : Nat} {pt : Pos}
noncomputable def zeY (K : PySem.W.Frag) (ta : TA) : TI:=fun σ H R=>ta σ H fun vs H1=>L23.E2 fun a b=>L23.A4 (vs=[.ref a,.ref b]) ((∃ xs,SqL K H1 a xs)) ((∃ ys,SqL K H1 b ys)) (R (Ity K a b) H1)
theorem ZO {ta : TA} (h1 : Gl X "zip") (hm : X.mg "zip"=none) (ha : PA X [e1,e2] ta) (hs : starEach [e1,e2] X.env=(false,eval e1 X.env) :: starEach [e2] X.env:=by rfl) (hpl : (backTo pos (starEach [e2] X.env)).any (·.1)=false:=by rfl) :
    PI X (.Tuple elts kt pt) (.Call (.Name "zip" p) [e1,e2] [] pos) (zeY X.K ta):=by
  intro pins s σ H R I h
  refine wpAny_Call_Name_kw (ld_blt I h1 hm zcz (PyProof.Rows.callWith_type1 (thn (ha pos pins s σ H _ I h) fun us s1 ⟨vs,H1,I1,r1,a,b,ex,⟨xs,hq1⟩,⟨ys,hq2⟩,q1⟩=>?_) hs hpl))
  subst ex
  obtain ⟨u,u',rfl,ru,ru'⟩:=vals2 r1
  cases ru
  cases ru'
  obtain ⟨zcZ,rv1,p1,_⟩:=I1.list hq1
  obtain ⟨its2,rv2,p2,_⟩:=I1.list hq2
  have la : a < s1.heap.objs.size:=by obtain ⟨o,n,e,_⟩:=p1; exact Heap.lt_size e
  have lb : b < s1.heap.objs.size:=by obtain ⟨o,n,e,_⟩:=p2; exact Heap.lt_size e
  refine call_zip_2 p1.isList p2.isList fun h' az aTI aTO j1 j2 _ kk=>?_
  have D:=V4 (n:=s1.heap.objs.size) la lb
  refine wpAny_pyIter_zip az ⟨_,[s1.heap.objs.size + 4,s1.heap.objs.size + 2,s1.heap.objs.size + 3,s1.heap.objs.size,s1.heap.objs.size + 1],_,_,H1,rfl,I1.kept (t':=s1.toks) kk,zaw a b _ _ _ _ _ D,⟨az,aTI,⟨_,_,aTO⟩,j1,j2⟩,fun c hc=>?_,q1⟩
  have hc' : s1.heap.objs.size≤c:=by
    simp only [List.mem_cons,List.not_mem_nil,or_false] at hc
    rcases hc with rfl | rfl | rfl | rfl | rfl
    · exact Nat.le_add_right _ _
    · exact Nat.le_add_right _ _
    · exact Nat.le_add_right _ _
    · exact Nat.le_refl _
    · exact Nat.le_add_right _ _
  exact I1.fpOk hc' (I1.hok.fresh hc')
end
noncomputable def vt (f : Nat→V→V→Option V) (xs ys : List V) (n : Nat) : List V:=(List.range n).filterMap fun j=>(xs[j]?).bind fun x=>(ys[j]?).bind (f j x)
theorem X6 {f : Nat→V→V→Option V} {xs ys : List V} {i : Nat} {x y : V} (h : xs[i]?=some x) (h' : ys[i]?=some y) : vt f xs ys (i + 1)=vt f xs ys i ++ (f i x y).toList:=by
  unfold vt
  rw [List.range_succ,List.filterMap_append,List.filterMap_cons,h]
  cases e : f i x y with
  | none=>simp [e,h']
  | some z=>simp [e,h']
theorem j9 {K : PySem.W.Frag} {a b : Addr} {xs ys : List V} {D : Addr} {g : TG} {tc : TT} {te : TE} {Q : Hp→Prop} {σ : L2.St} {H : Hp} (hD : H D=none) (hl : ∀ H',Same H H'→SqL K H' a xs∧SqL K H' b ys) (S : L2.St→Prop) (f : Nat→V→V→Option V) (h0 : S σ) (hlen : ys.length≤xs.length) (hz : ys.length < sizeLine)
    (step : ∀ (i : Nat) (x y : V) (σ : L2.St) (H' : Hp) (T : Addr) (R1 : L2.St→V→Hp→Prop) (R0 : L2.St→Hp→Prop),xs[i]?=some x→ys[i]?=some y→S σ→Same H H'→H' T=none→(∀ σ2 z H4,S σ2→f i x y=some z→Same H' H4→R1 σ2 z H4)→(∀ σ2 H3,S σ2→f i x y=none→Same H' H3→R0 σ2 H3) →
      g (.ref T) σ (upd H' T (.tup [x,y])) fun σ2 H2=>tc σ2 H2 fun b H3=>if b=true then te σ2 H3 fun z H4=>R1 σ2 z H4 else R0 σ2 H3)
    (hq : ∀ H',Same H H'→H' D=some (.lst (vt f xs ys ys.length))→Q H') : ∃ W : Nat→Nat→List V→L2.St→Hp→Prop,(∃ m,W 0 m [] σ (upd H D (.lst [])))∧vZ D (Ity K a b) g tc te Q W:=by
  have up : ∀ {H' : Hp} {o : HO},Same H H'→Same H (upd H' D o):=fun {H' o} s b ob e=>by
    rw [upd_ne (ne_of_none e hD)]
    exact s b ob e
  refine ⟨fun i m zs σ H'=>m=ys.length - i∧i≤ys.length∧Same H H'∧H' D=some (.lst zs)∧zs=vt f xs ys i∧S σ,⟨ys.length,by simp,Nat.zero_le _,up (Same.refl H),upd_same,by unfold vt; simp,h0⟩,?_⟩
  rintro i m zs σ H' ⟨rfl,hi,s,e,e2,hS⟩
  have hlen' : zs.length≤i:=by
    rw [e2]
    unfold vt
    exact Nat.le_trans (List.length_filterMap_le _ _) (by rw [List.length_range]; exact Nat.le_refl _)
  refine ⟨e,by omega,?_⟩
  obtain ⟨q1,q2⟩:=hl H' s
  by_cases hlt : i < ys.length
  · refine .inr ⟨⟨xs,ys,xs[i]'(by omega),ys[i],q1,q2,List.getElem?_eq_getElem (by omega),List.getElem?_eq_getElem hlt⟩,fun y σ2 H4=>H4 D=some (.lst zs)∧Same H (upd H4 D (.lst (zs ++ [y])))∧zs ++ [y]=vt f xs ys (i + 1)∧S σ2,fun σ2 H3=>Same H H3∧H3 D=some (.lst zs)∧zs=vt f xs ys (i + 1)∧S σ2,
      fun y σ2 H4 q=>⟨q.1,ys.length - (i + 1),by omega,rfl,hlt,q.2.1,upd_same,q.2.2.1,q.2.2.2⟩,fun σ2 H3 q=>⟨ys.length - (i + 1),by omega,rfl,hlt,q⟩,fun v H1 ⟨T,x,y,e1,e3,e4,e5,e6⟩=>?_⟩
    subst e1 e4
    have hx:=e5 xs q1
    have hy:=e6 ys q2
    refine step i x y σ H' T (fun σ2 z H4=>_) (fun σ2 H3=>_) hx hy hS s e3 (fun σ2 z H4 h2 hf s4=>⟨s4 _ _ e,up (s.trans s4),?_,h2⟩) fun σ2 H3 h2 hf s3=>⟨s.trans s3,s3 _ _ e,?_,h2⟩
    · rw [X6 hx hy,hf,e2]
      rfl
    · rw [X6 hx hy,hf,e2]
      exact (List.append_nil _).symm
  · obtain rfl : i=ys.length:=by omega
    refine .inl ⟨⟨xs,ys,q1,q2,.inr (Nat.le_refl _)⟩,hq H' s ?_⟩
    rw [e,e2]
end L5
namespace CP
open PySem L2 L3 L4
noncomputable abbrev Pr:=Int × Int
noncomputable def pairD (p : Pr) : PyData := .tuple [.int p.1,.int p.2]
theorem zbg {K : PySem.W.Frag} {D : Hp} {x : V} {p : Pr} (h : zx K D x (pairD p)) : ∃ t,x = .ref t∧D t=some (.tup [.int p.1,.int p.2]):=by
  obtain ⟨t,zs,rfl,e,hA⟩:=zx.tup h
  obtain ⟨y1,r1,rfl,h1,hA⟩:=zc.zao hA
  obtain ⟨y2,r2,rfl,h2,hA⟩:=zc.zao hA
  rw [zx.int h1,zx.int h2,zc.none hA] at e
  exact ⟨t,rfl,e⟩
theorem VO {K : PySem.W.Frag} {D : Hp} {t : Addr} {p : Pr} (e : D t=some (.tup [.int p.1,.int p.2])) : zx K D (.ref t) (pairD p) :=
  zx.mkT (zc.cons zx.ofInt (zc.cons zx.ofInt zc.nil)) e (Same.refl _)
theorem pairs_at {K : PySem.W.Frag} {D : Hp} {xs : List V} {ps : List Pr} (h : zc K D xs (ps.map pairD)) {i : Nat} {x : V} (hx : xs[i]?=some x) : ∃ p t,ps[i]?=some p∧x = .ref t∧D t=some (.tup [.int p.1,.int p.2]):=by
  obtain ⟨d,hd,hdy⟩:=zc.back h hx
  rw [List.getElem?_map] at hd
  obtain ⟨p,hp,rfl⟩:=Option.map_eq_some_iff.mp hd
  obtain ⟨t,rfl,e⟩:=zbg hdy
  exact ⟨p,t,hp,rfl,e⟩
noncomputable def wH (a b : Pr) : Bool:=HT.lexLt [a.1,a.2] [b.1,b.2]
noncomputable def at' (ps : List Pr) (i : Nat) : Pr:=ps.getD i (0,0)
theorem at_of {ps : List Pr} {i : Nat} {p : Pr} (h : ps[i]?=some p) : at' ps i=p:=by
  unfold at'
  rw [List.getD_eq_getElem?_getD,h]
  rfl
noncomputable def ym (ps : List Pr) : Bool:=((List.range (ps.length - 1)).map fun i=>wH (at' ps i) (at' ps (i + 1))).all id
theorem Yx {ps : List Pr} : ym ps=true↔∀ i,i + 1 < ps.length→wH (at' ps i) (at' ps (i + 1))=true:=by
  unfold ym
  rw [List.all_map,List.all_eq_true]
  constructor
  · intro h i hi
    exact h i (List.mem_range.mpr (by omega))
  · intro h i hi
    exact h i (by have:=List.mem_range.mp hi; omega)
noncomputable def v8 (os ms : List Nat) (w p : Int) : Bool:=decide (0≤w) && decide (w < os.length) && (decide (0≤p) && decide (p < ms.length)) && (ms.getD p.toNat 0).testBit w.toNat
noncomputable def jX (ns : List Int) (bs : List Nat) : Bool:=((List.range bs.length).map fun i=>decide (ns.count ((i : Nat) : Int)≤bs.getD i 0)).all id
theorem wR {ns : List Int} {bs : List Nat} : jX ns bs=true↔∀ i,i < bs.length→ns.count ((i : Nat) : Int)≤bs.getD i 0:=by
  unfold jX
  rw [List.all_map,List.all_eq_true]
  constructor
  · intro h i hi
    exact of_decide_eq_true (h i (List.mem_range.mpr hi))
  · intro h i hi
    exact decide_eq_true (h i (List.mem_range.mp hi))
noncomputable def v9 (ps : List Pr) (os ms : List Nat) : Bool:=(ps.map fun q=>v8 os ms q.1 q.2).all id
theorem Za {ps : List Pr} {os ms : List Nat} : v9 ps os ms=true↔∀ q∈ps,v8 os ms q.1 q.2=true:=by
  unfold v9
  rw [List.all_map,List.all_eq_true]
  exact Iff.rfl
noncomputable def yW (ps : List Pr) (ws os ms : List Nat) : Bool:=ym ps && (v9 ps os ms && (jX (ps.map Prod.fst) os && jX (ps.map Prod.snd) ws))
noncomputable def cnt (tk : List (Nat × Nat)) (p : Nat) : Nat:=tk.countP fun q=>q.2 == p
end CP
namespace CP
open PySem L2 L3 L4
noncomputable def wg (q : Nat × Nat) : Pr:=((q.1 : Nat),(q.2 : Nat))
theorem WU {a b : Nat × Nat} (h : wg a=wg b) : a=b:=by
  have h1 : ((a.1 : Nat) : Int)=b.1:=congrArg Prod.fst h
  have h2 : ((a.2 : Nat) : Int)=b.2:=congrArg Prod.snd h
  exact Prod.ext (by omega) (by omega)
structure Taken (ws os : List Nat) (tk : List (Nat × Nat)) (wc pc : List Nat) : Prop where
  nd : tk.Nodup
  lt : ∀ q∈tk,q.1 < os.length∧q.2 < ws.length
  lw : wc.length=os.length
  lp : pc.length=ws.length
  cp : ∀ p,p < ws.length→pc.getD p 0=cnt tk p
  le : ∀ p,p < ws.length→cnt tk p≤ws.getD p 0
theorem Taken.zero (ws os : List Nat) : Taken ws os [] (List.replicate os.length 0) (List.replicate ws.length 0) :=
  ⟨List.nodup_nil,(fun _ h=>nomatch h),List.length_replicate,List.length_replicate,fun p hp=>by rw [List.getD_eq_getElem?_getD,List.getElem?_replicate,if_pos hp]; rfl,fun p hp=>Nat.zero_le _⟩
theorem wI (l : List Nat) (j x k : Nat) (hj : j < l.length) : (l.set j x).getD k 0=if k=j then x else l.getD k 0:=by
  rw [List.getD_eq_getElem?_getD,List.getD_eq_getElem?_getD]
  by_cases h : k=j
  · subst h
    rw [List.getElem?_set_self hj,if_pos rfl]
    rfl
  · rw [List.getElem?_set_ne (fun z=>h z.symm),if_neg h]
end CP
namespace CP
open PySem L2 L3 L4
end CP
namespace CD
noncomputable def zQ : List Nat→Nat
  | []=>0
  | a :: l=>a + zQ l
theorem WV {α : Type} (f g : α→Nat) : ∀ l : List α,zQ (l.map fun x=>f x + g x)=zQ (l.map f) + zQ (l.map g)
  | []=>rfl
  | a :: l=>by
    show f a + g a + zQ (l.map fun x=>f x + g x)=f a + zQ (l.map f) + (g a + zQ (l.map g))
    rw [WV f g l]
    omega
theorem ZP {α : Type} {f g : α→Nat} : ∀ {l : List α},(∀ x∈l,f x≤g x)→zQ (l.map f)≤zQ (l.map g)
  | [],_=>Nat.le_refl _
  | a :: l,h=>Nat.add_le_add (h a (List.mem_cons_self ..)) (ZP fun x hx=>h x (List.mem_cons_of_mem _ hx))
theorem zcA {α : Type} {f g : α→Nat} {l : List α} (h : ∀ x∈l,f x=g x) : zQ (l.map f)=zQ (l.map g) :=
  Nat.le_antisymm (ZP fun x hx=>Nat.le_of_eq (h x hx)) (ZP fun x hx=>Nat.le_of_eq (h x hx).symm)
theorem Yb : ∀ a b : List Nat,zQ (a ++ b)=zQ a + zQ b
  | [],b=>(Nat.zero_add _).symm
  | x :: a,b=>by show x + zQ (a ++ b)=x + zQ a + zQ b; rw [Yb a b]; omega
noncomputable def one (b : Bool) : Nat:=if b then 1 else 0
noncomputable def hb (held : List Nat) (p w : Nat) : Bool:=(held.getD p 0).testBit w
noncomputable def col (held P : List Nat) (w : Nat) : Nat:=P.countP fun p=>hb held p w
noncomputable def row (held : List Nat) (m p : Nat) : Nat:=(List.range m).countP fun w=>hb held p w
noncomputable def want (Wj ws : List Nat) : Nat:=zQ (Wj.map fun p=>ws.getD p 0)
noncomputable def zeZ (n : Nat) (Wj : List Nat) : Prop:=Wj.Nodup∧∀ p∈Wj,p < n
structure yH (ws os ms held za left : List Nat) : Prop where
  lh : held.length=ms.length
  lw : ws.length=ms.length
  ls : za.length=ms.length
  ll : left.length=os.length
  sub : ∀ p w,hb held p w=true→hb ms p w=true
  lt : ∀ p w,hb ms p w=true→w < os.length
  cw : ∀ w,w < os.length→left.getD w 0 + col held (List.range ms.length) w=os.getD w 0
  cp : ∀ p,p < ms.length→za.getD p 0 + row held os.length p=ws.getD p 0
theorem X7 (l : List Nat) : zQ l=zQ ((List.range l.length).map fun p=>l.getD p 0):=by
  congr 1
  apply List.ext_getElem?
  intro i
  rw [List.getElem?_map]
  by_cases hi : i < l.length
  · rw [List.getElem?_range hi,List.getElem?_eq_getElem hi]
    show _=some (l.getD i 0)
    rw [List.getD_eq_getElem?_getD,List.getElem?_eq_getElem hi]
    rfl
  · rw [List.getElem?_eq_none (by omega),List.getElem?_eq_none (by rw [List.length_range]; omega)]
    rfl
structure Stuck (ms held za left R : List Nat) (n : Nat) : Prop where
  pap : zeZ n R
  want : ∀ p,p < n→0 < za.getD p 0→p∈R
  none : ∀ p∈R,∀ w,hb ms p w=true→hb held p w=false→left.getD w 0=0
  zfM : ∀ p∈R,∀ w,hb ms p w=true→hb held p w=false→∀ q,q < n→hb held q w=true→q∈R
end CD
namespace CD
structure Hand (ws os ms held za left : List Nat) (a p : Nat) : Prop where
  lh : held.length=ms.length
  lw : ws.length=ms.length
  ls : za.length=ms.length
  ll : left.length=os.length
  sub : ∀ p w,hb held p w=true→hb ms p w=true
  lt : ∀ p w,hb ms p w=true→w < os.length
  cw : ∀ w,w < os.length→left.getD w 0 + col held (List.range ms.length) w + one (decide (w=a))=os.getD w 0
  cp : ∀ p,p < ms.length→za.getD p 0 + row held os.length p=ws.getD p 0
  fit : hb ms p a=true
  new : hb held p a=false
  pl : p < ms.length
noncomputable abbrev V5:=List (Nat × Option (Nat × Nat))
noncomputable def zfN (ms held za : List Nat) (c : V5) (i p : Nat) : Option (Nat × Nat)→Prop
  | none=>0 < za.getD p 0
  | some (w,q)=>(∃ j o,j < i∧c[j]?=some (q,o))∧hb ms q w=true∧hb held q w=false∧hb held p w=true
structure Tree (ms held za : List Nat) (n : Nat) (c : V5) : Prop where
  nd : (c.map Prod.fst).Nodup
  lt : ∀ x∈c,x.1 < n
  edge : ∀ (i p : Nat) (o : Option (Nat × Nat)),c[i]?=some (p,o)→zfN ms held za c i p o
structure Done (ms held left : List Nat) (n : Nat) (c : V5) (k : Nat) : Prop where
  none : ∀ j p o,j < k→c[j]?=some (p,o)→∀ w,hb ms p w=true→hb held p w=false→left.getD w 0=0
  zfM : ∀ j p o,j < k→c[j]?=some (p,o)→∀ w,hb ms p w=true→hb held p w=false→∀ q,q < n→hb held q w=true→q∈c.map Prod.fst
end CD
namespace L13
open PySem PySem.Spec PyProof.Rows L2 L3 L4 L6
section
variable {α : Type} {Pd : Hp→V→α→Prop} {D D' : Hp}
noncomputable def Els (Pd : Hp→V→α→Prop) (D : Hp) (vs : List V) (as : List α) : Prop:=vs.length=as.length∧∀ (i : Nat) (v : V) (a : α),vs[i]?=some v→as[i]?=some a→Pd D v a
theorem Els.nil : Els Pd D [] []:=⟨rfl,fun i v a h=>by cases h⟩
theorem Els.app {vs us : List V} {as bs : List α} (h : Els Pd D vs as) (k : Els Pd D us bs) : Els Pd D (vs ++ us) (as ++ bs):=by
  refine ⟨by rw [List.length_append,List.length_append,h.1,k.1],fun i v a e1 e2=>?_⟩
  by_cases hi : i < vs.length
  · rw [List.getElem?_append_left hi] at e1
    rw [List.getElem?_append_left (by rw [← h.1]; exact hi)] at e2
    exact h.2 i v a e1 e2
  · rw [List.getElem?_append_right (by omega)] at e1
    rw [List.getElem?_append_right (by rw [← h.1]; omega),← h.1] at e2
    exact k.2 _ v a e1 e2
theorem Els.one {v : V} {a : α} (h : Pd D v a) : Els Pd D [v] [a]:=⟨rfl,fun i v' a' e1 e2=>by
  cases i with
  | zero=>cases e1; cases e2; exact h
  | succ i=>cases e1⟩
theorem Els.snoc {vs : List V} {as : List α} {v : V} {a : α} (h : Els Pd D vs as) (k : Pd D v a) : Els Pd D (vs ++ [v]) (as ++ [a]):=h.app (Els.one k)
theorem Els.up (mono : ∀ v a,Pd D v a→Pd D' v a) {vs : List V} {as : List α} (h : Els Pd D vs as) : Els Pd D' vs as:=⟨h.1,fun i v a e1 e2=>mono v a (h.2 i v a e1 e2)⟩
theorem Els.back {vs : List V} {as : List α} {i : Nat} {v : V} (h : Els Pd D vs as) (e : vs[i]?=some v) : ∃ a,as[i]?=some a∧Pd D v a:=by
  have hi : i < vs.length:=(List.getElem?_eq_some_iff.mp e).1
  have ha : as[i]?=some (as[i]'(by rw [← h.1]; exact hi)):=List.getElem?_eq_getElem (by rw [← h.1]; exact hi)
  exact ⟨_,ha,h.2 i v _ e ha⟩
theorem Els.at_ {vs : List V} {as : List α} {i : Nat} {a : α} (h : Els Pd D vs as) (e : as[i]?=some a) : ∃ v,vs[i]?=some v∧Pd D v a:=by
  have hi : i < as.length:=(List.getElem?_eq_some_iff.mp e).1
  have hv : vs[i]?=some (vs[i]'(by rw [h.1]; exact hi)):=List.getElem?_eq_getElem (by rw [h.1]; exact hi)
  exact ⟨_,hv,h.2 i _ a hv e⟩
end
theorem Yi {α : Type} {Pd : Hp→V→α→Prop} (mono : ∀ {D D' : Hp} {v : V} {a : α},Same D D'→Pd D v a→Pd D' v a) {J : It} {xs : List V} {P : Hp→Prop} {q : Addr} {g : TG} {tc : TT} {te : TE} {Q : Hp→Prop} {σ : L2.St} {D H : Hp} (s0 : Same D H) (hq0 : H q=none) (Y : jo J xs P) (S : L2.St→Prop) (as : List α)
    (hl : as.length=xs.length) (h0 : S σ) (hP : ∀ H',Same H H'→P H') (hz : xs.length < sizeLine)
    (step : ∀ (i : Nat) (x : V) (a : α) (σ : L2.St) (D1 H1 : Hp) (R1 : L2.St→V→Hp→Prop) (R0 : L2.St→Hp→Prop),xs[i]?=some x→as[i]?=some a→S σ→Gr D H D1 H1 →
      (∀ σ2 y D4 H4,S σ2→Gr D1 H1 D4 H4→Pd D4 y a→R1 σ2 y H4) →
      g x σ H1 fun σ2 H2=>tc σ2 H2 fun b H3=>if b=true then te σ2 H3 fun y H4=>R1 σ2 y H4 else R0 σ2 H3)
    (hq : ∀ D' H' ys,Gr D H D' H'→H' q=some (.lst ys)→D' q=none→Els Pd D' ys as→Q H') :
    ∃ W : Nat→Nat→List V→L2.St→Hp→Prop,(∃ m,W 0 m [] σ (upd H q (.lst [])))∧vZ q J g tc te Q W:=by
  refine j6 Y (fun i ys σ H'=>∃ D',Gr D H D' H'∧H' q=some (.lst ys)∧D' q=none∧Els Pd D' ys (as.take i)∧S σ) ⟨D,Gr.zcT s0 hq0,upd_same,s0.free hq0,by rw [List.take_zero]; exact Els.nil,h0⟩
    (fun i ys σ H' ⟨D',G,e,_,hA,_⟩=>⟨hP H' G.hh,e,?_⟩) hz (fun i x ys σ H' hx ⟨D',G,e,n,hA,hS⟩=>?_) fun ys σ H' ⟨D',G,e,n,hA,_⟩=>?_
  · rw [hA.1,List.length_take]
    omega
  · have hi : i < xs.length:=(List.getElem?_eq_some_iff.mp hx).1
    have ha : as[i]?=some (as[i]'(by omega)):=List.getElem?_eq_getElem (by omega)
    refine step i x _ σ D' H' _ _ hx ha hS G fun σ2 y D4 H4 h2 G4 hy=>?_
    obtain ⟨e4,n4⟩:=G4.old e n
    have T:=G.trans G4
    refine ⟨e4,D4,⟨T.dd,fun b o eb=>?_,zK T.dh n4,T.nw⟩,upd_same,n4,?_,h2⟩
    · rw [upd_ne (ne_of_none eb hq0)]
      exact T.hh b o eb
    · rw [take_snoc ha]
      exact (hA.up fun v a=>mono G4.dd).snoc hy
  · rw [← hl,List.take_length] at hA
    exact hq D' H' ys G e n hA
noncomputable def NL (D : Hp) (v : V) (x : List Nat) : Prop:=∃ q,v = .ref q∧D q=some (.lst (nV x))
theorem NL.up {D D' : Hp} {v : V} {x : List Nat} (s : Same D D') : NL D v x→NL D' v x:=fun ⟨q,e,h⟩=>⟨q,e,s _ _ h⟩
end L13
namespace CO
open PySem L2 L3 L4 L6 CD
noncomputable def fs (pm ph ps pl pc : Addr) : List (Str × V):=[("masks",.ref pm),("held",.ref ph),("still",.ref ps),("left",.ref pl),("came",.ref pc)]
theorem nms : ("held" : Str)≠"masks"∧("still" : Str)≠"masks"∧("still" : Str)≠"held"∧("left" : Str)≠"masks"∧("left" : Str)≠"held"∧("left" : Str)≠"still"∧("came" : Str)≠"masks"∧("came" : Str)≠"held"∧("came" : Str)≠"still"∧("came" : Str)≠"left":=by decide +kernel
theorem Yy {k : Str} {v : V} {r : List (Str × V)} : List.lookup k ((k,v) :: r)=some v:=by rw [List.lookup_cons,beq_self_eq_true]
theorem jh {k x : Str} {v : V} {r : List (Str × V)} (h : k≠x) : List.lookup k ((x,v) :: r)=List.lookup k r:=by rw [List.lookup_cons,beq_eq_false_iff_ne.mpr h]
theorem xJ {k x : Str} {v w : V} {r : List (Str × V)} (h : k≠x) : putF k w ((x,v) :: r)=(x,v) :: putF k w r:=by rw [putF,if_neg h.symm]
section
variable {pm ph ps pl pc : Addr}
theorem ji : (fs pm ph ps pl pc).lookup ("masks" : Str)=some (.ref pm):=Yy
theorem wZ : (fs pm ph ps pl pc).lookup ("held" : Str)=some (.ref ph):=by unfold fs; rw [jh nms.1,Yy]
theorem ZQ : (fs pm ph ps pl pc).lookup ("still" : Str)=some (.ref ps):=by unfold fs; rw [jh nms.2.1,jh nms.2.2.1,Yy]
theorem Yz : (fs pm ph ps pl pc).lookup ("left" : Str)=some (.ref pl):=by unfold fs; rw [jh nms.2.2.2.1,jh nms.2.2.2.2.1,jh nms.2.2.2.2.2.1,Yy]
end
structure Dlr (C : Addr) (D H : Hp) (x dx pm ph ps pl pc : Addr) (ms held za left : List Nat) (kvs : List (Key × V)) : Prop where
  ins : H x=some (.ins C dx (fs pm ph ps pl pc))
  m : H pm=some (.lst (nV ms))
  h : H ph=some (.lst (nV held))
  s : H ps=some (.lst (nV za))
  l : H pl=some (.lst (nV left))
  c : H pc=some (.dK kvs)
  nd : [pm,ph,ps,pl].Nodup
  ox : D x=none
  om : D pm=none
  oh : D ph=none
  os : D ps=none
  ol : D pl=none
  oc : D pc=none
  dh : Same D H
section
variable {C : Addr} {D H : Hp} {x dx pm ph ps pl pc : Addr} {ms held za left : List Nat} {kvs : List (Key × V)}
theorem ne_of {a b : Addr} {o u : HO} (ha : H a=some o) (hb : H b=some u) (h : o≠u) : a≠b:=fun z=>h (Option.some.inj (by rw [← ha,← hb,z]))
theorem Dlr.xm (r : Dlr C D H x dx pm ph ps pl pc ms held za left kvs) : x≠pm∧x≠ph∧x≠ps∧x≠pl∧x≠pc:=⟨ne_of r.ins r.m (fun z=>nomatch z),ne_of r.ins r.h (fun z=>nomatch z),ne_of r.ins r.s (fun z=>nomatch z),ne_of r.ins r.l (fun z=>nomatch z),ne_of r.ins r.c (fun z=>nomatch z)⟩
theorem Dlr.cm (r : Dlr C D H x dx pm ph ps pl pc ms held za left kvs) : pc≠pm∧pc≠ph∧pc≠ps∧pc≠pl:=⟨ne_of r.c r.m (fun z=>nomatch z),ne_of r.c r.h (fun z=>nomatch z),ne_of r.c r.s (fun z=>nomatch z),ne_of r.c r.l (fun z=>nomatch z)⟩
theorem Dlr.mm (r : Dlr C D H x dx pm ph ps pl pc ms held za left kvs) : pm≠ph∧pm≠ps∧pm≠pl∧ph≠ps∧ph≠pl∧ps≠pl:=by
  have:=r.nd
  simp only [List.nodup_cons,List.mem_cons,List.not_mem_nil,or_false,not_or] at this
  obtain ⟨⟨a,b,c⟩,⟨d,e⟩,f,_⟩:=this
  exact ⟨a,b,c,d,e,f⟩
theorem Dlr.zbh (r : Dlr C D H x dx pm ph ps pl pc ms held za left kvs) (held' : List Nat) : Dlr C D (upd H ph (.lst (nV held'))) x dx pm ph ps pl pc ms held' za left kvs:=by
  obtain ⟨a,b,c,d,e,f⟩:=r.mm
  exact ⟨by rw [upd_ne r.xm.2.1]; exact r.ins,by rw [upd_ne a]; exact r.m,upd_same,by rw [upd_ne d.symm]; exact r.s,by rw [upd_ne e.symm]; exact r.l,by rw [upd_ne r.cm.2.1]; exact r.c,r.nd,r.ox,r.om,r.oh,r.os,r.ol,r.oc,zK r.dh r.oh⟩
theorem Dlr.zc0 (r : Dlr C D H x dx pm ph ps pl pc ms held za left kvs) (zZ : List Nat) : Dlr C D (upd H ps (.lst (nV zZ))) x dx pm ph ps pl pc ms held zZ left kvs:=by
  obtain ⟨a,b,c,d,e,f⟩:=r.mm
  exact ⟨by rw [upd_ne r.xm.2.2.1]; exact r.ins,by rw [upd_ne b]; exact r.m,by rw [upd_ne d]; exact r.h,upd_same,by rw [upd_ne f.symm]; exact r.l,by rw [upd_ne r.cm.2.2.1]; exact r.c,r.nd,r.ox,r.om,r.oh,r.os,r.ol,r.oc,zK r.dh r.os⟩
theorem Dlr.zc1 (r : Dlr C D H x dx pm ph ps pl pc ms held za left kvs) (left' : List Nat) : Dlr C D (upd H pl (.lst (nV left'))) x dx pm ph ps pl pc ms held za left' kvs:=by
  obtain ⟨a,b,c,d,e,f⟩:=r.mm
  exact ⟨by rw [upd_ne r.xm.2.2.2.1]; exact r.ins,by rw [upd_ne c]; exact r.m,by rw [upd_ne e]; exact r.h,by rw [upd_ne f]; exact r.s,upd_same,by rw [upd_ne r.cm.2.2.2]; exact r.c,r.nd,r.ox,r.om,r.oh,r.os,r.ol,r.oc,zK r.dh r.ol⟩
end
noncomputable def PV (D : Hp) (v : V) : Option (Nat × Nat)→Prop
  | none=>v = .non
  | some (w,q)=>∃ t,v = .ref t∧D t=some (.tup [.int (w : Nat),.int (q : Nat)])
noncomputable def pk (p : Nat) : Key:=Sum.inl ((p : Nat) : Int)
structure CameAt (D : Hp) (kvs : List (Key × V)) (c : V5) : Prop where
  keys : kvs.map Prod.fst=c.map fun e=>pk e.1
  vals : L13.Els PV D (kvs.map Prod.snd) (c.map Prod.snd)
theorem Dlr.fresh {C : Addr} {D H : Hp} {x dx pm ph ps pl pc : Addr} {ms held za left : List Nat} {kvs : List (Key × V)} (r : Dlr C D H x dx pm ph ps pl pc ms held za left kvs) {b : Addr} (hb : H b=none) : b∉[x,pm,ph,ps,pl,pc]:=by
  have nn : ∀ {y : Addr} {o : HO},H y=some o→¬ b=y:=fun e z=>by rw [z,e] at hb; cases hb
  simp only [List.mem_cons,List.not_mem_nil,or_false,not_or]
  exact ⟨nn r.ins,nn r.m,nn r.h,nn r.s,nn r.l,nn r.c⟩
theorem zb6 (b w : Nat) : (CB.maskOf [b]).testBit w=decide (w=b):=by
  rw [CB.j7,Bool.eq_iff_iff]
  simp
theorem jB {α β : Type} {g : α→Option β} {p : α→Bool} {h : α→β} : ∀ {L : List α},(∀ j∈L,g j=if p j=true then some (h j) else none)→L.filterMap g=(L.filter p).map h
  | [],_=>rfl
  | a :: L,hg=>by
    have ih:=jB (g:=g) (p:=p) (h:=h) (L:=L) fun j hj=>hg j (List.mem_cons_of_mem _ hj)
    have ha:=hg a (List.mem_cons_self ..)
    cases e : p a with
    | true =>
      rw [e,if_pos rfl] at ha
      rw [List.filterMap_cons_some ha,List.filter_cons_of_pos e,List.map_cons,ih]
    | false =>
      rw [e,if_neg (by decide)] at ha
      rw [List.filterMap_cons_none ha,List.filter_cons_of_neg (by rw [e]; decide),ih]
noncomputable def Zb (l : List Nat) : List Nat:=(List.range l.length).filter fun w=>decide (0 < l.getD w 0)
theorem zbi {l : List Nat} {w : Nat} : w∈Zb l↔0 < l.getD w 0:=by
  unfold Zb
  rw [List.mem_filter,List.mem_range,decide_eq_true_eq]
  refine ⟨fun h=>h.2,fun h=>⟨?_,h⟩⟩
  by_cases hw : w < l.length
  · exact hw
  · rw [List.getD_eq_getElem?_getD,List.getElem?_eq_none (by omega)] at h
    exact absurd h (Nat.lt_irrefl 0)
theorem zcB {l : List Nat} {w : Nat} (h : w∈Zb l) : w < l.length:=List.mem_range.mp (List.mem_filter.mp h).1
noncomputable def zbj : Nat→V→Option V:=fun i y=>match y with | .int z=>if 0 < z then some (.int (i : Nat)) else none | _=>none
theorem zbk (l : List Nat) : L5.yV zbj (nV l) (nV l).length=nV (Zb l):=by
  unfold L5.yV Zb
  have ln : (nV l).length=l.length:=by unfold nV; rw [List.length_map]
  rw [ln]
  show _=List.map _ _
  refine jB fun j hj=>?_
  have hj':=List.mem_range.mp hj
  unfold nV
  rw [List.getElem?_map,List.getElem?_eq_getElem hj']
  have e : l.getD j 0=l[j]:=by rw [List.getD_eq_getElem?_getD,List.getElem?_eq_getElem hj']; rfl
  show (if (0 : Int) < ((l[j] : Nat) : Int) then some (V.int (j : Nat)) else none)=_
  rw [e]
  by_cases h : 0 < l[j]
  · rw [if_pos (by omega),if_pos (decide_eq_true h)]
  · rw [if_neg (by omega),if_neg (by rw [decide_eq_false h]; decide)]
theorem WW : ∀ {l : List Nat} {p : Nat},0 < l.getD p 0→zQ (l.set p (l.getD p 0 - 1)) + 1=zQ l
  | [],p,h=>absurd h (Nat.lt_irrefl 0)
  | a :: l,0,h=>by
    have h' : 0 < a:=h
    show a - 1 + zQ l + 1=a + zQ l
    omega
  | a :: l,p + 1,h=>by
    have:=WW (l:=l) (p:=p) h
    show a + zQ (l.set p (l.getD p 0 - 1)) + 1=a + zQ l
    omega
structure Bld (C : Addr) (H0 H : Hp) (x dx : Addr) (fs : List (Str × V)) (ls : List (Addr × List Nat)) : Prop where
  ins : H x=some (.ins C dx fs)
  keep : ∀ b u,b≠x→H0 b=some u→H b=some u
  at_ : ∀ e∈ls,H e.1=some (.lst (nV e.2))∧H0 e.1=none∧e.1≠x
  nd : (ls.map Prod.fst).Nodup
theorem Bld.grow {C : Addr} {H0 H H' : Hp} {x dx : Addr} {fs : List (Str × V)} {ls : List (Addr × List Nat)} (B : Bld C H0 H x dx fs ls) (s : Same H H') : Bld C H0 H' x dx fs ls :=
  ⟨s _ _ B.ins,fun b u hb e=>s _ _ (B.keep b u hb e),fun e he=>⟨s _ _ (B.at_ e he).1,(B.at_ e he).2⟩,B.nd⟩
theorem Bld.free {C : Addr} {H0 H : Hp} {x dx : Addr} {fs : List (Str × V)} {ls : List (Addr × List Nat)} (B : Bld C H0 H x dx fs ls) {p : Addr} (hp : H p=none) : H0 p=none∧p≠x∧p∉ls.map Prod.fst:=by
  have hx : p≠x:=fun z=>by rw [z,B.ins] at hp; cases hp
  refine ⟨?_,hx,fun hm=>?_⟩
  · cases e : H0 p with
    | none=>rfl
    | some u=>rw [B.keep p u hx e] at hp; cases hp
  · obtain ⟨e,he,rfl⟩:=List.mem_map.mp hm
    rw [(B.at_ e he).1] at hp
    cases hp
theorem Bld.set {C : Addr} {H0 H : Hp} {x dx : Addr} {fs : List (Str × V)} {ls : List (Addr × List Nat)} (B : Bld C H0 H x dx fs ls) (fs' : List (Str × V)) : Bld C H0 (upd H x (.ins C dx fs')) x dx fs' ls :=
  ⟨upd_same,fun b u hb e=>by rw [upd_ne hb]; exact B.keep b u hb e,fun e he=>⟨by rw [upd_ne (B.at_ e he).2.2]; exact (B.at_ e he).1,(B.at_ e he).2⟩,B.nd⟩
theorem Bld.put {C : Addr} {H0 H H' : Hp} {x dx : Addr} {fs : List (Str × V)} {ls : List (Addr × List Nat)} (B : Bld C H0 H x dx fs ls) {p : Addr} {l : List Nat} (hp : H p=none) (s : Same H H') (e : H' p=some (.lst (nV l))) : Bld C H0 H' x dx fs (ls ++ [(p,l)]):=by
  obtain ⟨h1,h2,h3⟩:=B.free hp
  have B':=B.grow s
  refine ⟨B'.ins,B'.keep,fun y hy=>?_,?_⟩
  · rcases List.mem_append.mp hy with z | z
    · exact B'.at_ y z
    · rw [List.mem_singleton.mp z]
      exact ⟨e,h1,h2⟩
  · rw [List.map_append]
    refine List.nodup_append.mpr ⟨B'.nd,List.nodup_cons.mpr ⟨(fun z=>nomatch z),List.nodup_nil⟩,fun u hu y hy z=>?_⟩
    rw [List.mem_singleton.mp hy] at z
    have z' : u=p:=z
    exact h3 (z' ▸ hu)
theorem p1 {v : V} : putF "masks" v []=([("masks",v)] : List (Str × V)):=rfl
theorem p2 {v a : V} : putF "held" v ([("masks",a)] : List (Str × V))=([("masks",a),("held",v)] : List (Str × V)):=by rw [xJ nms.1]; rfl
theorem p3 {v a b : V} : putF "still" v ([("masks",a),("held",b)] : List (Str × V))=([("masks",a),("held",b),("still",v)] : List (Str × V)):=by rw [xJ nms.2.1,xJ nms.2.2.1]; rfl
theorem p4 {v a b c : V} : putF "left" v ([("masks",a),("held",b),("still",c)] : List (Str × V))=([("masks",a),("held",b),("still",c),("left",v)] : List (Str × V)):=by rw [xJ nms.2.2.2.1,xJ nms.2.2.2.2.1,xJ nms.2.2.2.2.2.1]; rfl
theorem p5 {v a b c d : V} : putF "came" v ([("masks",a),("held",b),("still",c),("left",d)] : List (Str × V))=([("masks",a),("held",b),("still",c),("left",d),("came",v)] : List (Str × V)):=by rw [xJ nms.2.2.2.2.2.2.1,xJ nms.2.2.2.2.2.2.2.1,xJ nms.2.2.2.2.2.2.2.2.1,xJ nms.2.2.2.2.2.2.2.2.2]; rfl
theorem zeros (ms : List Nat) : (nV ms).filterMap (fun _=>some (V.int 0))=nV (List.replicate ms.length 0):=by
  induction ms with
  | nil=>rfl
  | cons a r ih =>
    show V.int 0 :: (nV r).filterMap (fun _=>some (V.int 0))=nV (0 :: List.replicate r.length 0)
    rw [ih]
    rfl
theorem Wg (l : List Nat) (w : Nat) : (Zb l).contains w=decide (0 < l.getD w 0):=by
  rw [Bool.eq_iff_iff,List.contains_iff_mem,decide_eq_true_eq]
  exact zbi
noncomputable def PrT (p : Nat) (D : Hp) (v : V) (w : Nat) : Prop:=∃ t,v = .ref t∧D t=some (.tup [.int (w : Nat),.int (p : Nat)])
theorem PrT.up {p : Nat} {D D' : Hp} {v : V} {w : Nat} (s : Same D D') : PrT p D v w→PrT p D' v w:=fun ⟨t,e,h⟩=>⟨t,e,s _ _ h⟩
end CO
namespace L15
open PySem PySem.Spec PySem.W PyProof.Rows L2 L3 L4 L6 L7
section
variable {X : Cx}
end
end L15
namespace CD
end CD
namespace CD
structure Gd (ws os ms : List Nat) : Prop where
  len : ws.length=ms.length
  one : 1≤ws.length
  sev : ws.length≤7
  many : os.length≤25
  wt : ∀ (k w : Nat),ws[k]?=some w→1≤k→w≤4
  ml : ∀ m∈ms,m < 2 ^ os.length
theorem VP {B : Nat} (L : Nat) : ∀ r : List Nat,(∀ w∈r,w≤B)→zQ (r.map fun n=>min n L)≤B * r.length
  | [],_=>Nat.zero_le _
  | a :: r,h=>by
    have h1:=h a (List.mem_cons_self ..)
    have h2:=VP L r fun w hw=>h w (List.mem_cons_of_mem _ hw)
    show min a L + zQ (r.map fun n=>min n L)≤B * (r.length + 1)
    rw [Nat.mul_succ]
    omega
theorem Gd.few {ws os ms : List Nat} (g : Gd ws os ms) : zQ (ws.map fun n=>min n os.length) < 64:=by
  have h1:=g.sev
  have h2:=g.many
  have h3:=g.wt
  cases ws with
  | nil=>exact (by decide : 0 < 64)
  | cons a r =>
    have h4:=VP (B:=4) os.length r fun w hw=>by
      obtain ⟨k,hk,rfl⟩:=List.getElem_of_mem hw
      exact h3 (k + 1) _ (by rw [List.getElem?_cons_succ]; exact List.getElem?_eq_getElem hk) (by omega)
    show min a os.length + zQ (r.map fun n=>min n os.length) < 64
    rw [List.length_cons] at h1
    omega
theorem Gd.of {ws os ms : List Nat} (g : CG.Good 24 ws os ms) : Gd ws os ms:=⟨g.len,g.one,by have:=g.six; omega,by have:=g.many; omega,fun k w h1 h2=>by have:=g.wt k w h1 h2; omega,g.ml⟩
end CD
namespace CD
theorem Xw (n p w : Nat) : hb (List.replicate n 0) p w=false:=by
  unfold hb
  have e : (List.replicate n 0).getD p 0=0:=by
    rw [List.getD_eq_getElem?_getD]
    by_cases h : p < n
    · rw [List.getElem?_replicate,if_pos h]; rfl
    · rw [List.getElem?_replicate,if_neg h]; rfl
  rw [e]
  exact Nat.zero_testBit w
theorem yH.start {ws os ms : List Nat} (lw : ws.length=ms.length) (hm : ∀ m∈ms,m < 2 ^ os.length) : yH ws os ms (List.replicate ms.length 0) ws os:=by
  refine ⟨List.length_replicate,lw,lw,rfl,fun p w e=>?_,fun p w e=>?_,fun w _=>?_,fun p _=>?_⟩
  · rw [Xw] at e
    cases e
  · unfold hb at e
    by_cases hp : p < ms.length
    · have h1 : ms.getD p 0∈ms:=by
        rw [List.getD_eq_getElem?_getD,List.getElem?_eq_getElem hp]
        exact List.getElem_mem hp
      by_cases hw : w < os.length
      · exact hw
      · have h2 : ms.getD p 0 < 2 ^ w:=Nat.lt_of_lt_of_le (hm _ h1) (Nat.pow_le_pow_right (by decide) (by omega))
        rw [Nat.testBit_lt_two_pow h2] at e
        cases e
    · rw [List.getD_eq_getElem?_getD,List.getElem?_eq_none (by omega)] at e
      rw [show (none : Option Nat).getD 0=0 from rfl,Nat.zero_testBit] at e
      cases e
  · have : col (List.replicate ms.length 0) (List.range ms.length) w=0:=by
      unfold col
      rw [List.countP_eq_zero]
      intro p _ e
      rw [Xw] at e
      cases e
    omega
  · have : row (List.replicate ms.length 0) os.length p=0:=by
      unfold row
      rw [List.countP_eq_zero]
      intro w _ e
      rw [Xw] at e
      cases e
    omega
theorem yH.small {ws os ms held za left : List Nat} (d : yH ws os ms held za left) {m : Nat} (h : m∈held) : m < 2 ^ os.length:=by
  obtain ⟨p,hp,rfl⟩:=List.getElem_of_mem h
  refine Nat.lt_pow_two_of_testBit _ fun w hw=>?_
  cases e : (held[p]).testBit w with
  | false=>rfl
  | true =>
    have : hb held p w=true:=by
      unfold hb
      rw [List.getD_eq_getElem?_getD,List.getElem?_eq_getElem hp]
      exact e
    have:=d.lt p w (d.sub p w this)
    omega
theorem Yj {m n : Nat} (h : m < 2 ^ n) : (CB.yC m).length=(List.range n).countP fun w=>m.testBit w:=by
  rw [List.countP_eq_length_filter]
  refine congrArg List.length (CB.VN (CB.jW m) (List.Pairwise.filter _ List.pairwise_lt_range) fun k=>?_)
  rw [CB.xj,List.mem_filter,List.mem_range]
  refine ⟨fun e=>⟨?_,e⟩,fun e=>e.2⟩
  by_cases hk : k < n
  · exact hk
  · rw [Nat.testBit_lt_two_pow (Nat.lt_of_lt_of_le h (Nat.pow_le_pow_right (by decide) (by omega)))] at e
    cases e
theorem WX (f : Nat→Nat) (l : List Nat) : zQ (l.map f)=zQ ((List.range l.length).map fun p=>f (l.getD p 0)):=by
  congr 1
  apply List.ext_getElem?
  intro i
  rw [List.getElem?_map,List.getElem?_map]
  by_cases hi : i < l.length
  · rw [List.getElem?_range hi,List.getElem?_eq_getElem hi]
    show some (f l[i])=some (f (l.getD i 0))
    rw [List.getD_eq_getElem?_getD,List.getElem?_eq_getElem hi]
    rfl
  · rw [List.getElem?_eq_none (by omega),List.getElem?_eq_none (by rw [List.length_range]; omega)]
    rfl
theorem yH.few {ws os ms held za left : List Nat} (d : yH ws os ms held za left) : zQ (held.map fun m=>(CB.yC m).length)≤zQ (ws.map fun n=>min n os.length):=by
  rw [WX _ held,WX _ ws,d.lh,d.lw]
  refine ZP fun p hp=>?_
  have hp':=List.mem_range.mp hp
  have hm : held.getD p 0∈held:=by
    rw [List.getD_eq_getElem?_getD,List.getElem?_eq_getElem (by rw [d.lh]; exact hp')]
    exact List.getElem_mem _
  have e : (CB.yC (held.getD p 0)).length=row held os.length p:=Yj (d.small hm)
  have h1:=d.cp p hp'
  have h2 : row held os.length p≤os.length:=Nat.le_trans List.countP_le_length (by rw [List.length_range]; exact Nat.le_refl _)
  show (CB.yC (held.getD p 0)).length≤min (ws.getD p 0) os.length
  omega
end CD
namespace CD
end CD
namespace L16
open PySem PySem.W PyProof.Rows
noncomputable def run (c : Nat→Nat→Bool) {α : Type} : KasT α→α
  | .ret a=>a
  | .ask i j k=>run c (k (c i j))
theorem run_bind (c : Nat→Nat→Bool) {α β : Type} (f : α→KasT β) : ∀ t : KasT α,run c (t.bind f)=run c (f (run c t))
  | .ret _=>rfl
  | .ask i j k=>run_bind c f (k (c i j))
theorem vv (c : Nat→Nat→Bool) {α : Type} {b : Prop} [Decidable b] (x y : KasT α) : run c (if b then x else y)=if b then run c x else run c y:=by split <;> rfl
theorem zax {c : Nat→Nat→Bool} {α : Type} {n : Nat} {cmp : Nat→Nat→(Bool→Shared→Prop)→Shared→Prop} {Q : α→Shared→Prop} {s : Shared} (hc : ∀ i j C,i < n→j < n→C (c i j) s→cmp i j C s) {R : α→Prop} : ∀ {t : KasT α},L12.yD n R t→Q (run c t) s→t.kasWp cmp Q s
  | .ret _,_,h=>h
  | .ask i j _,f,h=>hc i j _ f.1 f.2.1 (zax hc (f.2.2 _) h)
theorem Yk {c : Nat→Nat→Bool} {α : Type} {n : Nat} {R : α→Prop} : ∀ {t : KasT α},L12.yD n R t→R (run c t)
  | .ret _,h=>h
  | .ask i j k,h=>by
    show R (run c (k (c i j)))
    exact Yk (n:=n) (h.2.2 (c i j))
structure Ord (c : Nat→Nat→Bool) (n : Nat) : Prop where
  zbl : ∀ i j,c i j=true→c j i=false
  tr : ∀ i j k,c j i=false→c k j=false→c k i=false
  tot : ∀ i j,i < n→j < n→i≠j→c i j=true∨c j i=true
section
variable {c : Nat→Nat→Bool} {n : Nat}
theorem Ord.lt (o : Ord c n) {i j k : Nat} (h1 : c i j=true) (h2 : c j k=true) : c i k=true:=by
  cases e : c i k with
  | true=>rfl
  | false =>
    rw [o.tr j k i (o.zbl j k h2) e] at h1
    cases h1
theorem Ord.zfO (o : Ord c n) {k m a : Nat} (h1 : c k m=true) (h2 : c a m=false) : c k a=true:=by
  cases e : c k a with
  | true=>rfl
  | false =>
    rw [o.tr m a k h2 e] at h1
    cases h1
noncomputable def Up (c : Nat→Nat→Bool) (p : Array Nat) (k : Nat) : Prop:=∀ a b,a < b→b < k→c (p.getD b 0) (p.getD a 0)=false
noncomputable def Down (c : Nat→Nat→Bool) (p : Array Nat) (k : Nat) : Prop:=∀ a b,a < b→b < k→c (p.getD b 0) (p.getD a 0)=true
theorem Up.succ (o : Ord c n) {p : Array Nat} {k : Nat} (h : Up c p k) (hk : 0 < k) (h1 : c (p.getD k 0) (p.getD (k - 1) 0)=false) : Up c p (k + 1):=fun a b hab hb=>by
  by_cases e : b < k
  · exact h a b hab e
  · obtain rfl : b=k:=by omega
    by_cases z : a=b - 1
    · rw [z]
      exact h1
    · exact o.tr _ _ _ (h a (b - 1) (by omega) (by omega)) h1
theorem Down.succ (o : Ord c n) {p : Array Nat} {k : Nat} (h : Down c p k) (hk : 0 < k) (h1 : c (p.getD k 0) (p.getD (k - 1) 0)=true) : Down c p (k + 1):=fun a b hab hb=>by
  by_cases e : b < k
  · exact h a b hab e
  · obtain rfl : b=k:=by omega
    by_cases z : a=b - 1
    · rw [z]
      exact h1
    · exact o.lt h1 (h a (b - 1) (by omega) (by omega))
theorem Xx (o : Ord c n) {p : Array Nat} : ∀ f k,0 < k→Up c p k→k≤run c (kas_asc p f k)∧run c (kas_asc p f k)≤k + f∧Up c p (run c (kas_asc p f k))∧(run c (kas_asc p f k) < k + f→c (p.getD (run c (kas_asc p f k)) 0) (p.getD (run c (kas_asc p f k) - 1) 0)=true)
  | 0,k,_,h=>⟨Nat.le_refl _,Nat.le_refl _,h,fun z=>absurd z (Nat.lt_irrefl _)⟩
  | f + 1,k,hk,h=>by
    have e : run c (kas_asc p (f + 1) k)=if c (p.getD k 0) (p.getD (k - 1) 0)=true then k else run c (kas_asc p f (k + 1)):=by
      show run c (if c (p.getD k 0) (p.getD (k - 1) 0)=true then KasT.ret k else kas_asc p f (k + 1))=_
      rw [vv]
      rfl
    cases h1 : c (p.getD k 0) (p.getD (k - 1) 0) with
    | true =>
      rw [e,h1,if_pos rfl]
      exact ⟨Nat.le_refl _,by omega,h,fun _=>h1⟩
    | false =>
      rw [e,h1,if_neg (by decide)]
      obtain ⟨a1,a2,a3,a4⟩:=Xx o f (k + 1) (by omega) (h.succ o hk h1)
      exact ⟨by omega,by omega,a3,fun z=>a4 (by omega)⟩
theorem Xy {p : Array Nat} (h : L12.zV n p) {i j : Nat} (hi : i < n) (hj : j < n) (hij : i≠j) : p.getD i 0≠p.getD j 0:=by
  have hp:=Array.perm_iff_toList_perm.mp h
  have hl : p.toList.length=n:=by rw [hp.length_eq]; simp
  have nd : p.toList.Nodup:=hp.nodup_iff.mpr (by simpa using List.nodup_range)
  have e : ∀ k (hk : k < n),p.getD k 0=p.toList[k]'(by omega):=fun k hk=>by
    have hs : k < p.size:=by rw [← Array.length_toList,hl]; exact hk
    simp [Array.getD,hs]
  rw [e i hi,e j hj]
  rcases Nat.lt_or_gt_of_ne hij with z | z
  · exact List.pairwise_iff_getElem.mp nd i j _ _ z
  · exact fun w=>List.pairwise_iff_getElem.mp nd j i _ _ z w.symm
theorem WY (o : Ord c n) (hn : 0 < n) {p : Array Nat} (hp : L12.zV n p) : ∀ f k,0 < k→k + f≤n→Down c p k→∃ m,run c (kas_desc f p k 0)=(p,m,0)∧k≤m∧m≤k + f∧Down c p m
  | 0,k,_,_,h=>⟨k,rfl,Nat.le_refl _,Nat.le_refl _,h⟩
  | f + 1,k,hk,hkn,h=>by
    have e : run c (kas_desc (f + 1) p k 0)=if c (p.getD k 0) (p.getD (k - 1) 0)=true then run c (kas_desc f p (k + 1) 0) else if c (p.getD (k - 1) 0) (p.getD k 0)=true then (p,k,0) else run c (kas_desc f p (k + 1) 1):=by
      show run c (if c (p.getD k 0) (p.getD (k - 1) 0)=true then (if 0 > 0 then kas_desc f (kas_rev p (k - (0 + 1)) k) (k + 1) 0 else kas_desc f p (k + 1) 0) else .ask (p.getD (k - 1) 0) (p.getD k 0) fun d=>if d=true then .ret (p,k,0) else kas_desc f p (k + 1) (0 + 1))=_
      rw [vv,if_neg (show ¬ ((0 : Nat) > 0) by decide)]
      show (if c (p.getD k 0) (p.getD (k - 1) 0)=true then run c (kas_desc f p (k + 1) 0) else run c (if c (p.getD (k - 1) 0) (p.getD k 0)=true then .ret (p,k,0) else kas_desc f p (k + 1) (0 + 1)))=_
      rw [vv]
      rfl
    rw [e]
    cases h1 : c (p.getD k 0) (p.getD (k - 1) 0) with
    | true =>
      rw [if_pos rfl]
      obtain ⟨m,a1,a2,a3,a4⟩:=WY o hn hp f (k + 1) (by omega) (by omega) (h.succ o hk h1)
      exact ⟨m,a1,by omega,by omega,a4⟩
    | false =>
      have h2 : c (p.getD (k - 1) 0) (p.getD k 0)=true:=by
        rcases o.tot (p.getD k 0) (p.getD (k - 1) 0) (hp.lt hn _) (hp.lt hn _) (Xy hp (by omega) (by omega) (by omega)) with z | z
        · rw [h1] at z
          cases z
        · exact z
      rw [if_neg (by decide),h2,if_pos rfl]
      exact ⟨k,rfl,Nat.le_refl _,by omega,h⟩
theorem zc2 (o : Ord c n) {p : Array Nat} {m : Nat} (hm : m≤p.size) (h : Down c p m) : Up c (kas_rev p 0 m) m:=fun a b hab hb=>by
  have e : ∀ k,k < m→(kas_rev p 0 m).getD k 0=p.getD (m - 1 - k) 0:=fun k hk=>by
    unfold kas_rev
    rw [Array.getD_eq_getD_getElem?,Array.getD_eq_getD_getElem?,getElem?_mirror_all hm,if_pos ⟨Nat.zero_le _,hk⟩,Nat.zero_add]
  rw [e a (by omega),e b hb]
  exact o.zbl _ _ (h (m - 1 - b) (m - 1 - a) (by omega) (by omega))
theorem jC {p : Array Nat} (h : L12.zV n p) : p.size=n:=by
  have:=(Array.perm_iff_toList_perm.mp h).length_eq
  simpa using this
theorem zay (o : Ord c n) (hn : 0 < n) {p : Array Nat} (hp : L12.zV n p) : 1≤(run c (kas_count n p)).1∧(run c (kas_count n p)).1≤n∧Up c (run c (kas_count n p)).2 (run c (kas_count n p)).1:=by
  unfold kas_count
  rw [run_bind]
  obtain ⟨a1,a2,a3,a4⟩:=Xx o (p:=p) (n - 1) 1 (by decide) (fun a b h1 h2=>by omega)
  generalize run c (kas_asc p (n - 1) 1)=m at a1 a2 a3 a4 ⊢
  rw [vv,vv]
  by_cases e1 : m=n
  · rw [if_pos (by rw [e1]; exact beq_self_eq_true _)]
    exact ⟨a1,by show m≤n; omega,a3⟩
  rw [if_neg (by rw [beq_iff_eq]; exact e1)]
  by_cases e2 : m > 1
  · rw [if_pos e2]
    show 1≤(run c (if c (p.getD 0 0) (p.getD (m - 1) 0)=true then KasT.ret (m,p) else kas_descPart m n (kas_rev p 0 m))).1∧_
    have h2 : c (p.getD 0 0) (p.getD (m - 1) 0)=true:=by
      rcases o.tot (p.getD 0 0) (p.getD (m - 1) 0) (hp.lt hn _) (hp.lt hn _) (Xy hp (by omega) (by omega) (by omega)) with z | z
      · exact z
      · rw [a3 0 (m - 1) (by omega) (by omega)] at z
        cases z
    show _∧(run c (if c (p.getD 0 0) (p.getD (m - 1) 0)=true then KasT.ret (m,p) else kas_descPart m n (kas_rev p 0 m))).1≤n∧Up c (run c (if c (p.getD 0 0) (p.getD (m - 1) 0)=true then KasT.ret (m,p) else kas_descPart m n (kas_rev p 0 m))).2 (run c (if c (p.getD 0 0) (p.getD (m - 1) 0)=true then KasT.ret (m,p) else kas_descPart m n (kas_rev p 0 m))).1
    rw [if_pos h2]
    exact ⟨a1,by show m≤n; omega,a3⟩
  rw [if_neg e2]
  obtain rfl : m=1:=by omega
  have h1:=a4 (by omega)
  unfold kas_descPart
  rw [run_bind]
  obtain ⟨k,b1,b2,b3,b4⟩:=WY o hn hp (n - (1 + 1)) (1 + 1) (by decide) (by omega) (fun a b h3 h4=>by
    obtain rfl : a=0:=by omega
    obtain rfl : b=1:=by omega
    exact h1)
  rw [b1]
  show _≤(run c (if 0 > 0 then _ else kas_tail3 k n p)).1∧(run c (if 0 > 0 then _ else kas_tail3 k n p)).1≤n∧Up c (run c (if 0 > 0 then _ else kas_tail3 k n p)).2 (run c (if 0 > 0 then _ else kas_tail3 k n p)).1
  rw [if_neg (by decide)]
  unfold kas_tail3
  rw [run_bind]
  obtain ⟨c1,c2,c3,_⟩:=Xx o (p:=kas_rev p 0 k) (n - k) k (by omega) (zc2 o (by rw [jC hp]; omega) b4)
  exact ⟨by show 1≤run c _; omega,by show run c _≤n; omega,c3⟩
theorem ZC (o : Ord c n) {p : Array Nat} {k : Nat} (h : Up c p k) : ∀ f l r,l≤r→r≤k→r - l≤f→(∀ a,a < l→c (p.getD k 0) (p.getD a 0)=false)→(∀ a,r≤a→a < k→c (p.getD k 0) (p.getD a 0)=true) →
    run c (kas_place p k f l r)≤k∧(∀ a,a < run c (kas_place p k f l r)→c (p.getD k 0) (p.getD a 0)=false)∧(∀ a,run c (kas_place p k f l r)≤a→a < k→c (p.getD k 0) (p.getD a 0)=true)
  | 0,l,r,h1,h2,h3,h4,h5=>by
    obtain rfl : l=r:=by omega
    exact ⟨h2,h4,h5⟩
  | f + 1,l,r,h1,h2,h3,h4,h5=>by
    show run c (if l ≥ r then KasT.ret l else _)≤k∧_
    by_cases e : l ≥ r
    · obtain rfl : l=r:=by omega
      have e0 : run c (kas_place p k (f + 1) l l)=l:=by
        show run c (if l ≥ l then KasT.ret l else _)=l
        rw [if_pos (Nat.le_refl _)]
        rfl
      rw [if_pos (Nat.le_refl _)]
      rw [e0]
      exact ⟨h2,h4,h5⟩
    · have e0 : run c (kas_place p k (f + 1) l r)=if c (p.getD k 0) (p.getD ((l + r) / 2) 0)=true then run c (kas_place p k f l ((l + r) / 2)) else run c (kas_place p k f ((l + r) / 2 + 1) r):=by
        show run c (if l ≥ r then KasT.ret l else .ask (p.getD k 0) (p.getD ((l + r) / 2) 0) fun d=>if d=true then kas_place p k f l ((l + r) / 2) else kas_place p k f ((l + r) / 2 + 1) r)=_
        rw [if_neg e]
        show run c (if c (p.getD k 0) (p.getD ((l + r) / 2) 0)=true then kas_place p k f l ((l + r) / 2) else kas_place p k f ((l + r) / 2 + 1) r)=_
        rw [vv]
      show run c (kas_place p k (f + 1) l r)≤k∧_
      rw [e0]
      cases h6 : c (p.getD k 0) (p.getD ((l + r) / 2) 0) with
      | true =>
        rw [if_pos rfl]
        refine ZC o h f l ((l + r) / 2) (by omega) (by omega) (by omega) h4 fun a ha hk=>?_
        by_cases z : a=(l + r) / 2
        · rw [z]; exact h6
        · exact o.zfO h6 (h _ _ (by omega) hk)
      | false =>
        rw [if_neg (by decide)]
        refine ZC o h f ((l + r) / 2 + 1) r (by omega) h2 (by omega) (fun a ha=>?_) h5
        by_cases z : a=(l + r) / 2
        · rw [z]; exact h6
        · exact o.tr _ _ _ (h a ((l + r) / 2) (by omega) (by omega)) h6
theorem VQ (o : Ord c n) : ∀ f {p : Array Nat} k,0 < k→k + f=n→L12.zV n p→Up c p k→Up c (run c (kas_bin f p k)) n
  | 0,p,k,_,hk,_,h=>by
    rw [Nat.add_zero] at hk
    rw [← hk]
    exact h
  | f + 1,p,k,h0,hk,hp,h=>by
    show Up c (run c ((kas_place p k k 0 k).bind fun l=>kas_bin f (bubble p k (k - l)) (k + 1))) n
    rw [run_bind]
    obtain ⟨a1,a2,a3⟩:=ZC o h k 0 k (Nat.zero_le _) (Nat.le_refl _) (by omega) (fun a ha=>absurd ha (Nat.not_lt_zero _)) (fun a h1 h2=>by omega)
    generalize run c (kas_place p k k 0 k)=l at a1 a2 a3 ⊢
    have hs : k < p.size:=by rw [jC hp]; omega
    have e : ∀ a,(bubble p k (k - l)).getD a 0=if a=l then p.getD k 0 else if l < a∧a≤k then p.getD (a - 1) 0 else p.getD a 0:=fun a=>by
      rw [Array.getD_eq_getD_getElem?,getElem?_bubble hs (k - l) (by omega),show k - (k - l)=l by omega,Array.getD_eq_getD_getElem?,Array.getD_eq_getD_getElem?,Array.getD_eq_getD_getElem?]
      repeat' split
      all_goals rfl
    refine VQ o f (k + 1) (by omega) (by omega) ((bubble_perm p k _).trans hp) fun a b hab hb=>?_
    rw [e a,e b]
    by_cases z1 : b=l
    · rw [if_pos z1,if_neg (by omega),if_neg (by omega)]
      exact a2 a (by omega)
    · rw [if_neg z1]
      by_cases z2 : l < b∧b≤k
      · rw [if_pos z2]
        by_cases z3 : a=l
        · rw [if_pos z3]
          exact o.zbl _ _ (a3 (b - 1) (by omega) (by omega))
        · rw [if_neg z3]
          by_cases z4 : l < a∧a≤k
          · rw [if_pos z4]
            exact h (a - 1) (b - 1) (by omega) (by omega)
          · rw [if_neg z4]
            exact h a (b - 1) (by omega) (by omega)
      · rw [if_neg z2,if_neg (by omega),if_neg (by omega)]
        exact h a b hab (by omega)
theorem zbm (o : Ord c n) (hn : 0 < n) : Up c (run c (kas_sort n)) n:=by
  unfold kas_sort
  rw [run_bind]
  have hp0 : L12.zV n (List.toArray (List.range n)):=Array.Perm.refl _
  obtain ⟨a1,a2,a3⟩:=zay o hn hp0
  have a4 : L12.zV n (run c (kas_count n (List.toArray (List.range n)))).2:=Yk (L12.Yw hn hp0 n)
  generalize run c (kas_count n (List.toArray (List.range n)))=r at a1 a2 a3 a4 ⊢
  rw [vv]
  by_cases e : r.1 < n
  · rw [if_pos e]
    exact VQ o _ _ (by omega) (by omega) a4 (by rw [Nat.max_eq_left a1]; exact a3)
  · rw [if_neg e]
    rw [show n=r.1 by omega]
    exact a3
end
end L16
namespace L16
open PySem PySem.Spec PySem.W PyProof.Rows L2 L3 L4
theorem YA (a b : CP.Pr) : CP.wH a b=decide (a.1 < b.1∨(a.1=b.1∧a.2 < b.2)):=by
  unfold CP.wH
  rw [HT.lexLt_cons,HT.lexLt_cons,HT.lexLt_nil_nil]
  by_cases h1 : a.1=b.1
  · rw [if_pos h1]
    by_cases h2 : a.2=b.2
    · rw [if_pos h2]
      exact (decide_eq_false (by omega)).symm
    · rw [if_neg h2]
      exact decide_eq_decide.mpr (by omega)
  · rw [if_neg h1]
    exact decide_eq_decide.mpr (by omega)
theorem VR {ps : List CP.Pr} (hn : ps.Nodup) : Ord (fun i j=>CP.wH (CP.at' ps i) (CP.at' ps j)) ps.length:=by
  refine ⟨fun i j h=>?_,fun i j k h1 h2=>?_,fun i j hi hj hij=>?_⟩
  · simp only [YA,decide_eq_true_eq,decide_eq_false_iff_not] at h ⊢
    omega
  · simp only [YA,decide_eq_false_iff_not] at h1 h2 ⊢
    omega
  · have ne : CP.at' ps i≠CP.at' ps j:=fun z=>by
      have e1 : CP.at' ps i=ps[i]:=by unfold CP.at'; rw [List.getD_eq_getElem?_getD,List.getElem?_eq_getElem hi]; rfl
      have e2 : CP.at' ps j=ps[j]:=by unfold CP.at'; rw [List.getD_eq_getElem?_getD,List.getElem?_eq_getElem hj]; rfl
      rw [e1,e2] at z
      rcases Nat.lt_or_gt_of_ne hij with w | w
      · exact List.pairwise_iff_getElem.mp hn i j hi hj w z
      · exact List.pairwise_iff_getElem.mp hn j i hj hi w z.symm
    simp only [YA,decide_eq_true_eq]
    have : ¬ ((CP.at' ps i).1=(CP.at' ps j).1∧(CP.at' ps i).2=(CP.at' ps j).2):=fun z=>ne (Prod.ext z.1 z.2)
    omega
section
variable {prog : Program} {w : World} {A : Around} {E : Value→Shared→Prop} {s : Shared}
theorem zbn {v u : Value} {a b : CP.Pr} (hv : ∃ x o n t u,v = .ref x∧s.heap.get? x=some o∧o.cls = .type "tuple"∧o.data = .seq #[.int a.1 t,.int a.2 u] n) (hu : ∃ x o n t v,u = .ref x∧s.heap.get? x=some o∧o.cls = .type "tuple"∧o.data = .seq #[.int b.1 t,.int b.2 v] n) {Q : Bool→Shared→Prop} (q : Q (CP.wH a b) s) : wpAny (model prog w) A (keyLt' (tuples' true) v u) Q E s:=by
  obtain ⟨x,o,n,t,t',rfl,ho,_,hd⟩:=hv
  obtain ⟨y,o2,n2,t2,t3,rfl,ho2,_,hd2⟩:=hu
  rw [YA] at q
  refine kat_lt ho hd ho2 hd2 ?_
  show KatLex prog w A true _ Q [(Value.int a.1 t,Value.int b.1 t2),(Value.int a.2 t',Value.int b.2 t3)] 0 s
  refine kat_cons (wpAny_eqBool_int (kat_go (fun e1=>kat_yes (kat_cons (wpAny_eqBool_int (kat_go (fun e2=>kat_yes (kat_nil ?_)) (fun e2=>kat_no ?_))))) (fun e1=>kat_no ?_)))
  · have h1 : a.1=b.1:=by simpa using e1
    have h2 : a.2=b.2:=by simpa using e2
    rw [decide_eq_false (by omega)] at q
    exact q
  · have h1 : a.1=b.1:=by simpa using e1
    refine kat_one _ _ (lt_int ?_)
    rw [show decide (a.1 < b.1∨a.1=b.1∧a.2 < b.2)=decide (a.2 < b.2) from decide_eq_decide.mpr (by omega)] at q
    exact q
  · have h1 : ¬ a.1=b.1:=by simpa using e1
    refine oneLt_int ?_
    rw [show decide (a.1 < b.1∨a.1=b.1∧a.2 < b.2)=decide (a.1 < b.1) from decide_eq_decide.mpr (by omega)] at q
    exact q
end
section
variable {X : Cx}
theorem zaz {ps : List CP.Pr} (hn : ps.Nodup) {o : Array Nat} (hp : L12.zV ps.length o) (h0 : 0 < ps.length) (h : Up (fun i j=>CP.wH (CP.at' ps i) (CP.at' ps j)) o ps.length) : CP.ym (o.toList.map (CP.at' ps))=true:=by
  refine CP.Yx.mpr fun i hi=>?_
  have hs:=jC hp
  rw [List.length_map,Array.length_toList,hs] at hi
  have e : ∀ k,k < ps.length→CP.at' (o.toList.map (CP.at' ps)) k=CP.at' ps (o.getD k 0):=fun k hk=>by
    refine CP.at_of ?_
    rw [List.getElem?_map,Array.getElem?_toList,Array.getD_eq_getD_getElem?,Array.getElem?_eq_getElem (by omega)]
    rfl
  rw [e i (by omega),e (i + 1) hi]
  have o1:=VR hn
  rcases o1.tot (o.getD i 0) (o.getD (i + 1) 0) (hp.lt h0 _) (hp.lt h0 _) (Xy hp (by omega) hi (by omega)) with z | z
  · exact z
  · have h9 : CP.wH (CP.at' ps (o.getD (i + 1) 0)) (CP.at' ps (o.getD i 0))=false:=h i (i + 1) (by omega) hi
    have z9 : CP.wH (CP.at' ps (o.getD (i + 1) 0)) (CP.at' ps (o.getD i 0))=true:=z
    rw [h9] at z9
    cases z9
theorem zcC {ps : List CP.Pr} {o : Array Nat} (hp : L12.zV ps.length o) : (o.toList.map (CP.at' ps)).Perm ps:=by
  refine ((Array.perm_iff_toList_perm.mp hp).map _).trans (List.Perm.of_eq ?_)
  apply List.ext_getElem?
  intro i
  by_cases hi : i < ps.length
  · simp [hi,CP.at']
  · simp [hi]
theorem X8 {K : PySem.W.Frag} {H : Hp} {ys : List V} {ps : List CP.Pr} (hA : zc K H ys (ps.map CP.pairD)) : ∀ L : List Nat,(∀ i∈L,i < ps.length)→zc K H (L.map fun i=>ys.getD i .non) ((L.map (CP.at' ps)).map CP.pairD)
  | [],_=>zc.nil
  | i :: L,h=>by
    have hi:=h i (List.mem_cons_self ..)
    have e : (ps.map CP.pairD)[i]?=some (CP.pairD (CP.at' ps i)):=by
      rw [List.getElem?_map,List.getElem?_eq_getElem hi,CP.at_of (List.getElem?_eq_getElem hi)]
      rfl
    obtain ⟨x,hx,hd⟩:=zc.at_ hA e
    refine zc.cons ?_ (X8 hA L fun j hj=>h j (List.mem_cons_of_mem _ hj))
    show zx K H (ys.getD i .non) (CP.pairD (CP.at' ps i))
    rw [List.getD_eq_getElem?_getD,hx]
    exact hd
theorem jr : CallR X (.builtin "sorted") (fun xs H Q=>L23.E3 fun (p : Addr) (ys : List V) (ps : List CP.Pr)=>L23.A6 (xs=[.ref p]) (SqL X.K H p ys) (zc X.K H ys (ps.map CP.pairD)) (ps.Nodup) (ps.length < 64) (∀ l zs qs,H l=none→zc X.K H zs (qs.map CP.pairD)→qs.Perm ps→CP.ym qs=true→Q (.ref l) (upd H l (.lst zs)))):=by
  intro pins s σ H xs us Q I r h
  obtain ⟨p,ys,ps,rfl,hq,hA,hnd,h64,q⟩:=h
  obtain ⟨u,rfl,rx⟩:=vals1 r
  cases rx
  obtain ⟨its,rv,pl,hz⟩:=I.list hq
  have hlen:=rv.length
  have hlp : ys.length=ps.length:=by have:=zc.length hA; rwa [List.length_map] at this
  have line : 64≤sizeLine:=by decide
  by_cases h2 : its.length < 2
  · obtain ⟨v,hv⟩:=L12.zcy h2
    refine L12.V3 (v:=v) (hv ▸ pl.isList) fun h' D c k hD e=>?_
    rw [← hv] at e
    exact ⟨.ref D,_,I.laid (a:=D) (t':=s.toks) (o := .lst ys) k hD ⟨hz,its,c,rv,e⟩,rfl,q D ys ps (I.hok.fresh hD) hA (List.Perm.refl _) (CP.Yx.mpr fun i hi=>by omega)⟩
  · obtain ⟨m,F⟩:=L12.fr_all I
    have pr : ∀ i,i < its.length→∃ x o n t t',its.getD i Value.none=Value.ref x∧s.heap.get? x=some o∧x≠X.env.locals∧o.cls = .type "tuple"∧o.data = .seq #[.int (CP.at' ps i).1 t,.int (CP.at' ps i).2 t'] n:=fun k hk=>by
      obtain ⟨u',e1,rr⟩:=rv.get (x:=ys[k]'(by omega)) (i:=k) (List.getElem?_eq_getElem (by omega))
      rw [List.getElem?_eq_getElem hk] at e1
      obtain ⟨a,t,ha,ey,ht⟩:=CP.pairs_at hA (List.getElem?_eq_getElem (show k < ys.length by omega))
      rw [ey,← Option.some.inj e1] at rr
      obtain ⟨its2,rv2,⟨o,ho,hc,n,hd⟩,_⟩:=I.tuple (SqT.of ht)
      obtain ⟨v1,v2,rfl,⟨t1,rfl⟩,⟨t2,rfl⟩⟩:=vals2 rv2
      rw [CP.at_of ha]
      refine ⟨t,o,n,t1,t2,?_,ho,fun z=>?_,hc,hd⟩
      · rw [List.getD_eq_getElem?_getD,List.getElem?_eq_getElem hk]
        exact rr
      · obtain ⟨o2,_,_,ho2,hd2,_⟩:=F.ns
        rw [← z,ho] at ho2
        rw [← Option.some.inj ho2,hd] at hd2
        cases hd2
    refine kat_sorted F (L12.news_all s.heap X.env.locals) pl.isList (by omega) (by omega) fun D e1 h' F' N' hD=>?_
    have pr' : ∀ i,i < its.length→∃ x o n t t',its.getD i Value.none=Value.ref x∧h'.get? x=some o∧o.cls = .type "tuple"∧o.data = .seq #[.int (CP.at' ps i).1 t,.int (CP.at' ps i).2 t'] n:=fun i hi=>by
      obtain ⟨x,o,n,t,t',e,ho,hL,hc,hd⟩:=pr i hi
      exact ⟨x,o,n,t,t',e,(N' _ (List.mem_cons_of_mem _ (L12.Yg ho hL))).1,hc,hd⟩
    obtain ⟨fs,kt,lf,hf⟩:=L12.X5 (s:={ s with heap:=h' }) (vs:=its) fun v hv=>by
      obtain ⟨k,hk,rfl⟩:=List.getElem_of_mem hv
      obtain ⟨x,o,n,t,t',e,ho,hc,hd⟩:=pr' k hk
      rw [List.getD_eq_getElem?_getD,List.getElem?_eq_getElem hk] at e
      exact ⟨x,o,n,_,_,t,t',e,ho,hc,hd⟩
    refine kat_kind (T := .type "int") kt (by omega) (fun v hv=>?_) (by decide) ?_
    · obtain ⟨i,t,rfl⟩:=hf v hv
      exact .now
    have fin:=L12.zau (n:=its.length) (by omega)
    refine zax (n:=its.length) (c:=fun i j=>CP.wH (CP.at' ps i) (CP.at' ps j)) (fun i j C hi hj hC=>?_) fin ?_
    · unfold kas_ask
      exact zbn (s:={ s with heap:=h' }) (pr' i hi) (pr' j hj) hC
    · have ho : L12.zV its.length (run (fun i j=>CP.wH (CP.at' ps i) (CP.at' ps j)) (kas_sort its.length)):=Yk fin
      have hil : its.length=ps.length:=by omega
      have up:=zbm (VR hnd) (by omega)
      rw [hil] at ho ⊢
      generalize run (fun i j=>CP.wH (CP.at' ps i) (CP.at' ps j)) (kas_sort ps.length)=o at ho up ⊢
      have hz2 : Vals (o.toList.map fun i=>ys.getD i .non) (o.toList.map fun i=>its.getD i Value.none):=by
        refine L7.WO (by rw [List.length_map,List.length_map]) fun i x u h1 h2=>?_
        rw [List.getElem?_map] at h1 h2
        obtain ⟨k,hk,rfl⟩:=Option.map_eq_some_iff.mp h1
        rw [hk] at h2
        obtain rfl:=Option.some.inj h2
        have hkl : k < ps.length:=by
          have:=(Array.perm_iff_toList_perm.mp ho).mem_iff.mp (List.mem_of_getElem? hk)
          simpa using this
        obtain ⟨u',e1,rr⟩:=rv.get (x:=ys[k]'(by omega)) (i:=k) (List.getElem?_eq_getElem (by omega))
        show RelV (ys.getD k .non) (its.getD k Value.none)
        rw [List.getD_eq_getElem?_getD,List.getElem?_eq_getElem (by omega),List.getD_eq_getElem?_getD,e1]
        exact rr
      have hD2 : zc X.K H (o.toList.map fun i=>ys.getD i .non) ((o.toList.map (CP.at' ps)).map CP.pairD):=X8 hA _ fun i hi=>by
        have:=(Array.perm_iff_toList_perm.mp ho).mem_iff.mp hi
        simpa using this
      have nD : D≠X.env.locals:=(N' _ (List.mem_cons_self ..)).2.1
      refine KasFin.intro F' N' (UpdF.head fun a ha=>Nat.ne_of_lt (hD a ha)) fun h'' c F'' N''=>?_
      obtain ⟨noD,I'⟩:=L12.zbd I F (t':=s.toks) F'' (fun a ha=>N'' a (List.mem_cons_of_mem _ ha)) (N'' _ (List.mem_cons_self ..)).1 hD nD hz2 (by rw [List.length_map,Array.length_toList,jC ho]; omega)
      exact ⟨.ref D,_,I',rfl,q D _ _ noD hD2 (zcC ho) (zaz hnd ho (by omega) up)⟩
end
end L16
namespace CD
open CB (yC)
noncomputable def hpT (held : List Nat) : Nat→List (Nat × Nat)
  | 0=>[]
  | i + 1=>hpT held i ++ (yC (held.getD i 0)).map fun w=>(w,i)
theorem wU {held : List Nat} {w p : Nat} : ∀ {i : Nat},(w,p)∈hpT held i↔p < i∧hb held p w=true
  | 0=>⟨(fun h=>nomatch h),fun h=>absurd h.1 (Nat.not_lt_zero _)⟩
  | i + 1=>by
    rw [hpT,List.mem_append,wU,List.mem_map]
    constructor
    · rintro (⟨h1,h2⟩ | ⟨x,hx,e⟩)
      · exact ⟨by omega,h2⟩
      · obtain ⟨rfl,rfl⟩:=Prod.mk.inj e
        exact ⟨by omega,CB.xj.mp hx⟩
    · rintro ⟨h1,h2⟩
      by_cases z : p=i
      · subst z
        exact .inr ⟨w,CB.xj.mpr h2,rfl⟩
      · exact .inl ⟨by omega,h2⟩
theorem VS (m : Nat) : (yC m).Nodup:=(CB.jW m).imp fun h=>Nat.ne_of_lt h
theorem ZD (held : List Nat) : ∀ i,(hpT held i).Nodup
  | 0=>List.nodup_nil
  | i + 1=>by
    rw [hpT]
    refine List.nodup_append.mpr ⟨ZD held i,List.Pairwise.map _ (fun a b hab z=>hab (Prod.mk.inj z).1) (VS _),fun x hx y hy e=>?_⟩
    obtain ⟨w,_,rfl⟩:=List.mem_map.mp hy
    subst e
    have:=(wU.mp hx).1
    omega
theorem V6 (m w : Nat) : (yC m).count w=one (m.testBit w):=by
  unfold one
  cases e : m.testBit w with
  | true=>rw [if_pos rfl,(VS m).count,if_pos (CB.xj.mpr e)]
  | false=>rw [if_neg (by decide),List.count_eq_zero.mpr (fun z=>by rw [CB.xj.mp z] at e; cases e)]
theorem Xz (held : List Nat) (w : Nat) : ∀ i,((hpT held i).map Prod.fst).count w=col held (List.range i) w
  | 0=>rfl
  | i + 1=>by
    rw [hpT,List.map_append,List.count_append,Xz held w i,List.map_map]
    unfold col
    rw [List.range_succ,List.countP_append]
    congr 1
    rw [show (Prod.fst ∘ fun w=>(w,i))=(id : Nat→Nat) from rfl,List.map_id,V6,List.countP_cons,List.countP_nil,Nat.zero_add]
    rfl
theorem XA (held : List Nat) (p : Nat) : ∀ i,((hpT held i).map Prod.snd).count p=if p < i then (yC (held.getD p 0)).length else 0
  | 0=>rfl
  | i + 1=>by
    have e : ((yC (held.getD i 0)).map fun w=>(w,i)).map Prod.snd=List.replicate (yC (held.getD i 0)).length i:=by
      rw [List.map_map]
      exact List.map_const' ..
    rw [hpT,List.map_append,List.count_append,XA held p i,e,List.count_replicate]
    by_cases z : p=i
    · subst z
      rw [if_neg (Nat.lt_irrefl _),if_pos (beq_self_eq_true _),if_pos (Nat.lt_succ_self _),Nat.zero_add]
    · rw [if_neg (show ¬ ((i == p)=true) by rw [beq_iff_eq]; exact fun h=>z h.symm),Nat.add_zero]
      by_cases h : p < i
      · rw [if_pos h,if_pos (by omega)]
      · rw [if_neg h,if_neg (by omega)]
theorem XC (held : List Nat) : ∀ i,(hpT held i).length=zQ ((List.range i).map fun p=>(yC (held.getD p 0)).length)
  | 0=>rfl
  | i + 1=>by
    rw [hpT,List.length_append,XC held i,List.range_succ,List.map_append,Yb,List.length_map]
    rfl
structure Dl (ws os ms : List Nat) (tk : List (Nat × Nat)) : Prop where
  nd : tk.Nodup
  fit : ∀ q∈tk,q.1 < os.length∧q.2 < ms.length∧hb ms q.2 q.1=true
  cw : ∀ w,w < os.length→(tk.map Prod.fst).count w≤os.getD w 0
  cp : ∀ p,p < ws.length→(tk.map Prod.snd).count p≤ws.getD p 0
theorem count_cast (i : Nat) : ∀ l : List Nat,(l.map fun n : Nat=>(n : Int)).count ((i : Nat) : Int)=l.count i
  | []=>rfl
  | a :: l=>by
    rw [List.map_cons,List.count_cons,List.count_cons,count_cast i l]
    congr 1
    by_cases h : a=i
    · rw [if_pos (by rw [h]; exact beq_self_eq_true _),if_pos (by rw [h]; exact beq_self_eq_true _)]
    · rw [if_neg (by rw [beq_iff_eq]; omega),if_neg (by rw [beq_iff_eq]; exact h)]
theorem Dl.yW {ws os ms : List Nat} {tk : List (Nat × Nat)} (d : Dl ws os ms tk) {qs : List CP.Pr} (hp : qs.Perm (tk.map CP.wg)) (hr : CP.ym qs=true) : CP.yW qs ws os ms=true:=by
  unfold CP.yW
  rw [hr,Bool.true_and,Bool.and_eq_true,Bool.and_eq_true]
  refine ⟨CP.Za.mpr fun q hq=>?_,CP.wR.mpr fun i hi=>?_,CP.wR.mpr fun i hi=>?_⟩
  · obtain ⟨x,hx,rfl⟩:=List.mem_map.mp (hp.mem_iff.mp hq)
    obtain ⟨h1,h2,h3⟩:=d.fit x hx
    unfold CP.v8 CP.wg
    rw [decide_eq_true (show (0 : Int)≤(x.1 : Nat) by omega),decide_eq_true (show ((x.1 : Nat) : Int) < os.length by omega),decide_eq_true (show (0 : Int)≤(x.2 : Nat) by omega),decide_eq_true (show ((x.2 : Nat) : Int) < ms.length by omega),Int.toNat_natCast,Int.toNat_natCast]
    exact h3
  · rw [(hp.map Prod.fst).count_eq,List.map_map,show (Prod.fst ∘ CP.wg)=((fun n : Nat=>(n : Int)) ∘ Prod.fst) from rfl,← List.map_map,count_cast]
    exact d.cw i hi
  · rw [(hp.map Prod.snd).count_eq,List.map_map,show (Prod.snd ∘ CP.wg)=((fun n : Nat=>(n : Int)) ∘ Prod.snd) from rfl,← List.map_map,count_cast]
    exact d.cp i hi
theorem yH.wJ {ws os ms held za left : List Nat} (d : yH ws os ms held za left) {p : Nat} (hp : p < ms.length) : (yC (held.getD p 0)).length=row held os.length p:=by
  refine Yj (d.small ?_)
  rw [List.getD_eq_getElem?_getD,List.getElem?_eq_getElem (by rw [d.lh]; exact hp)]
  exact List.getElem_mem _
theorem yH.total {ws os ms held za left : List Nat} (d : yH ws os ms held za left) : (hpT held ms.length).length + zQ za=zQ ws:=by
  rw [XC,X7 za,X7 ws,d.ls,d.lw,Nat.add_comm,← WV]
  refine zcA fun p hp=>?_
  have hp':=List.mem_range.mp hp
  rw [d.wJ hp']
  exact d.cp p hp'
theorem yH.dl {ws os ms held za left : List Nat} (d : yH ws os ms held za left) : Dl ws os ms (hpT held ms.length):=by
  refine ⟨ZD held _,fun q hq=>?_,fun w hw=>?_,fun p hp=>?_⟩
  · obtain ⟨h1,h2⟩:=wU.mp (show (q.1,q.2)∈_ from hq)
    exact ⟨d.lt _ _ (d.sub _ _ h2),h1,d.sub _ _ h2⟩
  · rw [Xz]
    have:=d.cw w hw
    omega
  · rw [d.lw] at hp
    rw [XA,if_pos hp,d.wJ hp]
    have:=d.cp p hp
    omega
noncomputable def heldOf (tk : List (Nat × Nat)) (n m : Nat) : List Nat:=(List.range n).map fun p=>CB.maskOf ((List.range m).filter fun w=>tk.contains (w,p))
theorem zaA (tk : List (Nat × Nat)) (n m p w : Nat) : hb (heldOf tk n m) p w=(decide (p < n) && (decide (w < m) && tk.contains (w,p))):=by
  unfold hb heldOf
  by_cases hp : p < n
  · rw [List.getD_eq_getElem?_getD,List.getElem?_map,List.getElem?_range hp]
    show (CB.maskOf ((List.range m).filter fun w=>tk.contains (w,p))).testBit w=_
    rw [CB.j7,decide_eq_true hp,Bool.true_and,Bool.eq_iff_iff,List.contains_iff_mem,List.mem_filter,List.mem_range,Bool.and_eq_true,decide_eq_true_eq]
  · rw [List.getD_eq_getElem?_getD,List.getElem?_eq_none (by rw [List.length_map,List.length_range]; omega),decide_eq_false hp,Bool.false_and]
    exact Nat.zero_testBit w
theorem YB (f : Nat→Nat) {n p : Nat} (hp : p < n) : ((List.range n).map f).getD p 0=f p:=by
  rw [List.getD_eq_getElem?_getD,List.getElem?_map,List.getElem?_range hp]
  rfl
theorem Dl.ZE {ws os ms : List Nat} {tk : List (Nat × Nat)} (d : Dl ws os ms tk) (lw : ws.length=ms.length) (hm : ∀ p w,hb ms p w=true→w < os.length) : ∃ held za left,yH ws os ms held za left∧tk.length + zQ za=zQ ws:=by
  have hlen : (heldOf tk ms.length os.length).length=ms.length:=by unfold heldOf; rw [List.length_map,List.length_range]
  have hbt : ∀ p w,hb (heldOf tk ms.length os.length) p w=true↔(w,p)∈tk:=fun p w=>by
    rw [zaA,Bool.and_eq_true,Bool.and_eq_true,decide_eq_true_eq,decide_eq_true_eq,List.contains_iff_mem]
    exact ⟨fun h=>h.2.2,fun h=>⟨(d.fit _ h).2.1,(d.fit _ h).1,h⟩⟩
  generalize heldOf tk ms.length os.length=held at hlen hbt
  have perm : (hpT held ms.length).Perm tk:=(List.perm_ext_iff_of_nodup (ZD held _) d.nd).mpr fun q=>by
    rw [show q=(q.1,q.2) from rfl,wU,hbt]
    exact ⟨fun h=>h.2,fun h=>⟨(d.fit _ h).2.1,h⟩⟩
  have zfP : ∀ w,col held (List.range ms.length) w=(tk.map Prod.fst).count w:=fun w=>by rw [← Xz,(perm.map Prod.fst).count_eq]
  have hsm : ∀ p,p < ms.length→held.getD p 0 < 2 ^ os.length:=fun p hp=>by
    refine Nat.lt_pow_two_of_testBit _ fun w hw=>?_
    cases e : (held.getD p 0).testBit w with
    | false=>rfl
    | true =>
      have:=(d.fit _ ((hbt p w).mp e)).1
      have : w < os.length:=this
      omega
  have zfQ : ∀ p,p < ms.length→row held os.length p=(tk.map Prod.snd).count p:=fun p hp=>by
    rw [← (perm.map Prod.snd).count_eq,XA,if_pos hp]
    exact (Yj (hsm p hp)).symm
  have D : yH ws os ms held ((List.range ms.length).map fun p=>ws.getD p 0 - row held os.length p) ((List.range os.length).map fun w=>os.getD w 0 - col held (List.range ms.length) w):=by
    refine ⟨hlen,lw,by rw [List.length_map,List.length_range],by rw [List.length_map,List.length_range],fun p w e=>(d.fit _ ((hbt p w).mp e)).2.2,hm,fun w hw=>?_,fun p hp=>?_⟩
    · rw [YB _ hw]
      have:=d.cw w hw
      have:=zfP w
      omega
    · rw [YB _ hp]
      have:=d.cp p (by omega)
      have:=zfQ p hp
      omega
  refine ⟨held,_,_,D,?_⟩
  rw [← perm.length_eq]
  exact D.total
theorem zc3 (held : List Nat) {i j : Nat} (h : i≤j) : (hpT held i).length≤(hpT held j).length:=by
  induction j with
  | zero=>rw [Nat.le_zero.mp h]; exact Nat.le_refl _
  | succ j ih =>
    by_cases e : i=j + 1
    · rw [e]; exact Nat.le_refl _
    · rw [hpT,List.length_append]
      have:=ih (by omega)
      omega
theorem WZ {l : List (Nat × Nat)} (h : l.Nodup) : (l.map CP.wg).Nodup:=List.Pairwise.map _ (fun _ _ hab z=>hab (CP.WU z)) h
end CD
namespace CO
open PySem L2 L3 L4 L6 CD
theorem W0 {K : PySem.W.Frag} {D : Hp} {p : Nat} : ∀ {ws : List Nat} {zs : List V},L13.Els (PrT p) D zs ws→zc K D zs ((ws.map fun w=>(w,p)).map fun q=>CP.pairD (CP.wg q))
  | [],zs,h=>by
    rw [List.eq_nil_of_length_eq_zero (l:=zs) h.1]
    exact zc.nil
  | w :: ws,[],h=>absurd h.1 (by simp)
  | w :: ws,z :: zs,h=>by
    obtain ⟨t,rfl,et⟩:=h.2 0 z w rfl rfl
    exact zc.cons (CP.VO (p:=CP.wg (w,p)) et) (W0 ⟨by have:=h.1; simpa using this,fun i v a e1 e2=>h.2 (i + 1) v a (by simpa using e1) (by simpa using e2)⟩)
end CO
namespace CD
theorem Dl.few {ws os ms : List Nat} {tk : List (Nat × Nat)} (d : Dl ws os ms tk) (lw : ws.length=ms.length) (hm : ∀ p w,hb ms p w=true→w < os.length) : tk.length≤zQ (ws.map fun n=>min n os.length):=by
  obtain ⟨held,za,left,D,e⟩:=d.ZE lw hm
  have h1:=D.total
  have h2:=D.few
  rw [WX,D.lh,← XC] at h2
  omega
structure Tkn (ws os ms : List Nat) (tk : List (Nat × Nat)) (wc pc : List Nat) : Prop where
  dl : Dl ws os ms tk
  lw : wc.length=os.length
  lp : pc.length=ws.length
  cw : ∀ w,w < os.length→wc.getD w 0=(tk.map Prod.fst).count w
  cp : ∀ p,p < ws.length→pc.getD p 0=(tk.map Prod.snd).count p
theorem W2 (n p : Nat) : (List.replicate n 0).getD p 0=0:=by
  rw [List.getD_eq_getElem?_getD,List.getElem?_replicate]
  by_cases h : p < n
  · rw [if_pos h]; rfl
  · rw [if_neg h]; rfl
theorem Tkn.zero (ws os ms : List Nat) : Tkn ws os ms [] (List.replicate os.length 0) (List.replicate ws.length 0) :=
  ⟨⟨List.nodup_nil,(fun _ h=>nomatch h),fun _ _=>Nat.zero_le _,fun _ _=>Nat.zero_le _⟩,List.length_replicate,List.length_replicate,fun w _=>W2 _ _,fun p _=>W2 _ _⟩
theorem YC (l : List Nat) (x y : Nat) : (l ++ [x]).count y=l.count y + if y=x then 1 else 0:=by
  rw [List.count_append,List.count_singleton]
  congr 1
  by_cases h : y=x
  · rw [if_pos h,if_pos (by rw [h]; exact beq_self_eq_true _)]
  · rw [if_neg h,if_neg (by rw [beq_iff_eq]; exact fun z=>h z.symm)]
theorem Tkn.step {ws os ms : List Nat} {tk : List (Nat × Nat)} {wc pc : List Nat} (h : Tkn ws os ms tk wc pc) {w p : Nat} (hw : w < os.length) (hp : p < ws.length) (lw : ws.length=ms.length) (hn : (w,p)∉tk) (hf : hb ms p w=true) (h1 : wc.getD w 0 < os.getD w 0) (h2 : pc.getD p 0 < ws.getD p 0) : Tkn ws os ms (tk ++ [(w,p)]) (wc.set w (wc.getD w 0 + 1)) (pc.set p (pc.getD p 0 + 1)):=by
  have c1 : ∀ x,((tk ++ [(w,p)]).map Prod.fst).count x=(tk.map Prod.fst).count x + if x=w then 1 else 0:=fun x=>by
    rw [List.map_append]
    exact YC _ _ _
  have c2 : ∀ x,((tk ++ [(w,p)]).map Prod.snd).count x=(tk.map Prod.snd).count x + if x=p then 1 else 0:=fun x=>by
    rw [List.map_append]
    exact YC _ _ _
  refine ⟨⟨?_,fun q hq=>?_,fun x hx=>?_,fun x hx=>?_⟩,by rw [List.length_set]; exact h.lw,by rw [List.length_set]; exact h.lp,fun x hx=>?_,fun x hx=>?_⟩
  · refine List.nodup_append.mpr ⟨h.dl.nd,List.nodup_cons.mpr ⟨(fun z=>nomatch z),List.nodup_nil⟩,fun x hx y hy e=>?_⟩
    rw [List.mem_singleton.mp hy] at e
    exact hn (e ▸ hx)
  · rcases List.mem_append.mp hq with z | z
    · exact h.dl.fit q z
    · rw [List.mem_singleton.mp z]
      exact ⟨hw,by rw [← lw]; exact hp,hf⟩
  · rw [c1]
    have a1:=h.dl.cw x hx
    have a2:=h.cw x hx
    split
    · rename_i e
      subst e
      omega
    · omega
  · rw [c2]
    have a1:=h.dl.cp x hx
    have a2:=h.cp x hx
    split
    · rename_i e
      subst e
      omega
    · omega
  · rw [c1,CP.wI _ _ _ _ (by rw [h.lw]; exact hw),← h.cw x hx]
    split
    · rename_i e
      subst e
      rfl
    · rfl
  · rw [c2,CP.wI _ _ _ _ (by rw [h.lp]; exact hp),← h.cp x hx]
    split
    · rename_i e
      subst e
      rfl
    · rfl
theorem W3 {a b : Int} {n : Int} (h : a % n=b % n) : ∃ k,a - b=n * k:=by
  have:=Int.emod_add_mul_ediv a n
  have:=Int.emod_add_mul_ediv b n
  exact ⟨a / n - b / n,by rw [Int.mul_sub]; omega⟩
theorem zbo {n m a b : Nat} {c M : Int} (ha : a < n * m) (hb : b < n * m) (h1 : ((a : Nat) + c) % (n : Nat)=((b : Nat) + c) % (n : Nat)) (h2 : (((a : Nat) : Int) / (n : Nat) + M) % (m : Nat)=(((b : Nat) : Int) / (n : Nat) + M) % (m : Nat)) : a=b:=by
  have hn : 0 < n:=by
    rcases Nat.eq_zero_or_pos n with z | z
    · rw [z,Nat.zero_mul] at ha; omega
    · exact z
  have ha' : a / n < m:=Nat.div_lt_of_lt_mul ha
  have hb' : b / n < m:=Nat.div_lt_of_lt_mul hb
  have hd : ∀ {x y : Nat} {N : Nat} {k : Int},x < N→y < N→((x : Nat) : Int) - (y : Nat)=(N : Nat) * k→x=y:=fun {x y N k} hx hy e=>by
    rcases Int.lt_trichotomy k 0 with z | z | z
    · have : ((N : Nat) : Int) * k≤(N : Nat) * (-1):=Int.mul_le_mul_of_nonneg_left (by omega) (by omega)
      omega
    · rw [z] at e
      omega
    · have : ((N : Nat) : Int) * 1≤(N : Nat) * k:=Int.mul_le_mul_of_nonneg_left (by omega) (by omega)
      omega
  have q : a / n=b / n:=by
    obtain ⟨k,e⟩:=W3 h2
    refine hd (k:=k) ha' hb' ?_
    rw [Int.natCast_ediv,Int.natCast_ediv]
    omega
  have r : a % n=b % n:=by
    obtain ⟨k,e⟩:=W3 h1
    have e1 : ((a : Nat) : Int) - (b : Nat)=(n : Nat) * k:=by omega
    have a1:=Nat.mod_add_div a n
    have b1:=Nat.mod_add_div b n
    rw [q] at a1
    refine hd (k:=k) (Nat.mod_lt a hn) (Nat.mod_lt b hn) ?_
    omega
  rw [← Nat.mod_add_div a n,← Nat.mod_add_div b n,q,r]
noncomputable def turn (m : Nat) : Nat→Nat
  | 0=>0
  | k + 1=>2 * turn m k + m / 2 ^ k % 2
end CD
namespace L18
open PySem L2 L3
end L18
namespace L18
open PySem L2 L3
end L18
namespace L19
open PySem
noncomputable def fin (d : Int) : Option Int→List Int→Int
  | none,[]=>d
  | some b,[]=>b
  | none,x :: xs=>fin d (some x) xs
  | some b,x :: xs=>fin d (some (if x > b then x else b)) xs
theorem W4 {d : Int} : ∀ {xs : List Int} {b : Int},(fin d (some b) xs=b∨fin d (some b) xs∈xs)∧b≤fin d (some b) xs∧∀ x∈xs,x≤fin d (some b) xs
  | [],b=>⟨.inl rfl,Int.le_refl _,fun _ h=>nomatch h⟩
  | x :: xs,b=>by
    obtain ⟨h1,h2,h3⟩:=W4 (d:=d) (xs:=xs) (b:=if x > b then x else b)
    have e : fin d (some b) (x :: xs)=fin d (some (if x > b then x else b)) xs:=rfl
    rw [e]
    refine ⟨?_,?_,fun y hy=>?_⟩
    · rcases h1 with h | h
      · rw [h]
        split
        · exact .inr List.mem_cons_self
        · exact .inl rfl
      · exact .inr (List.mem_cons_of_mem _ h)
    · refine Int.le_trans ?_ h2
      split <;> omega
    · rcases List.mem_cons.mp hy with rfl | hy
      · refine Int.le_trans ?_ h2
        split <;> omega
      · exact h3 y hy
theorem zcD {d : Int} {xs : List Int} (h : xs≠[]) : fin d none xs∈xs∧∀ x∈xs,x≤fin d none xs:=by
  cases xs with
  | nil=>exact absurd rfl h
  | cons x xs =>
    obtain ⟨h1,h2,h3⟩:=W4 (d:=d) (xs:=xs) (b:=x)
    have e : fin d none (x :: xs)=fin d (some x) xs:=rfl
    rw [e]
    exact ⟨h1.elim (fun z=>by rw [z]; exact List.mem_cons_self) (List.mem_cons_of_mem _),fun y hy=>(List.mem_cons.mp hy).elim (fun z=>z ▸ h2) (h3 y)⟩
noncomputable def Kept (v : Array Value) : Option Int→Prop
  | none=>v=#[]
  | some b=>∃ t,v=#[.int b t,.int b t]
section
variable {prog : Program} {w : World} {A : Around} {R : Result→Shared→Prop} {I l S : Addr} {its : Array Value} {ns : List Int} {d : Int} {td : Tok}
set_option maxHeartbeats 1000000 in
theorem loop (hh : A.in1.handled=none) (hlI : l≠I) (hSI : S≠I) (hSl : S≠l) (hval : ∀ i v,its[i]?=some v→∃ t,v=Value.int (ns.getD i 0) t) (hsz : its.size=ns.length) :
    ∀ (k i : Nat) (s : Shared) (o : Option Int) (v : Array Value) (c : Nat),i + k=ns.length→s.heap.IsListIter I l i→s.heap.IsList l its→Kept v o →
    s.heap.get? S=some { cls := .type "list",dict:=none,data := .seq v c,slots:=#[] } →
    (∀ t h' tk,(∀ b x,b≠I→b≠S→s.heap.get? b=some x→h'.get? b=some x)→R (.ok (.ret (.int (fin d o (ns.drop i)) t))) { s with heap:=h',toks:=tk }) →
    codeAny (model prog w) A (.builtin "max.loop" ⟨[.ref I,.none,.ref S],[("default",.int d td)]⟩) R s:=by
  have W:=Walks.list (prog:=prog) (w:=w) (A:=A.in1) hh I l hlI its
  have hn : (toString "max" ++ toString ".loop" : String)="max.loop":=by decide
  intro k
  have ask : ∀ {s : Shared} {v : Array Value} {c : Nat} {Q : PySem.Fin→Shared→Prop} {E : Value→Shared→Prop} {f : Option (Array Value)→Sem PySem.Fin} (_ : s.heap.get? S=some { cls := .type "list",dict:=none,data := .seq v c,slots:=#[] }),wpAny (model prog w) A.in1 (f (some v)) Q E s→wpAny (model prog w) A.in1 (seqItems? (.ref S) >>= f) Q E s:=fun hS h=>wpAny_bind (wpAny_seqItems hS rfl h)
  induction k with
  | zero =>
    intro i s o v c hk hi hl hv hS hR
    obtain rfl : i=ns.length:=by omega
    rw [List.drop_length] at hR
    refine codeAny_builtin F.entry_max_loop ?_
    rw [Around.under_plainId F.plain_max_loop _]
    refine ask hS (wpAny_bind (wpAny_tryCatch (W.done s _ _ ⟨hsz ▸ hi,hl⟩ fun h' tk hk'=>?_)))
    have hS':=hk' S _ (by simpa using hSI) hS
    cases o with
    | none =>
      obtain rfl:=hv
      wp_walk
      exact hR td h' tk fun b x n1 n2 e=>hk' b x (by simpa using n1) e
    | some b =>
      obtain ⟨t,rfl⟩:=hv
      wp_walk using wpAny_updateSeq hS' rfl
      exact hR t _ tk fun b x n1 n2 e=>(Heap.get?_update_other _ _ n2.symm).trans (hk' b x (by simpa using n1) e)
  | succ k ih =>
    intro i s o v c hk hi hl hv hS hR
    have hlt : i < ns.length:=by omega
    refine codeAny_builtin F.entry_max_loop ?_
    rw [Around.under_plainId F.plain_max_loop _]
    refine ask hS (wpAny_bind (wpAny_tryCatch (W.item i s _ _ (by omega) ⟨hi,hl⟩ fun x h' tk hx st' hk'=>?_)))
    obtain ⟨tx,rfl⟩:=hval i x hx
    have hS':=hk' S _ (by simpa using hSI) hS
    have ed : ns.drop i=ns.getD i 0 :: ns.drop (i + 1):=by
      rw [List.drop_eq_getElem_cons hlt,List.getD_eq_getElem?_getD,List.getElem?_eq_getElem hlt]
      rfl
    rw [ed] at hR
    have put : ∀ (u : Array Value) (o' : Option Int),Kept u o'→fin d o (ns.getD i 0 :: ns.drop (i + 1))=fin d o' (ns.drop (i + 1)) →
        codeAny (model prog w) A (.builtin "max.loop" ⟨[.ref I,.none,.ref S],[("default",.int d td)]⟩) R { s with heap:=h'.update S (Obj.mapSeq fun _=>u),toks:=tk }:=fun u o' hu ef=>by
      refine ih (i + 1) _ o' u _ (by omega) (st'.1.at fun x e=>(Heap.get?_update_other _ _ hSI).trans e) (st'.2.at fun x e=>(Heap.get?_update_other _ _ hSl).trans e) hu (Heap.get?_update_self _ hS' rfl) fun t h2 tk2 hk2=>?_
      rw [← ef]
      exact hR t h2 tk2 fun b x n1 n2 e=>hk2 b x n1 n2 ((Heap.get?_update_other _ _ n2.symm).trans (hk' b x (by simpa using n1) e))
    cases o with
    | none =>
      obtain rfl:=hv
      wp_walk using wpAny_updateSeq hS' rfl
      rw [hn]
      exact ⟨plainId_quiet F.plain_max_loop _,put _ (some _) ⟨tx,rfl⟩ rfl⟩
    | some b =>
      obtain ⟨t,rfl⟩:=hv
      have two:=CmpOf.ints_gt (prog:=prog) (w:=w) (A:=A.in1) (P:=fun n v=>∃ t,v=Value.int (if n=0 then ns.getD i 0 else b) t) (fun n=>if n=0 then ns.getD i 0 else b) fun _ _ h=>h
      have cmp : ∀ {s : Shared} {Q : Value→Shared→Prop} {E : Value→Shared→Prop},Q (.bool (decide (ns.getD i 0 > b))) s→wpAny (model prog w) A.in1 (richCompare .Gt (.int (ns.getD i 0) tx) (.int b t)) Q E s:=fun {s Q E} h=>two 0 1 _ _ s Q E ⟨tx,rfl⟩ ⟨t,rfl⟩ h
      refine wpAny_bind (wpAny_pure (wpAny_bind (wpAny_tryCatch (wpAny_holding (wpAny_bind (cmp ?_))))))
      by_cases hb : ns.getD i 0 > b
      · rw [decide_eq_true hb]
        wp_walk using wpAny_updateSeq hS' rfl
        rw [hn]
        exact ⟨plainId_quiet F.plain_max_loop _,put _ (some _) ⟨tx,rfl⟩ (show fin d (some (if ns.getD i 0 > b then _ else b)) _=_ by rw [if_pos hb])⟩
      · rw [decide_eq_false hb]
        wp_walk
        rw [hn]
        refine ⟨plainId_quiet F.plain_max_loop _,ih (i + 1) _ (some b) _ _ (by omega) st'.1 st'.2 ⟨t,rfl⟩ hS' fun t2 h2 tk2 hk2=>?_⟩
        have ef : fin d (some b) (ns.getD i 0 :: ns.drop (i + 1))=fin d (some b) (ns.drop (i + 1)):=show fin d (some (if ns.getD i 0 > b then _ else b)) _=_ by rw [if_neg hb]
        rw [← ef]
        exact hR t2 h2 tk2 fun b x n1 n2 e=>hk2 b x n1 n2 (hk' b x (by simpa using n1) e)
theorem zcE (a v : Value) : argsOk "max" ⟨[a],[("default",v)]⟩:=by unfold argsOk; kernel_rfl
variable {E : Value→Shared→Prop} {s : Shared}
theorem call_of {Q : Value→Shared→Prop} (hh : A.in1.handled=none) (hl : s.heap.IsList l its) (hval : ∀ i v,its[i]?=some v→∃ t,v=Value.int (ns.getD i 0) t) (hsz : its.size=ns.length)
    (h : ∀ t h' tk,(∀ b x,s.heap.get? b=some x→h'.get? b=some x)→Q (.int (fin d none ns) t) { s with heap:=h',toks:=tk }) :
    wpAny (model prog w) A (call (.builtin "max") [.ref l] [("default",.int d td)]) Q E s:=by
  have hn : (toString "max" ++ toString ".loop" : String)="max.loop":=by decide
  have hlt : l < s.heap.objs.size:=by obtain ⟨o,e,_⟩:=id hl; exact Heap.lt_size e
  refine PyProof.Rows.kmk_tree F.kind_max F.plain_max F.entry_max (zcE _ _) ?_
  show wpAny _ A.in1 (Builtin.Builtins.bindParams "max" ["key","default"] 0 ⟨[],[("default",.int d td)]⟩ >>= _) _ _ s
  refine wpAny_bind (wpAny_of_eq (a:=[none,some (.int d td)]) rfl (wpAny_bind (wpAny_pure (wpAny_bind (wpAny_pyIter_list hl ?_)))))
  wp_walk
  rw [hn]
  have hS : (s.heap.push { cls := .type "list_iterator",data := .fields #[.ref l,.int 0 0] }).objs.size=s.heap.objs.size + 1:=Heap.size_push ..
  refine ⟨plainId_quiet F.plain_max_loop _,loop (ns:=ns) hh (Nat.ne_of_lt hlt) (by rw [hS]; exact Nat.ne_of_gt (Nat.lt_succ_self _)) (by rw [hS]; exact Nat.ne_of_gt (Nat.lt_succ_of_lt hlt)) hval hsz ns.length 0 _ none #[] 0 (Nat.zero_add _) ⟨_,Heap.get?_push_of_some _ (Heap.get?_push_size _ rfl),rfl,rfl⟩ ((hl.push _).push _) rfl (Heap.get?_push_size _ rfl) fun t h' tk hk=>?_⟩
  refine h t h' tk fun b x e=>hk b x (Nat.ne_of_lt (Heap.lt_size e)) (by rw [hS]; exact Nat.ne_of_lt (Nat.lt_succ_of_lt (Heap.lt_size e))) (Heap.get?_push_of_some _ (Heap.get?_push_of_some _ e))
end
end L19
namespace L19
open PySem PySem.Spec PyProof.Rows L2 L3 L4
noncomputable def ze0 (K : PySem.W.Frag) (ta tk : TA) : TE:=fun σ H Q=>ta σ H fun vs H1=>tk σ H1 fun zs H2=>L23.E3 fun (p : Addr) (ns : List Int) (d : Int)=>L23.A4 (vs=[.ref p]) (zs=[.int d]) (SqL K H2 p (ns.map V.int)) (∀ m,(ns=[]→m=d)∧(ns≠[]→m∈ns∧∀ x∈ns,x≤m)→Q (.int m) H2)
theorem zcF {X : Cx} {sc : Scope} {e : Expr} {kws : List Keyword} {ta tk : TA} {p pos : Pos} (hc : X.calm=true) (h1 : X.env.scope=sc) (hg : glB sc "max"=true) (hm : X.mg "max"=none) (ha : PA X [e] ta) (hkw : PK X kws tk)
    (hks : (backToKw pos (keywordEach kws X.env)).filterMap (·.1)=[("default" : Str)]:=by rfl) (hall : (backToKw pos (keywordEach kws X.env)).all (·.1.isSome)=true:=by rfl) (he : backTo pos (starEach [e] X.env)=(false,eval e X.env) :: backTo pos (starEach [] X.env):=by rfl)
    (hpl : (backTo pos (starEach [e] X.env)).any (·.1)=false:=by rfl) (hkn : (backToKw pos (keywordEach kws X.env)).any (·.1.isNone)=false:=by rfl) :
    PE X (.Call (.Name "max" p) [e] kws pos) (ze0 X.K ta tk):=by
  intro pins s σ H Q I h
  refine wpAny_Call_Name_kw (ld_blt I (glN h1 hg).1 hm Yt (PyProof.Rows.callWith_kw (thn (ha pos pins s σ H _ I h) fun us s1 ⟨vs,H1,I1,r1,q1⟩=>thn (hkw pos pins s1 σ H1 _ I1 q1) fun ws s2 ⟨zs,H2,I2,rz,l,ns,d,ex,ez,hq,q2⟩=>?_) he hpl hall hkn) (glN h1 hg).2.2 (glN h1 hg).2.1)
  subst ex ez
  obtain ⟨u,rfl,ru⟩:=vals1 r1
  obtain ⟨u2,rfl,t,rfl⟩:=vals1 rz
  cases ru
  rw [hks]
  obtain ⟨its,rv,pl,hz⟩:=I2.list hq
  have hl:=rv.length
  rw [List.length_map] at hl
  have hval : ∀ (i : Nat) (v : Value),its.toArray[i]?=some v→∃ t : Tok,v=Value.int (ns.getD i 0) t:=fun i v hv=>by
    have hv' : its[i]?=some v:=by simpa using hv
    have hi : i < its.length:=(List.getElem?_eq_some_iff.mp hv').1
    obtain ⟨u',e1,t,e2⟩:=rv.get (x:=V.int (ns[i]'(by omega))) (i:=i) (by rw [List.getElem?_map,List.getElem?_eq_getElem (by omega)]; rfl)
    rw [hv'] at e1
    cases e1
    refine ⟨t,?_⟩
    rw [e2]
    show _=Value.int (ns.getD i 0) t
    rw [List.getD_eq_getElem?_getD,List.getElem?_eq_getElem (by omega)]; rfl
  refine call_of (I2.ok.hd hc) pl.isList hval (by rw [List.size_toArray]; omega) fun t' h' tk' hk=>⟨.int (fin d none ns),H2,I2.kept (t':=tk') hk,⟨t',rfl⟩,q2 _ ⟨fun z=>by rw [z]; rfl,fun z=>zcD z⟩⟩
end L19
namespace CI
noncomputable def sg (f : Nat→Nat) : Nat→Nat
  | 0=>0
  | n + 1=>sg f n + f n
theorem X9 {f : Nat→Nat} {g : Nat→Int} : ∀ {n : Nat},(∀ i,i < n→g i=((f i : Nat) : Int))→PySem.preSum g n=((sg f n : Nat) : Int)
  | 0,_=>rfl
  | n + 1,h=>by
    show PySem.preSum g n + g n=_
    rw [X9 fun i hi=>h i (Nat.lt_succ_of_lt hi),h n (Nat.lt_succ_self n),← Int.natCast_add]
    rfl
noncomputable def sl (f : Nat→Nat) : List Nat→Nat
  | []=>0
  | x :: xs=>f x + sl f xs
noncomputable def mx : List Nat→Nat
  | []=>0
  | x :: xs=>max x (mx xs)
theorem V7 : ∀ {hs : List Nat} {x : Nat},x∈hs→x≤mx hs
  | _ :: _,_,h=>(List.mem_cons.mp h).elim (fun e=>e ▸ Nat.le_max_left _ _) fun h=>Nat.le_trans (V7 h) (Nat.le_max_right _ _)
theorem W5 : ∀ {hs : List Nat},hs≠[]→mx hs∈hs
  | [],h=>absurd rfl h
  | [x],_=>by
    show max x 0∈[x]
    rw [Nat.max_zero]
    exact List.mem_singleton.mpr rfl
  | x :: y :: r,_=>by
    have ih:=W5 (hs:=y :: r) (by simp)
    show max x (mx (y :: r))∈_
    by_cases h : x≤mx (y :: r)
    · rw [Nat.max_eq_right h]
      exact List.mem_cons_of_mem _ ih
    · rw [Nat.max_eq_left (by omega)]
      exact List.mem_cons_self
theorem zcG {hs : List Nat} {m : Nat} (h : m∈hs) (hm : ∀ x∈hs,x≤m) : m=mx hs :=
  Nat.le_antisymm (V7 h) (hm _ (W5 fun e=>by rw [e] at h; cases h))
noncomputable def mxd (hs : List Nat) : Nat:=if hs=[] then 1 else mx hs
theorem W6 {hs : List Nat} (h : hs≠[]) : mxd hs=mx hs:=if_neg h
noncomputable def base (os ks hs : List Nat) : Nat:=1 + sg (fun i=>ks.getD i 0 * os.getD i 0) ks.length * mxd hs
noncomputable def wt (os ks hs : List Nat) (w p : Nat) : Nat:=base os ks hs + ks.getD w 0 * hs.getD p 0
noncomputable def row (os ks hs : List Nat) (w : Nat) : List Nat:=(List.range hs.length).map (wt os ks hs w)
noncomputable def rows (os ks hs : List Nat) : List (List Nat):=(List.range ks.length).map (row os ks hs)
noncomputable def over (m n : Nat) (W : Nat→Nat) (p : Nat) (q : Nat→Nat) : Nat:=sg (fun w=>if m.testBit w then W w - p - q w else 0) n
noncomputable def w6 (ws os ms : List Nat) (W : Nat→Nat→Nat) (ps qs : List Nat) : Nat :=
  sg (fun p=>ws.getD p 0 * ps.getD p 0) ws.length + sg (fun w=>os.getD w 0 * qs.getD w 0) os.length + sg (fun p=>over (ms.getD p 0) os.length (fun w=>W w p) (ps.getD p 0) fun w=>qs.getD w 0) ms.length
theorem wJ (os ks hs : List Nat) : (rows os ks hs).length=ks.length:=by unfold rows; rw [List.length_map,List.length_range]
theorem jj (os ks hs : List Nat) (w : Nat) : (row os ks hs w).length=hs.length:=by unfold row; rw [List.length_map,List.length_range]
theorem jY {os ks hs : List Nat} {w : Nat} (h : w < ks.length) : (rows os ks hs)[w]?=some (row os ks hs w):=by
  unfold rows
  rw [List.getElem?_map,List.getElem?_range h]
  rfl
theorem zc4 {os ks hs : List Nat} {w p : Nat} (h : p < hs.length) : (row os ks hs w)[p]?=some (wt os ks hs w p):=by
  unfold row
  rw [List.getElem?_map,List.getElem?_range h]
  rfl
theorem jk {os ks hs : List Nat} {w p : Nat} (h : p < hs.length) : (row os ks hs w).getD p 0=wt os ks hs w p:=by
  rw [List.getD_eq_getElem?_getD,zc4 h]
  rfl
theorem zaB (f : Nat→Nat) (m : Nat) : ∀ n,sl f ((List.range n).filter fun w=>m.testBit w)=sg (fun w=>if m.testBit w then f w else 0) n:=by
  have app : ∀ (a b : List Nat),sl f (a ++ b)=sl f a + sl f b:=fun a=>by
    induction a with
    | nil=>intro b; exact (Nat.zero_add _).symm
    | cons x r ih =>
      intro b
      show f x + sl f (r ++ b)=f x + sl f r + sl f b
      rw [ih b]
      omega
  intro n
  induction n with
  | zero=>rfl
  | succ n ih =>
    rw [List.range_succ,List.filter_append,app,ih,sg]
    congr 1
    rw [List.filter_cons]
    cases h : m.testBit n <;> rfl
theorem zaC (f : Nat→Nat) (l : List Nat) : PySem.preSum (fun i=>(l.map fun x=>((f x : Nat) : Int)).getD i 0) (l.map fun x=>((f x : Nat) : Int)).length=((sl f l : Nat) : Int):=by
  have h : ∀ l : List Nat,(l.map fun x=>((f x : Nat) : Int)).foldl (· + ·) 0=((sl f l : Nat) : Int):=fun l=>by
    show CG.sumZ _=_
    induction l with
    | nil=>rfl
    | cons x r ih =>
      rw [List.map_cons,CG.X3,ih,← Int.natCast_add]
      rfl
  rw [L7.wY,h]
theorem zcH {a b n : Nat} (ha : a < 2 ^ n) (hb : b < 2 ^ n) : ∃ x : Nat,PySem.Builtin.bitXor (a : Int) (b : Int)=(x : Int)∧x < 2 ^ n:=by
  refine ⟨(a ||| b) - (a &&& b),?_,Nat.lt_of_le_of_lt (Nat.sub_le _ _) (Nat.or_lt_two_pow ha hb)⟩
  have h : (a &&& b)≤(a ||| b):=Nat.le_trans Nat.and_le_left Nat.left_le_or
  unfold PySem.Builtin.bitXor
  rw [CB.or_cast,CB.and_cast]
  omega
structure Good (ws os ms ks hs : List Nat) : Prop where
  lm : ms.length=ws.length
  lh : hs.length=ws.length
  one : 1≤ws.length
  four : ws.length≤4
  lk : ks.length=os.length
  many : os.length≤7
  wl : ∀ w∈ws,w≤60
  wt : ∀ (k w : Nat),ws[k]?=some w→1≤k→w≤3
  ol : ∀ o∈os,1≤o∧o≤3
  ml : ∀ m∈ms,m < 2 ^ os.length
  kl : ∀ k∈ks,k < 10 ^ 60
  hl : ∀ h∈hs,1≤h∧h≤9
end CI
namespace CA
noncomputable def sz (f : Nat→Int) : Nat→Int
  | 0=>0
  | n + 1=>sz f n + f n
theorem zC {f g : Nat→Int} : ∀ {n : Nat},(∀ i,i < n→f i=g i)→sz f n=sz g n
  | 0,_=>rfl
  | n + 1,h=>by rw [sz,sz,zC fun i hi=>h i (Nat.lt_succ_of_lt hi),h n (Nat.lt_succ_self n)]
theorem xK {f g : Nat→Int} : ∀ {n : Nat},(∀ i,i < n→f i≤g i)→sz f n≤sz g n
  | 0,_=>Int.le_refl _
  | n + 1,h=>by
    have h1:=xK (f:=f) (g:=g) (n:=n) fun i hi=>h i (Nat.lt_succ_of_lt hi)
    have h2:=h n (Nat.lt_succ_self n)
    rw [sz,sz]
    omega
theorem vQ (f g : Nat→Int) : ∀ n,sz (fun i=>f i + g i) n=sz f n + sz g n
  | 0=>rfl
  | n + 1=>by
    rw [sz,sz,sz,vQ f g n]
    omega
theorem w9 (c : Int) (f : Nat→Int) : ∀ n,sz (fun i=>c * f i) n=c * sz f n
  | 0=>(Int.mul_zero c).symm
  | n + 1=>by rw [sz,sz,w9 c f n,Int.mul_add]
theorem wV : ∀ n,sz (fun _=>0) n=0
  | 0=>rfl
  | n + 1=>by rw [sz,wV n]; rfl
theorem XD (f : Nat→Nat→Int) (m : Nat) : ∀ n,sz (fun p=>sz (fun w=>f p w) m) n=sz (fun w=>sz (fun p=>f p w) n) m
  | 0=>by
    show 0=sz (fun _=>0) m
    rw [wV]
  | n + 1=>by
    rw [sz,XD f m n,← vQ]
    rfl
theorem jt {f g : Nat→Int} {k : Nat} : ∀ {n : Nat},k < n→(∀ i,i < n→i≠k→g i=f i)→sz g n=sz f n + (g k - f k)
  | 0,h,_=>absurd h (Nat.not_lt_zero _)
  | n + 1,h,e=>by
    rw [sz,sz]
    by_cases hk : k=n
    · subst hk
      rw [zC fun i hi=>e i (Nat.lt_succ_of_lt hi) (Nat.ne_of_lt hi)]
      omega
    · rw [jt (by omega : k < n) fun i hi=>e i (Nat.lt_succ_of_lt hi),e n (Nat.lt_succ_self n) (fun z=>hk z.symm)]
      omega
noncomputable def one (b : Bool) : Int:=if b then 1 else 0
section
variable (n m : Nat) (c : Nat→Nat→Int) (fit : Nat→Nat→Bool)
noncomputable def cP (m : Nat) (X : Nat→Nat→Bool) (p : Nat) : Int:=sz (fun w=>one (X p w)) m
noncomputable def cW (n : Nat) (X : Nat→Nat→Bool) (w : Nat) : Int:=sz (fun p=>one (X p w)) n
structure yH (want zu : Nat→Int) (X : Nat→Nat→Bool) : Prop where
  pl : ∀ p,p < n→cP m X p≤want p
  wk : ∀ w,w < m→cW n X w≤zu w
  ft : ∀ p w,p < n→w < m→X p w=true→fit p w=true
noncomputable def sum (f : Nat→Nat→Int) (X : Nat→Nat→Bool) : Int:=sz (fun p=>sz (fun w=>one (X p w) * f w p) m) n
noncomputable def zc5 (want zu : Nat→Int) (X : Nat→Nat→Bool) : Prop:=yH n m fit want zu X∧∀ Y,yH n m fit want zu Y→sum n m c Y≤sum n m c X
structure zX (X : Nat→Nat→Bool) (za left : Nat→Int) (l : Int) (a b : Nat→Int) : Prop where
  l0 : 0≤l
  lb : ∀ p,p < n→l≤b p
  lw : ∀ p,p < n→0 < za p→b p=l
  a0 : ∀ w,w < m→0≤a w
  af : ∀ w,w < m→0 < left w→a w=0
  up : ∀ p w,p < n→w < m→fit p w=true→X p w=false→c w p≤a w + b p
  dn : ∀ p w,p < n→w < m→X p w=true→a w + b p≤c w p
structure Kept (want zu : Nat→Int) (X : Nat→Nat→Bool) (za left : Nat→Int) : Prop where
  s0 : ∀ p,p < n→0≤za p
  f0 : ∀ w,w < m→0≤left w
  pl : ∀ p,p < n→cP m X p + za p=want p
  wk : ∀ w,w < m→cW n X w + left w=zu w
  ft : ∀ p w,p < n→w < m→X p w=true→fit p w=true
end
section
variable {n m : Nat} {c : Nat→Nat→Int} {fit X : Nat→Nat→Bool} {want zu za left a b : Nat→Int} {l : Int}
theorem ZR (b : Bool) : one b=0∨one b=1:=by cases b <;> simp [one]
theorem Kept.ZE (K : Kept n m fit want zu X za left) : yH n m fit want zu X :=
  ⟨fun p hp=>by have:=K.pl p hp; have:=K.s0 p hp; omega,fun w hw=>by have:=K.wk w hw; have:=K.f0 w hw; omega,K.ft⟩
theorem jD (f : Nat→Nat→Int) (a b : Nat→Int) (Y : Nat→Nat→Bool) : sum n m f Y=sum n m (fun w p=>f w p - a w - b p) Y + sz (fun w=>a w * cW n Y w) m + sz (fun p=>b p * cP m Y p) n:=by
  have h1 : sum n m f Y=sum n m (fun w p=>f w p - a w - b p) Y + sum n m (fun w _=>a w) Y + sum n m (fun _ p=>b p) Y:=by
    unfold sum
    rw [← vQ,← vQ]
    refine zC fun p _=>?_
    rw [← vQ,← vQ]
    refine zC fun w _=>?_
    show one (Y p w) * f w p=one (Y p w) * (f w p - a w - b p) + one (Y p w) * a w + one (Y p w) * b p
    rcases ZR (Y p w) with h | h <;> rw [h] <;> omega
  have h2 : sum n m (fun w _=>a w) Y=sz (fun w=>a w * cW n Y w) m:=by
    unfold sum
    rw [XD]
    refine zC fun w _=>?_
    unfold cW
    rw [← w9]
    exact zC fun p _=>Int.mul_comm _ _
  have h3 : sum n m (fun _ p=>b p) Y=sz (fun p=>b p * cP m Y p) n:=by
    unfold sum
    refine zC fun p _=>?_
    unfold cP
    rw [← w9]
    exact zC fun w _=>Int.mul_comm _ _
  rw [h1,h2,h3]
theorem zcI (D : zX n m c fit X za left 0 a b) (K : Kept n m fit want zu X za left) : zc5 n m c fit want zu X:=by
  refine ⟨K.ZE,fun Y hY=>?_⟩
  rw [jD c a b Y,jD c a b X]
  have e1 : sum n m (fun w p=>c w p - a w - b p) Y≤sum n m (fun w p=>c w p - a w - b p) X:=by
    refine xK fun p hp=>xK fun w hw=>?_
    cases hX : X p w with
    | true =>
      have h:=D.dn p w hp hw hX
      rcases ZR (Y p w) with z | z <;> rw [z] <;> simp only [one,if_true] <;> omega
    | false =>
      cases hy : Y p w with
      | false=>exact Int.le_refl _
      | true =>
        have h:=D.up p w hp hw (hY.ft p w hp hw hy) hX
        simp only [one,if_true,Bool.false_eq_true,if_false]
        omega
  have e2 : sz (fun w=>a w * cW n Y w) m≤sz (fun w=>a w * cW n X w) m:=by
    refine xK fun w hw=>?_
    have h1:=hY.wk w hw
    have h2:=K.wk w hw
    by_cases hl : 0 < left w
    · show a w * _≤a w * _
      rw [D.af w hw hl,Int.zero_mul,Int.zero_mul]
      exact Int.le_refl _
    · have:=K.f0 w hw
      exact Int.mul_le_mul_of_nonneg_left (by omega) (D.a0 w hw)
  have e3 : sz (fun p=>b p * cP m Y p) n≤sz (fun p=>b p * cP m X p) n:=by
    refine xK fun p hp=>?_
    have h1:=hY.pl p hp
    have h2:=K.pl p hp
    by_cases hl : 0 < za p
    · show b p * _≤b p * _
      rw [D.lw p hp hl,Int.zero_mul,Int.zero_mul]
      exact Int.le_refl _
    · have:=K.s0 p hp
      exact Int.mul_le_mul_of_nonneg_left (by omega) (D.lb p hp)
  omega
theorem most (f : Nat→Nat→Int) (n m : Nat) : ∃ M : Int,0≤M∧∀ w p,w < m→p < n→f w p≤M:=by
  have row : ∀ (g : Nat→Int) (k : Nat),∃ M : Int,0≤M∧∀ i,i < k→g i≤M:=fun g k=>by
    induction k with
    | zero=>exact ⟨0,Int.le_refl _,fun i h=>absurd h (Nat.not_lt_zero _)⟩
    | succ k ih =>
      obtain ⟨M,h0,h1⟩:=ih
      by_cases h : g k≤M
      · exact ⟨M,h0,fun i hi=>if e : i=k then e ▸ h else h1 i (by omega)⟩
      · exact ⟨g k,by omega,fun i hi=>if e : i=k then e ▸ Int.le_refl _ else by have:=h1 i (by omega); omega⟩
  induction m with
  | zero=>exact ⟨0,Int.le_refl _,fun w p h _=>absurd h (Nat.not_lt_zero _)⟩
  | succ m ih =>
    obtain ⟨M,h0,h1⟩:=ih
    obtain ⟨N,g0,g1⟩:=row (f m) n
    refine ⟨M + N,by omega,fun w p hw hp=>?_⟩
    by_cases e : w=m
    · subst e
      have:=g1 p hp
      omega
    · have:=h1 w p (by omega) hp
      omega
theorem ze1 (za left : Nat→Int) : ∃ l a b,zX n m c fit (fun _ _=>false) za left l a b:=by
  obtain ⟨M,h0,h1⟩:=most c n m
  exact ⟨M,fun _=>0,fun _=>M,h0,fun _ _=>Int.le_refl _,fun _ _ _=>rfl,fun _ _=>Int.le_refl _,fun _ _ _=>rfl,fun p w hp hw _ _=>by have:=h1 w p hw hp; omega,fun _ _ _ _ h=>nomatch h⟩
end
noncomputable abbrev xV:=Nat→Option (Nat × Option Nat)
inductive vz (st : xV) : Nat→Prop
  | none {p : Nat} : st p=none→vz st p
  | free {p w : Nat} : st p=some (w,none)→vz st p
  | move {p w q : Nat} : st p=some (w,some q)→vz st q→vz st p
inductive Reach (st : xV) (t : Nat) : Nat→Prop
  | here : Reach st t t
  | on {p w q : Nat} : st p=some (w,some q)→Reach st t q→Reach st t p
section
variable (n m : Nat) (c : Nat→Nat→Int) (fit X : Nat→Nat→Bool) (left b : Nat→Int)
structure Find (g : Nat→Int) (st : xV) : Prop where
  g0 : ∀ p,p < n→0≤g p
  gb : ∀ p,p < n→g p≤b p
  gf : ∀ p w,p < n→w < m→fit p w=true→X p w=false→0 < left w→c w p≤g p
  no : ∀ p,p < n→st p=none→g p=0
  fr : ∀ p w,p < n→st p=some (w,none)→w < m∧fit p w=true∧X p w=false∧0 < left w∧g p=c w p
  mv : ∀ p w q,p < n→st p=some (w,some q)→w < m∧q < n∧fit p w=true∧X p w=false∧X q w=true∧g p≤g q + (c w p - c w q)
  rt : ∀ p,p < n→vz st p
end
noncomputable def up {α : Type} (f : Nat→α) (k : Nat) (v : α) : Nat→α:=fun i=>if i=k then v else f i
theorem up_eq {α : Type} {f : Nat→α} {k : Nat} {v : α} : up f k v k=v:=if_pos rfl
theorem yq {α : Type} {f : Nat→α} {k i : Nat} {v : α} (h : i≠k) : up f k v i=f i:=if_neg h
section
variable {n m : Nat} {c : Nat→Nat→Int} {fit X : Nat→Nat→Bool} {want zu za left a b g : Nat→Int} {l : Int} {st : xV}
theorem zX.move (D : zX n m c fit X za left l a b) {p q w : Nat} (hp : p < n) (hq : q < n) (hw : w < m) (hf : fit p w=true) (h1 : X p w=false) (h2 : X q w=true) : b q + (c w p - c w q)≤b p:=by
  have:=D.up p w hp hw hf h1
  have:=D.dn q w hq hw h2
  omega
theorem Find.zfR (D : zX n m c fit X za left l a b) (F : Find n m c fit X left b g st) {x t : Nat} (h : Reach st t x) (hx : x < n) : t < n∧∃ M : Int,g x≤g t + M∧b t + M≤b x:=by
  induction h with
  | here=>exact ⟨hx,0,by omega,by omega⟩
  | @on x' w' q' e _ ih =>
    obtain ⟨hw,hq,hf,h1,h2,h3⟩:=F.mv _ _ _ hx e
    obtain ⟨ht,M,m1,m2⟩:=ih hq
    have:=D.move hx hq hw hf h1 h2
    exact ⟨ht,M + (c w' x' - c w' q'),by omega,by omega⟩
theorem V8 {p : Nat} {v : Option (Nat × Option Nat)} {x : Nat} (h : vz st x) : ¬ Reach st p x→vz (up st p v) x:=by
  induction h with
  | none e=>exact fun n => .none ((yq fun (z : _=p)=>n (z ▸ Reach.here)).trans e)
  | free e=>exact fun n => .free ((yq fun (z : _=p)=>n (z ▸ Reach.here)).trans e)
  | move e _ ih=>exact fun n => .move ((yq fun (z : _=p)=>n (z ▸ Reach.here)).trans e) (ih fun z=>n (.on e z))
theorem zcJ {p w q : Nat} (hq : vz (up st p (some (w,some q))) q) {x : Nat} (h : vz st x) : vz (up st p (some (w,some q))) x:=by
  have zbp : vz (up st p (some (w,some q))) p := .move up_eq hq
  induction h with
  | @none x e=>exact if z : x=p then by rw [z]; exact zbp else .none ((yq z).trans e)
  | @free x _ e=>exact if z : x=p then by rw [z]; exact zbp else .free ((yq z).trans e)
  | @move x _ _ e _ ih=>exact if z : x=p then by rw [z]; exact zbp else .move ((yq z).trans e) ih
theorem Find.longer (D : zX n m c fit X za left l a b) (F : Find n m c fit X left b g st) {p q w : Nat} (hp : p < n) (hq : q < n) (hw : w < m) (hf : fit p w=true) (h1 : X p w=false) (h2 : X q w=true) (hg : g p < g q + (c w p - c w q)) :
    Find n m c fit X left b (up g p (g q + (c w p - c w q))) (up st p (some (w,some q))):=by
  have hpq : q≠p:=fun z=>by rw [z,h1] at h2; cases h2
  have up' : ∀ r,g r≤up g p (g q + (c w p - c w q)) r:=fun r=>by
    by_cases z : r=p
    · rw [z,up_eq]; omega
    · rw [yq z]; exact Int.le_refl _
  have bm:=D.move hp hq hw hf h1 h2
  refine ⟨fun r hr=>Int.le_trans (F.g0 r hr) (up' r),fun r hr=>?_,fun r w' hr hw' f1 f2 f3=>Int.le_trans (F.gf r w' hr hw' f1 f2 f3) (up' r),fun r hr e=>?_,fun r w' hr e=>?_,fun r w' q' hr e=>?_,fun r hr=>?_⟩
  · by_cases z : r=p
    · rw [z,up_eq]
      have:=F.gb q hq
      omega
    · rw [yq z]; exact F.gb r hr
  · by_cases z : r=p
    · rw [z,up_eq] at e; cases e
    · rw [yq z] at e ⊢; exact F.no r hr e
  · by_cases z : r=p
    · rw [z,up_eq] at e; cases e
    · rw [yq z] at e ⊢; exact F.fr r w' hr e
  · by_cases z : r=p
    · rw [z,up_eq] at e
      cases e
      rw [z,up_eq,yq hpq]
      exact ⟨hw,hq,hf,h1,h2,Int.le_refl _⟩
    · rw [yq z] at e
      obtain ⟨k1,k2,k3,k4,k5,k6⟩:=F.mv r w' q' hr e
      rw [yq z]
      have:=up' q'
      exact ⟨k1,k2,k3,k4,k5,by omega⟩
  · refine zcJ (V8 (F.rt q hq) fun z=>?_) (F.rt r hr)
    obtain ⟨_,M,m1,m2⟩:=F.zfR D z hq
    omega
end
section
variable {n m : Nat} {c : Nat→Nat→Int} {fit X : Nat→Nat→Bool} {want zu za left a b g : Nat→Int} {l : Int} {st : xV}
noncomputable def Zc (n m : Nat) (c : Nat→Nat→Int) (fit X : Nat→Nat→Bool) (g : Nat→Int) : Prop:=∀ p q w,p < n→q < n→w < m→fit p w=true→X p w=false→X q w=true→g q + (c w p - c w q)≤g p
theorem zb7 (P : Nat→Prop) (f : Nat→Int) : ∀ n,∃ x : Int,0≤x∧(∀ q,q < n→P q→f q≤x)∧(x=0∨∃ q,q < n∧P q∧x=f q)
  | 0=>⟨0,Int.le_refl _,fun _ h=>absurd h (Nat.not_lt_zero _),.inl rfl⟩
  | n + 1=>by
    obtain ⟨x,h0,h1,h2⟩:=zb7 P f n
    by_cases h : P n∧x < f n
    · refine ⟨f n,by omega,fun q hq hP=>?_,.inr ⟨n,Nat.lt_succ_self n,h.1,rfl⟩⟩
      by_cases e : q=n
      · rw [e]; exact Int.le_refl _
      · have:=h1 q (by omega) hP
        omega
    · refine ⟨x,h0,fun q hq hP=>?_,h2.imp id fun ⟨q,hq,r⟩=>⟨q,Nat.lt_succ_of_lt hq,r⟩⟩
      by_cases e : q=n
      · subst e
        exact Int.not_lt.mp fun z=>h ⟨hP,z⟩
      · exact h1 q (by omega) hP
theorem VT {b' : Nat→Int} (D : zX n m c fit X za left l a b) {l' : Int} (h0 : 0≤l') (h1 : ∀ p,p < n→l'≤b' p) (h2 : ∀ p,p < n→0 < za p→b' p=l') (hle : ∀ p,p < n→b' p≤b p)
    (hfr : ∀ p w,p < n→w < m→fit p w=true→X p w=false→0 < left w→c w p≤b' p) (hfx : Zc n m c fit X b') : ∃ a',zX n m c fit X za left l' a' b':=by
  have ex : ∀ w,∃ x : Int,0≤x∧(∀ q,q < n→(fit q w=true∧X q w=false)→c w q - b' q≤x)∧(x=0∨∃ q,q < n∧(fit q w=true∧X q w=false)∧x=c w q - b' q):=fun w=>zb7 (fun q=>fit q w=true∧X q w=false) (fun q=>c w q - b' q) n
  refine ⟨fun w=>Classical.choose (ex w),h0,h1,h2,fun w _=>(Classical.choose_spec (ex w)).1,fun w hw hl=>?_,fun p w hp hw f1 f2=>?_,fun p w hp hw hX=>?_⟩
  · rcases (Classical.choose_spec (ex w)).2.2 with z | ⟨q,hq,⟨f1,f2⟩,z⟩
    · exact z
    · have:=hfr q w hq hw f1 f2 hl
      have:=(Classical.choose_spec (ex w)).1
      show Classical.choose (ex w)=0
      omega
  · have:=(Classical.choose_spec (ex w)).2.1 p hp ⟨f1,f2⟩
    show c w p≤Classical.choose (ex w) + b' p
    omega
  · show Classical.choose (ex w) + b' p≤c w p
    rcases (Classical.choose_spec (ex w)).2.2 with z | ⟨q,hq,⟨f1,f2⟩,z⟩
    · have:=D.dn p w hp hw hX
      have:=D.a0 w hw
      have:=hle p hp
      omega
    · have:=hfx q p w hq hp hw f1 f2 hX
      omega
theorem Find.over (D : zX n m c fit X za left l a b) (F : Find n m c fit X left b g st) (hx : Zc n m c fit X g) (hz : ∀ p,p < n→0 < za p→g p≤0) : ∃ a',zX n m c fit X za left 0 a' g :=
  VT D (Int.le_refl _) F.g0 (fun p hp hs=>Int.le_antisymm (hz p hp hs) (F.g0 p hp)) F.gb F.gf hx
structure Turn (n m : Nat) (c : Nat→Nat→Int) (X : Nat→Nat→Bool) (st : xV) (g a b : Nat→Int) : Prop where
  go : ∀ p w q,p < n→b p=g p→st p=some (w,some q)→w < m∧q < n∧b q=g q∧X p w=false∧X q w=true∧a w + b p=c w p∧a w + b q=c w q
  fr : ∀ p w,p < n→b p=g p→st p=some (w,none)→w < m∧X p w=false∧a w + b p=c w p
  no : ∀ p,p < n→b p=g p→st p≠none
theorem Find.turn (D : zX n m c fit X za left l a b) (F : Find n m c fit X left b g st) (hx : Zc n m c fit X g) {p0 : Nat} (hp0 : p0 < n) (hs0 : 0 < za p0) (hg0 : 0 < g p0) (hm : ∀ p,p < n→0 < za p→g p≤g p0) :
    ∃ a' b',zX n m c fit X za left (g p0) a' b'∧b' p0=g p0∧Turn n m c X st g a' b':=by
  have hl:=D.lw p0 hp0 hs0
  have h1:=F.gb p0 hp0
  have mx : ∀ p,max (g p) (b p - (l - g p0))=g p∧b p - (l - g p0)≤g p∨max (g p) (b p - (l - g p0))=b p - (l - g p0)∧g p < b p - (l - g p0):=fun p=>by omega
  obtain ⟨a',D'⟩:=VT (b':=fun p=>max (g p) (b p - (l - g p0))) D (l':=g p0) (by omega) (fun p hp=>by have:=D.lb p hp; show _≤max _ _; omega) (fun p hp hs=>by have:=D.lw p hp hs; have:=hm p hp hs; show max _ _=_; omega)
    (fun p hp=>by have:=F.gb p hp; show max _ _≤_; omega) (fun p w hp hw f1 f2 f3=>by have:=F.gf p w hp hw f1 f2 f3; show _≤max _ _; omega) (fun p q w hp hq hw f1 f2 f3=>by
      have:=hx p q w hp hq hw f1 f2 f3
      have:=D.move hp hq hw f1 f2 f3
      show max _ _ + _≤max _ _
      omega)
  refine ⟨a',_,D',by show max _ _=_; omega,fun p w q hp hb e=>?_,fun p w hp hb e=>?_,fun p hp hb e=>?_⟩
  · obtain ⟨hw,hq,hf,e1,e2,e3⟩:=F.mv p w q hp e
    have:=hx p q w hp hq hw hf e1 e2
    have:=D.move hp hq hw hf e1 e2
    have hb' : max (g p) (b p - (l - g p0))=g p:=hb
    have hbq : max (g q) (b q - (l - g p0))=g q:=by omega
    have u:=D'.up p w hp hw hf e1
    have d:=D'.dn q w hq hw e2
    have u' : c w p≤a' w + max (g p) (b p - (l - g p0)):=u
    have d' : a' w + max (g q) (b q - (l - g p0))≤c w q:=d
    refine ⟨hw,hq,hbq,e1,e2,?_,?_⟩
    · show a' w + max (g p) (b p - (l - g p0))=_
      omega
    · show a' w + max (g q) (b q - (l - g p0))=_
      omega
  · obtain ⟨hw,hf,e1,e2,e3⟩:=F.fr p w hp e
    have:=D'.af w hw e2
    refine ⟨hw,e1,?_⟩
    rw [hb,this,e3]
    omega
  · have:=F.no p hp e
    have:=D.lb p hp
    have hb' : max (g p) (b p - (l - g p0))=g p:=hb
    omega
end
inductive Path (st : xV) : Nat→List Nat→Prop
  | free {p w : Nat} : st p=some (w,none)→Path st p [p]
  | move {p w q : Nat} {r : List Nat} : st p=some (w,some q)→Path st q r→Path st p (p :: r)
section
variable {st : xV}
theorem Path.uniq {p : Nat} {r : List Nat} (h : Path st p r) : ∀ {r'},Path st p r'→r=r':=by
  induction h with
  | free e =>
    intro r' h'
    cases h' with
    | free _=>rfl
    | move e' _=>rw [e] at e'; cases e'
  | move e _ ih =>
    intro r' h'
    cases h' with
    | free e'=>rw [e] at e'; cases e'
    | move e' h2 =>
      rw [e] at e'
      cases e'
      rw [ih h2]
theorem Path.tail {p q : Nat} {r : List Nat} (h : Path st p r) : q∈r→∃ r',Path st q r'∧r'.length≤r.length:=by
  induction h with
  | @free p w e =>
    intro hq
    rw [List.mem_singleton.mp hq]
    exact ⟨_,.free e,Nat.le_refl _⟩
  | @move p w y r e h ih =>
    intro hq
    rcases List.mem_cons.mp hq with rfl | hq
    · exact ⟨_,.move e h,Nat.le_refl _⟩
    · obtain ⟨r',h',hl⟩:=ih hq
      exact ⟨r',h',Nat.le_succ_of_le hl⟩
theorem Path.fresh {p w q : Nat} {r : List Nat} (e : st p=some (w,some q)) (h : Path st q r) : p∉r:=fun hp=>by
  obtain ⟨r',h',hl⟩:=h.tail hp
  have:=h'.uniq (Path.move e h)
  rw [this,List.length_cons] at hl
  omega
theorem Path.head {p : Nat} {r : List Nat} (h : Path st p r) : p∈r:=by cases h <;> exact List.mem_cons_self
end
noncomputable def set (X : Nat→Nat→Bool) (p w : Nat) (v : Bool) : Nat→Nat→Bool:=fun p' w'=>if p'=p∧w'=w then v else X p' w'
theorem jZ {X : Nat→Nat→Bool} {p w : Nat} {v : Bool} : set X p w v p w=v:=if_pos ⟨rfl,rfl⟩
theorem yu {X : Nat→Nat→Bool} {p w p' w' : Nat} {v : Bool} (h : ¬ (p'=p∧w'=w)) : set X p w v p' w'=X p' w':=if_neg h
section
variable {n m : Nat} {c : Nat→Nat→Int} {fit X : Nat→Nat→Bool} {want zu za left a b g : Nat→Int} {l : Int} {st : xV} {p w : Nat} {v : Bool}
theorem YD (hw : w < m) : cP m (set X p w v) p=cP m X p + (one v - one (X p w)):=by
  unfold cP
  rw [jt (f:=fun w=>one (X p w)) hw fun i _ hi=>by rw [yu fun z=>hi z.2],jZ]
theorem ju {r : Nat} (hr : r≠p) : cP m (set X p w v) r=cP m X r:=by
  unfold cP
  exact zC fun i _=>by rw [yu fun z=>hr z.1]
theorem YE (hp : p < n) : cW n (set X p w v) w=cW n X w + (one v - one (X p w)):=by
  unfold cW
  rw [jt (f:=fun p=>one (X p w)) hp fun i _ hi=>by rw [yu fun z=>hi z.1],jZ]
theorem Zd {u : Nat} (hu : u≠w) : cW n (set X p w v) u=cW n X u:=by
  unfold cW
  exact zC fun i _=>by rw [yu fun z=>hu z.2]
theorem zX.flip (D : zX n m c fit X za left l a b) (ht : a w + b p=c w p) : zX n m c fit (set X p w v) za left l a b:=by
  refine ⟨D.l0,D.lb,D.lw,D.a0,D.af,fun p' w' hp hw f1 f2=>?_,fun p' w' hp hw f1=>?_⟩
  · by_cases z : p'=p∧w'=w
    · obtain ⟨rfl,rfl⟩:=z
      omega
    · rw [yu z] at f2
      exact D.up p' w' hp hw f1 f2
  · by_cases z : p'=p∧w'=w
    · obtain ⟨rfl,rfl⟩:=z
      omega
    · rw [yu z] at f1
      exact D.dn p' w' hp hw f1
theorem zX.zb8 {zZ left' : Nat→Int} (D : zX n m c fit X za left l a b) (hs : ∀ p,p < n→0 < zZ p→0 < za p) (hl : ∀ w,w < m→0 < left' w→0 < left w) : zX n m c fit X zZ left' l a b :=
  ⟨D.l0,D.lb,fun p hp h=>D.lw p hp (hs p hp h),D.a0,fun w hw h=>D.af w hw (hl w hw h),D.up,D.dn⟩
end
structure Walk (n m : Nat) (c : Nat→Nat→Int) (fit X0 : Nat→Nat→Bool) (want zu : Nat→Int) (st : xV) (l : Int) (g a b : Nat→Int) (X : Nat→Nat→Bool) (za left : Nat→Int) (p : Nat) (r : List Nat) : Prop where
  D : zX n m c fit X za left l a b
  pn : p < n
  pa : Path st p r
  eq : b p=g p
  old : ∀ q,q∈r→q≠p→∀ w,X q w=X0 q w
  sub : ∀ w,X p w=true→X0 p w=true
  s0 : ∀ p,p < n→0≤za p
  f0 : ∀ w,w < m→0≤left w
  me : cP m X p + za p + 1=want p
  pl : ∀ q,q < n→q≠p→cP m X q + za q=want q
  wk : ∀ w,w < m→cW n X w + left w=zu w
  ft : ∀ p w,p < n→w < m→X p w=true→fit p w=true
section
variable {n m : Nat} {c : Nat→Nat→Int} {fit X0 X : Nat→Nat→Bool} {want zu za left a b g b0 zb9 : Nat→Int} {l : Int} {st : xV} {p : Nat} {r : List Nat}
theorem Turn.path (T : Turn n m c X st g a b) (h : vz st p) : p < n→b p=g p→∃ r,Path st p r:=by
  induction h with
  | none e=>exact fun hp hb=>absurd e (T.no _ hp hb)
  | free e=>exact fun _ _=>⟨_,.free e⟩
  | move e _ ih =>
    intro hp hb
    obtain ⟨_,hq,hbq,_⟩:=T.go _ _ _ hp hb e
    obtain ⟨r,h⟩:=ih hq hbq
    exact ⟨_,.move e h⟩
theorem Walk.last (Wk : Walk n m c fit X0 want zu st l g a b X za left p r) (T : Turn n m c X0 st g a b) (F : Find n m c fit X0 zb9 b0 g st) {w : Nat} (e : st p=some (w,none)) (hl : 0 < left w) :
    zX n m c fit (set X p w true) za (up left w (left w - 1)) l a b∧Kept n m fit want zu (set X p w true) za (up left w (left w - 1)):=by
  obtain ⟨hw,h1,h2⟩:=T.fr p w Wk.pn Wk.eq e
  have hX : X p w=false:=by
    cases z : X p w with
    | false=>rfl
    | true=>rw [Wk.sub w z] at h1; cases h1
  have fl : ∀ u,u < m→0 < up left w (left w - 1) u→0 < left u:=fun u hu h=>by
    by_cases z : u=w
    · rw [z]; exact hl
    · rwa [yq z] at h
  refine ⟨(Wk.D.flip h2).zb8 (fun _ _ h=>h) fl,Wk.s0,fun u hu=>?_,fun q hq=>?_,fun u hu=>?_,fun q u hq hu hx=>?_⟩
  · by_cases z : u=w
    · rw [z,up_eq]; omega
    · rw [yq z]; exact Wk.f0 u hu
  · by_cases z : q=p
    · rw [z,YD hw,hX]
      have:=Wk.me
      simp only [one,if_true,Bool.false_eq_true,if_false]
      omega
    · rw [ju z]; exact Wk.pl q hq z
  · by_cases z : u=w
    · rw [z,YE Wk.pn,hX,up_eq]
      have:=Wk.wk w hw
      simp only [one,if_true,Bool.false_eq_true,if_false]
      omega
    · rw [Zd z,yq z]; exact Wk.wk u hu
  · by_cases z : q=p∧u=w
    · obtain ⟨rfl,rfl⟩:=z
      exact (F.fr q u Wk.pn e).2.1
    · rw [yu z] at hx
      exact Wk.ft q u hq hu hx
theorem Walk.step (Wk : Walk n m c fit X0 want zu st l g a b X za left p r) (T : Turn n m c X0 st g a b) (F : Find n m c fit X0 zb9 b0 g st) {w q : Nat} (e : st p=some (w,some q)) :
    ∃ r',r=p :: r'∧Walk n m c fit X0 want zu st l g a b (set (set X p w true) q w false) za left q r':=by
  obtain ⟨hw,hq,hbq,h1,h2,t1,t2⟩:=T.go p w q Wk.pn Wk.eq e
  have hX : X p w=false:=by
    cases z : X p w with
    | false=>rfl
    | true=>rw [Wk.sub w z] at h1; cases h1
  have hpq : q≠p:=fun z=>by rw [z,h1] at h2; cases h2
  have pa:=Wk.pa
  cases pa with
  | free e'=>rw [e] at e'; cases e'
  | @move _ w' q' r' e' pa' =>
    rw [e] at e'
    cases e'
    have fresh:=Path.fresh e pa'
    have hq0 : X q w=true:=by rw [Wk.old q (List.mem_cons_of_mem _ pa'.head) hpq w]; exact h2
    have hq1 : set X p w true q w=true:=by rw [yu fun z=>hpq z.1]; exact hq0
    refine ⟨r',rfl,(Wk.D.flip t1).flip t2,hq,pa',hbq,fun y hy hyq u=>?_,fun u hu=>?_,Wk.s0,Wk.f0,?_,fun y hy hyq=>?_,fun u hu=>?_,fun y u hy hu hx=>?_⟩
    · have hyp : y≠p:=fun z=>fresh (z ▸ hy)
      rw [yu fun z=>hyq z.1,yu fun z=>hyp z.1]
      exact Wk.old y (List.mem_cons_of_mem _ hy) hyp u
    · by_cases z : u=w
      · rw [z,jZ] at hu; cases hu
      · rw [yu fun y=>z y.2,yu fun y=>hpq y.1] at hu
        rw [← Wk.old q (List.mem_cons_of_mem _ pa'.head) hpq u]
        exact hu
    · rw [YD hw,hq1,ju hpq]
      have:=Wk.pl q hq hpq
      simp only [one,if_true,Bool.false_eq_true,if_false]
      omega
    · rw [ju hyq]
      by_cases z : y=p
      · rw [z,YD hw,hX]
        have:=Wk.me
        simp only [one,if_true,Bool.false_eq_true,if_false]
        omega
      · rw [ju z]; exact Wk.pl y hy z
    · by_cases z : u=w
      · rw [z,YE hq,hq1,YE Wk.pn,hX]
        have:=Wk.wk w hw
        simp only [one,if_true,Bool.false_eq_true,if_false]
        omega
      · rw [Zd z,Zd z]; exact Wk.wk u hu
    · by_cases z : y=q∧u=w
      · obtain ⟨rfl,rfl⟩:=z
        rw [jZ] at hx; cases hx
      · rw [yu z] at hx
        by_cases z : y=p∧u=w
        · obtain ⟨rfl,rfl⟩:=z
          exact (F.mv y u q Wk.pn e).2.2.1
        · rw [yu z] at hx
          exact Wk.ft y u hy hu hx
theorem Walk.start (D : zX n m c fit X za left l a b) (K : Kept n m fit want zu X za left) (T : Turn n m c X st g a b) (hr : vz st p) (hp : p < n) (hs : 0 < za p) (hb : b p=g p) :
    ∃ r,Walk n m c fit X want zu st l g a b X (up za p (za p - 1)) left p r:=by
  obtain ⟨r,hpa⟩:=T.path hr hp hb
  refine ⟨r,D.zb8 (fun q hq h=>?_) (fun _ _ h=>h),hp,hpa,hb,fun _ _ _ _=>rfl,fun _ h=>h,fun q hq=>?_,K.f0,?_,fun q hq hqp=>?_,K.wk,K.ft⟩
  · by_cases z : q=p
    · rw [z]; exact hs
    · rwa [yq z] at h
  · by_cases z : q=p
    · rw [z,up_eq]; omega
    · rw [yq z]; exact K.s0 q hq
  · rw [up_eq]
    have:=K.pl p hp
    omega
  · rw [yq hqp]; exact K.pl q hq
end
end CA
namespace CA
theorem jE {f : Nat→Int} : ∀ {n : Nat},(∀ i,i < n→0≤f i)→0≤sz f n
  | 0,_=>Int.le_refl _
  | n + 1,h=>by
    have h1:=jE (f:=f) (n:=n) fun i hi=>h i (Nat.lt_succ_of_lt hi)
    have h2:=h n (Nat.lt_succ_self n)
    rw [sz]
    omega
section
variable (n m : Nat)
noncomputable def many (X : Nat→Nat→Bool) : Int:=sum n m (fun _ _=>1) X
noncomputable def Ze (k h : Nat→Int) (X : Nat→Nat→Bool) : Int:=sum n m (fun w p=>k w * h p) X
noncomputable def Told (fit : Nat→Nat→Bool) (want zu k h : Nat→Int) (X : Nat→Nat→Bool) : Prop:=yH n m fit want zu X∧∀ Y,yH n m fit want zu Y→many n m Y≤many n m X∧(many n m Y=many n m X→Ze n m k h Y≤Ze n m k h X)
end
section
variable {n m : Nat} {fit X Y : Nat→Nat→Bool} {want zu k h : Nat→Int} {B M : Int}
theorem W7 (B : Int) (k h : Nat→Int) (X : Nat→Nat→Bool) : sum n m (fun w p=>B + k w * h p) X=B * many n m X + Ze n m k h X:=by
  unfold many Ze sum
  rw [← w9,← vQ]
  refine zC fun p _=>?_
  rw [← w9,← vQ]
  refine zC fun w _=>?_
  show one (X p w) * (B + k w * h p)=B * (one (X p w) * 1) + one (X p w) * (k w * h p)
  rcases ZR (X p w) with z | z <;> rw [z]
  · rw [Int.zero_mul,Int.zero_mul,Int.zero_mul,Int.mul_zero]
    rfl
  · rw [Int.one_mul,Int.one_mul,Int.one_mul,Int.mul_one]
theorem V9 (k h : Nat→Int) (X : Nat→Nat→Bool) : Ze n m k h X=sz (fun w=>k w * sz (fun p=>one (X p w) * h p) n) m:=by
  unfold Ze sum
  rw [XD]
  refine zC fun w _=>?_
  rw [← w9]
  refine zC fun p _=>?_
  rw [← Int.mul_assoc,← Int.mul_assoc,Int.mul_comm (k w)]
theorem W8 (hh : ∀ p,p < n→0≤h p∧h p≤M) (X : Nat→Nat→Bool) (w : Nat) : 0≤sz (fun p=>one (X p w) * h p) n∧sz (fun p=>one (X p w) * h p) n≤M * cW n X w:=by
  constructor
  · refine jE fun p hp=>?_
    have:=(hh p hp).1
    rcases ZR (X p w) with z | z <;> rw [z] <;> omega
  · unfold cW
    rw [← w9]
    refine xK fun p hp=>?_
    have:=(hh p hp).2
    rcases ZR (X p w) with z | z <;> rw [z] <;> omega
theorem VU (hk : ∀ w,w < m→0≤k w) (hh : ∀ p,p < n→0≤h p∧h p≤M) (hM : 0≤M) (D : yH n m fit want zu X) : 0≤Ze n m k h X∧Ze n m k h X≤sz (fun w=>k w * zu w) m * M:=by
  rw [V9]
  constructor
  · exact jE fun w hw=>Int.mul_nonneg (hk w hw) (W8 hh X w).1
  · rw [Int.mul_comm,← w9]
    refine xK fun w hw=>?_
    have h1:=(W8 hh X w).2
    have h2 : M * cW n X w≤M * zu w:=Int.mul_le_mul_of_nonneg_left (D.wk w hw) hM
    have h3 : k w * sz (fun p=>one (X p w) * h p) n≤k w * (M * zu w):=Int.mul_le_mul_of_nonneg_left (Int.le_trans h1 h2) (hk w hw)
    rw [← Int.mul_assoc,Int.mul_comm (k w) M,Int.mul_assoc] at h3
    exact h3
theorem zcK (hk : ∀ w,w < m→0≤k w) (hh : ∀ p,p < n→0≤h p∧h p≤M) (hM : 0≤M) (hB : B=1 + sz (fun w=>k w * zu w) m * M) (b : zc5 n m (fun w p=>B + k w * h p) fit want zu X) : Told n m fit want zu k h X:=by
  refine ⟨b.1,fun Y hY=>?_⟩
  have h0:=b.2 Y hY
  rw [W7,W7] at h0
  have h1:=VU hk hh hM b.1
  have h2:=VU hk hh hM hY
  have B0 : 0≤B:=by omega
  refine ⟨Int.not_lt.mp fun z=>?_,fun z=>?_⟩
  · have h3 : B * (many n m X + 1)≤B * many n m Y:=Int.mul_le_mul_of_nonneg_left z B0
    rw [Int.mul_add,Int.mul_one] at h3
    omega
  · rw [z] at h0
    omega
theorem VW {o : Nat→Nat} {m : Nat} (ho : ∀ i,i < m→o i < m) (inj : ∀ i j,i < m→j < m→o i=o j→i=j) (f : Nat→Int) : sz (fun i=>f (o i)) m=sz f m:=by
  induction m generalizing o with
  | zero=>rfl
  | succ m ih =>
    by_cases hm : o m=m
    · rw [sz,sz,hm,ih (fun i hi=>?_) fun i j hi hj=>inj i j (Nat.lt_succ_of_lt hi) (Nat.lt_succ_of_lt hj)]
      have:=ho i (Nat.lt_succ_of_lt hi)
      have : o i≠m:=fun z=>Nat.ne_of_lt hi (inj i m (Nat.lt_succ_of_lt hi) (Nat.lt_succ_self m) (z.trans hm.symm))
      omega
    · have ex : ∃ j,j < m∧o j=m:=by
        apply Classical.byContradiction
        intro hno
        have lt : ∀ i,i < m + 1→o i < m:=fun i hi=>by
          have:=ho i hi
          by_cases z : o i=m
          · by_cases zi : i=m
            · exact absurd (zi ▸ z) hm
            · exact absurd ⟨i,by omega,z⟩ hno
          · omega
        have pig : ∀ (m : Nat) (o : Nat→Nat),(∀ i,i < m + 1→o i < m)→∃ i j,i < j∧j < m + 1∧o i=o j:=by
          intro m
          induction m with
          | zero=>intro o h; exact absurd (h 0 (Nat.lt_succ_self 0)) (Nat.not_lt_zero _)
          | succ m ih2 =>
            intro o h
            by_cases hx : ∃ i,i < m + 1∧o i=o (m + 1)
            · obtain ⟨i,hi,e⟩:=hx
              exact ⟨i,m + 1,hi,Nat.lt_succ_self _,e⟩
            · obtain ⟨i,j,hij,hj,e⟩:=ih2 (fun i=>if o i=m then o (m + 1) else o i) fun i hi=>by
                have h1:=h i (by omega)
                have h2:=h (m + 1) (by omega)
                have h3 : o i≠o (m + 1):=fun z=>hx ⟨i,hi,z⟩
                show (if o i=m then o (m + 1) else o i) < m
                split <;> omega
              refine ⟨i,j,hij,by omega,?_⟩
              have h3 : o i≠o (m + 1):=fun z=>hx ⟨i,by omega,z⟩
              have h4 : o j≠o (m + 1):=fun z=>hx ⟨j,hj,z⟩
              have e' : (if o i=m then o (m + 1) else o i)=(if o j=m then o (m + 1) else o j):=e
              split at e' <;> split at e' <;> omega
        obtain ⟨i,j,hij,hj,e⟩:=pig m o lt
        have:=inj i j (by omega) hj e
        omega
      obtain ⟨j,hj,ej⟩:=ex
      have hom : o m < m:=by have:=ho m (Nat.lt_succ_self m); omega
      have s:=ih (o:=fun i=>if i=j then o m else o i) (fun i hi=>by
        show (if i=j then o m else o i) < m
        split
        · exact hom
        · rename_i z
          have:=ho i (Nat.lt_succ_of_lt hi)
          have : o i≠m:=fun y=>z (inj i j (Nat.lt_succ_of_lt hi) (Nat.lt_succ_of_lt hj) (y.trans ej.symm))
          omega) fun i i' hi hi' e=>by
        have e' : (if i=j then o m else o i)=(if i'=j then o m else o i'):=e
        split at e' <;> split at e'
        · rename_i a b; rw [a,b]
        · exact absurd (inj m i' (Nat.lt_succ_self m) (Nat.lt_succ_of_lt hi') e') (by omega)
        · exact absurd (inj i m (Nat.lt_succ_of_lt hi) (Nat.lt_succ_self m) e') (by omega)
        · exact inj i i' (Nat.lt_succ_of_lt hi) (Nat.lt_succ_of_lt hi') e'
      rw [sz,sz,← s]
      have e2:=jt (f:=fun i=>f (o i)) (g:=fun i=>f (if i=j then o m else o i)) hj fun i _ hi=>by
        show f (if i=j then o m else o i)=f (o i)
        rw [if_neg hi]
      rw [e2]
      show _ + f (o m)=_ + (f (if j=j then o m else o j) - f (o j)) + f m
      rw [if_pos rfl,ej]
      omega
end
end CA
namespace CV
open PySem L2 L3 L4 L6 L13
noncomputable def fw (B : Nat) (pm pk pw ph ps pl pg pt : Addr) : List (Str × V):=[("base",.int (B : Nat)),("masks",.ref pm),("marks",.ref pk),("worths",.ref pw),("held",.ref ph),("still",.ref ps),("left",.ref pl),("gains",.ref pg),("steps",.ref pt)]
section
variable {B : Nat} {pm pk pw ph ps pl pg pt : Addr}
theorem zc6 : (fw B pm pk pw ph ps pl pg pt).lookup ("base" : Str)=some (.int (B : Nat)):=by kernel_rfl
theorem ji : (fw B pm pk pw ph ps pl pg pt).lookup ("masks" : Str)=some (.ref pm):=by kernel_rfl
theorem VX : (fw B pm pk pw ph ps pl pg pt).lookup ("marks" : Str)=some (.ref pk):=by kernel_rfl
theorem Yl : (fw B pm pk pw ph ps pl pg pt).lookup ("worths" : Str)=some (.ref pw):=by kernel_rfl
theorem wZ : (fw B pm pk pw ph ps pl pg pt).lookup ("held" : Str)=some (.ref ph):=by kernel_rfl
theorem ZQ : (fw B pm pk pw ph ps pl pg pt).lookup ("still" : Str)=some (.ref ps):=by kernel_rfl
theorem Yz : (fw B pm pk pw ph ps pl pg pt).lookup ("left" : Str)=some (.ref pl):=by kernel_rfl
theorem wW : (fw B pm pk pw ph ps pl pg pt).lookup ("gains" : Str)=some (.ref pg):=by kernel_rfl
theorem ZS : (fw B pm pk pw ph ps pl pg pt).lookup ("steps" : Str)=some (.ref pt):=by kernel_rfl
theorem zcL {p : Addr} : putF "gains" (.ref p) (fw B pm pk pw ph ps pl pg pt)=fw B pm pk pw ph ps pl p pt:=by kernel_rfl
theorem zcM {p : Addr} : putF "steps" (.ref p) (fw B pm pk pw ph ps pl pg pt)=fw B pm pk pw ph ps pl pg p:=by kernel_rfl
theorem zc7 : (fw B pm pk pw ph ps pl pg pt).lookup ("take_free_works" : Str)=none:=by kernel_rfl
theorem zcN : (fw B pm pk pw ph ps pl pg pt).lookup ("moves_to" : Str)=none:=by kernel_rfl
theorem Ja : (fw B pm pk pw ph ps pl pg pt).lookup ("lengthen" : Str)=none:=by kernel_rfl
theorem zc8 : (fw B pm pk pw ph ps pl pg pt).lookup ("find_ways" : Str)=none:=by kernel_rfl
theorem VY : (fw B pm pk pw ph ps pl pg pt).lookup ("find_start" : Str)=none:=by kernel_rfl
theorem zaD : (fw B pm pk pw ph ps pl pg pt).lookup ("make_step" : Str)=none:=by kernel_rfl
theorem ze2 : (fw B pm pk pw ph ps pl pg pt).lookup ("add_pairs" : Str)=none:=by kernel_rfl
end
noncomputable def SV (H : Hp) (v : V) : Option (Nat × Option Nat)→Prop
  | none=>v = .non
  | some (w,none)=>∃ t,v = .ref t∧H t=some (.tup [.int (w : Nat),.non])
  | some (w,some q)=>∃ t,v = .ref t∧H t=some (.tup [.int (w : Nat),.int (q : Nat)])
theorem SV.up {H H' : Hp} {v : V} (s : ∀ b xs,H b=some (.tup xs)→H' b=some (.tup xs)) : ∀ {o : Option (Nat × Option Nat)},SV H v o→SV H' v o
  | none,h=>h
  | some (_,none),⟨t,e,h⟩=>⟨t,e,s _ _ h⟩
  | some (_,some _),⟨t,e,h⟩=>⟨t,e,s _ _ h⟩
structure Kp (L : List Addr) (H H' : Hp) : Prop where
  kp : ∀ b u,b∉L→H b=some u→H' b=some u
  tp : ∀ b xs,H b=some (.tup xs)→H' b=some (.tup xs)
theorem Kp.same {L : List Addr} {H H' : Hp} (s : Same H H') : Kp L H H':=⟨fun b u _ e=>s b u e,fun b xs e=>s b _ e⟩
theorem Kp.trans {L : List Addr} {H H' H'' : Hp} (a : Kp L H H') (b : Kp L H' H'') : Kp L H H'':=⟨fun c u h e=>b.kp c u h (a.kp c u h e),fun c xs e=>b.tp c xs (a.tp c xs e)⟩
theorem Kp.set {L : List Addr} {H : Hp} {p : Addr} {o : HO} (hp : p∈L) (ht : ∀ xs,H p≠some (.tup xs)) : Kp L H (upd H p o) :=
  ⟨fun b u hb e=>by rw [upd_ne fun (z : b=p)=>hb (z ▸ hp)]; exact e,fun b xs e=>by rw [upd_ne fun (z : b=p)=>ht xs (z ▸ e)]; exact e⟩
theorem Kp.mono {L L' : List Addr} {H H' : Hp} (h : ∀ b,b∈L→b∈L') (k : Kp L H H') : Kp L' H H':=⟨fun b u hb e=>k.kp b u (fun z=>hb (h b z)) e,k.tp⟩
theorem Kp.new {L : List Addr} {H0 H : Hp} {p : Addr} {o : HO} (k : Kp L H0 H) (hp : H0 p=none) : Kp L H0 (upd H p o) :=
  ⟨fun b u hb e=>by rw [upd_ne (ne_of_none e hp)]; exact k.kp b u hb e,fun b xs e=>by rw [upd_ne (ne_of_none e hp)]; exact k.tp b xs e⟩
structure Wgh (C : Addr) (H : Hp) (x dx pm pk pw ph ps pl pg pt : Addr) (B : Nat) (ms ks hs held za left : List Nat) (zh : List Int) (sm : List (Option (Nat × Option Nat))) : Prop where
  ins : H x=some (.ins C dx (fw B pm pk pw ph ps pl pg pt))
  m : H pm=some (.lst (nV ms))
  k : H pk=some (.lst (nV ks))
  w : H pw=some (.lst (nV hs))
  h : H ph=some (.lst (nV held))
  s : H ps=some (.lst (nV za))
  l : H pl=some (.lst (nV left))
  g : H pg=some (.lst (zh.map V.int))
  t : ∃ zs,H pt=some (.lst zs)∧Els SV H zs sm
  nd : [pm,pk,pw,ph,ps,pl,pg,pt].Nodup
section
variable {C : Addr} {H H' : Hp} {x dx pm pk pw ph ps pl pg pt : Addr} {B : Nat} {ms ks hs held za left : List Nat} {zh : List Int} {sm : List (Option (Nat × Option Nat))}
theorem Wgh.same (r : Wgh C H x dx pm pk pw ph ps pl pg pt B ms ks hs held za left zh sm) (s : Same H H') : Wgh C H' x dx pm pk pw ph ps pl pg pt B ms ks hs held za left zh sm :=
  ⟨s _ _ r.ins,s _ _ r.m,s _ _ r.k,s _ _ r.w,s _ _ r.h,s _ _ r.s,s _ _ r.l,s _ _ r.g,let ⟨zs,e,h⟩:=r.t; ⟨zs,s _ _ e,h.up fun _ _=>SV.up fun b xs e=>s b _ e⟩,r.nd⟩
theorem ne_of {a b : Addr} {o u : HO} (ha : H a=some o) (hb : H b=some u) (h : o≠u) : a≠b:=fun z=>h (Option.some.inj (by rw [← ha,← hb,z]))
theorem Wgh.xn (r : Wgh C H x dx pm pk pw ph ps pl pg pt B ms ks hs held za left zh sm) : x≠pm∧x≠pk∧x≠pw∧x≠ph∧x≠ps∧x≠pl∧x≠pg∧x≠pt:=by
  obtain ⟨zs,e,_⟩:=r.t
  exact ⟨ne_of r.ins r.m (fun z=>nomatch z),ne_of r.ins r.k (fun z=>nomatch z),ne_of r.ins r.w (fun z=>nomatch z),ne_of r.ins r.h (fun z=>nomatch z),ne_of r.ins r.s (fun z=>nomatch z),ne_of r.ins r.l (fun z=>nomatch z),ne_of r.ins r.g (fun z=>nomatch z),ne_of r.ins e (fun z=>nomatch z)⟩
theorem Wgh.chg (r : Wgh C H x dx pm pk pw ph ps pl pg pt B ms ks hs held za left zh sm) {p : Addr} {o : HO} (ht : ∀ xs,H p≠some (.tup xs)) :
    (p≠x→upd H p o x=some (.ins C dx (fw B pm pk pw ph ps pl pg pt)))∧(p≠pm→upd H p o pm=some (.lst (nV ms)))∧(p≠pk→upd H p o pk=some (.lst (nV ks)))∧(p≠pw→upd H p o pw=some (.lst (nV hs)))∧(p≠ph→upd H p o ph=some (.lst (nV held)))∧(p≠ps→upd H p o ps=some (.lst (nV za)))∧(p≠pl→upd H p o pl=some (.lst (nV left)))∧(p≠pg→upd H p o pg=some (.lst (zh.map V.int)))∧(p≠pt→∃ zs,upd H p o pt=some (.lst zs)∧Els SV (upd H p o) zs sm)∧(∀ zs,Els SV H zs sm→Els SV (upd H p o) zs sm):=by
  have up : ∀ zs,Els SV H zs sm→Els SV (upd H p o) zs sm:=fun zs h=>h.up fun _ _=>SV.up fun b xs e=>by rw [upd_ne fun (z : b=p)=>ht xs (z ▸ e)]; exact e
  exact ⟨fun n=>by rw [upd_ne n.symm]; exact r.ins,fun n=>by rw [upd_ne n.symm]; exact r.m,fun n=>by rw [upd_ne n.symm]; exact r.k,fun n=>by rw [upd_ne n.symm]; exact r.w,fun n=>by rw [upd_ne n.symm]; exact r.h,fun n=>by rw [upd_ne n.symm]; exact r.s,fun n=>by rw [upd_ne n.symm]; exact r.l,fun n=>by rw [upd_ne n.symm]; exact r.g,fun n=>let ⟨zs,e,h⟩:=r.t; ⟨zs,by rw [upd_ne n.symm]; exact e,up zs h⟩,up⟩
theorem xF {p : Addr} {xs : List V} (e : H p=some (.lst xs)) : ∀ ys,H p≠some (.tup ys):=fun ys z=>by rw [e] at z; cases z
theorem Wgh.ap (r : Wgh C H x dx pm pk pw ph ps pl pg pt B ms ks hs held za left zh sm) : (ph≠pm∧ph≠pk∧ph≠pw∧ph≠ps∧ph≠pl∧ph≠pg∧ph≠pt)∧(ps≠pm∧ps≠pk∧ps≠pw∧ps≠ph∧ps≠pl∧ps≠pg∧ps≠pt)∧(pl≠pm∧pl≠pk∧pl≠pw∧pl≠ph∧pl≠ps∧pl≠pg∧pl≠pt)∧(pg≠pm∧pg≠pk∧pg≠pw∧pg≠ph∧pg≠ps∧pg≠pl∧pg≠pt)∧(pt≠pm∧pt≠pk∧pt≠pw∧pt≠ph∧pt≠ps∧pt≠pl∧pt≠pg):=by
  have:=r.nd
  simp only [List.nodup_cons,List.mem_cons,List.not_mem_nil,or_false,not_or,not_false_eq_true,List.nodup_nil,and_true] at this
  obtain ⟨⟨a1,a2,a3,a4,a5,a6,a7⟩,⟨b2,b3,b4,b5,b6,b7⟩,⟨c3,c4,c5,c6,c7⟩,⟨d4,d5,d6,d7⟩,⟨e5,e6,e7⟩,⟨f6,f7⟩,g7⟩:=this
  exact ⟨⟨Ne.symm a3,Ne.symm b3,Ne.symm c3,d4,d5,d6,d7⟩,⟨Ne.symm a4,Ne.symm b4,Ne.symm c4,Ne.symm d4,e5,e6,e7⟩,⟨Ne.symm a5,Ne.symm b5,Ne.symm c5,Ne.symm d5,Ne.symm e5,f6,f7⟩,⟨Ne.symm a6,Ne.symm b6,Ne.symm c6,Ne.symm d6,Ne.symm e6,Ne.symm f6,g7⟩,⟨Ne.symm a7,Ne.symm b7,Ne.symm c7,Ne.symm d7,Ne.symm e7,Ne.symm f7,Ne.symm g7⟩⟩
theorem Wgh.zbh (r : Wgh C H x dx pm pk pw ph ps pl pg pt B ms ks hs held za left zh sm) (held' : List Nat) : Wgh C (upd H ph (.lst (nV held'))) x dx pm pk pw ph ps pl pg pt B ms ks hs held' za left zh sm:=by
  obtain ⟨⟨a1,a2,a3,a4,a5,a6,a7⟩,_⟩:=r.ap
  obtain ⟨c0,c1,c2,c3,c4,c5,c6,c7,c8,_⟩:=r.chg (o := .lst (nV held')) (xF r.h)
  exact ⟨c0 r.xn.2.2.2.1.symm,c1 a1,c2 a2,c3 a3,upd_same,c5 a4,c6 a5,c7 a6,c8 a7,r.nd⟩
theorem Wgh.zc0 (r : Wgh C H x dx pm pk pw ph ps pl pg pt B ms ks hs held za left zh sm) (zZ : List Nat) : Wgh C (upd H ps (.lst (nV zZ))) x dx pm pk pw ph ps pl pg pt B ms ks hs held zZ left zh sm:=by
  obtain ⟨_,⟨a1,a2,a3,a4,a5,a6,a7⟩,_⟩:=r.ap
  obtain ⟨c0,c1,c2,c3,c4,c5,c6,c7,c8,_⟩:=r.chg (o := .lst (nV zZ)) (xF r.s)
  exact ⟨c0 r.xn.2.2.2.2.1.symm,c1 a1,c2 a2,c3 a3,c4 a4,upd_same,c6 a5,c7 a6,c8 a7,r.nd⟩
theorem Wgh.zc1 (r : Wgh C H x dx pm pk pw ph ps pl pg pt B ms ks hs held za left zh sm) (left' : List Nat) : Wgh C (upd H pl (.lst (nV left'))) x dx pm pk pw ph ps pl pg pt B ms ks hs held za left' zh sm:=by
  obtain ⟨_,_,⟨a1,a2,a3,a4,a5,a6,a7⟩,_⟩:=r.ap
  obtain ⟨c0,c1,c2,c3,c4,c5,c6,c7,c8,_⟩:=r.chg (o := .lst (nV left')) (xF r.l)
  exact ⟨c0 r.xn.2.2.2.2.2.1.symm,c1 a1,c2 a2,c3 a3,c4 a4,c5 a5,upd_same,c7 a6,c8 a7,r.nd⟩
theorem Wgh.setG (r : Wgh C H x dx pm pk pw ph ps pl pg pt B ms ks hs held za left zh sm) (zw : List Int) : Wgh C (upd H pg (.lst (zw.map V.int))) x dx pm pk pw ph ps pl pg pt B ms ks hs held za left zw sm:=by
  obtain ⟨_,_,_,⟨a1,a2,a3,a4,a5,a6,a7⟩,_⟩:=r.ap
  obtain ⟨c0,c1,c2,c3,c4,c5,c6,c7,c8,_⟩:=r.chg (o := .lst (zw.map V.int)) (xF r.g)
  exact ⟨c0 r.xn.2.2.2.2.2.2.1.symm,c1 a1,c2 a2,c3 a3,c4 a4,c5 a5,c6 a6,upd_same,c8 a7,r.nd⟩
theorem Wgh.zc9 (r : Wgh C H x dx pm pk pw ph ps pl pg pt B ms ks hs held za left zh sm) {zs' : List V} {sm' : List (Option (Nat × Option Nat))} (h : Els SV H zs' sm') : Wgh C (upd H pt (.lst zs')) x dx pm pk pw ph ps pl pg pt B ms ks hs held za left zh sm':=by
  obtain ⟨_,_,_,_,a1,a2,a3,a4,a5,a6,a7⟩:=r.ap
  obtain ⟨zs,e,_⟩:=r.t
  obtain ⟨c0,c1,c2,c3,c4,c5,c6,c7,_,_⟩:=r.chg (o := .lst zs') (xF e)
  refine ⟨c0 r.xn.2.2.2.2.2.2.2.symm,c1 a1,c2 a2,c3 a3,c4 a4,c5 a5,c6 a6,c7 a7,⟨zs',upd_same,h.up fun _ _=>SV.up fun b xs q=>?_⟩,r.nd⟩
  rw [upd_ne fun (z : b=pt)=>xF e xs (z ▸ q)]
  exact q
theorem Wgh.fresh (r : Wgh C H x dx pm pk pw ph ps pl pg pt B ms ks hs held za left zh sm) {b : Addr} (hb : H b=none) : b∉[pm,pk,pw,ph,ps,pl,pg,pt]:=fun z=>by
  obtain ⟨zs,e,_⟩:=r.t
  simp only [List.mem_cons,List.not_mem_nil,or_false] at z
  rcases z with z | z | z | z | z | z | z | z <;> subst z
  · rw [r.m] at hb; cases hb
  · rw [r.k] at hb; cases hb
  · rw [r.w] at hb; cases hb
  · rw [r.h] at hb; cases hb
  · rw [r.s] at hb; cases hb
  · rw [r.l] at hb; cases hb
  · rw [r.g] at hb; cases hb
  · rw [e] at hb; cases hb
theorem Wgh.zfS (r : Wgh C H x dx pm pk pw ph ps pl pg pt B ms ks hs held za left zh sm) {pg' : Addr} {zw : List Int} (e : H pg'=some (.lst (zw.map V.int))) (hf : pg'∉[pm,pk,pw,ph,ps,pl,pg,pt]) (hx : pg'≠x) :
    Wgh C (upd H x (.ins C dx (fw B pm pk pw ph ps pl pg' pt))) x dx pm pk pw ph ps pl pg' pt B ms ks hs held za left zw sm:=by
  obtain ⟨c0,c1,c2,c3,c4,c5,c6,c7,c8,_⟩:=r.chg (p:=x) (o := .ins C dx (fw B pm pk pw ph ps pl pg' pt)) (fun xs z=>by rw [r.ins] at z; cases z)
  obtain ⟨n1,n2,n3,n4,n5,n6,n7,n8⟩:=r.xn
  refine ⟨upd_same,c1 n1,c2 n2,c3 n3,c4 n4,c5 n5,c6 n6,by rw [upd_ne hx]; exact e,c8 n8,?_⟩
  have nd:=r.nd
  simp only [List.nodup_cons,List.mem_cons,List.not_mem_nil,or_false,not_or,not_false_eq_true,List.nodup_nil,and_true] at nd hf ⊢
  obtain ⟨h1,h2,h3,h4,h5,h6,h7,h8⟩:=hf
  obtain ⟨⟨a1,a2,a3,a4,a5,a6,a7⟩,⟨b2,b3,b4,b5,b6,b7⟩,⟨d3,d4,d5,d6,d7⟩,⟨e4,e5,e6,e7⟩,⟨f5,f6,f7⟩,⟨g6,g7⟩,k7⟩:=nd
  exact ⟨⟨a1,a2,a3,a4,a5,Ne.symm h1,a7⟩,⟨b2,b3,b4,b5,Ne.symm h2,b7⟩,⟨d3,d4,d5,Ne.symm h3,d7⟩,⟨e4,e5,Ne.symm h4,e7⟩,⟨f5,Ne.symm h5,f7⟩,⟨Ne.symm h6,g7⟩,h8⟩
theorem Wgh.zfT (r : Wgh C H x dx pm pk pw ph ps pl pg pt B ms ks hs held za left zh sm) {pt' : Addr} {zs : List V} {sm' : List (Option (Nat × Option Nat))} (e : H pt'=some (.lst zs)) (hE : Els SV H zs sm') (hf : pt'∉[pm,pk,pw,ph,ps,pl,pg,pt]) (hx : pt'≠x) :
    Wgh C (upd H x (.ins C dx (fw B pm pk pw ph ps pl pg pt'))) x dx pm pk pw ph ps pl pg pt' B ms ks hs held za left zh sm':=by
  have ht : ∀ xs,H x≠some (.tup xs):=fun xs z=>by rw [r.ins] at z; cases z
  obtain ⟨c0,c1,c2,c3,c4,c5,c6,c7,c8,_⟩:=r.chg (p:=x) (o := .ins C dx (fw B pm pk pw ph ps pl pg pt')) ht
  obtain ⟨n1,n2,n3,n4,n5,n6,n7,n8⟩:=r.xn
  refine ⟨upd_same,c1 n1,c2 n2,c3 n3,c4 n4,c5 n5,c6 n6,c7 n7,⟨zs,by rw [upd_ne hx]; exact e,hE.up fun _ _=>SV.up fun b xs q=>by rw [upd_ne fun (z : b=x)=>ht xs (z ▸ q)]; exact q⟩,?_⟩
  have nd:=r.nd
  simp only [List.nodup_cons,List.mem_cons,List.not_mem_nil,or_false,not_or,not_false_eq_true,List.nodup_nil,and_true] at nd hf ⊢
  obtain ⟨h1,h2,h3,h4,h5,h6,h7,h8⟩:=hf
  obtain ⟨⟨a1,a2,a3,a4,a5,a6,a7⟩,⟨b2,b3,b4,b5,b6,b7⟩,⟨d3,d4,d5,d6,d7⟩,⟨e4,e5,e6,e7⟩,⟨f5,f6,f7⟩,⟨g6,g7⟩,k7⟩:=nd
  exact ⟨⟨a1,a2,a3,a4,a5,a6,Ne.symm h1⟩,⟨b2,b3,b4,b5,b6,Ne.symm h2⟩,⟨d3,d4,d5,d6,Ne.symm h3⟩,⟨e4,e5,e6,Ne.symm h4⟩,⟨f5,f6,Ne.symm h5⟩,⟨g6,Ne.symm h6⟩,Ne.symm h7⟩
end
theorem zfU (l : List V) : l.filterMap (fun _=>some V.non)=List.replicate l.length V.non:=by
  induction l with
  | nil=>rfl
  | cons a r ih=>rw [List.filterMap_cons,ih]; rfl
theorem zbq {H : Hp} (n : Nat) : Els SV H (List.replicate n V.non) (List.replicate n none):=by
  refine ⟨by rw [List.length_replicate,List.length_replicate],fun i v o h1 h2=>?_⟩
  rw [List.eq_of_mem_replicate (List.mem_of_getElem? h1),List.eq_of_mem_replicate (List.mem_of_getElem? h2)]
  rfl
theorem VZ {H : Hp} {zs : List V} {sm : List (Option (Nat × Option Nat))} {p : Nat} {v : V} {o : Option (Nat × Option Nat)} (h : Els SV H zs sm) (hv : SV H v o) : Els SV H (zs.set p v) (sm.set p o):=by
  refine ⟨by rw [List.length_set,List.length_set]; exact h.1,fun i u q h1 h2=>?_⟩
  rw [List.getElem?_set] at h1 h2
  by_cases z : p=i
  · subst z
    rw [if_pos rfl] at h1 h2
    split at h1
    · split at h2
      · cases h1; cases h2; exact hv
      · cases h2
    · cases h1
  · rw [if_neg z] at h1 h2
    exact h.2 i u q h1 h2
theorem Ym {α : Type} (n i : Nat) (d : α) : (List.replicate n d).getD i d=d:=by
  rw [List.getD_eq_getElem?_getD,List.getElem?_replicate]
  split <;> rfl
end CV
namespace CV
open CA
noncomputable def X (held : List Nat) : Nat→Nat→Bool:=fun p w=>(held.getD p 0).testBit w
noncomputable def cc (B : Nat) (ks hs : List Nat) : Nat→Nat→Int:=fun w p=>(B : Int) + (ks.getD w 0 : Nat) * (hs.getD p 0 : Nat)
noncomputable def zz (l : List Nat) : Nat→Int:=fun i=>((l.getD i 0 : Nat) : Int)
noncomputable def gg (l : List Int) : Nat→Int:=fun i=>l.getD i 0
noncomputable def ss (l : List (Option (Nat × Option Nat))) : xV:=fun i=>l.getD i none
theorem wI {α : Type} {l : List α} {p i : Nat} {v d : α} (h : p < l.length) : (l.set p v).getD i d=if i=p then v else l.getD i d:=by
  rw [List.getD_eq_getElem?_getD,List.getD_eq_getElem?_getD,List.getElem?_set]
  by_cases z : p=i
  · subst z
    rw [if_pos rfl,if_pos rfl,if_pos h]
    rfl
  · rw [if_neg z,if_neg fun y=>z y.symm]
theorem YF {l : List Int} {p : Nat} {v : Int} (h : p < l.length) : gg (l.set p v)=up (gg l) p v:=funext fun i=>wI h
theorem W9 {l : List (Option (Nat × Option Nat))} {p : Nat} {v : Option (Nat × Option Nat)} (h : p < l.length) : ss (l.set p v)=up (ss l) p v:=funext fun i=>wI h
theorem zda {l : List Nat} {p v : Nat} (h : p < l.length) : zz (l.set p v)=up (zz l) p ((v : Nat) : Int):=funext fun i=>by
  show (((l.set p v).getD i 0 : Nat) : Int)=_
  rw [wI h]
  unfold up
  split <;> rfl
theorem zaE {l : List Nat} {p : Nat} (h : p < l.length) (h0 : 0 < l.getD p 0) : zz (l.set p (l.getD p 0 - 1))=up (zz l) p (zz l p - 1):=by
  rw [zda h]
  congr 1
  show ((l.getD p 0 - 1 : Nat) : Int)=((l.getD p 0 : Nat) : Int) - 1
  omega
theorem zca {l : List Nat} {p w v : Nat} {b : Bool} (h : p < l.length) (hv : ∀ u,v.testBit u=if u=w then b else (l.getD p 0).testBit u) : X (l.set p v)=set (X l) p w b:=by
  funext q u
  show ((l.set p v).getD q 0).testBit u=_
  rw [wI h]
  unfold CA.set X
  by_cases z : q=p
  · subst z
    rw [if_pos rfl,hv u]
    by_cases y : u=w
    · rw [if_pos y,if_pos ⟨rfl,y⟩]
    · rw [if_neg y,if_neg fun t=>y t.2]
  · rw [if_neg z,if_neg fun t=>z t.1]
theorem ze3 {n m : Nat} {c : Nat→Nat→Int} {fit X : Nat→Nat→Bool} {za left a b g : Nat→Int} {l : Int} {st : xV} (D : zX n m c fit X za left l a b) (hc : ∀ w p,0≤c w p)
    (h : ∀ p,p < n→(st p=none∧g p=0∧∀ w,w < m→fit p w=true→X p w=false→¬ 0 < left w)∨(∃ w,st p=some (w,none)∧w < m∧fit p w=true∧X p w=false∧0 < left w∧g p=c w p∧∀ w',w' < m→fit p w'=true→X p w'=false→0 < left w'→c w' p≤c w p)) : Find n m c fit X left b g st:=by
  refine ⟨fun p hp=>?_,fun p hp=>?_,fun p w hp hw f1 f2 f3=>?_,fun p hp e=>?_,fun p w hp e=>?_,fun p w q hp e=>?_,fun p hp=>?_⟩
  all_goals rcases h p hp with ⟨s,h0,h1⟩ | ⟨w',s,h1,h2,h3,h4,h5,h6⟩
  · omega
  · rw [h5]; exact hc _ _
  · have:=D.l0; have:=D.lb p hp; omega
  · have:=D.up p w' hp h1 h2 h3
    have:=D.af w' h1 h4
    omega
  · exact absurd f3 (h1 w hw f1 f2)
  · rw [h5]; exact h6 w hw f1 f2 f3
  · exact h0
  · rw [e] at s; cases s
  · rw [e] at s; cases s
  · rw [e] at s; cases s; exact ⟨h1,h2,h3,h4,h5⟩
  · rw [e] at s; cases s
  · rw [e] at s; cases s
  · exact .none s
  · exact .free s
noncomputable def Up (ks : List Nat) : Prop:=∀ i j,i≤j→j < ks.length→ks.getD i 0≤ks.getD j 0
theorem ze4 {B : Nat} {ks hs : List Nat} (hU : Up ks) {w w' p : Nat} (h : w'≤w) (hw : w < ks.length) : cc B ks hs w' p≤cc B ks hs w p:=by
  have h1:=hU w' w h hw
  have h2 : ks.getD w' 0 * hs.getD p 0≤ks.getD w 0 * hs.getD p 0:=Nat.mul_le_mul_right _ h1
  have h3 : ((ks.getD w' 0 * hs.getD p 0 : Nat) : Int)≤((ks.getD w 0 * hs.getD p 0 : Nat) : Int):=Int.ofNat_le.mpr h2
  rw [Int.natCast_mul,Int.natCast_mul] at h3
  unfold cc
  omega
theorem jl (B : Nat) (ks hs : List Nat) (w p q : Nat) : cc B ks hs w p - cc B ks hs w q=((ks.getD w 0 : Nat) : Int) * (((hs.getD p 0 : Nat) : Int) - ((hs.getD q 0 : Nat) : Int)):=by
  unfold cc
  rw [Int.mul_sub]
  omega
theorem zcO {B : Nat} {ks hs : List Nat} (hU : Up ks) {w w' p q : Nat} (h : w'≤w) (hw : w < ks.length) (hd : hs.getD q 0 < hs.getD p 0) : cc B ks hs w' p - cc B ks hs w' q≤cc B ks hs w p - cc B ks hs w q:=by
  rw [jl,jl]
  exact Int.mul_le_mul_of_nonneg_right (Int.ofNat_le.mpr (hU w' w h hw)) (by omega)
theorem zcP {B : Nat} {ks hs : List Nat} (hU : Up ks) {w w' p q : Nat} (h : w≤w') (hw : w' < ks.length) (hd : ¬ hs.getD q 0 < hs.getD p 0) : cc B ks hs w' p - cc B ks hs w' q≤cc B ks hs w p - cc B ks hs w q:=by
  rw [jl,jl]
  have h1 : ((ks.getD w 0 : Nat) : Int) * (((hs.getD q 0 : Nat) : Int) - ((hs.getD p 0 : Nat) : Int))≤((ks.getD w' 0 : Nat) : Int) * (((hs.getD q 0 : Nat) : Int) - ((hs.getD p 0 : Nat) : Int)):=Int.mul_le_mul_of_nonneg_right (Int.ofNat_le.mpr (hU w w' h hw)) (by omega)
  rw [Int.mul_sub,Int.mul_sub] at h1 ⊢
  omega
noncomputable abbrev Mv:=Nat × Nat × Int
structure xW (n m : Nat) (c : Nat→Nat→Int) (fit X : Nat→Nat→Bool) (p i : Nat) (mv : List Mv) : Prop where
  ok : ∀ e∈mv,e.1 < n∧e.2.1 < m∧fit p e.2.1=true∧X p e.2.1=false∧X e.1 e.2.1=true∧e.2.2=c e.2.1 p - c e.2.1 e.1
  all : ∀ q w,q < i→w < m→fit p w=true→X p w=false→X q w=true→∃ e∈mv,e.1=q∧c w p - c w q≤e.2.2
theorem xW.nil {n m : Nat} {c : Nat→Nat→Int} {fit X : Nat→Nat→Bool} {p : Nat} : xW n m c fit X p 0 []:=⟨(fun _ h=>nomatch h),fun _ _ h=>absurd h (Nat.not_lt_zero _)⟩
theorem xW.skip {n m : Nat} {c : Nat→Nat→Int} {fit X : Nat→Nat→Bool} {p i : Nat} {mv : List Mv} (M : xW n m c fit X p i mv) (h : ∀ w,w < m→fit p w=true→X p w=false→X i w=false) : xW n m c fit X p (i + 1) mv :=
  ⟨M.ok,fun q w hq hw f1 f2 f3=>by
    by_cases z : q=i
    · rw [z,h w hw f1 f2] at f3; cases f3
    · exact M.all q w (by omega) hw f1 f2 f3⟩
theorem xW.snoc {n m : Nat} {c : Nat→Nat→Int} {fit X : Nat→Nat→Bool} {p i k : Nat} {d : Int} {mv : List Mv} (M : xW n m c fit X p i mv) (hi : i < n) (hk : k < m) (f1 : fit p k=true) (f2 : X p k=false) (f3 : X i k=true) (hd : d=c k p - c k i)
    (h : ∀ w,w < m→fit p w=true→X p w=false→X i w=true→c w p - c w i≤d) : xW n m c fit X p (i + 1) (mv ++ [(i,k,d)]):=by
  refine ⟨fun e he=>?_,fun q w hq hw g1 g2 g3=>?_⟩
  · rcases List.mem_append.mp he with he | he
    · exact M.ok e he
    · rw [List.mem_singleton.mp he]
      exact ⟨hi,hk,f1,f2,f3,hd⟩
  · by_cases z : q=i
    · subst z
      exact ⟨(q,k,d),List.mem_append_right _ (List.mem_singleton.mpr rfl),rfl,h w hw g1 g2 g3⟩
    · obtain ⟨e,he,r⟩:=M.all q w (by omega) hw g1 g2 g3
      exact ⟨e,List.mem_append_left _ he,r⟩
end CV
namespace CV
open PySem L2 L3 L4 L6 L13 CA
noncomputable def TV (H : Hp) (v : V) (e : Mv) : Prop:=∃ t,v = .ref t∧H t=some (.tup [.int (e.1 : Nat),.int (e.2.1 : Nat),.int e.2.2])
theorem TV.up {H H' : Hp} {v : V} {e : Mv} (s : Same H H') : TV H v e→TV H' v e:=fun ⟨t,h,g⟩=>⟨t,h,s _ _ g⟩
noncomputable def ML (H : Hp) (v : V) (mv : List Mv) : Prop:=∃ p zs,v = .ref p∧H p=some (.lst zs)∧Els TV H zs mv
theorem ML.up {H H' : Hp} {v : V} {mv : List Mv} (s : Same H H') : ML H v mv→ML H' v mv:=fun ⟨p,zs,h,g,k⟩=>⟨p,zs,h,s _ _ g,k.up fun _ _=>TV.up s⟩
noncomputable def zfV (S : Nat) (big : Prop) (r : V) : Prop:=(S=0∧r=V.non)∨∃ k : Nat,S.testBit k=true∧r = .int (k : Nat)∧(big→∀ u,S.testBit u=true→u≤k)∧(¬ big→∀ u,S.testBit u=true→k≤u)
theorem zaF {m k : Nat} (h : (CB.yC m)[0]?=some k) : m.testBit k=true∧∀ u,m.testBit u=true→k≤u:=by
  have h1:=CB.jW m
  refine ⟨CB.xj.mp (List.mem_of_getElem? h),fun u hu=>?_⟩
  have hu':=CB.xj.mpr hu
  cases e : CB.yC m with
  | nil=>rw [e] at h; cases h
  | cons a r =>
    rw [e] at h h1 hu'
    obtain rfl : a=k:=Option.some.inj h
    rcases List.mem_cons.mp hu' with rfl | z
    · exact Nat.le_refl _
    · exact Nat.le_of_lt ((List.pairwise_cons.mp h1).1 u z)
noncomputable def mes (n : Nat) (b g : Nat→Int) : Int:=sz (fun p=>b p - g p) n
theorem zdb {n p : Nat} {b g : Nat→Int} {v : Int} (hp : p < n) (h : g p < v) : mes n b (CA.up g p v) < mes n b g:=by
  unfold mes
  rw [jt (f:=fun p=>b p - g p) hp fun i _ hi=>by rw [yq hi],up_eq]
  omega
theorem zdc {n : Nat} {b g : Nat→Int} (h : ∀ p,p < n→g p≤b p) : 0≤mes n b g:=jE fun p hp=>by have:=h p hp; omega
end CV
namespace CV
open PySem L2 L3 L4 L6 L13 CA
theorem Va {α β : Type} {S : Hp→V→β→Prop} {R : β→α→Prop} {D : Hp} : ∀ {vs : List V} {as : List α},Els (fun D v a=>∃ b,S D v b∧R b a) D vs as→∃ bs : List β,Els S D vs bs∧bs.length=as.length∧∀ (i : Nat) (b : β) (a : α),bs[i]?=some b→as[i]?=some a→R b a
  | [],[],_=>⟨[],Els.nil,rfl,fun i b a h=>by cases h⟩
  | [],_ :: _,h=>by cases h.1
  | _ :: _,[],h=>by cases h.1
  | v :: vs,a :: as,h=>by
    obtain ⟨b,h1,h2⟩:=h.2 0 v a rfl rfl
    obtain ⟨bs,k1,k2,k3⟩:=Va (vs:=vs) (as:=as) ⟨Nat.succ.inj h.1,fun i v a e1 e2=>h.2 (i + 1) v a e1 e2⟩
    refine ⟨b :: bs,⟨by rw [List.length_cons,List.length_cons,k1.1],fun i v' b' e1 e2=>?_⟩,by rw [List.length_cons,List.length_cons,k2],fun i b' a' e1 e2=>?_⟩
    · cases i with
      | zero=>cases e1; cases e2; exact h1
      | succ i=>exact k1.2 i v' b' e1 e2
    · cases i with
      | zero=>cases e1; cases e2; exact h2
      | succ i=>exact k3 i b' a' e1 e2
theorem Kp.over {L L' : List Addr} {H H1 H2 : Hp} (k : Kp L H H1) (k' : Kp L' H1 H2) (h : ∀ b,b∈L'→H b=none∨b∈L) : Kp L H H2 :=
  ⟨fun b u hb e=>k'.kp b u (fun z=>(h b z).elim (fun n=>by rw [n] at e; cases e) hb) (k.kp b u hb e),fun b xs e=>k'.tp b xs (k.tp b xs e)⟩
theorem ze5 (B : Nat) (ks hs : List Nat) (w p : Nat) : 0≤cc B ks hs w p:=by
  unfold cc
  have : (0 : Int)≤((ks.getD w 0 : Nat) : Int) * ((hs.getD p 0 : Nat) : Int):=Int.mul_nonneg (Int.natCast_nonneg _) (Int.natCast_nonneg _)
  omega
end CV
namespace CV
open CA
noncomputable def yt {α : Type} (f : α→Int) : List α→Int
  | []=>0
  | x :: r=>f x + yt f r
theorem Yn {α : Type} (f : α→Int) : ∀ a b : List α,yt f (a ++ b)=yt f a + yt f b
  | [],b=>(Int.zero_add _).symm
  | x :: a,b=>by
    show f x + yt f (a ++ b)=f x + yt f a + yt f b
    rw [Yn f a b]
    omega
theorem Vb {α β : Type} (f : β→Int) (g : α→β) : ∀ l : List α,yt f (l.map g)=yt (fun x=>f (g x)) l
  | []=>rfl
  | x :: r=>by rw [List.map_cons,yt,yt,Vb f g r]
theorem Jb {x m : Nat} (h : ∀ w,x.testBit w=true→w < m) : CB.yC x=(List.range m).filter fun w=>x.testBit w :=
  CB.VN (CB.jW x) (List.Pairwise.filter _ List.pairwise_lt_range) fun k=>by
    rw [CB.xj,List.mem_filter,List.mem_range]
    exact ⟨fun z=>⟨h k z,z⟩,fun z=>z.2⟩
theorem V0 (f : Nat→Int) (x : Nat) : ∀ m,sz (fun w=>one (x.testBit w) * f w) m=yt f ((List.range m).filter fun w=>x.testBit w)
  | 0=>rfl
  | m + 1=>by
    rw [sz,V0 f x m,List.range_succ,List.filter_append,Yn,List.filter_cons]
    cases h : x.testBit m
    · simp [one,yt]
    · simp [one,yt]
theorem Wa {held : List Nat} {m : Nat} (f : Nat→Nat→Int) (h : ∀ p w,X held p w=true→w < m) : ∀ n,sum n m f (X held)=yt (fun q : Nat × Nat=>f q.1 q.2) (CD.hpT held n)
  | 0=>rfl
  | n + 1=>by
    have ih:=Wa f h n
    unfold sum at ih ⊢
    rw [sz,ih,CD.hpT,Yn,Vb,Jb (h n)]
    congr 1
    exact V0 (fun w=>f w n) (held.getD n 0) m
theorem Yo {α : Type} : ∀ l : List α,yt (fun _=>1) l=(l.length : Int)
  | []=>rfl
  | x :: r=>by
    rw [yt,Yo r,List.length_cons]
    omega
theorem Jc {held : List Nat} {m : Nat} (h : ∀ p w,X held p w=true→w < m) (n : Nat) : many n m (X held)=((CD.hpT held n).length : Int):=by
  unfold many
  rw [Wa _ h,Yo]
theorem perm_back {ord : List Nat} {m : Nat} (hp : ord.Perm (List.range m)) : (∀ i,i < m→ord.getD i 0 < m)∧∃ u : Nat→Nat,(∀ w,w < m→u w < m)∧(∀ w,w < m→ord.getD (u w) 0=w)∧∀ i,i < m→u (ord.getD i 0)=i:=by
  have hl : ord.length=m:=by rw [hp.length_eq,List.length_range]
  have nd : ord.Nodup:=hp.nodup_iff.mpr List.nodup_range
  have at_ : ∀ i,(hi : i < m)→ord[i]?=some (ord.getD i 0):=fun i hi=>by
    rw [List.getD_eq_getElem?_getD,List.getElem?_eq_getElem (by omega)]
    rfl
  have lt : ∀ i,i < m→ord.getD i 0 < m:=fun i hi=>List.mem_range.mp (hp.mem_iff.mp (List.mem_of_getElem? (at_ i hi)))
  have inj : ∀ i j,i < m→j < m→ord.getD i 0=ord.getD j 0→i=j:=fun i j hi hj e=>by
    have h1:=at_ i hi
    have h2:=at_ j hj
    rw [← e] at h2
    exact (List.getElem?_inj (by omega) nd).mp (h1.trans h2.symm)
  have ex : ∀ w,∃ i,w < m→i < m∧ord.getD i 0=w:=fun w=>by
    by_cases hw : w < m
    · obtain ⟨i,hi⟩:=List.getElem?_of_mem (hp.mem_iff.mpr (List.mem_range.mpr hw))
      have hil : i < m:=by rw [← hl]; exact (List.getElem?_eq_some_iff.mp hi).1
      exact ⟨i,fun _=>⟨hil,by rw [List.getD_eq_getElem?_getD,hi]; rfl⟩⟩
    · exact ⟨0,fun z=>absurd z hw⟩
  refine ⟨lt,fun w=>Classical.choose (ex w),fun w hw=>(Classical.choose_spec (ex w) hw).1,fun w hw=>(Classical.choose_spec (ex w) hw).2,fun i hi=>?_⟩
  obtain ⟨h1,h2⟩:=Classical.choose_spec (ex (ord.getD i 0)) (lt i hi)
  exact inj _ _ h1 hi h2
theorem Jd {x m : Nat} (h : ∀ w,x.testBit w=true→w < m) : x < 2 ^ m:=by
  refine Nat.lt_pow_two_of_testBit _ fun i hi=>?_
  cases z : x.testBit i with
  | false=>rfl
  | true=>have:=h i z; omega
end CV
namespace CV
open CA
theorem ja (f : Nat→Nat) : ∀ n,sz (fun i=>((f i : Nat) : Int)) n=((CI.sg f n : Nat) : Int)
  | 0=>rfl
  | n + 1=>by
    rw [sz,CI.sg,ja f n,Int.natCast_add]
theorem vR {α : Type} (f : α→Int) : ∀ l : List α,CG.sumZ (l.map f)=yt f l
  | []=>rfl
  | x :: r=>by rw [List.map_cons,CG.X3,vR f r,yt]
end CV
namespace L20
open PySem PySem.Spec PyProof.Rows L2 L3 L4 L6
structure Tab where
  P : Addr
  ln : Value
  cl : Value
  qual : Str
noncomputable def Tb (t : Tab) (H : Hp) : Prop:=H t.P=some (.tbl #[])∨∃ c,H t.P=some (.tbl #[t.ln,t.cl,.ref c])∧H c=some (.ext fun h=>h.CodeRec (.ref c) t.qual)
theorem Tb.same {t : Tab} {H H' : Hp} (h : Tb t H) (s : Same H H') : Tb t H':=h.imp (s _ _) fun ⟨c,h1,h2⟩=>⟨c,s _ _ h1,s _ _ h2⟩
noncomputable def SB (t : Tab) (H H' : Hp) : Prop:=∀ b o,b≠t.P→H b=some o→H' b=some o
theorem SB.of {t : Tab} {H H' : Hp} (s : Same H H') : SB t H H':=fun b o _ e=>s b o e
theorem SB.trans {t : Tab} {H H' H'' : Hp} (a : SB t H H') (b : SB t H' H'') : SB t H H'':=fun c o h e=>b c o h (a c o h e)
theorem Tb.ne {t : Tab} {H : Hp} (h : Tb t H) {b : Addr} {xs : List V} (e : H b=some (.lst xs)) : b≠t.P:=fun z=>by
  rw [z] at e
  rcases h with h | ⟨_,h,_⟩ <;> rw [e] at h <;> cases h
theorem SB.lst {t : Tab} {H H' : Hp} (s : SB t H H') (h : Tb t H) {b : Addr} {xs : List V} (e : H b=some (.lst xs)) : H' b=some (.lst xs):=s b _ (h.ne e) e
theorem SB.free {t : Tab} {H H' : Hp} (s : SB t H H') (h' : Tb t H') {b : Addr} (e : H' b=none) : H b=none:=by
  cases z : H b with
  | none=>rfl
  | some o =>
    by_cases y : b=t.P
    · rw [y] at e
      rcases h' with h' | ⟨_,h',_⟩ <;> rw [e] at h' <;> cases h'
    · rw [s b o y z] at e
      cases e
theorem SB.seq {K : PySem.W.Frag} {t : Tab} {H H' : Hp} (s : SB t H H') (h : Tb t H) {p : Addr} {xs : List V} (q : SqL K H p xs) : SqL K H' p xs:=by
  have ne : ∀ {o : HO},H p=some o→(∀ ps,o ≠ .tbl ps)→p≠t.P:=fun {o} e n z=>by
    rw [z] at e
    rcases h with h | ⟨_,h,_⟩ <;> rw [e] at h <;> exact n _ (Option.some.inj h)
  rcases q with (q | ⟨o,q⟩) | q
  · exact .inl (.inl (s p _ (ne q fun _ z=>nomatch z) q))
  · exact .inl (.inr ⟨o,s p _ (ne q fun _ z=>nomatch z) q⟩)
  · exact .inr q
noncomputable def zdd (K : PySem.W.Frag) (t : Tab) (i : Nat) : TE:=fun σ H Q=>L23.E2 fun (pk : Addr) (ks : List Nat)=>L23.A5 (σ[i]?=some (some (.ref pk))) (SqL K H pk (nV ks)) (ks.length < 64) (Tb t H) (∀ H' l ord,Tb t H'→SB t H H'→H l=none→H' l=some (.lst (nV ord))→ord.Perm (List.range ks.length)→(ord.Pairwise fun a b=>ks.getD a 0≤ks.getD b 0)→Q (.ref l) H')
end L20
namespace L20
open PySem PySem.Spec PyProof.Rows PySem.W
section
variable {prog : Program} {w : World} {A : Around} {E : Value→Shared→Prop} {s : Shared}
theorem zbr {Q : Value→Shared→Prop} {f c c' pk : Addr} {qual x y : Str} {params : Arguments} {scope : Scope} {pm ctv : Value} {its : Array Value} {i : Nat} {t : Tok} {v : Value} {p1 p2 p3 : Pos}
    (hroom : A.depth < recursionLimit) (ho : s.heap.get? f=some (kla_obj "<lambda>" qual params (.Subscript (.Name x p1) (.Name y p2) p3) scope [(x,c)] pm c' ctv)) (hcd : s.heap.CodeRec (.ref c') qual) (hcell : s.heap.IsCell c (some (.ref pk))) (hl : s.heap.IsList pk its) (hi : its[i]?=some v) (hlim : s.heap.NoLimit) (hsz : its.size≤1000)
    (hco : scope.isCoroutine=false) (hgen : scope.isGenerator=false) (hk : scope.kind = .function) (hnc : ∀ z∈scope.names,z.2 ≠ .cell) (hx : scope.names.lookup x=some .free) (hy : scope.names.lookup y=some .local)
    (hbind : ∀ u : Value,bindArgs (kla_fn "<lambda>" qual params (.Subscript (.Name x p1) (.Name y p2) p3) scope [(x,c)] pm (.ref c') ctv) ⟨[u],[]⟩=pure [(y,u)])
    (hdx : (x == ("__debug__" : Str))=false) (hdy : (y == ("__debug__" : Str))=false) (hcx : (x == ("__classdict__" : Str))=false)
    (h : ∀ h' tk,(∀ b o,s.heap.get? b=some o→h'.get? b=some o)→Q v { s with heap:=h',toks:=tk }) :
    wpAny (model prog w) A (call (.ref f) [.int i t]) Q E s:=by
  refine wpAny_call (kla_callFunE hroom ho rfl hco hgen rfl hcd ?_)
  rw [hbind]
  refine wpAny_pure (wpAny_newFunctionEnv hnc (fun z hz=>by rw [List.mem_singleton.mp hz]; exact hy) (fun h₁ hns hsb=>⟨hlim.fresh _ hsb,?_⟩) hk)
  have kk : ∀ b o,s.heap.get? b=some o→h₁.get? b=some o:=fun b o e=>hsb.extBut b o (Nat.ne_of_lt (Heap.lt_size e)) (Heap.get?_push_of_some _ e)
  refine kla_codeExpr ?_
  refine Subscript_ (wpAny_Name (wpAny_loadName_free hk hx (c:=c) (by simp [newEnv]) (hcell.keeps kk) ?_ hcx) hdx)
  refine wpAny_Name (wpAny_loadName_local (v := .int i t) hk hy hns (by simp) ?_) hdy
  have hil : i < its.size:=(Array.getElem?_eq_some_iff.mp hi).1
  exact item_listR (hl.at fun o e=>kk _ _ e) (by omega) (by omega) (by rw [Int.toNat_natCast]; exact hi) (h _ _ kk) rfl
noncomputable def zde (s : Shared) (n : Nat) (rr : Result) (s' : Shared) : Prop:=∃ h' tk acc c',rr = .ok (.ret (.ref s.heap.objs.size))∧s'={ s with heap:=h',toks:=tk }∧(∀ b o,s.heap.get? b=some o→h'.get? b=some o)∧h'.get? s.heap.objs.size=some { cls := .type "list",dict:=none,data := .seq acc c',slots:=#[] }∧ItemsOf (fun i v=>∃ t,v=Value.int i t) acc n
theorem Wh {Q : List Value→Shared→Prop} {r : Addr} {n : Nat} {t u v : Tok} (hh : A.handled=none) (hr : IsRange s.heap r 0 n 1 t u v) (hn : n < 64)
    (h : ∀ h' tk acc,s.heap.objs.size < h'.objs.size→(∀ b o,s.heap.get? b=some o→h'.get? b=some o)→ItemsOf (fun i v=>∃ t,v = .int i t) acc n→Q acc.toList { s with heap:=h',toks:=tk }) : wpAny (model prog w) A (collect (.ref r)) Q E s:=by
  unfold collect
  refine wpAny_bind (wpAny_runValue (codeAny_builtin F.entry_proto_collect ?_))
  rw [Around.under_plainId F.plain_proto_collect _]
  unfold Builtin.«proto.collect»
  wp_walk
  have eS : (s.heap.push { cls := .type "list",data := .seq ([] : List Value).toArray }).get? s.heap.objs.size=some { cls := .type "list",data := .seq ([] : List Value).toArray }:=Heap.get?_push_size _ rfl
  have hz : Builtin.Range.rangeSize 0 n 1=n:=by
    unfold Builtin.Range.rangeSize
    rw [if_pos (by decide)]
    split <;> omega
  have hsm : Builtin.Range.small 0 n 1=true:=(by decide +kernel : ∀ k : _root_.Fin 64,Builtin.Range.small 0 ((k : Nat) : Int) 1=true) ⟨n,hn⟩
  refine ⟨plainId_quiet F.plain_list_iadd _,codeAny_mono (R:=zde s n) (codeAny_builtin F.entry_list_iadd ?_) ?_⟩
  · rw [Around.under_plainId F.plain_list_iadd _]
    show wpAny _ A.in1 (Builtin.List.listExtendWith (.ref s.heap.objs.size) (.ref r) (.ref s.heap.objs.size)) _ _ _
    refine wpAny_extend_range (R:=zde s n) (s:={ s with heap:=s.heap.push { cls := .type "list",data := .seq ([] : List Value).toArray } }) (A:=A) (n:=n) hh (Heap.get?_push_of_some _ hr) hsm hz (by omega) s.heap.objs.size _ 0 eS fun h' tk acc c' hk hS' hacc=>?_
    refine ⟨h',tk,acc,c',rfl,rfl,fun b o e=>hk b o (Nat.ne_of_lt (Heap.lt_size e)) (Heap.get?_push_of_some _ e),hS',hacc.1,fun i v hv=>?_⟩
    obtain ⟨t,rfl⟩:=hacc.2 i v hv
    exact ⟨t,by rw [Int.mul_one,Int.zero_add]⟩
  · rintro rr s' ⟨h',tk,acc,c',rfl,rfl,hk,hS',hacc⟩
    exact wpAny_bind (wpAny_load hS' (wpAny_pure (h h' tk acc (Heap.lt_size hS') hk hacc)))
noncomputable def allOf (h : Heap) (L : Addr) : List (Addr × Obj):=(List.range h.objs.size).filterMap fun b=>if b=L then none else (h.get? b).map fun o=>(b,o)
theorem ZT {h : Heap} {L b : Addr} {o : Obj} : (b,o)∈allOf h L↔b≠L∧h.get? b=some o:=by
  unfold allOf
  rw [List.mem_filterMap]
  constructor
  · rintro ⟨a,_,e⟩
    split at e
    · cases e
    · rename_i ne
      obtain ⟨o',h1,h2⟩:=Option.map_eq_some_iff.mp e
      cases h2
      exact ⟨ne,h1⟩
  · rintro ⟨ne,e⟩
    exact ⟨b,List.mem_range.mpr (Heap.lt_size e),by rw [if_neg ne,e]; rfl⟩
theorem Je {Q : Value→Shared→Prop} {r q L : Addr} {n : Nat} {t u v : Tok} {m : Str→Option Value} {kz : List Int} (hh : A.in1.handled=none) (hr : IsRange s.heap r 0 n 1 t u v) (hn : n < 64) (hL : s.heap.Ns L m) (hkz : kz.length=n)
    (turn : ∀ (i : Nat) (t : Tok) (h : Heap) (tk : Nat),i < n→(∀ b o,b≠L→s.heap.get? b=some o→h.get? b=some o)→h.Ns L m →
      wpAny (model prog w) A.in1.in1 (call (.ref q) [.int i t]) (fun x s2=>∃ h2 tk2 t2,s2={ s with heap:=h2,toks:=tk2 }∧x = .int (kz.getD i 0) t2∧∀ b o,h.get? b=some o→h2.get? b=some o) (fun _ _=>False) { s with heap:=h,toks:=tk })
    (hQ : ∀ D h' tk out c,(∀ b o,b≠L→s.heap.get? b=some o→h'.get? b=some o)→h'.Ns L m→s.heap.objs.size≤D→h'.get? D=some (seqObj "list" out c)→(∃ vs : List Value,vs.length=n∧(∀ (i : Nat) (x : Value),vs[i]?=some x→∃ t,x=Value.int i t)∧KskOut false kz vs out.toList)→Q (.ref D) { s with heap:=h',toks:=tk }) :
    wpAny (model prog w) A (call (.builtin "sorted") [.ref r] [(Str.ofString "key",.ref q)]) Q E s:=by
  refine call_function_entry_kw kind_sorted plain_sorted entry_sorted (ksk_s1 _ _) ?_
  unfold Builtin.«sorted»
  refine wpAny_bind (m:=checkCount "sorted" 1 1 _) (wpAny_pure ?_)
  refine wpAny_bind (Wh hh hr hn fun h1 tk1 acc hs1 hk hacc=>?_)
  have hal : acc.toList.length=n:=by rw [Array.length_toList]; exact hacc.1
  have hit : ∀ (i : Nat) (x : Value),acc.toList[i]?=some x→∃ t,x=Value.int i t:=fun i x hx=>hacc.2 i x (by simpa using hx)
  refine wpAny_bind (wpAny_newList ?_ (by rw [sizeLine_eq]; omega))
  have hLlt : L < s.heap.objs.size:=hL.lt
  have hL1 : L < h1.objs.size:=by obtain ⟨o,es,ep,e,_⟩:=hL; exact Heap.lt_size (hk _ _ e)
  have hoL : (h1.push (seqObj "list" acc.toList.toArray 0)).get? h1.objs.size=some (seqObj "list" acc.toList.toArray 0):=Heap.get?_push_size _ rfl
  have kp : ∀ b o,s.heap.get? b=some o→(h1.push (seqObj "list" acc.toList.toArray 0)).get? b=some o:=fun b o e=>Heap.get?_push_of_some _ (hk b o e)
  have dn : h1.objs.size≠L:=Nat.ne_of_gt hL1
  have sz1 : s.heap.objs.size≤h1.objs.size:=Nat.le_of_lt hs1
  refine wpAny_bind (wpAny_holding (wpAny_call_entry_kw slot_list_sort ⟨_,hoL,rfl⟩ entry_list_sort ?body (ksk_l1 _ _)))
  case body =>
    show wpAny (model prog w) A.in1.in1 (Builtin.«list.sort» ⟨[.ref h1.objs.size],[(Str.ofString "key",.ref q)]⟩) _ _ _
    rw [ksk_t1]
    refine ksk_sort (h₀:={}) (L:=L) (m:=m) (news:=allOf s.heap L) (kz:=kz) ⟨hL.keeps kp,fun b o e=>absurd (show (none : Option Obj)=some o from e) (fun z=>nomatch z),Nat.zero_le _⟩ (fun p hp=>?_) hoL dn rfl (fun p hp=>?_) (by omega) (by omega) (fun i x k hx hk' h tk own F N=>?_) fun h' tk out c F' N' k'=>⟨_,rfl,?_⟩
    · obtain ⟨h2,h3⟩:=ZT.mp hp
      exact ⟨kp _ _ h3,h2,rfl⟩
    · obtain ⟨h2,h3⟩:=ZT.mp hp
      exact Nat.ne_of_lt (Heap.lt_size (hk _ _ h3))
    · obtain ⟨tx,rfl⟩:=hit i x hx
      have hi : i < n:=by rw [← hal]; exact (List.getElem?_eq_some_iff.mp hx).1
      have ek : kz.getD i 0=k:=by rw [List.getD_eq_getElem?_getD,hk']; rfl
      refine wpAny_mono (turn i tx h tk hi (fun b o ne e=>(N (b,o) (List.mem_append_left _ (ZT.mpr ⟨ne,e⟩))).1) F.ns) ?_ fun _ _ z=>z
      rintro x2 s2 ⟨h2,tk2,t2,rfl,rfl,hk2⟩
      exact ⟨h2,tk2,t2,rfl,by rw [ek],⟨F.ns.keeps hk2,fun b o e=>absurd (show (none : Option Obj)=some o from e) (fun z=>nomatch z),Nat.zero_le _⟩,fun p hp=>⟨hk2 _ _ (N p hp).1,(N p hp).2⟩⟩
    · refine wpAny_pure ⟨_,rfl,hQ _ h' tk out c (fun b o ne e=>(N' (b,o) (.tail _ (ZT.mpr ⟨ne,e⟩))).1) F'.ns sz1 (N' _ (.head _)).1 ⟨acc.toList,hal,hit,k'⟩⟩
end
end L20
namespace L20
open PySem PySem.Spec PyProof.Rows PySem.W L2 L3 L4 L6
section
variable {X : Cx} {pins : List (Addr × Obj)} {σ : L2.St} {H : Hp} {s : Shared}
theorem grown {t : Tab} {h' : Heap} {tk : Nat} {c : Addr} (I : Inv X pins σ H s) (hT : H t.P=some (.tbl #[])) (hx : Heap.ExtBut t.P s.heap h') (hge : s.heap.objs.size≤c) (hrec : h'.CodeRec (.ref c) t.qual) (htb : h'.get? t.P=some (tabObj #[t.ln,t.cl,.ref c])) :
    Inv X pins σ (upd (upd H c (.ext fun h=>h.CodeRec (.ref c) t.qual)) t.P (.tbl #[t.ln,t.cl,.ref c])) { s with heap:=h',toks:=tk }:=by
  have zfW : t.P < s.heap.objs.size:=I.hok.lt hT
  have ncP : c≠t.P:=fun z=>by rw [z] at hge; exact absurd (Nat.lt_of_lt_of_le zfW hge) (Nat.lt_irrefl _)
  have hc0 : H c=none:=I.hok.fresh hge
  have cP : ∀ {b : Addr} {o : Obj},s.heap.get? b=some o→b≠c:=fun e z=>by have:=Heap.lt_size e; rw [z] at this; exact absurd (Nat.lt_of_lt_of_le this hge) (Nat.lt_irrefl _)
  have nP : ∀ {b : Addr},H b=none→b≠t.P:=fun n z=>by rw [z,hT] at n; cases n
  have oth : ∀ {b : Addr},b≠c→b≠t.P→upd (upd H c (.ext fun h=>h.CodeRec (.ref c) t.qual)) t.P (.tbl #[t.ln,t.cl,.ref c]) b=H b:=fun n1 n2=>by rw [upd_ne n2,upd_ne n1]
  have Wl : ∀ {b : Addr} {o : HO},H b=some o→(∀ ps,o ≠ .tbl ps)→upd (upd H c (.ext fun h=>h.CodeRec (.ref c) t.qual)) t.P (.tbl #[t.ln,t.cl,.ref c]) b=some o:=fun {b o} e n=>by
    rw [oth (fun z=>by rw [z,hc0] at e; cases e) (fun z=>by rw [z,hT] at e; exact n _ (Option.some.inj e).symm)]
    exact e
  refine I.step (ch:=[]) (g':=s.gens) (d':=s.drawn) (fun _ z=>nomatch z) (fun b o _ _ _ e n=>hx b o (nP n) e) (fun b o _ _ _ e n=>⟨o.slots,hx b o (nP n) e⟩) (fun b o _ e n=>by rw [oth (cP e) (nP n)]; exact n) (fun b o _ e=>?_) (fun b xs e=>Wl e fun _ z=>nomatch z) (fun b o u e=>Wl e fun _ z=>nomatch z) (fun b ps e=>?_) (fun m hm=>?_) (fun b o e=>?_) I.bare
  · by_cases z : b=t.P
    · rw [z]; exact ⟨_,htb⟩
    · exact ⟨o,hx b o z e⟩
  · by_cases z : b=t.P
    · rw [z,hT] at e
      cases e
      exact ⟨#[t.ln,t.cl,.ref c],by rw [z,upd_same]; simp⟩
    · exact ⟨#[],by rw [oth (fun y=>by rw [y,hc0] at e; cases e) z,e]; simp⟩
  · obtain ⟨o,es,ep,e,r⟩:=hm
    exact ⟨o,es,ep,hx _ _ (nP I.free) e,r⟩
  · by_cases z : b=t.P
    · rw [z,upd_same] at e
      cases e
      rw [z]
      exact htb
    · rw [upd_ne z] at e
      by_cases y : b=c
      · rw [y,upd_same] at e
        cases e
        rw [y]
        obtain ⟨c₂,oc,vs,tq,e2,hoc,r⟩:=id hrec
        cases e2
        refine ⟨hrec,⟨_,hoc⟩,fun h1 h2 p k=>?_⟩
        obtain ⟨c₃,o3,vs3,tq3,e3,ho3,r3⟩:=p
        cases e3
        exact ⟨_,o3,vs3,tq3,rfl,k _ ho3,r3⟩
      · rw [upd_ne y] at e
        refine (I.hok b o e).stay (fun a u ha q=>?_) (fun a q=>Wl q fun _ z=>nomatch z) fun a xs q=>Wl q fun _ z=>nomatch z
        refine hx a u (fun w=>?_) q
        rcases ha with ha | ha
        · exact z (ha ▸ w)
        · rw [w,hT] at ha; cases ha
noncomputable def FnAt (t : Tab) (params : Arguments) (body : Expr) (scope : Scope) (cl : List (Str × Addr)) (f c : Addr) : HO := .ext fun h=>∃ pm ctv,h.get? f=some (kla_obj "<lambda>" t.qual params body scope cl pm c ctv)
theorem zcb {t : Tab} {params : Arguments} {body : Expr} {scope : Scope} {cl : List (Str × Addr)} {c : Addr} {pm ctv : Value} {h' : Heap} {tk : Nat} (I : Inv X pins σ H { s with heap:=h',toks:=tk }) (hP : ∃ o,H t.P=some o) (hc : ∃ o,H c=some o) :
    Inv X pins σ (upd H h'.objs.size (FnAt t params body scope cl h'.objs.size c)) { s with heap:=h'.push (kla_obj "<lambda>" t.qual params body scope cl pm c ctv),toks:=tk }∧h'.objs.size≠t.P∧h'.objs.size≠c:=by
  have g : (h'.push (kla_obj "<lambda>" t.qual params body scope cl pm c ctv)).get? h'.objs.size=some (kla_obj "<lambda>" t.qual params body scope cl pm c ctv):=Heap.get?_push_size _ rfl
  refine ⟨I.laid (t':=tk) (fun b u e=>Heap.get?_push_of_some _ e) (Nat.le_refl _) ⟨⟨pm,ctv,g⟩,⟨_,g⟩,fun h1 h2 ⟨pm,ctv,e⟩ k=>⟨pm,ctv,k _ e⟩⟩,fun z=>?_,fun z=>?_⟩
  · obtain ⟨o,e⟩:=hP
    exact absurd (I.hok.lt e) (by rw [← z]; exact Nat.lt_irrefl _)
  · obtain ⟨o,e⟩:=hc
    exact absurd (I.hok.lt e) (by rw [← z]; exact Nat.lt_irrefl _)
theorem zbs {t : Tab} {Q : Value→Shared→Prop} {E : Value→Shared→Prop} {c : Addr} {cl : List (Str × Addr)} {params : Arguments} {body : Expr} {scope : Scope} {vd : Pos} (I : Inv X pins σ H s) (hTb : Tb t H) (hdef : defaultsOf params X.env=([],[])) (hcl : closureFor scope X.env=pure cl) (hcode : X.env.code = .ref c) (C : CodeHd X.base c t.P) (hb : X.base.BuiltinsAt X.mg t.P)
    (hq : t.qual=X.env.qual ++ "<lambda>") (hln : t.ln=rawInt vd.line) (hcc : t.cl=rawInt vd.col)
    (h : ∀ H' h' tk f c',Inv X pins σ H' { s with heap:=h',toks:=tk }→Tb t H'→SB t H H'→H f=none→H' f=some (FnAt t params body scope cl f c')→H' c'=some (.ext fun h=>h.CodeRec (.ref c') t.qual)→Q (.ref f) { s with heap:=h',toks:=tk }) :
    wpAny (model X.prog X.w) X.A (eval (.Lambda params body scope vd) X.env) Q E s:=by
  have hg : s.heap.Ns mainGlobals X.mg:=I.mod.glob.keeps I.bk
  have hb' : s.heap.BuiltinsAt X.mg t.P:=by
    obtain ⟨bm,o,b1,b2,b3,b4,b5,b6⟩:=hb
    exact ⟨bm,o,b1,b2,b3,b4,I.bk _ _ b5,b6⟩
  have hgP : ∀ {ps},H t.P=some (.tbl ps)→mainGlobals≠t.P:=fun {ps} hT z=>by
    obtain ⟨o,es,ep,e,hd,_⟩:=I.mod.glob
    have:=(I.bs _ _ e).2
    rw [z,hT] at this
    cases this
  refine kla_eval hdef ?_
  rw [← hq]
  rcases hTb with hT | ⟨c',hT,hC⟩
  · have hP : s.heap.get? t.P=some (tabObj #[]):=I.hok _ _ hT
    refine kla_makeFunction hcl I.ok.glob hg hcode (C.keeps I.bk) hP trivial rfl (hgP hT) hb' fun c' ctv h' tk hx hge hlt hrec htb=>?_
    rw [← hln,← hcc] at htb
    have I':=grown (tk:=tk) I hT hx hge hrec (by rw [htb]; rfl)
    have ncP : c'≠t.P:=fun z=>by have:=I.hok.lt hT; rw [z] at hge; exact absurd (Nat.lt_of_lt_of_le this hge) (Nat.lt_irrefl _)
    obtain ⟨I2,nfP,nfc⟩:=zcb (t:=t) (params:=params) (body:=body) (scope:=scope) (cl:=cl) (pm:=(X.mg "__name__").getD .none) (ctv:=ctv) I' ⟨_,upd_same⟩ ⟨_,by rw [upd_ne ncP,upd_same]⟩
    have hf0 : H h'.objs.size=none:=I.hok.fresh (Nat.le_trans hge (Nat.le_of_lt hlt))
    refine h _ _ _ _ c' I2 (.inr ⟨c',by rw [upd_ne nfP.symm,upd_same],by rw [upd_ne nfc.symm,upd_ne ncP,upd_same]⟩) (fun b o n e=>?_) hf0 upd_same (by rw [upd_ne nfc.symm,upd_ne ncP,upd_same])
    rw [upd_ne (ne_of_none e hf0),upd_ne n,upd_ne (ne_of_none e (I.hok.fresh hge))]
    exact e
  · have hP : s.heap.get? t.P=some (tabObj #[t.ln,t.cl,.ref c']):=I.hok _ _ hT
    have hrec : s.heap.CodeRec (.ref c') t.qual:=(I.hok _ _ hC).1
    refine kla_makeFunctionHit (cv := .ref c') hcl I.ok.glob hg hcode (C.keeps I.bk) hP (by rw [hln,hcc]; trivial) (by rw [hln,hcc]; simp [codeAmong,rawInt]) hb' fun ctv h' tk hk hsz=>?_
    have I1:=I.kept (t':=tk) hk
    obtain ⟨I2,nfP,nfc⟩:=zcb (t:=t) (params:=params) (body:=body) (scope:=scope) (cl:=cl) (pm:=(X.mg "__name__").getD .none) (ctv:=ctv) I1 ⟨_,hT⟩ ⟨_,hC⟩
    have hf0 : H h'.objs.size=none:=I.hok.fresh hsz
    refine h _ _ _ _ c' I2 (.inr ⟨c',by rw [upd_ne nfP.symm]; exact hT,by rw [upd_ne nfc.symm]; exact hC⟩) (fun b o _ e=>?_) hf0 upd_same (by rw [upd_ne nfc.symm]; exact hC)
    rw [upd_ne (ne_of_none e hf0)]
    exact e
end
end L20
namespace L20
open PySem PySem.Spec PyProof.Rows PySem.W L2 L3 L4 L6
section
variable {X : Cx}
noncomputable def zdf (te : TE) : TE:=fun σ H Q=>te σ H fun v H1=>∃ (n : Nat),v = .int (n : Nat)∧∀ r,H1 r=none→Q (.ref r) (upd H1 r (.rng 0 n))
theorem zbt {sc : Scope} {e : Expr} {te : TE} {p pos : Pos} (h1 : X.env.scope=sc) (hg : glB sc "range"=true) (hm : X.mg "range"=none) (he : PE X e te) (hs : starEach [e] X.env=(false,eval e X.env) :: starEach [] X.env:=by rfl) : PE X (.Call (.Name "range" p) [e] [] pos) (zdf te):=by
  intro pins s σ H Q I h
  refine wpAny_Call_Name_kw (ld_blt I (glN h1 hg).1 hm boot_range (PyProof.Rows.callWith_type1 (thn ((pa_cons he pa_nil hs) pos pins s σ H (fun vs H1=>match vs with | [v]=>∃ n : Nat,v = .int (n : Nat)∧∀ r,H1 r=none→Q (.ref r) (upd H1 r (.rng 0 n)) | _=>False) I h) fun us s1 ⟨vs,H1,I1,r1,q1⟩=>?_) hs rfl) (glN h1 hg).2.2 (glN h1 hg).2.1)
  match vs,r1,q1 with
  | [],_,q1=>exact q1.elim
  | _ :: _ :: _,_,q1=>exact q1.elim
  | [v],r1,q1 =>
    obtain ⟨n,hv,q⟩:=q1
    subst hv
    obtain ⟨u,rfl,tt,rfl⟩:=vals1 r1
    refine call_range_1 ⟨.ref s1.heap.objs.size,upd H1 s1.heap.objs.size (.rng 0 n),?_,rfl,q _ (I1.hok.fresh (Nat.le_refl _))⟩
    exact I1.laid (fun b u e=>Heap.get?_push_of_some _ e) (Nat.le_refl _) ⟨_,_,_,Heap.get?_push_size _ rfl⟩
noncomputable def zfX (t : Tab) (params : Arguments) (body : Expr) (scope : Scope) (cl : List (Str × Addr)) : TE:=fun _ H Q=>Tb t H∧∀ H' f c,Tb t H'→SB t H H'→H f=none→H' f=some (FnAt t params body scope cl f c)→H' c=some (.ext fun h=>h.CodeRec (.ref c) t.qual)→Q (.ref f) H'
theorem zdg {t : Tab} {c : Addr} {cl : List (Str × Addr)} {params : Arguments} {body : Expr} {scope : Scope} {vd : Pos} (hdef : defaultsOf params X.env=([],[])) (hcl : closureFor scope X.env=pure cl) (hcode : X.env.code = .ref c) (C : CodeHd X.base c t.P) (hb : X.base.BuiltinsAt X.mg t.P)
    (hq : t.qual=X.env.qual ++ "<lambda>") (hln : t.ln=rawInt vd.line) (hcc : t.cl=rawInt vd.col) : PE X (.Lambda params body scope vd) (zfX t params body scope cl):=by
  intro pins s σ H Q I h
  obtain ⟨hT,h⟩:=h
  exact zbs I hT hdef hcl hcode C hb hq hln hcc fun H' h' tk f c' I' t' sb' hf0 hf hc=>⟨.ref f,H',I',rfl,h H' f c' t' sb' hf0 hf hc⟩
noncomputable def ZF : Value→Nat
  | .int z _=>z.toNat
  | _=>0
theorem Vc : ∀ {ps : List (Int × Value)},(∀ p∈ps,∃ t,p.2=Value.int (ZF p.2 : Nat) t)→Vals (nV (ps.map fun p=>ZF p.2)) (ps.map Prod.snd)
  | [],_ => .nil
  | p :: r,h=>by
    obtain ⟨t,e⟩:=h p List.mem_cons_self
    exact .cons ⟨t,e⟩ (Vc fun q hq=>h q (List.mem_cons_of_mem _ hq))
theorem zdh {ks : List Nat} {n : Nat} {vs out : List Value} (hl : ks.length=n) (hv : vs.length=n) (hi : ∀ (i : Nat) (x : Value),vs[i]?=some x→∃ t,x=Value.int i t) (hk : KskOut false (ks.map fun k : Nat=>(k : Int)) vs out) :
    ∃ ord : List Nat,Vals (nV ord) out∧ord.Perm (List.range n)∧ord.Pairwise fun a b=>ks.getD a 0≤ks.getD b 0:=by
  obtain ⟨ps,hp,rfl,hs⟩:=hk
  have at_ : ∀ p∈(ks.map fun k : Nat=>(k : Int)).zip vs,∃ i t,i < n∧p=(((ks.getD i 0 : Nat) : Int),Value.int i t):=fun p hm=>by
    obtain ⟨i,hi',e⟩:=List.getElem_of_mem hm
    rw [List.length_zip,List.length_map] at hi'
    have hin : i < n:=by omega
    rw [List.getElem_zip,List.getElem_map] at e
    obtain ⟨t,ht⟩:=hi i _ (List.getElem?_eq_getElem (by omega))
    refine ⟨i,t,hin,?_⟩
    rw [← e,ht,List.getD_eq_getElem?_getD,List.getElem?_eq_getElem (by omega)]
    rfl
  have ok : ∀ p∈ps,(∃ t,p.2=Value.int (ZF p.2 : Nat) t)∧p.1=((ks.getD (ZF p.2) 0 : Nat) : Int):=fun p hm=>by
    obtain ⟨i,t,_,rfl⟩:=at_ p (hp.mem_iff.mp hm)
    exact ⟨⟨t,rfl⟩,rfl⟩
  refine ⟨ps.map fun p=>ZF p.2,Vc fun p hm=>(ok p hm).1,?_,?_⟩
  · refine (hp.map fun p=>ZF p.2).trans ?_
    rw [show ((ks.map fun k : Nat=>(k : Int)).zip vs).map (fun p=>ZF p.2)=List.range n from ?_]
    refine List.ext_getElem (by rw [List.length_map,List.length_zip,List.length_map,List.length_range]; omega) fun i h1 h2=>?_
    rw [List.length_range] at h2
    rw [List.getElem_map,List.getElem_zip,List.getElem_range]
    obtain ⟨t,ht⟩:=hi i _ (List.getElem?_eq_getElem (by omega))
    show ZF vs[i]=i
    rw [ht]
    rfl
  · refine List.pairwise_map.mpr (List.Pairwise.imp_of_mem (fun {p q} h1 h2 h3=>?_) hs)
    have e1:=(ok p h1).2
    have e2:=(ok q h2).2
    simp only [Bool.false_eq_true,if_false] at h3
    rw [e1,e2] at h3
    omega
theorem zbu {t : Tab} {i : Nat} {x y : Str} {sc : Scope} {c : Addr} {e : Expr} {params : Arguments} {scope : Scope} {vd p p2 p3 pos kp p4 p5 p6 : Pos} {kt : Option Str} (hr : Room 2 X.A) (hc : X.calm=true) (h1 : X.env.scope=sc) (hg1 : glB sc "sorted"=true) (hg2 : glB sc "range"=true) (hm1 : X.mg "sorted"=none) (hm2 : X.mg "range"=none)
    (hlen : PE X e (tCB (L4.zfI X.K) (tCons (tVar i) tNil))) (hN : X.N[i]?=some x) (hcl : ∀ cx,X.env.cells.lookup x=some cx→closureFor scope X.env=pure [(x,cx)]) (hkx : X.env.kindOf x=some .cell) (zfY : Vis X.env.scope x)
    (hdef : defaultsOf params X.env=([],[])) (hcode : X.env.code = .ref c) (C : CodeHd X.base c t.P) (hb : X.base.BuiltinsAt X.mg t.P) (hq : t.qual=X.env.qual ++ "<lambda>") (hln : t.ln=rawInt vd.line) (hcc : t.cl=rawInt vd.col)
    (hco : scope.isCoroutine=false) (hgen : scope.isGenerator=false) (hk : scope.kind = .function) (hnc : ∀ z∈scope.names,z.2 ≠ .cell) (hx : scope.names.lookup x=some .free) (hy : scope.names.lookup y=some .local)
    (hbind : ∀ (cx c' : Addr) (pm ctv u : Value),bindArgs (kla_fn "<lambda>" t.qual params (.Subscript (.Name x p4) (.Name y p5) p6) scope [(x,cx)] pm (.ref c') ctv) ⟨[u],[]⟩=pure [(y,u)])
    (hdx : (x == ("__debug__" : Str))=false) (hdy : (y == ("__debug__" : Str))=false) (hcx : (x == ("__classdict__" : Str))=false)
    (hks : (backToKw pos (keywordEach [⟨kt,.Lambda params (.Subscript (.Name x p4) (.Name y p5) p6) scope vd,kp⟩] X.env)).filterMap (·.1)=[("key" : Str)]:=by rfl) (hall : (backToKw pos (keywordEach [⟨kt,.Lambda params (.Subscript (.Name x p4) (.Name y p5) p6) scope vd,kp⟩] X.env)).all (·.1.isSome)=true:=by rfl) (he : backTo pos (starEach [Expr.Call (.Name "range" p2) [e] [] p3] X.env)=(false,eval (.Call (.Name "range" p2) [e] [] p3) X.env) :: backTo pos (starEach [] X.env):=by rfl)
    (hpl : (backTo pos (starEach [Expr.Call (.Name "range" p2) [e] [] p3] X.env)).any (·.1)=false:=by rfl) (hkn : (backToKw pos (keywordEach [⟨kt,.Lambda params (.Subscript (.Name x p4) (.Name y p5) p6) scope vd,kp⟩] X.env)).any (·.1.isNone)=false:=by rfl) (hs : starEach [e] X.env=(false,eval e X.env) :: starEach [] X.env:=by rfl) :
    PE X (.Call (.Name "sorted" p) [.Call (.Name "range" p2) [e] [] p3] [⟨kt,.Lambda params (.Subscript (.Name x p4) (.Name y p5) p6) scope vd,kp⟩] pos) (zdd X.K t i):=by
  intro pins s σ H Q I h
  obtain ⟨pk,ks,hσ,hq0,hn,hT,hQ⟩:=h
  obtain ⟨cx,zbv⟩:=I.ok.has x (.inl hkx)
  have zfZ:=hcl cx zbv
  have n1 : ∀ r,H r=none→L20.Tb t (upd H r (.rng 0 ks.length)):=fun r hr0=>hT.same (Same.zp hr0)
  refine wpAny_Call_Name_kw (ld_blt I (glN h1 hg1).1 hm1 vP (PyProof.Rows.callWith_kw (thn ((pa_cons (zbt h1 hg2 hm2 hlen hs) pa_nil) pos pins s σ H (fun vs H1=>∃ r,vs=[.ref r]∧H r=none∧H1=upd H r (.rng 0 ks.length)) I ⟨.ref pk,hσ,.ref pk,ks.length,rfl,.inl ⟨_,hq0,by unfold nV; rw [List.length_map]⟩,ks.length,rfl,fun r hr0=>⟨r,rfl,hr0,rfl⟩⟩) fun us s1 ⟨vs,H1,I1,r1,r,ev,hr0,eH⟩=>?_) he hpl hall hkn) (glN h1 hg1).2.2 (glN h1 hg1).2.1)
  subst ev eH
  obtain ⟨u,rfl,ru⟩:=vals1 r1
  cases ru
  refine thn ((pk_cons (zdg hdef zfZ hcode C hb hq hln hcc) pk_nil) pos pins s1 σ _ (fun zs H3=>∃ f c',zs=[.ref f]∧Tb t H3∧SB t (upd H r (.rng 0 ks.length)) H3∧H3 f=some (FnAt t params (.Subscript (.Name x p4) (.Name y p5) p6) scope [(x,cx)] f c')∧H3 c'=some (.ext fun h=>h.CodeRec (.ref c') t.qual)) I1 ⟨n1 r hr0,fun H3 f c' t3 sb3 _ hf hc'=>⟨f,c',rfl,t3,sb3,hf,hc'⟩⟩) fun ws s2 ⟨zs,H3,I3,rz,f,c',ez,t3,sb3,hf,hc'⟩=>?_
  subst ez
  obtain ⟨u2,rfl,ru2⟩:=vals1 rz
  cases ru2
  rw [hks]
  show wpAny _ _ (call (.builtin "sorted") [.ref r] [(Str.ofString "key",.ref f)]) _ _ _
  have t2:=n1 r hr0
  have hrP : r≠t.P:=fun z=>by
    rw [z] at t2
    rcases t2 with y | ⟨_,y,_⟩ <;> rw [upd_same] at y <;> cases y
  obtain ⟨its,rv,pl,hz⟩:=I3.list (sb3.seq t2 ((Same.zp hr0).seq hq0))
  obtain ⟨ta,ub,vc,zf0⟩ : ∃ ta ub vc,s2.heap.get? r=some { cls := .type "range",data := .fields #[.int 0 ta,.int (ks.length : Nat) ub,.int 1 vc] }:=I3.hok r (.rng 0 ks.length) (sb3 r _ hrP upd_same)
  obtain ⟨m,hns,ze6⟩:=I3.loc
  obtain ⟨uu,hru,hlk⟩:=ze6 i x (.ref pk) hN hσ zfY
  have hcell : s2.heap.IsCell cx (some (.ref pk)):=by
    cases hru
    rcases hlk with ⟨z,_⟩ | ⟨_,c2,e2,z⟩
    · rw [hkx] at z; cases z
    · rw [zbv] at e2; cases e2; exact z
  have hl:=rv.length
  rw [show (nV ks).length=ks.length by unfold nV; rw [List.length_map]] at hl
  have nL : ∀ {b : Addr} {o : HO},H3 b=some o→b≠X.env.locals:=fun e=>ne_of_none e I3.free
  have bL : ∀ {b : Addr} {o : Obj},X.base.get? b=some o→b≠X.env.locals:=fun e=>Nat.ne_of_lt (Nat.lt_of_lt_of_le (Heap.lt_size e) (Nat.le_trans I3.ok.bsz I3.ok.above))
  obtain ⟨⟨pm,ctv,hfo⟩,_⟩:=I3.hok f _ hf
  obtain ⟨hrec,_⟩:=I3.hok c' _ hc'
  refine Je (L:=X.env.locals) (m:=m) (kz:=ks.map fun k : Nat=>(k : Int)) (by show X.A.handled=none; exact I3.ok.hd hc) zf0 hn hns (by rw [List.length_map]) (fun i' t' h' tk hi' hkeep zbw=>?_) fun D h' tk out co hkeep zbw hD eD hko=>?_
  · obtain ⟨v',ev,tv,rfl⟩:=rv.get (x:=V.int (ks.getD i' 0 : Nat)) (i:=i') (by unfold nV; rw [List.getElem?_map,List.getD_eq_getElem?_getD,List.getElem?_eq_getElem hi']; rfl)
    have pkL : pk≠X.env.locals:=fun z=>by
      obtain ⟨o,e1,_,n0,e2⟩:=pl.isList
      obtain ⟨o2,es,ep,e3,e4,_⟩:=hns
      rw [z,e3] at e1
      cases e1
      rw [e4] at e2
      cases e2
    refine zbr (c:=cx) (c':=c') (pk:=pk) (its:=its.toArray) (x:=x) (y:=y) (p1:=p4) (p2:=p5) (p3:=p6) (params:=params) (scope:=scope) (pm:=pm) (ctv:=ctv) (qual:=t.qual) ?_ (hkeep f _ (nL hf) hfo) ?_ ?_ (pl.isList.at fun o e=>hkeep pk o pkL e) (by simpa using ev) (I3.mod.nolimit.keeps fun b o e=>hkeep b o (bL e) (I3.bk b o e)) (by rw [List.size_toArray]; omega) hco hgen hk hnc hx hy (hbind cx c' pm ctv) hdx hdy hcx fun h2 tk2 kk=>⟨h2,tk2,tv,rfl,?_,kk⟩
    · have:=hr.dp
      show X.A.depth < recursionLimit
      omega
    · obtain ⟨c₂,oc,vs,tq,e2,hoc,rr⟩:=hrec
      cases e2
      exact ⟨_,oc,vs,tq,rfl,hkeep _ _ (nL hc') hoc,rr⟩
    · obtain ⟨o,ho,hd⟩:=hcell
      exact ⟨o,hkeep cx o (I3.cne x cx zbv) ho,hd⟩
    · rw [show (ks.map fun k : Nat=>(k : Int)).getD i' 0=((ks.getD i' 0 : Nat) : Int) by rw [List.getD_eq_getElem?_getD,List.getElem?_map,List.getD_eq_getElem?_getD,List.getElem?_eq_getElem hi']; rfl]
      try rw [List.getD_eq_getElem?_getD]
  · obtain ⟨vs,lv,hiv,hko⟩:=hko
    obtain ⟨ord,vo,po,pwo⟩:=zdh rfl lv hiv hko
    have hD3 : H3 D=none:=I3.hok.fresh hD
    have tb4 : Tb t (upd H3 D (.lst (nV ord))):=t3.same (Same.zp hD3)
    have sb4 : SB t H (upd H3 D (.lst (nV ord))):=fun b o n e=>Same.zp hD3 b o (sb3 b o n (Same.zp hr0 b o e))
    refine ⟨.ref D,upd H3 D (.lst (nV ord)),?_,rfl,hQ _ D ord tb4 sb4 ?_ upd_same po pwo⟩
    · refine I3.step (ch:=[]) (g':=s2.gens) (d':=s2.drawn) (fun _ z=>nomatch z) (fun b o n _ _ e _=>hkeep b o n e) (fun b o n _ _ e _=>⟨o.slots,hkeep b o n e⟩) (fun b o _ e n=>?_) (fun b o _ e=>?_) (fun b xs e=>by rw [upd_ne (ne_of_none e hD3)]; exact e) (fun b o u e=>by rw [upd_ne (ne_of_none e hD3)]; exact e) (fun b ps e=>⟨#[],by rw [upd_ne (ne_of_none e hD3),e]; simp⟩) (fun m' hm'=>?_) (fun b o e=>?_) I3.bare
      · have hb : b≠D:=fun z=>by have:=Heap.lt_size e; rw [z] at this; exact absurd (Nat.lt_of_lt_of_le this hD) (Nat.lt_irrefl _)
        rw [upd_ne hb]
        exact n
      · by_cases z : b=X.env.locals
        · obtain ⟨o',_,_,e',_⟩:=zbw
          exact ⟨o',by rw [z]; exact e'⟩
        · exact ⟨o,hkeep b o z e⟩
      · rw [hm'.eq_nsMap,← hns.eq_nsMap]
        exact zbw
      · by_cases z : b=D
        · rw [z,upd_same] at e
          cases e
          rw [z]
          refine ⟨?_,out.toList,co,vo,by rw [eD]⟩
          have h1:=po.length_eq
          rw [List.length_range] at h1
          unfold nV
          rw [List.length_map,h1,sizeLine_eq]
          omega
        · rw [upd_ne z] at e
          refine (I3.hok b o e).stay (fun b' u' hb' q'=>hkeep b' u' ?_ q') (fun a q'=>by rw [upd_ne (ne_of_none q' hD3)]; exact q') fun a xs q'=>by rw [upd_ne (ne_of_none q' hD3)]; exact q'
          rcases hb' with y | y
          · rw [y]; exact nL e
          · exact nL y
    · exact sb3.free t3 hD3 |> fun z=>(Same.zp (o := .rng 0 ks.length) hr0).free z
end
end L20
namespace L20
open PySem PySem.Spec PyProof.Rows PySem.W L2 L3 L4 L6
structure ze7 (base : Heap) (mg : Str→Option Value) (t : Tab) (fd : FuncData) : Prop where
  code : ∃ c,fd.code = .ref c∧CodeHd base c t.P
  blt : base.BuiltinsAt mg t.P
theorem okC {P : Program} {w : World} {K : Frag} {mg : Str→Option Value} {base : Heap} {x qual : Str} {st : Stmt} {f : Addr} {fd : FuncData} {N ps : List Str} {k : Nat} {sp : Sp} (F : Fun K x qual st f fd) (S : FnScope N ps (defScope st)) (len : ∀ vs H Q E,sp vs H Q E→vs.length=ps.length)
    (body : ∀ cdv : Value,fd.code=cdv→∀ (A : Around) (outer : List Env) (s : Shared) (H : Hp) (vs : List V) (Q : VK) (E : XK),Room k (A.deeper (envOfC qual (defScope st) s.heap.objs.size f cdv))→sp vs H Q E →
      ∃ t,PSs (cxOf CX0 P w K mg base N qual (defScope st) f cdv A outer s H E).nox (defBody st) t∧t { nx:=fun _ H'=>Q .non H',rt:=Q } (start N vs) H) : FnOk P w K mg base CX0 (k + 1) f fd ps sp:=by
  obtain ⟨_,_,_,_,_,_,cdv,_,_,rfl,lk,hcd⟩:=F.ex
  exact fn_of lk hcd S len fun A outer s H vs Q E r h=>let ⟨t,h1,h2⟩:=body cdv rfl A outer s H vs Q E r h; ⟨t,h1.nox,h2⟩
structure wB (P : Program) (w : World) (K : Frag) (h : Heap) (H : Hp) : Prop where
  ok : HOk P w H h
  out : ∀ b o,H b=some o→K.lookup b=none
  kind : ∀ b o,H b=some o→(∃ ob xs,o = .frz ob (.lst xs))∨(o = .tbl #[]∧isCodeTable h b)
variable {P : Program} {w : World} {K : Frag} {h : Heap} {H : Hp}
theorem wB.noDict (B : wB P w K h H) {b : Addr} {o : Obj} {es : Array DictEntry} {n : Nat} (e : h.get? b=some o) (d : o.data = .dict es n) : H b=none:=by
  cases z : H b with
  | none=>rfl
  | some u =>
    have hu:=B.ok b u z
    rcases B.kind b u z with ⟨ob,xs,rfl⟩ | ⟨rfl,_⟩
    · obtain ⟨e1,_,vs,_,_,e2⟩:=hu
      rw [e1] at e2
      rw [e] at e1
      cases e1
      cases e2
      cases d
    · have e1 : h.get? b=some (tabObj #[]):=hu
      rw [e] at e1
      cases e1
      cases d
theorem wB.seen (B : wB P w K h H) {b : Addr} {m : Str→Option Value} (n : h.Ns b m) : (hidT h H).Ns b m:=by
  obtain ⟨o,es,k,e,d,r⟩:=n
  exact ⟨o,es,k,hidT_get e (B.noDict e d),d,r⟩
theorem wB.kin (B : wB P w K h H) (X : K.In h) : K.In (hidT h H):=fun b o e=>hidT_get (X b o e) (by
  cases z : H b with
  | none=>rfl
  | some u=>rw [B.out b u z] at e; cases e)
theorem wB.old (B : wB P w K h H) {H' : Hp} {h' : Heap} (u : Un [] [] H H' h h') (ok' : HOk P w H' h') : OldK h h':=by
  have one : ∀ b o,h.get? b=some o→asItWas h h' b o:=fun b o e=>by
    cases z : H b with
    | none=>exact .inl (u.keep b o e z (fun y=>nomatch y) fun y=>nomatch y)
    | some v =>
      have hv:=B.ok b v z
      rcases B.kind b v z with ⟨ob,xs,rfl⟩ | ⟨rfl,ht⟩
      · obtain ⟨e1,_⟩:=hv
        obtain ⟨e2,_⟩:=ok' b _ (u.frzs b ob _ z)
        rw [e] at e1
        cases e1
        exact .inl e2
      · have e1 : h.get? b=some (tabObj #[]):=hv
        obtain ⟨more,e2⟩:=u.tbls b _ z
        have e3 : h'.get? b=some (tabObj (#[] ++ more)):=ok' b _ e2
        rw [e] at e1
        cases e1
        exact .inr (.inl ⟨ht,rfl,#[],more,rfl,e3⟩)
  exact ⟨one,fun b o e=>u.there b o e fun y=>nomatch y⟩
theorem begin {mg mb : Str→Option Value} {k : Nat} {fa a : Addr} {fd : FuncData} {x : Str} {sp : Sp} {s : Shared} (B : wB P w K s.heap H) (X : K.In s.heap) (g : s.heap.Ns mainGlobals mg) (b : s.heap.Ns builtinsNs mb) (bb : ∀ x : Str,x≠"__name__"→mb x=bootBuiltins x) (lim : s.heap.NoLimit) (hg : s.gens=#[]) (hr : Room k callerA)
    (F : FnOk P w K mg (hidT s.heap H) CX0 k fa fd [x] sp) (bind : BindsTo s fd ⟨[.ref a],[]⟩ [(x,.ref a)]) (hsp : sp [.ref a] H (fun v _=>v = .bl true) fun _ _ _=>False) :
    codeAny (model P w) callerA (.call (.ref fa) ⟨[.ref a],[]⟩) (fun r s'=>r = .ok (.ret (.bool true))∧OldK s.heap s'.heap∧s'.os=s.os∧AllBare s'.gens) s:=by
  have M : Mod K mg (hidT s.heap H):=⟨B.kin X,B.seen g,⟨mb,B.seen b,bb⟩,lim.elim fun m z=>⟨m,B.seen z.1,z.2⟩⟩
  have E : Env0 P w K mg (hidT s.heap H) callerA [] s H:={ frames:=rfl,mod:=M,bs:=fun _ _ e=>of_hidT e,bsz:=Nat.le_of_eq (hidT_size _ _),funs:=trivial,frf:=(fun _ z=>nomatch z),hok:=B.ok,bare := .of_eq hg }
  refine codeAny_mono (F.run callerA [] s H ⟨[.ref a],[]⟩ [.ref a] [.ref a] _ _ hr E bind (.cons rfl .nil) hsp) ?_
  rintro (e | (_ | _ | _ | u)) s' q
  · exact q.elim
  all_goals first | exact False.elim q | skip
  obtain ⟨v,H',os,bare,un,ok',rv,e⟩:=q
  have e' : v = .bl true:=e
  rw [e'] at rv
  have e2 : u=Value.bool true:=rv
  exact ⟨by rw [e2],B.old un ok',os,bare⟩
theorem wB.zcQ (B : wB P w K h H) {b : Addr} {o : Obj} (e : h.get? b=some o) (d : o.data = .plain) : H b=none:=by
  cases z : H b with
  | none=>rfl
  | some u =>
    have hu:=B.ok b u z
    rcases B.kind b u z with ⟨ob,xs,rfl⟩ | ⟨rfl,_⟩
    · obtain ⟨e1,_,vs,_,_,e2⟩:=hu
      rw [e1] at e2
      rw [e] at e1
      cases e1
      cases e2
      cases d
    · have e1 : h.get? b=some (tabObj #[]):=hu
      rw [e] at e1
      cases e1
      cases d
theorem begun {a P0 c : Addr} {vs : List Value} {ns : List Int} (X : K.In h) (ha : h.get? a=some { cls := .type "list",data := .seq vs.toArray }) (hi : IntsAre vs ns) (hl : ns.length≤sizeLine) (hP : h.get? P0=some (tabObj #[])) (C : CodeHd h c P0) (hK : K.lookup P0=none) :
    ∃ H,wB P w K h H∧SqL K H a (ns.map V.int)∧H P0=some (.tbl #[]):=by
  have ne : a≠P0:=fun z=>by
    rw [z,hP] at ha
    cases ha
  have rv:=vals_ints hi
  have T : isCodeTable h P0:=(C.tab hP).isCodeTable
  cases z : K.lookup a with
  | some o =>
    have e:=X a o z
    rw [ha] at e
    cases e
    refine ⟨upd (fun _=>none) P0 (.tbl #[]),⟨fun b o e=>?_,fun b o e=>?_,fun b o e=>?_⟩,.inr ⟨_,vs.toArray,_,z,rfl,rfl,rfl,by rw [List.size_toArray,hi.length]; exact hl,by simpa using rv⟩,upd_same⟩
    all_goals
      by_cases y : b=P0
      · rw [y,upd_same] at e
        cases e
        rw [y]
        first | exact hP | exact hK | exact .inr ⟨rfl,T⟩
      · rw [upd_ne y] at e
        cases e
  | none =>
    refine ⟨upd (upd (fun _=>none) a (.frz { cls := .type "list",data := .seq vs.toArray } (.lst (ns.map V.int)))) P0 (.tbl #[]),⟨fun b o e=>?_,fun b o e=>?_,fun b o e=>?_⟩,.inl (.inr ⟨_,by rw [upd_ne ne,upd_same]⟩),upd_same⟩
    all_goals
      by_cases y : b=P0
      · rw [y,upd_same] at e
        cases e
        rw [y]
        first | exact hP | exact hK | exact .inr ⟨rfl,T⟩
      · rw [upd_ne y] at e
        by_cases y2 : b=a
        · rw [y2,upd_same] at e
          cases e
          rw [y2]
          first | exact ⟨ha,by rw [List.length_map]; exact hl,vs,_,rv,ha⟩ | exact z | exact .inl ⟨_,_,rfl⟩
        · rw [upd_ne y2] at e
          cases e
theorem ze8 {l : OpenLaw} {n k : Nat} {q : Program} {loose : List Str} {XP : (Str→Option Value)→Heap→Prop} {YP : World→Heap→Prop} {d : DefRec} {K : Params→Frag} {sp : Frag→Tab→Sp} {x : Str} {P0 : Addr}
    (hn : l.most=some n) (hn2 : n≤sizeLine) (hdf : d.params.defaults=[]) (hr : Room k callerA) (hY : ∀ (w : World) (h : Heap),YP w h→(K w.params).In h∧h.get? P0=some (tabObj #[]))
    (F : ∀ (w : World) (mg : Str→Option Value) (fa : Addr) (h : Heap),(K w.params).In h→h.Ns mainGlobals mg→mg d.name=some (.ref fa)→∃ (fd : FuncData) (t : Tab) (c : Addr),t.P=P0∧codeHdIn (K w.params) c P0=true∧(K w.params).lookup P0=none ∧
      (∀ (s : Shared) (u : Value),BindsTo s fd ⟨[u],[]⟩ [(x,u)])∧∀ base : Heap,(K w.params).In base→base.Ns mainGlobals mg→base.BuiltinsAt mg P0→FnOk l.prog w (K w.params) mg base CX0 k fa fd [x] (sp (K w.params) t))
    (hsp : ∀ (K : Frag) (t : Tab) (H : Hp) (a : Addr) (ns : List Int),ns.length≤n→Tb t H→SqL K H a (ns.map V.int)→sp K t [.ref a] H (fun v _=>v = .bl true) fun _ _ _=>False) :
    WalkO q loose XP YP l.row.toRowW d [] (fun f vs=>PySem.call f vs):=by
  refine Att.attach_call hn hdf fun w s₀ s₁ mg mb fa o pm cd doc a vs ns G Y ho hd hcd hmg hobj hints hlen hg=>?_
  obtain ⟨KX,hP⟩:=hY w _ Y
  obtain ⟨fd,t,c,rfl,hC,hK,hb,hF⟩:=F w mg fa _ KX G.T.g hmg
  obtain ⟨H,B,hS,hT⟩:=begun (P:=l.prog) (w:=w) KX hobj hints (Nat.le_trans hlen hn2) hP (codeHd_of_K KX hC) hK
  refine begin B KX G.T.g G.T.b G.T.builtins G.T.nolimit hg hr (hF _ (B.kin KX) (B.seen G.T.g) ?_) (hb s₁ _) (hsp _ t H a ns hlen (.inl hT) hS)
  obtain ⟨bm,ob,h1,h2,h3,h4,h5,h6⟩:=G.T.bmain
  refine ⟨bm,ob,h1,h2,fun z=>?_,fun z=>?_,hidT_get h3 (B.zcQ h3 h6),h4,h5,h6⟩
  · obtain ⟨o',es,ep,e,d',_⟩:=G.T.g
    rw [← z,h3] at e
    cases e
    rw [h6] at d'
    cases d'
  · rw [z,hP] at h3
    cases h3
    cases h4
end L20
namespace CA
section
variable {n m : Nat} {c : Nat→Nat→Int} {fit X Y : Nat→Nat→Bool} {want zu za left a b : Nat→Int}
noncomputable def shw (n m : Nat) (c : Nat→Nat→Int) (fit : Nat→Nat→Bool) (want zu a b : Nat→Int) : Int :=
  sz (fun p=>want p * b p) n + sz (fun w=>zu w * a w) m + sz (fun p=>sz (fun w=>if fit p w then max 0 (c w p - b p - a w) else 0) m) n
theorem zdi (ha : ∀ w,w < m→0≤a w) (hb : ∀ p,p < n→0≤b p) (D : yH n m fit want zu Y) : sum n m c Y≤shw n m c fit want zu a b:=by
  rw [jD c a b Y]
  unfold shw
  have e1 : sum n m (fun w p=>c w p - a w - b p) Y≤sz (fun p=>sz (fun w=>if fit p w then max 0 (c w p - b p - a w) else 0) m) n:=by
    refine xK fun p hp=>xK fun w hw=>?_
    cases hy : Y p w with
    | true =>
      rw [D.ft p w hp hw hy]
      simp only [one,if_true]
      omega
    | false =>
      simp only [one,Bool.false_eq_true,if_false,Int.zero_mul]
      split <;> omega
  have e2 : sz (fun w=>a w * cW n Y w) m≤sz (fun w=>zu w * a w) m:=xK fun w hw=>by
    rw [Int.mul_comm (zu w)]
    exact Int.mul_le_mul_of_nonneg_left (D.wk w hw) (ha w hw)
  have e3 : sz (fun p=>b p * cP m Y p) n≤sz (fun p=>want p * b p) n:=xK fun p hp=>by
    rw [Int.mul_comm (want p)]
    exact Int.mul_le_mul_of_nonneg_left (D.pl p hp) (hb p hp)
  omega
theorem zdj (D : zX n m c fit X za left 0 a b) (K : Kept n m fit want zu X za left) : shw n m c fit want zu a b=sum n m c X:=by
  rw [jD c a b X]
  unfold shw
  have e1 : sz (fun p=>sz (fun w=>if fit p w then max 0 (c w p - b p - a w) else 0) m) n=sum n m (fun w p=>c w p - a w - b p) X:=by
    refine zC fun p hp=>zC fun w hw=>?_
    cases hX : X p w with
    | true =>
      have h:=D.dn p w hp hw hX
      rw [K.ft p w hp hw hX]
      simp only [one,if_true]
      omega
    | false =>
      simp only [one,Bool.false_eq_true,if_false,Int.zero_mul]
      cases hf : fit p w with
      | true =>
        have h:=D.up p w hp hw hf hX
        simp only [if_true]
        omega
      | false=>simp only [Bool.false_eq_true,if_false]
  have e2 : sz (fun w=>zu w * a w) m=sz (fun w=>a w * cW n X w) m:=zC fun w hw=>by
    have h:=K.wk w hw
    have h0:=K.f0 w hw
    by_cases z : 0 < left w
    · rw [D.af w hw z,Int.mul_zero,Int.zero_mul]
    · rw [← h,show left w=0 by omega,Int.add_zero,Int.mul_comm]
  have e3 : sz (fun p=>want p * b p) n=sz (fun p=>b p * cP m X p) n:=zC fun p hp=>by
    have h:=K.pl p hp
    have h0:=K.s0 p hp
    by_cases z : 0 < za p
    · rw [D.lw p hp z,Int.mul_zero,Int.zero_mul]
    · rw [← h,show za p=0 by omega,Int.add_zero,Int.mul_comm]
  omega
theorem zaG {c' : Nat→Nat→Int} (h : ∀ p w,p < n→w < m→c w p=c' w p) : shw n m c fit want zu a b=shw n m c' fit want zu a b:=by
  unfold shw
  rw [zC fun p hp=>zC fun w hw=>by rw [h p w hp hw]]
theorem zX.low {a' : Nat→Int} (D : zX n m c fit X za left 0 a b) (h0 : ∀ w,w < m→0≤a' w) (hle : ∀ w,w < m→a' w≤a w) (hup : ∀ p w,p < n→w < m→fit p w=true→X p w=false→c w p≤a' w + b p) : zX n m c fit X za left 0 a' b :=
  ⟨D.l0,D.lb,D.lw,h0,fun w hw h=>by have:=D.af w hw h; have:=hle w hw; have:=h0 w hw; omega,hup,fun p w hp hw h=>by have:=D.dn p w hp hw h; have:=hle w hw; omega⟩
theorem zX.congr {c' : Nat→Nat→Int} {Vd X' : Nat→Nat→Bool} (D : zX n m c fit X za left 0 a b) (hc : ∀ p w,p < n→w < m→c w p=c' w p) (hf : ∀ p w,p < n→w < m→fit p w=Vd p w) (hX : ∀ p w,p < n→w < m→X p w=X' p w) : zX n m c' Vd X' za left 0 a b :=
  ⟨D.l0,D.lb,D.lw,D.a0,D.af,fun p w hp hw h1 h2=>by rw [← hc p w hp hw]; exact D.up p w hp hw (by rw [hf p w hp hw]; exact h1) (by rw [hX p w hp hw]; exact h2),fun p w hp hw h=>by rw [← hc p w hp hw]; exact D.dn p w hp hw (by rw [hX p w hp hw]; exact h)⟩
theorem Kept.congr {Vd X' : Nat→Nat→Bool} {zcc zaH : Nat→Int} (K : Kept n m fit want zu X za left) (hw' : ∀ p,p < n→want p=zcc p) (ho : ∀ w,w < m→zu w=zaH w) (hf : ∀ p w,p < n→w < m→fit p w=Vd p w) (hX : ∀ p w,p < n→w < m→X p w=X' p w) : Kept n m Vd zcc zaH X' za left :=
  ⟨K.s0,K.f0,fun p hp=>by rw [← hw' p hp,← K.pl p hp]; unfold cP; rw [zC fun w hw=>by rw [← hX p w hp hw]],fun w hw=>by rw [← ho w hw,← K.wk w hw]; unfold cW; rw [zC fun p hp=>by rw [← hX p w hp hw]],fun p w hp hw h=>by rw [← hf p w hp hw]; exact K.ft p w hp hw (by rw [hX p w hp hw]; exact h)⟩
theorem zX.back {o u : Nat→Nat} (hu : ∀ w,w < m→u w < m) (ou : ∀ w,w < m→o (u w)=w) (D : zX n m (fun i p=>c (o i) p) (fun p i=>fit p (o i)) X za left 0 a b) : zX n m c fit (fun p w=>X p (u w)) za (fun w=>left (u w)) 0 (fun w=>a (u w)) b :=
  ⟨D.l0,D.lb,D.lw,fun w hw=>D.a0 _ (hu w hw),fun w hw h=>D.af _ (hu w hw) h,fun p w hp hw h1 h2=>by
    have:=D.up p (u w) hp (hu w hw) (by show fit p (o (u w))=true; rw [ou w hw]; exact h1) h2
    have e : c (o (u w)) p=c w p:=by rw [ou w hw]
    omega,fun p w hp hw h=>by
    have:=D.dn p (u w) hp (hu w hw) h
    have e : c (o (u w)) p=c w p:=by rw [ou w hw]
    omega⟩
theorem Kept.back {o u : Nat→Nat} (hu : ∀ w,w < m→u w < m) (ou : ∀ w,w < m→o (u w)=w) (K : Kept n m (fun p i=>fit p (o i)) want (fun i=>zu (o i)) X za left) : Kept n m fit want zu (fun p w=>X p (u w)) za (fun w=>left (u w)):=by
  have iu : ∀ i j,i < m→j < m→u i=u j→i=j:=fun i j hi hj e=>by rw [← ou i hi,← ou j hj,e]
  refine ⟨K.s0,fun w hw=>K.f0 _ (hu w hw),fun p hp=>?_,fun w hw=>?_,fun p w hp hw h=>?_⟩
  · have:=K.pl p hp
    unfold cP at this ⊢
    rw [VW hu iu (fun i=>one (X p i))]
    exact this
  · have:=K.wk (u w) (hu w hw)
    have e : zu (o (u w))=zu w:=by rw [ou w hw]
    rw [← e]
    exact this
  · have:=K.ft p (u w) hp (hu w hw) h
    have e' : fit p (o (u w))=fit p w:=by rw [ou w hw]
    exact e' ▸ this
theorem sum_set {p w : Nat} (f : Nat→Nat→Int) (hp : p < n) (hw : w < m) (h : X p w=false) : sum n m f (set X p w true)=sum n m f X + f w p:=by
  unfold sum
  rw [jt (f:=fun p=>sz (fun w=>one (X p w) * f w p) m) hp fun i _ hi=>zC fun j _=>by rw [yu fun z=>hi z.1]]
  rw [jt (f:=fun w=>one (X p w) * f w p) (g:=fun w'=>one (set X p w true p w') * f w' p) hw fun i _ hi=>by rw [yu fun z=>hi z.2],jZ,h]
  simp only [one,if_true,Bool.false_eq_true,if_false]
  omega
end
end CA
namespace CV
open CA
noncomputable def XL (qs : List CP.Pr) : Nat→Nat→Bool:=fun p w=>decide ((((w : Nat) : Int),((p : Nat) : Int))∈qs)
noncomputable def InR (n m : Nat) (qs : List CP.Pr) : Prop:=∀ q∈qs,∃ w p : Nat,q=(((w : Nat) : Int),((p : Nat) : Int))∧w < m∧p < n
theorem XE {w p : Nat} {r : List CP.Pr} : XL ((((w : Nat) : Int),((p : Nat) : Int)) :: r)=CA.set (XL r) p w true:=by
  funext p' w'
  unfold CA.set XL
  by_cases z : p'=p∧w'=w
  · obtain ⟨rfl,rfl⟩:=z
    rw [if_pos ⟨rfl,rfl⟩]
    exact decide_eq_true List.mem_cons_self
  · rw [if_neg z,Bool.eq_iff_iff,decide_eq_true_eq,decide_eq_true_eq,List.mem_cons]
    refine ⟨fun h=>h.elim (fun e=>absurd ⟨?_,?_⟩ z) id,.inr⟩
    · have:=(Prod.mk.inj e).2; omega
    · have:=(Prod.mk.inj e).1; omega
theorem sum_list {n m : Nat} (f : Nat→Nat→Int) : ∀ {qs : List CP.Pr},qs.Nodup→InR n m qs→sum n m f (XL qs)=yt (fun q=>f q.1.toNat q.2.toNat) qs
  | [],_,_=>by
    show sum n m f (XL [])=0
    unfold sum
    rw [zC (g:=fun _=>0) fun p _=>by rw [zC (g:=fun _=>0) fun w _=>by unfold XL; simp [one],wV],wV]
  | q :: r,nd,h=>by
    obtain ⟨w,p,rfl,hw,hp⟩:=h q List.mem_cons_self
    have nd':=List.nodup_cons.mp nd
    rw [XE,sum_set f hp hw (decide_eq_false nd'.1),sum_list f nd'.2 fun q hq=>h q (List.mem_cons_of_mem _ hq)]
    show _=f _ _ + yt _ r
    rw [Int.toNat_natCast,Int.toNat_natCast]
    omega
theorem XF {n m : Nat} (p0 : Nat) : ∀ {qs : List CP.Pr},qs.Nodup→InR n m qs→cP m (XL qs) p0=(((qs.map Prod.snd).count ((p0 : Nat) : Int) : Nat) : Int)
  | [],_,_=>by
    unfold cP
    rw [zC (g:=fun _=>0) fun w _=>by unfold XL; simp [one],wV]
    rfl
  | q :: r,nd,h=>by
    obtain ⟨w,p,rfl,hw,hp⟩:=h q List.mem_cons_self
    have nd':=List.nodup_cons.mp nd
    have ih:=XF (n:=n) (m:=m) p0 nd'.2 fun q hq=>h q (List.mem_cons_of_mem _ hq)
    rw [XE,List.map_cons,List.count_cons]
    by_cases z : p0=p
    · subst z
      rw [YD hw,ih,show XL r p0 w=false from decide_eq_false nd'.1]
      simp [one]
    · rw [ju z,ih,if_neg (by rw [beq_iff_eq]; show ¬ ((p : Nat) : Int)=_; omega),Nat.add_zero]
theorem XG {n m : Nat} (w0 : Nat) : ∀ {qs : List CP.Pr},qs.Nodup→InR n m qs→cW n (XL qs) w0=(((qs.map Prod.fst).count ((w0 : Nat) : Int) : Nat) : Int)
  | [],_,_=>by
    unfold cW
    rw [zC (g:=fun _=>0) fun w _=>by unfold XL; simp [one],wV]
    rfl
  | q :: r,nd,h=>by
    obtain ⟨w,p,rfl,hw,hp⟩:=h q List.mem_cons_self
    have nd':=List.nodup_cons.mp nd
    have ih:=XG (n:=n) (m:=m) w0 nd'.2 fun q hq=>h q (List.mem_cons_of_mem _ hq)
    rw [XE,List.map_cons,List.count_cons]
    by_cases z : w0=w
    · subst z
      rw [YE hp,ih,show XL r p w0=false from decide_eq_false nd'.1]
      simp [one]
    · rw [Zd z,ih,if_neg (by rw [beq_iff_eq]; show ¬ ((w : Nat) : Int)=_; omega),Nat.add_zero]
theorem jF {n m : Nat} {qs : List CP.Pr} (nd : qs.Nodup) (h : InR n m qs) : many n m (XL qs)=(qs.length : Int):=by
  unfold many
  rw [sum_list _ nd h,Yo]
theorem zcR {n m : Nat} (Y : Nat→Nat→Bool) : many n m Y≤((n * m : Nat) : Int):=by
  unfold many sum
  have h1 : ∀ k : Nat,sz (fun _=>(1 : Int)) k=(k : Int):=fun k=>by
    induction k with
    | zero=>rfl
    | succ k ih=>show sz (fun _=>(1 : Int)) k + 1=_; rw [ih]; omega
  have h2 : sz (fun p=>sz (fun w=>one (Y p w) * 1) m) n≤sz (fun _=>(m : Int) * 1) n:=xK fun p _=>by
    rw [Int.mul_one,← h1 m]
    exact xK fun w _=>by rcases ZR (Y p w) with z | z <;> rw [z] <;> decide
  rw [w9,h1] at h2
  rw [Int.natCast_mul,Int.mul_comm]
  exact h2
theorem ZU {qs : List CP.Pr} {ws os ms : List Nat} (h : CP.yW qs ws os ms=true) : InR ms.length os.length qs:=fun q hq=>by
  unfold CP.yW at h
  rw [Bool.and_eq_true,Bool.and_eq_true] at h
  have:=CP.Za.mp h.2.1 q hq
  unfold CP.v8 at this
  simp only [Bool.and_eq_true,decide_eq_true_eq] at this
  exact ⟨q.1.toNat,q.2.toNat,Prod.ext (by show q.1=_; omega) (by show q.2=_; omega),by omega,by omega⟩
theorem Wb {qs : List CP.Pr} {ws os ms : List Nat} (h : CP.yW qs ws os ms=true) (nd : qs.Nodup) (lw : ws.length=ms.length) : yH ms.length os.length (X ms) (zz ws) (zz os) (XL qs):=by
  have hr:=ZU h
  unfold CP.yW at h
  rw [Bool.and_eq_true,Bool.and_eq_true,Bool.and_eq_true] at h
  refine ⟨fun p hp=>?_,fun w hw=>?_,fun p w hp hw e=>?_⟩
  · rw [XF p nd hr]
    exact Int.ofNat_le.mpr (CP.wR.mp h.2.2.2 p (by omega))
  · rw [XG w nd hr]
    exact Int.ofNat_le.mpr (CP.wR.mp h.2.2.1 w hw)
  · have:=CP.Za.mp h.2.1 _ (of_decide_eq_true e)
    unfold CP.v8 at this
    simp only [Bool.and_eq_true,Int.toNat_natCast] at this
    exact this.2
theorem zaI {qs : List CP.Pr} {ws os ms : List Nat} (nd : qs.Nodup) (hr : InR ms.length os.length qs) (up : CP.ym qs=true) (lw : ws.length=ms.length) (D : yH ms.length os.length (X ms) (zz ws) (zz os) (XL qs)) : CP.yW qs ws os ms=true:=by
  unfold CP.yW
  rw [Bool.and_eq_true,Bool.and_eq_true,Bool.and_eq_true]
  refine ⟨up,CP.Za.mpr fun q hq=>?_,CP.wR.mpr fun w hw=>?_,CP.wR.mpr fun p hp=>?_⟩
  · obtain ⟨w,p,rfl,hw,hp⟩:=hr q hq
    have:=D.ft p w hp hw (decide_eq_true hq)
    unfold CP.v8
    simp only [Bool.and_eq_true,decide_eq_true_eq,Int.toNat_natCast]
    exact ⟨⟨⟨by omega,by omega⟩,by omega,by omega⟩,this⟩
  · have:=D.wk w hw
    rw [XG w nd hr] at this
    exact Int.ofNat_le.mp this
  · have:=D.pl p (by omega)
    rw [XF p nd hr] at this
    exact Int.ofNat_le.mp this
theorem YG {α : Type} {f g : α→Int} : ∀ {l : List α},(∀ x∈l,f x=g x)→yt f l=yt g l
  | [],_=>rfl
  | x :: r,h=>by
    show f x + yt f r=g x + yt g r
    rw [h x List.mem_cons_self,YG fun y hy=>h y (List.mem_cons_of_mem _ hy)]
theorem Jf {ws os ms ps qs : List Nat} (W : Nat→Nat→Nat) (lw : ws.length=ms.length) : ((CI.w6 ws os ms W ps qs : Nat) : Int)=shw ms.length os.length (fun w p=>((W w p : Nat) : Int)) (X ms) (zz ws) (zz os) (zz qs) (zz ps):=by
  unfold CI.w6 shw
  rw [Int.natCast_add,Int.natCast_add,← ja,← ja,← ja,lw]
  have e : sz (fun i=>((CI.over (ms.getD i 0) os.length (fun w=>W w i) (ps.getD i 0) fun w=>qs.getD w 0 : Nat) : Int)) ms.length=sz (fun p=>sz (fun w=>if X ms p w then max 0 (((W w p : Nat) : Int) - zz ps p - zz qs w) else 0) os.length) ms.length:=by
    refine zC fun p _=>?_
    unfold CI.over
    rw [← ja]
    refine zC fun w _=>?_
    show _=if (ms.getD p 0).testBit w then max 0 (((W w p : Nat) : Int) - ((ps.getD p 0 : Nat) : Int) - ((qs.getD w 0 : Nat) : Int)) else 0
    by_cases z : (ms.getD p 0).testBit w
    · rw [if_pos z,if_pos z]
      show ((W w p - ps.getD p 0 - qs.getD w 0 : Nat) : Int)=_
      omega
    · rw [if_neg z,if_neg z]; rfl
  rw [e]
  rfl
end CV
namespace L7
open PySem PySem.Spec PyProof.Rows L2 L3 L4 L6
section
variable {X : Cx}
theorem Wc (hc : X.calm=true) : CallR X (.builtin "min") (fun xs H Q=>L23.E2 fun (p : Addr) (ns : List Int)=>L23.A4 (xs=[.ref p]) (SqL X.K H p (ns.map V.int)) (ns≠[]) (∀ m,m∈ns→(∀ x∈ns,m≤x)→Q (.int m) H)):=by
  intro pins s σ H xs us Q I r h
  obtain ⟨p,ns,rfl,hq,hne,q⟩:=h
  obtain ⟨u,rfl,rx⟩:=vals1 r
  cases rx
  obtain ⟨its,rv,pl,hz⟩:=I.list hq
  have hl:=rv.length
  rw [List.length_map] at hl
  have hpos : 0 < ns.length:=List.length_pos_iff.mpr hne
  refine call_min_walk (wpAny_pyIter_list pl.isList ?_)
  have hp : p < s.heap.objs.size:=by obtain ⟨o,n,e,_⟩:=pl; exact Heap.lt_size e
  have hval : ∀ (i : Nat) (v : Value),its.toArray[i]?=some v→∃ t : Tok,v=Value.int (ns.getD i 0) t:=fun i v hv=>by
    have hv' : its[i]?=some v:=by simpa using hv
    have hi : i < its.length:=(List.getElem?_eq_some_iff.mp hv').1
    obtain ⟨u',e1,t,e2⟩:=rv.get (x:=V.int (ns[i]'(by omega))) (i:=i) (by rw [List.getElem?_map,List.getElem?_eq_getElem (by omega)]; rfl)
    rw [hv'] at e1
    cases e1
    refine ⟨t,?_⟩
    rw [e2]
    show _=Value.int (ns.getD i 0) t
    rw [List.getD_eq_getElem?_getD,List.getElem?_eq_getElem (by omega)]; rfl
  refine ⟨s.heap.objs.size,_,_,its.toArray.size,_,_,fun i j=>decide (ns.getD i 0 < ns.getD j 0),rfl,Walks.list (by show X.A.handled=none; exact I.ok.hd hc) s.heap.objs.size p (Nat.ne_of_lt hp) its.toArray,
    ⟨⟨_,Heap.get?_push_size _ rfl,rfl,rfl⟩,pl.isList.push _⟩,fun b hb=>?_,by rw [List.size_toArray]; omega,CmpOf.ints_lt (fun i=>ns.getD i 0) hval,fun v h' tk hP hk=>?_⟩
  · show b < (s.heap.push _).objs.size
    rw [Heap.size_push]
    rcases List.mem_cons.mp hb with e | hb
    · rw [e]; exact Nat.lt_succ_self _
    · rw [List.mem_singleton.mp hb]; exact Nat.lt_succ_of_lt hp
  · obtain ⟨t,rfl⟩:=hval _ _ hP
    obtain ⟨h1,h2⟩:=argBest_gt (fun i => - ns.getD i 0) (its.toArray.size - 1)
    rw [show (fun i j=>decide (- ns.getD i 0 > - ns.getD j 0))=fun i j=>decide (ns.getD i 0 < ns.getD j 0) from funext fun i=>funext fun j=>decide_eq_decide.mpr (by omega)] at h1 h2
    rw [List.size_toArray] at h1 h2
    have hk' : ∀ b o,s.heap.get? b=some o→h'.get? b=some o:=fun b o e =>
      hk b o (fun z=>absurd (Heap.lt_size e) (by rw [List.mem_singleton.mp z]; exact Nat.lt_irrefl _)) (Heap.get?_push_of_some _ e)
    rw [List.size_toArray] at hP ⊢
    generalize argBest (fun i j=>decide (ns.getD i 0 < ns.getD j 0)) (its.length - 1)=b at h1 h2 ⊢
    have hb : b < ns.length:=by omega
    have eb : ns.getD b 0=ns[b]:=by rw [List.getD_eq_getElem?_getD,List.getElem?_eq_getElem hb]; rfl
    refine ⟨.int (ns.getD b 0),H,I.kept (t':=tk) hk',⟨_,rfl⟩,q _ (eb ▸ List.getElem_mem hb) fun x hx=>?_⟩
    obtain ⟨j,hj,rfl⟩:=List.getElem_of_mem hx
    have:=h2 j (by omega)
    rw [List.getD_eq_getElem?_getD,List.getElem?_eq_getElem hj] at this
    show ns.getD b 0≤ns[j]
    have e : (ns[j]?).getD 0=ns[j]:=by rw [List.getElem?_eq_getElem hj]; rfl
    simp only [Option.getD_some] at this
    omega
end
end L7
set_option maxHeartbeats 4000000
namespace K63
open PySem PySem.Spec PyProof.Rows L2 L3 L4 L5 L6 L7 L13
seal L2.PE L2.PT L2.PW L2.PA L2.PS L2.PSs L2.PG L2.PGs L2.PI L2.PC L2.PO L3.PF L3.Ye L2.OpR L2.CallR L2.IxR L2.SlR
noncomputable def top (i : Nat) : Stmt:=PySem.Challenge.pw_court_k63_whole_none_has_more.main.body.getD i (.Pass ⟨0,0,0,0⟩)
noncomputable abbrev xr : Stmt:=(top 1)
noncomputable def jG : List Str:=["numbers","mask","number"]
theorem zdk : FnScope jG ["numbers"] (defScope xr):=⟨rfl,rfl,rfl,by decide +kernel,rfl,by decide +kernel,by decide +kernel⟩
noncomputable abbrev xu : Stmt:=(top 2)
noncomputable def Wm : List Str:=["mask"]
theorem zdl : FnScope Wm ["mask"] (defScope xu):=⟨rfl,rfl,rfl,by decide +kernel,rfl,by decide +kernel,by decide +kernel⟩
noncomputable abbrev xM : Stmt:=(top 3)
noncomputable def Wn : List Str:=["mask","number"]
theorem zdm : FnScope Wn ["mask","number"] (defScope xM):=⟨rfl,rfl,rfl,by decide +kernel,rfl,by decide +kernel,by decide +kernel⟩
noncomputable abbrev vC : Stmt:=(top 4)
noncomputable def Wo : List Str:=["mask"]
theorem zdn : FnScope Wo ["mask"] (defScope vC):=⟨rfl,rfl,rfl,by decide +kernel,rfl,by decide +kernel,by decide +kernel⟩
noncomputable abbrev vD : Stmt:=(top 5)
noncomputable def Jg : List Str:=["mask"]
theorem zdo : FnScope Jg ["mask"] (defScope vD):=⟨rfl,rfl,rfl,by decide +kernel,rfl,by decide +kernel,by decide +kernel⟩
noncomputable abbrev vE : Stmt:=(top 6)
noncomputable def Jh : List Str:=["one","other"]
theorem zdp : FnScope Jh ["one","other"] (defScope vE):=⟨rfl,rfl,rfl,by decide +kernel,rfl,by decide +kernel,by decide +kernel⟩
noncomputable abbrev jb : Stmt:=(top 7)
noncomputable def Ji : List Str:=["one","other"]
theorem zdq : FnScope Ji ["one","other"] (defScope jb):=⟨rfl,rfl,rfl,by decide +kernel,rfl,by decide +kernel,by decide +kernel⟩
noncomputable abbrev ve : Stmt:=(top 8)
noncomputable def Jj : List Str:=["one","other"]
theorem zdr : FnScope Jj ["one","other"] (defScope ve):=⟨rfl,rfl,rfl,by decide +kernel,rfl,by decide +kernel,by decide +kernel⟩
noncomputable abbrev yy : Stmt:=(top 10)
noncomputable def vF : List Str:=["held","pairs","place","mask"]
theorem zds : FnScope vF ["held"] (defScope yy):=⟨rfl,rfl,rfl,by decide +kernel,rfl,by decide +kernel,by decide +kernel⟩
noncomputable abbrev xy : Stmt:=(top 12)
noncomputable def XH : List Str:=["oftens","marks","worths"]
theorem ze9 : FnScope XH ["oftens","marks","worths"] (defScope xy):=⟨rfl,rfl,rfl,by decide +kernel,rfl,by decide +kernel,by decide +kernel⟩
noncomputable abbrev yg : Stmt:=(top 13)
noncomputable def xX : List Str:=["oftens","marks","worths","base","weights","mark"]
theorem zdu : FnScope xX ["oftens","marks","worths"] (defScope yg):=⟨rfl,rfl,rfl,by decide +kernel,rfl,by decide +kernel,by decide +kernel⟩
noncomputable abbrev wK : Stmt:=(top 14)
noncomputable def ZG : List Str:=["place","work","weights","place_prices","work_prices"]
theorem zfa : FnScope ZG ["place","work","weights","place_prices","work_prices"] (defScope wK):=⟨rfl,rfl,rfl,by decide +kernel,rfl,by decide +kernel,by decide +kernel⟩
noncomputable abbrev zy : Stmt:=(top 15)
noncomputable def yh : List Str:=["wants","oftens","masks","weights","place_prices","work_prices","total","place","mask","works"]
theorem zdv : FnScope yh ["wants","oftens","masks","weights","place_prices","work_prices"] (defScope zy):=⟨rfl,rfl,rfl,by decide +kernel,rfl,by decide +kernel,by decide +kernel⟩
noncomputable abbrev z8 : Stmt:=(inClass (top 16) 0)
noncomputable def xq : List Str:=["self","wants","oftens","masks","marks","worths"]
theorem zfb : FnScope xq ["self","wants","oftens","masks","marks","worths"] (defScope z8):=⟨rfl,rfl,rfl,by decide +kernel,rfl,by decide +kernel,by decide +kernel⟩
noncomputable abbrev zJ : Stmt:=(inClass (top 16) 1)
noncomputable def ye : List Str:=["self","free","place","mask","work"]
theorem zfc : FnScope ye ["self"] (defScope zJ):=⟨rfl,rfl,rfl,by decide +kernel,rfl,by decide +kernel,by decide +kernel⟩
noncomputable abbrev zY : Stmt:=(inClass (top 16) 2)
noncomputable def yx : List Str:=["self","place","moves","other","held","works","more","work"]
theorem zfd : FnScope yx ["self","place"] (defScope zY):=⟨rfl,rfl,rfl,by decide +kernel,rfl,by decide +kernel,by decide +kernel⟩
noncomputable abbrev yf : Stmt:=(inClass (top 16) 3)
noncomputable def yI : List Str:=["self","moves","longer","place","found","other","work","more"]
theorem zfe : FnScope yI ["self","moves"] (defScope yf):=⟨rfl,rfl,rfl,by decide +kernel,rfl,by decide +kernel,by decide +kernel⟩
noncomputable abbrev xB : Stmt:=(inClass (top 16) 4)
noncomputable def ZH : List Str:=["self","moves"]
theorem zff : FnScope ZH ["self"] (defScope xB):=⟨rfl,rfl,rfl,by decide +kernel,rfl,by decide +kernel,by decide +kernel⟩
noncomputable abbrev yJ : Stmt:=(inClass (top 16) 5)
noncomputable def xP : List Str:=["self","start","most","place","still"]
theorem zfg : FnScope xP ["self"] (defScope yJ):=⟨rfl,rfl,rfl,by decide +kernel,rfl,by decide +kernel,by decide +kernel⟩
noncomputable abbrev yb : Stmt:=(inClass (top 16) 6)
noncomputable def yN : List Str:=["self","place","work","giver"]
theorem zfh : FnScope yN ["self","place"] (defScope yb):=⟨rfl,rfl,rfl,by decide +kernel,rfl,by decide +kernel,by decide +kernel⟩
noncomputable abbrev yS : Stmt:=(inClass (top 16) 7)
noncomputable def wj : List Str:=["self","start","place"]
theorem zfi : FnScope wj ["self"] (defScope yS):=⟨rfl,rfl,rfl,by decide +kernel,rfl,by decide +kernel,by decide +kernel⟩
noncomputable abbrev yP : Stmt:=(top 17)
noncomputable def Wq : List Str:=["mask","order"]
theorem zdw : FnScope Wq ["mask","order"] (defScope yP):=⟨rfl,rfl,rfl,by decide +kernel,rfl,by decide +kernel,by decide +kernel⟩
noncomputable abbrev zD : Stmt:=(top 18)
noncomputable def yz : List Str:=["wants","oftens","masks","marks","worths","order","turned","weigher"]
theorem zdx : FnScope yz ["wants","oftens","masks","marks","worths"] (defScope zD):=⟨rfl,rfl,rfl,by decide +kernel,rfl,by decide +kernel,by decide +kernel⟩
noncomputable abbrev zL : Stmt:=(top 19)
noncomputable def wC : List Str:=["work","pairs","masks","weights","place_prices","paired","others"]
theorem zdy : FnScope wC ["work","pairs","masks","weights","place_prices"] (defScope zL):=⟨rfl,rfl,rfl,by decide +kernel,rfl,by decide +kernel,by decide +kernel⟩
noncomputable abbrev zB : Stmt:=(top 20)
noncomputable def ya : List Str:=["wants","oftens","masks","marks","worths","found","pairs","place_prices","total","weights","work_prices"]
theorem zdz : FnScope ya ["wants","oftens","masks","marks","worths"] (defScope zB):=⟨rfl,rfl,rfl,by decide +kernel,rfl,by decide +kernel,by decide +kernel⟩
noncomputable abbrev yX : Stmt:=(top 22)
noncomputable def YH : List Str:=["things"]
theorem zdA : FnScope YH ["things"] (defScope yX):=⟨rfl,rfl,rfl,by decide +kernel,rfl,by decide +kernel,by decide +kernel⟩
noncomputable abbrev yK : Stmt:=(top 23)
noncomputable def vG : List Str:=["work","place","oftens","masks"]
theorem zdB : FnScope vG ["work","place","oftens","masks"] (defScope yK):=⟨rfl,rfl,rfl,by decide +kernel,rfl,by decide +kernel,by decide +kernel⟩
noncomputable abbrev yY : Stmt:=(top 24)
noncomputable def Wr : List Str:=["numbers","bounds"]
theorem zdC : FnScope Wr ["numbers","bounds"] (defScope yY):=⟨rfl,rfl,rfl,by decide +kernel,rfl,by decide +kernel,by decide +kernel⟩
noncomputable abbrev zO : Stmt:=(top 25)
noncomputable def xY : List Str:=["pairs","wants","oftens","masks"]
theorem zdD : FnScope xY ["pairs","wants","oftens","masks"] (defScope zO):=⟨rfl,rfl,rfl,by decide +kernel,rfl,by decide +kernel,by decide +kernel⟩
noncomputable abbrev xZ : Stmt:=(top 27)
noncomputable def YI : List Str:=["_law_script","_law_k"]
theorem zdE : FnScope YI ["_law_script","_law_k"] (defScope xZ):=⟨rfl,rfl,rfl,by decide +kernel,rfl,by decide +kernel,by decide +kernel⟩
noncomputable abbrev xw : Stmt:=(top 28)
noncomputable def Zf : List Str:=["_law_cell","_law_k","_law_some"]
theorem zdF : FnScope Zf ["_law_cell","_law_k"] (defScope xw):=⟨rfl,rfl,rfl,by decide +kernel,rfl,by decide +kernel,by decide +kernel⟩
noncomputable abbrev zj : Stmt:=(top 29)
noncomputable def zq : List Str:=["_law_script","_law_places","_law_wants","_law_k","_law_some","_law_cells","_law_many","_law_oftens","_law_marks","_law_masks","_law_work","_law_more","_law_left","_law_place","_law_worths"]
theorem zdG : FnScope zq ["_law_script"] (defScope zj):=⟨rfl,rfl,rfl,by decide +kernel,rfl,by decide +kernel,by decide +kernel⟩
noncomputable abbrev vH : Stmt:=(top 30)
noncomputable def Ws : List Str:=["_law_masks","_law_work","_law_place"]
theorem zdH : FnScope Ws ["_law_masks","_law_work","_law_place"] (defScope vH):=⟨rfl,rfl,rfl,by decide +kernel,rfl,by decide +kernel,by decide +kernel⟩
noncomputable abbrev zA : Stmt:=(top 31)
noncomputable def zH : List Str:=["_law_cell","_law_wants","_law_oftens","_law_masks","_law_works","_law_places","_law_taken_here","_law_k","_law_work","_law_place"]
theorem zdI : FnScope zH ["_law_cell","_law_wants","_law_oftens","_law_masks"] (defScope zA):=⟨rfl,rfl,rfl,by decide +kernel,rfl,by decide +kernel,by decide +kernel⟩
noncomputable abbrev yi : Stmt:=(top 32)
noncomputable def xC : List Str:=["_law_cell","_law_prices_of","_law_way","_law_found","_law_k","_law_move"]
theorem zdJ : FnScope xC ["_law_cell","_law_prices_of","_law_way"] (defScope yi):=⟨rfl,rfl,rfl,by decide +kernel,rfl,by decide +kernel,by decide +kernel⟩
noncomputable abbrev ze : Stmt:=(top 33)
noncomputable def zl : List Str:=["_law_script","_law_wants","_law_oftens","_law_masks","_law_marks","_law_worths","_law_weights","_law_pairs","_law_total","_law_place_prices","_law_work_prices","_law_weight","_law_shows","_law_cell","_law_way","_law_some","_law_others","_law_taken_here","_law_here"]
theorem zdK : FnScope zl ["_law_script"] (defScope ze):=⟨rfl,rfl,rfl,by decide +kernel,rfl,by decide +kernel,by decide +kernel⟩
structure Adr where
  vA : Addr
  members : Addr
  has : Addr
  Yp : Addr
  j0 : Addr
  shared : Addr
  either : Addr
  less : Addr
  Yq : Addr
  base_of : Addr
  vf : Addr
  jQ : Addr
  w6 : Addr
  wL : Addr
  yT : Addr
  wM : Addr
  wN : Addr
  wm : Addr
  xQ : Addr
  wo : Addr
  wu : Addr
  Zg : Addr
  wO : Addr
  vX : Addr
  best : Addr
  ZI : Addr
  vY : Addr
  Zh : Addr
  Zi : Addr
  wz : Addr
  yZ : Addr
  Zj : Addr
  XI : Addr
  ZJ : Addr
  Zk : Addr
  zd : Addr
  zf1 : Addr
@[reducible] noncomputable def Adr.tab (a : Adr) : L20.Tab:=⟨a.zf1,rawInt (129 : Nat),rawInt (42 : Nat),("greatest_dealing" ++ (".<locals>." : Str)) ++ ("<lambda>" : Str)⟩
structure Txt (K : PySem.W.Frag) (mg : Str→Option Value) (a : Adr) : Prop where
  Wt : mg "mask_of"=some (.ref a.vA)
  zfj : mg "members"=some (.ref a.members)
  YJ : mg "has"=some (.ref a.has)
  zfk : mg "first_of"=some (.ref a.Yp)
  zcd : mg "last_of"=some (.ref a.j0)
  zce : mg "shared"=some (.ref a.shared)
  zfl : mg "either"=some (.ref a.either)
  Jk : mg "less"=some (.ref a.less)
  zfm : mg "pairs_of"=some (.ref a.Yq)
  zdL : mg "base_of"=some (.ref a.base_of)
  zcf : mg "weights_of"=some (.ref a.vf)
  zf2 : mg "above_price"=some (.ref a.jQ)
  zcg : mg "priced"=some (.ref a.w6)
  zfn : mg "renumbered"=some (.ref a.Zg)
  zfo : mg "greatest_dealing"=some (.ref a.wO)
  zfp : mg "price_of_work"=some (.ref a.vX)
  zfq : mg "best"=some (.ref a.best)
  zfr : mg "is_rising"=some (.ref a.ZI)
  zfs : mg "can_be_paired"=some (.ref a.vY)
  zch : mg "none_above"=some (.ref a.Zh)
  zci : mg "is_dealing"=some (.ref a.Zi)
  Wu : mg "_law_cell_at"=some (.ref a.wz)
  vI : mg "_law_mixed"=some (.ref a.yZ)
  zft : mg "_law_ground"=some (.ref a.Zj)
  zfu : mg "_law_fit"=some (.ref a.XI)
  zfv : mg "_law_taken"=some (.ref a.ZJ)
  zcj : mg "_law_raised"=some (.ref a.Zk)
  vS : mg "Weigher"=some (.ref a.zd)
  zg : Cls K a.zd
  Jl : Mk K a.zd a.wL
  vB : Meth K a.zd "take_free_works" a.yT
  j3 : Meth K a.zd "moves_to" a.wM
  j4 : Meth K a.zd "lengthen" a.wN
  jR : Meth K a.zd "find_ways" a.wm
  we : Meth K a.zd "find_start" a.xQ
  jS : Meth K a.zd "make_step" a.wo
  jT : Meth K a.zd "add_pairs" a.wu
  yE : NoAttr K a.zd "base"
  zR : NoAttr K a.zd "masks"
  yk : NoAttr K a.zd "marks"
  z5 : NoAttr K a.zd "worths"
  zI : NoAttr K a.zd "held"
  z7 : NoAttr K a.zd "still"
  yc : NoAttr K a.zd "left"
  zE : NoAttr K a.zd "gains"
  zS : NoAttr K a.zd "steps"
  Zl : mg "all"=none
  zT : mg "enumerate"=none
  yj : mg "len"=none
  vg : mg "list"=none
  jH : mg "max"=none
  Zm : mg "min"=none
  yo : mg "range"=none
  xR : mg "sorted"=none
  wD : mg "sum"=none
  jI : mg "zip"=none
section
variable {P : Program} {w : World} {K : PySem.W.Frag} {mg : Str→Option Value} {base : Heap} {a : Adr}
noncomputable def yF (ns : List Int) (k : Int) : Int:=ns.getD k.toNat 0
noncomputable def Ve (K : PySem.W.Frag) : Sp:=fun vs H Q _=>L23.E3 fun (a : Addr) (ns : List Int) (k : Int)=>L23.A5 (vs=[.ref a,.int k]) (SqL K H a (ns.map V.int)) (ns.length≤63) (0≤k) (Q (.int (yF ns k)) H)
theorem zdM {f : Addr} {fd : FuncData} (F : Fun K "_law_cell_at" "_law_cell_at" xZ f fd) (T : Txt K mg a) : FnOk P w K mg base CX0 1 f fd ["_law_script","_law_k"] (Ve K):=by
  refine F.ok zdE (fun vs H Q E h=>?_) (fun cdv A outer s H vs Q E hr h=>?_)
  · obtain ⟨a,ns,k,rfl,_⟩:=h
    rfl
  · obtain ⟨a,ns,k,rfl,hS,hl,h0,q⟩:=h
    refine ⟨_,(pss_cons (ps_if (pt_cmpR op_lt (pvA 1 (defScope xZ) YI rfl rfl) (zo (sc:=defScope xZ) call_len rfl (by decide +kernel) T.yj yd (pa_cons (pvA 0 (defScope xZ) YI rfl rfl) pa_nil)) (nomark _)) (pss_one (ps_ret (pe_ix ix_seq (pvA 0 (defScope xZ) YI rfl rfl) (pvA 1 (defScope xZ) YI rfl rfl) (fun _ _=>rfl)))) pss_nil)
      (pss_one (ps_ret pe_int))),?_⟩
    try dsimp only [cxOf,Cx.nox]
    refine ⟨_,rfl,_,rfl,.ref a,ns.length,rfl,.inl ⟨_,hS,by simp⟩,_,_,rfl,rfl,_,rfl,ite2 (fun hlt=>?_) (fun hge=>?_)⟩
    · have hk : k < (ns.length : Int):=of_decide_eq_true hlt
      refine ⟨_,rfl,_,rfl,.inl ⟨a,_,k,.int (yF ns k),rfl,rfl,hS,?_,q⟩⟩
      have hk' : k.toNat < ns.length:=by omega
      have e : (k.toNat : Int)=k:=Int.toNat_of_nonneg h0
      rw [← e]
      refine atI_nat ?_
      rw [List.getElem?_map,List.getElem?_eq_getElem hk']
      unfold yF
      rw [Int.toNat_natCast,List.getD_eq_getElem?_getD,List.getElem?_eq_getElem hk']
      rfl
    · have hk : ¬ k < (ns.length : Int):=fun z=>hge (decide_eq_true z)
      have e : yF ns k=0:=by
        unfold yF
        rw [List.getD_eq_getElem?_getD,List.getElem?_eq_none (by omega)]
        rfl
      rw [e] at q
      exact q
theorem Zn (n : Nat) : (List.replicate n [V.int 0]).flatten=nV (List.replicate n 0):=by
  induction n with
  | zero=>rfl
  | succ n ih=>rw [List.replicate_succ,List.flatten_cons,ih]; rfl
theorem getD_at {l : List Nat} {p : Nat} (h : p < l.length) : l[p]?=some (l.getD p 0):=by
  rw [List.getD_eq_getElem?_getD,List.getElem?_eq_getElem h]
  rfl
theorem zP {l : List Nat} {p : Nat} (h : p < l.length) : atI (nV l) ((p : Nat) : Int)=some (.int (l.getD p 0 : Nat)) :=
  atI_nat (by unfold nV; rw [List.getElem?_map,getD_at h]; rfl)
theorem yL {n i : Nat} (h : i < n) : ixN n ((i : Nat) : Int)=some i:=by
  unfold ixN
  rw [if_pos (by omega),if_pos (by omega),Int.toNat_natCast]
theorem zm (l : List Nat) : (nV l).length=l.length:=by unfold nV; rw [List.length_map]
theorem vh (l : List Nat) (j x : Nat) : (nV l).set j (.int (x : Nat))=nV (l.set j x):=by
  unfold nV
  rw [List.map_set]
noncomputable def j5 (_ : PySem.W.Frag) : Sp:=fun vs H Q _=>L23.E2 fun (m : Nat) (n : Int)=>vs=[.int m,.int n]∧Q (.bl (decide (0≤n) && m.testBit n.toNat)) H
theorem zdN {f : Addr} {fd : FuncData} (F : Fun K "has" "has" xM f fd) (T : Txt K mg a) : FnOk P w K mg base CX0 1 f fd ["mask","number"] (j5 K):=by
  refine F.ok zdm (fun vs H Q E h=>?_) (fun cdv A outer s H vs Q E hr h=>?_)
  · obtain ⟨m,n,rfl,_⟩:=h
    rfl
  · obtain ⟨m,n,rfl,q⟩:=h
    refine ⟨_,(pss_one (ps_ret (pe_and (pe_cmpR op_ge (pvA 1 (defScope xM) Wn rfl rfl) pe_int (nomark _)) (pe_one (pe_cmpR op_eq (pe_op op_and (pe_op op_shr (pvA 0 (defScope xM) Wn rfl rfl) (pvA 1 (defScope xM) Wn rfl rfl)) pe_int) pe_int (nomark _)))))),?_⟩
    try dsimp only [cxOf,Cx.nox]
    refine ⟨_,rfl,_,_,rfl,rfl,_,rfl,ite2 (fun h0=>?_) (fun h0=>?_)⟩
    · have h0' : 0≤n:=of_decide_eq_true h0
      refine ⟨_,rfl,_,rfl,_,_,rfl,rfl,h0',_,_,rfl,rfl,rfl,?_⟩
      have e : (decide (0≤n) && m.testBit n.toNat)=decide (V.int (Builtin.bitAnd ((m : Int) / 2 ^ n.toNat) 1)=V.int 1):=by
        rw [decide_eq_true h0',Bool.true_and,← CB.zcW]
        exact decide_eq_decide.mpr ⟨fun z=>by rw [z],fun z=>V.int.inj z⟩
      rw [e] at q
      exact q
    · rw [decide_eq_false (fun z=>h0 (decide_eq_true z)),Bool.false_and] at q
      exact q
noncomputable def YK (K : PySem.W.Frag) : Sp:=fun vs H Q _=>L23.E2 fun (p : Addr) (ns : List Nat)=>L23.A4 (vs=[.ref p]) (SqL K H p (ns.map fun n : Nat=>V.int n)) ((∀ n∈ns,n≤1000)) (Q (.int (CB.maskOf ns : Nat)) H)
theorem zdO {f : Addr} {fd : FuncData} (F : Fun K "mask_of" "mask_of" xr f fd) (T : Txt K mg a) : FnOk P w K mg base CX0 1 f fd ["numbers"] (YK K):=by
  refine F.ok zdk (fun vs H Q E h=>?_) (fun cdv A outer s H vs Q E hr h=>?_)
  · obtain ⟨p,ns,rfl,_⟩:=h
    rfl
  · obtain ⟨p,ns,rfl,hp,hb,q⟩:=h
    refine ⟨_,(pss_cons (psN (i:=1) (sc:=defScope xr) (M:=jG) rfl rfl (by decide +kernel) pe_int)
      (pss_cons (ps_for PassesOwn.never rfl (pi_list (pvA 0 (defScope xr) jG rfl rfl)) (pgN (i:=2) (sc:=defScope xr) (M:=jG) rfl rfl (by decide +kernel)) (pss_one (psN (i:=1) (sc:=defScope xr) (M:=jG) rfl rfl (by decide +kernel) (pe_op op_or (pvA 1 (defScope xr) jG rfl rfl) (pe_op op_shl pe_int (pvA 2 (defScope xr) jG rfl rfl))))))
      (pss_one (ps_ret (pvA 1 (defScope xr) jG rfl rfl))))),?_⟩
    try dsimp only [cxOf,Cx.nox]
    refine ⟨_,rfl,p,rfl,⟨_,hp⟩,for_list (xs:=ns.map fun n : Nat=>V.int n) (fun i σ H'=>(∃ v,σ=[some (.ref p),some (.int (CB.maskOf (ns.take i) : Nat)),v])∧H'=H) ⟨⟨_,rfl⟩,rfl⟩ ?_ ?_ ?_⟩
    · rintro i σ H' _ ⟨_,rfl⟩
      exact hp
    · rintro i x σ H' hx ⟨⟨v,rfl⟩,rfl⟩
      rw [List.getElem?_map] at hx
      obtain ⟨n,hn,rfl⟩:=Option.map_eq_some_iff.mp hx
      have hb':=hb n (List.mem_of_getElem? hn)
      refine ⟨_,rfl,_,rfl,_,_,rfl,rfl,⟨by omega,by omega,by decide⟩,_,_,rfl,rfl,⟨some (.int (n : Nat)),?_⟩,rfl⟩
      have e : Builtin.bitOr ((CB.maskOf (ns.take i) : Nat) : Int) (1 * 2 ^ ((n : Int)).toNat)=((CB.maskOf (ns.take (i + 1)) : Nat) : Int):=by
        rw [Int.one_mul,Int.toNat_natCast,CB.jq,CB.or_cast,take_snoc hn]
        unfold CB.maskOf
        rw [List.foldl_append]
        rfl
      rw [← e]
      rfl
    · rintro σ H' ⟨⟨v,rfl⟩,rfl⟩
      rw [List.length_map,List.take_length]
      exact ⟨_,rfl,q⟩
noncomputable def zaJ (_ : PySem.W.Frag) : Sp:=fun vs H Q _=>∃ (m : Nat),vs=[.int m]∧∀ r,(m=0∧r=V.non∨∃ k : Nat,(CB.yC m)[0]?=some k∧r = .int (k : Nat))→Q r H
theorem zdP {f : Addr} {fd : FuncData} (F : Fun K "first_of" "first_of" vC f fd) (T : Txt K mg a) : FnOk P w K mg base CX0 1 f fd ["mask"] (zaJ K):=by
  refine F.ok zdn (fun vs H Q E h=>?_) (fun cdv A outer s H vs Q E hr h=>?_)
  · obtain ⟨m,rfl,_⟩:=h
    rfl
  · obtain ⟨m,rfl,q1⟩:=h
    refine ⟨_,(pss_cons (ps_if (pt_cmpR op_eq (pvA 0 (defScope vC) Wo rfl rfl) pe_int (nomark _)) (pss_one (ps_ret pe_non)) pss_nil)
      (pss_one (ps_ret (pe_op op_sub (pe_bm0 PySem.F.plainAttrs_int slot_int_bit_length type_int_bit_length vW (pe_op op_and (pvA 0 (defScope vC) Wo rfl rfl) (pe_un un_neg (pvA 0 (defScope vC) Wo rfl rfl)))) pe_int)))),?_⟩
    try dsimp only [cxOf,Cx.nox]
    refine ⟨_,rfl,rfl,_,rfl,ite2 (fun h1=>?_) (fun h1=>?_)⟩
    · have h1':=V.int.inj (of_decide_eq_true h1)
      exact q1 _ (.inl ⟨by omega,rfl⟩)
    · have h1' : m≠0:=fun z=>h1 (decide_eq_true (by rw [z]; rfl))
      obtain ⟨k,e1,e2⟩:=CB.zcX h1'
      have q:=q1 _ (.inr ⟨k,e1,rfl⟩)
      rw [← e2] at q
      exact ⟨_,rfl,_,rfl,_,rfl,_,_,rfl,rfl,rfl,rfl,_,rfl,_,_,rfl,rfl,q⟩
noncomputable def Vf (_ : PySem.W.Frag) : Sp:=fun vs H Q _=>L23.E2 fun (m : Nat) (n : Nat)=>vs=[.int m,.int n]∧Q (.int (m &&& n : Nat)) H
theorem zdQ {f : Addr} {fd : FuncData} (F : Fun K "shared" "shared" vE f fd) (T : Txt K mg a) : FnOk P w K mg base CX0 1 f fd ["one","other"] (Vf K):=by
  refine F.ok zdp (fun vs H Q E h=>?_) (fun cdv A outer s H vs Q E hr h=>?_)
  · obtain ⟨m,n,rfl,_⟩:=h
    rfl
  · obtain ⟨m,n,rfl,q⟩:=h
    refine ⟨_,(pss_one (ps_ret (pe_op op_and (pvA 0 (defScope vE) Jh rfl rfl) (pvA 1 (defScope vE) Jh rfl rfl)))),?_⟩
    try dsimp only [cxOf,Cx.nox]
    rw [← CB.and_cast] at q
    exact ⟨_,rfl,_,rfl,_,_,rfl,rfl,q⟩
noncomputable def zaK (_ : PySem.W.Frag) : Sp:=fun vs H Q _=>L23.E2 fun (m : Nat) (n : Nat)=>vs=[.int m,.int n]∧Q (.int (m ||| n : Nat)) H
theorem zdR {f : Addr} {fd : FuncData} (F : Fun K "either" "either" jb f fd) (T : Txt K mg a) : FnOk P w K mg base CX0 1 f fd ["one","other"] (zaK K):=by
  refine F.ok zdq (fun vs H Q E h=>?_) (fun cdv A outer s H vs Q E hr h=>?_)
  · obtain ⟨m,n,rfl,_⟩:=h
    rfl
  · obtain ⟨m,n,rfl,q⟩:=h
    refine ⟨_,(pss_one (ps_ret (pe_op op_or (pvA 0 (defScope jb) Ji rfl rfl) (pvA 1 (defScope jb) Ji rfl rfl)))),?_⟩
    try dsimp only [cxOf,Cx.nox]
    rw [← CB.or_cast] at q
    exact ⟨_,rfl,_,rfl,_,_,rfl,rfl,q⟩
noncomputable def YL (_ : PySem.W.Frag) : Sp:=fun vs H Q _=>L23.E2 fun (m : Nat) (n : Nat)=>vs=[.int m,.int n]∧Q (.int (CB.less m n : Nat)) H
theorem zdS {f : Addr} {fd : FuncData} (F : Fun K "less" "less" ve f fd) (T : Txt K mg a) : FnOk P w K mg base CX0 1 f fd ["one","other"] (YL K):=by
  refine F.ok zdr (fun vs H Q E h=>?_) (fun cdv A outer s H vs Q E hr h=>?_)
  · obtain ⟨m,n,rfl,_⟩:=h
    rfl
  · obtain ⟨m,n,rfl,q⟩:=h
    refine ⟨_,(pss_one (ps_ret (pe_op op_and (pvA 0 (defScope ve) Jj rfl rfl) (pe_un un_inv (pvA 1 (defScope ve) Jj rfl rfl))))),?_⟩
    try dsimp only [cxOf,Cx.nox]
    rw [← CB.zas] at q
    exact ⟨_,rfl,_,rfl,_,rfl,_,_,rfl,rfl,q⟩
theorem yr {l : List Nat} {i : Nat} {x : V} (h : (nV l)[i]?=some x) : i < l.length∧x = .int (l.getD i 0 : Nat):=by
  unfold nV at h
  rw [List.getElem?_map] at h
  obtain ⟨n,hn,rfl⟩:=Option.map_eq_some_iff.mp h
  exact ⟨(List.getElem?_eq_some_iff.mp hn).1,by rw [CG.Xv hn]⟩
theorem XJ {xs ys : List Nat} {g : Nat→Nat} (hl : ys.length≤xs.length) : L5.vt (fun i _ _=>some (V.int (g i : Nat))) (nV xs) (nV ys) (nV ys).length=((List.range ys.length).map fun i=>((g i : Nat) : Int)).map V.int:=by
  unfold L5.vt
  rw [zm,List.map_map]
  refine CG.filterMap_some fun i hi=>?_
  have hi':=List.mem_range.mp hi
  rw [List.getElem?_eq_getElem (by rw [zm]; omega : i < (nV xs).length),List.getElem?_eq_getElem (by rw [zm]; omega : i < (nV ys).length)]
  rfl
theorem ZK (f : Nat→Nat) (n : Nat) : preSum (fun i=>((List.range n).map fun i=>((f i : Nat) : Int)).getD i 0) ((List.range n).map fun i=>((f i : Nat) : Int)).length=((CI.sg f n : Nat) : Int):=by
  rw [List.length_map,List.length_range]
  refine CI.X9 fun i hi=>?_
  rw [List.getD_eq_getElem?_getD,List.getElem?_map,List.getElem?_range hi]
  rfl
theorem wA {l : List Nat} {i b : Nat} (h : i < l.length) (hb : ∀ x∈l,x≤b) : l.getD i 0≤b:=by
  rw [List.getD_eq_getElem?_getD,List.getElem?_eq_getElem h]
  exact hb _ (List.getElem_mem h)
noncomputable def Jm (K : PySem.W.Frag) : Sp:=fun vs H Q _=>L23.E6 fun (po : Addr) (pk : Addr) (ph : Addr) (os : List Nat) (ks : List Nat) (hs : List Nat)=>L23.A8 (vs=[.ref po,.ref pk,.ref ph]) (SqL K H po (nV os)) (SqL K H pk (nV ks)) (SqL K H ph (nV hs)) (ks.length=os.length) (ks.length≤1000) ((∀ o∈os,o≤1000)) ((∀ h∈hs,h≤1000)∧∀ H',Same H H'→Q (.int (CI.base os ks hs : Nat)) H')
theorem zfw {f : Addr} {fd : FuncData} (F : Fun K "base_of" "base_of" xy f fd) (T : Txt K mg a) : FnOk P w K mg base CX0 1 f fd ["oftens","marks","worths"] (Jm K):=by
  refine F.ok ze9 (fun vs H Q E h=>?_) (fun cdv A outer s H vs Q E hr h=>?_)
  · obtain ⟨po,pk,ph,os,ks,hs,rfl,_⟩:=h
    rfl
  · obtain ⟨po,pk,ph,os,ks,hs,rfl,ho,hk,hh,hl,hl2,bo,bh,q⟩:=h
    refine ⟨_,(pss_one (ps_ret (pe_op op_add pe_int (pe_op op_mul (zo (sc:=defScope xy) (xA rfl) rfl (by decide +kernel) T.wD vO (pa_cons (zN rfl (N:=["mark","often"]) (own:=2) (js:=[]) (X:=(cxOf CX0 P w K mg base XH "base_of" (defScope xy) f cdv A outer s H E).nox) (zM (defScope xy) XH rfl rfl (by decide +kernel)) (L5.ZO (glR (sc:=defScope xy) rfl (by decide +kernel)) T.jI (pa_cons (pvA 1 (defScope xy) XH rfl rfl) (pa_cons (pvA 0 (defScope xy) XH rfl rfl) pa_nil))) (fun fp0 sx0 Hx0=>(yU (K:=K) rfl (pg_tup (n:=2) (by rfl) (pgs_cons (pgN (i:=0) (sc:=zb _ (defScope xy)) (M:=["mark","often"]) rfl rfl (by decide +kernel)) (pgs_cons (pgN (i:=1) (sc:=zb _ (defScope xy)) (M:=["mark","often"]) rfl rfl (by decide +kernel)) pgs_nil))))) (fun fp0 sx0 Hx0=>zG) (fun fp0 sx0 Hx0=>(pe_op op_mul (pvN (i:=0) (sc:=zb _ (defScope xy)) (M:=["mark","often"]) rfl rfl (by decide +kernel)) (pvN (i:=1) (sc:=zb _ (defScope xy)) (M:=["mark","often"]) rfl rfl (by decide +kernel))))) pa_nil)) (L19.zcF (sc:=defScope xy) rfl rfl (by decide +kernel) T.jH (pa_cons (pvA 2 (defScope xy) XH rfl rfl) pa_nil) (pk_cons pe_int pk_nil)))))),?_⟩
    try dsimp only [cxOf,Cx.nox]
    have hs' : sizeLine=16777216:=sizeLine_eq
    refine ⟨_,rfl,_,rfl,pk,po,rfl,⟨_,hk⟩,⟨_,ho⟩,fun c hc=>?_⟩
    refine L5.j9 hc (fun H' s'=>⟨s'.seq hk,s'.seq ho⟩) (fun σ=>L23.E2 fun v1 v2=>σ=[v1,v2]) (fun i _ _=>some (V.int ((ks.getD i 0 * os.getD i 0 : Nat) : Int))) ⟨_,_,rfl⟩ (by rw [zm,zm]; omega) (by rw [zm]; omega) ?_ ?_
    · rintro i x y σ H2 T R1 R0 hx hy ⟨v1,v2,rfl⟩ s2 hT k1 k0
      obtain ⟨h1,rfl⟩:=yr hx
      obtain ⟨h2,rfl⟩:=yr hy
      have b:=wA h2 bo
      refine ⟨T,_,rfl,SqT.of upd_same,rfl,_,_,rfl,_,_,rfl,rfl,_,rfl,_,rfl,_,_,rfl,rfl,.inr ⟨by omega,by omega⟩,k1 _ _ _ ⟨_,_,rfl⟩ ?_ (Same.zp hT)⟩
      rw [Int.natCast_mul]
    intro H1 s1 e1
    rw [XJ (by omega)] at e1
    refine ⟨c,_,rfl,SqL.of e1,?_⟩
    rw [ZK]
    refine ⟨_,rfl,ph,hs.map (fun n : Nat=>(n : Int)),_,rfl,rfl,by rw [← zcY]; exact s1.seq hh,fun m hm=>?_⟩
    obtain ⟨n,rfl,hn⟩ : ∃ n : Nat,m=(n : Int)∧n=CI.mxd hs:=by
      by_cases he : hs=[]
      · rw [he] at hm ⊢
        exact ⟨1,hm.1 rfl,rfl⟩
      · obtain ⟨h1,h2⟩:=hm.2 (by rw [Ne,List.map_eq_nil_iff]; exact he)
        obtain ⟨n,hn,rfl⟩:=List.mem_map.mp h1
        refine ⟨n,rfl,?_⟩
        rw [CI.W6 he]
        refine CI.zcG hn fun x hx=>?_
        have:=h2 _ (List.mem_map_of_mem hx)
        omega
    have bn : n≤1000:=by
      rw [hn]
      unfold CI.mxd
      split
      · omega
      · exact bh _ (CI.W5 (by assumption))
    refine ⟨_,_,rfl,rfl,.inr ⟨by omega,by omega⟩,_,_,rfl,rfl,?_⟩
    have q':=q H1 s1
    unfold CI.base at q'
    rw [← hn,Int.natCast_add,Int.natCast_mul,hl] at q'
    exact q'
noncomputable def Vg (K : PySem.W.Frag) : Sp:=fun vs H Q _=>L23.E6 fun (po : Addr) (pk : Addr) (ph : Addr) (os : List Nat) (ks : List Nat) (hs : List Nat)=>L23.A10 (vs=[.ref po,.ref pk,.ref ph]) (SqL K H po (nV os)) (SqL K H pk (nV ks)) (SqL K H ph (nV hs)) (ks.length=os.length) (ks.length≤1000) (hs.length≤1000) ((∀ o∈os,o≤1000)) ((∀ h∈hs,h≤1000)) (∀ H' p zs,Same H H'→H' p=some (.lst zs)→Els NL H' zs (CI.rows os ks hs)→H p=none→Q (.ref p) H')
theorem zdT {f : Addr} {fd Zo : FuncData} (F : Fun K "weights_of" "weights_of" yg f fd) (T : Txt K mg a)
    (XM : FnOk P w K mg base CX0 1 a.base_of Zo ["oftens","marks","worths"] (Jm K)) (ZL : Fun K "base_of" "base_of" xy a.base_of Zo) (XN : Binds K Zo ["oftens","marks","worths"] []) : FnOk P w K mg base CX0 2 f fd ["oftens","marks","worths"] (Vg K):=by
  refine F.ok zdu (fun vs H Q E h=>?_) (fun cdv A outer s H vs Q E hr h=>?_)
  · obtain ⟨po,pk,ph,os,ks,hs,rfl,_⟩:=h
    rfl
  · obtain ⟨po,pk,ph,os,ks,hs,rfl,ho,hk,hh,hl,hl2,hl3,bo,bh,q⟩:=h
    refine ⟨_,(pss_cons (psC (i:=3) (sc:=defScope yg) (M:=xX) rfl rfl rfl (by decide +kernel) (zk (sc:=defScope yg) XM (hr.mono (by decide)) rfl (by decide +kernel) T.zdL ZL.kp XN .nil pass0 (pa_cons (pvA 0 (defScope yg) xX rfl rfl) (pa_cons (pvA 1 (defScope yg) xX rfl rfl) (pa_cons (pvA 2 (defScope yg) xX rfl rfl) pa_nil)))))
      (pss_cons (psN (i:=4) (sc:=defScope yg) (M:=xX) rfl rfl (by decide +kernel) (pe_lst pa_nil))
      (pss_cons (ps_for PassesOwn.never rfl (pi_list (pvA 1 (defScope yg) xX rfl rfl)) (pgC (i:=5) (sc:=defScope yg) (M:=xX) rfl rfl rfl (by decide +kernel)) (pss_one (ps_expr (pe_bm PySem.F.plainAttrs_list PySem.F.slot_list_append PySem.F.type_list_append mt_append (pvA 4 (defScope yg) xX rfl rfl) (pa_cons (zN rfl (N:=["worth","base","mark"]) (own:=1) (js:=[3,5]) (X:=(cxOf CX0 P w K mg base xX "weights_of" (defScope yg) f cdv A outer s H E).nox) (zM (defScope yg) xX rfl rfl (by decide +kernel)) (pi_list (pvA 2 (defScope yg) xX rfl rfl)) (fun fp0 sx0 Hx0=>(pgN (i:=0) (sc:=zb _ (defScope yg)) (M:=["worth","base","mark"]) rfl rfl (by decide +kernel))) (fun fp0 sx0 Hx0=>zG) (fun fp0 sx0 Hx0=>(pe_op op_add (pvN (i:=1) (sc:=zb _ (defScope yg)) (M:=["worth","base","mark"]) rfl rfl (by decide +kernel)) (pe_op op_mul (pvN (i:=2) (sc:=zb _ (defScope yg)) (M:=["worth","base","mark"]) rfl rfl (by decide +kernel)) (pvN (i:=0) (sc:=zb _ (defScope yg)) (M:=["worth","base","mark"]) rfl rfl (by decide +kernel)))))) pa_nil)))))
      (pss_one (ps_ret (pvA 4 (defScope yg) xX rfl rfl)))))),?_⟩
    try dsimp only [cxOf,Cx.nox]
    have hs' : sizeLine=16777216:=sizeLine_eq
    refine ⟨_,rfl,_,rfl,_,rfl,po,pk,ph,os,ks,hs,rfl,ho,hk,hh,hl,hl2,bo,bh,fun H1 s1=>?_⟩
    refine ⟨by first | decide | (simp only [List.length_cons,List.length_nil,List.length_append,List.length_map]; decide),fun pW hpW=>?_⟩
    have s2:=s1.trans (Same.zp (o := .lst []) hpW)
    have npW : H pW=none:=s1.free hpW
    have e2 : upd H1 pW (.lst []) pW=some (.lst []):=upd_same
    generalize upd H1 pW (.lst [])=H2 at s2 e2 ⊢
    refine ⟨_,rfl,pk,rfl,⟨_,s2.seq hk⟩,?_⟩
    refine for_list (xs:=nV ks) (fun i σ H'=>L23.A3 ((∃ v,σ=[some (.ref po),some (.ref pk),some (.ref ph),some (.int (CI.base os ks hs : Nat)),some (.ref pW),v])) (Same H H') (∃ zs,H' pW=some (.lst zs)∧∃ D,L23.A3 (Same D H') (D pW=none) (Els NL D zs ((CI.rows os ks hs).take i)))) ⟨⟨_,rfl⟩,s2,[],e2,fun _=>none,(fun _ _ h=>nomatch h),rfl,by rw [List.take_zero]; exact Els.nil⟩ ?_ ?_ ?_
    · rintro i σ H' _ ⟨_,s',_⟩
      exact s'.seq hk
    · rintro i x σ H3 hx ⟨⟨v,rfl⟩,s3,zs,e3,D,sD,nD,hE⟩
      obtain ⟨hi,rfl⟩:=yr hx
      refine ⟨_,rfl,.inl ⟨rfl,_,SqL.of e3⟩,?_⟩
      refine ⟨_,rfl,ph,rfl,⟨_,s3.seq hh⟩,fun c hc=>?_⟩
      refine xo hc zF (fun σ=>∃ v,σ=[v,some (.int (CI.base os ks hs : Nat)),some (.int (ks.getD i 0 : Nat))]) (nV (CI.row os ks hs i)) (by rw [zm,zm,CI.jj]) ⟨_,rfl⟩ (fun H' s'=>(s3.trans s').seq hh) (by rw [zm]; omega) ?_ ?_
      · rintro j y z σ H4 R1 R0 hy hz ⟨v,rfl⟩ s4 k1
        obtain ⟨hj,rfl⟩:=yr hy
        obtain ⟨hj',rfl⟩:=yr hz
        have b:=wA hj bh
        refine ⟨_,rfl,_,rfl,_,rfl,_,_,rfl,rfl,.inr ⟨by omega,by omega⟩,_,_,rfl,rfl,?_⟩
        have : ((CI.row os ks hs i).getD j 0 : Nat)=(CI.base os ks hs : Nat) + ks.getD i 0 * hs.getD j 0:=CI.jk hj
        rw [this,Int.natCast_add,Int.natCast_mul] at k1
        exact k1 _ _ ⟨_,rfl⟩ (Same.refl _)
      intro H4 s4 e4
      have ncW : c≠pW:=(ne_of_none e3 hc).symm
      refine ⟨pW,_,_,rfl,rfl,s4 _ _ e3,?_,?_⟩
      · rw [hE.1,List.length_take,CI.wJ]
        omega
      refine ⟨⟨_,rfl⟩,zK (s3.trans s4) npW,_,upd_same,upd D c (.lst (nV (CI.row os ks hs i))),?_,?_,?_⟩
      · have sD4 : Same (upd D c (.lst (nV (CI.row os ks hs i)))) H4:=fun b u e=>by
          by_cases hb : b=c
          · subst hb
            rw [upd_same] at e
            rw [e4]
            exact e
          · rw [upd_ne hb] at e
            exact s4 _ _ (sD _ _ e)
        exact zK sD4 (by rw [upd_ne ncW.symm]; exact nD)
      · rw [upd_ne ncW.symm]
        exact nD
      · rw [L4.take_snoc (CI.jY hi)]
        refine (hE.up fun v a=>NL.up (Same.zp (sD.free hc))).snoc ⟨c,rfl,upd_same⟩
    rintro σ H3 ⟨⟨v,rfl⟩,s3,zs,e3,D,sD,nD,hE⟩
    rw [zm,← CI.wJ os ks hs,List.take_length] at hE
    exact ⟨_,rfl,q H3 pW zs s3 e3 (hE.up fun v a=>NL.up sD) npW⟩
theorem zbx {m : Nat} (h : m≠0) : ∃ k : Nat,m.testBit k=true∧(∀ u,m.testBit u=true→u≤k)∧((Builtin.Int.intBits (m : Int) : Nat) : Int) - 1=(k : Int):=by
  have h1:=CB.VM m
  have h2 : Builtin.Int.intBits (m : Int)≠0:=fun z=>by
    rw [z] at h1
    omega
  obtain ⟨k,hk⟩ : ∃ k,Builtin.Int.intBits (m : Int)=k + 1:=⟨_,(Nat.succ_pred_eq_of_ne_zero h2).symm⟩
  rw [hk] at h1
  have h3 : 2 ^ k≤m:=by
    have : ¬ Builtin.Int.intBits (m : Int)≤k:=by omega
    rw [intBits_le_iff,Int.natAbs_natCast] at this
    omega
  refine ⟨k,?_,fun u hu=>?_,by omega⟩
  · rw [Nat.testBit_eq_decide_div_mod_eq,decide_eq_true_eq]
    have : m / 2 ^ k=1:=by
      rw [Nat.pow_succ] at h1
      refine Nat.div_eq_of_lt_le (by omega) (by omega)
    rw [this]
  · have h4:=Nat.ge_two_pow_of_testBit hu
    have h5 : 2 ^ u < 2 ^ (k + 1):=Nat.lt_of_le_of_lt h4 h1
    have:=(Nat.pow_lt_pow_iff_right (by decide)).mp h5
    omega
noncomputable def Vh (_ : PySem.W.Frag) : Sp:=fun vs H Q _=>∃ (m : Nat),vs=[.int m]∧∀ r,(m=0∧r=V.non∨∃ k : Nat,m.testBit k=true∧(∀ u,m.testBit u=true→u≤k)∧r = .int (k : Nat))→Q r H
theorem zdU {f : Addr} {fd : FuncData} (F : Fun K "last_of" "last_of" vD f fd) (T : Txt K mg a) : FnOk P w K mg base CX0 1 f fd ["mask"] (Vh K):=by
  refine F.ok zdo (fun vs H Q E h=>?_) (fun cdv A outer s H vs Q E hr h=>?_)
  · obtain ⟨m,rfl,_⟩:=h
    rfl
  · obtain ⟨m,rfl,q1⟩:=h
    refine ⟨_,(pss_cons (ps_if (pt_cmpR op_eq (pvA 0 (defScope vD) Jg rfl rfl) pe_int (nomark _)) (pss_one (ps_ret pe_non)) pss_nil)
      (pss_one (ps_ret (pe_op op_sub (pe_bm0 PySem.F.plainAttrs_int slot_int_bit_length type_int_bit_length vW (pvA 0 (defScope vD) Jg rfl rfl)) pe_int)))),?_⟩
    try dsimp only [cxOf,Cx.nox]
    refine ⟨_,rfl,rfl,_,rfl,ite2 (fun h1=>?_) (fun h1=>?_)⟩
    · have h1':=V.int.inj (of_decide_eq_true h1)
      exact q1 _ (.inl ⟨by omega,rfl⟩)
    · have h1' : m≠0:=fun z=>h1 (decide_eq_true (by rw [z]; rfl))
      obtain ⟨k,e1,e3,e2⟩:=zbx h1'
      have q:=q1 _ (.inr ⟨k,e1,e3,rfl⟩)
      rw [← e2] at q
      exact ⟨_,rfl,rfl,rfl,_,rfl,_,_,rfl,rfl,q⟩
noncomputable def At0 (B : Nat) (ms ks hs held left : List Nat) (zh : List Int) (sm : List (Option (Nat × Option Nat))) (p : Nat) : Prop :=
  (CV.ss sm p=none∧CV.gg zh p=0∧∀ w,w < ks.length→CV.X ms p w=true→CV.X held p w=false→¬ 0 < CV.zz left w)∨(∃ w,CV.ss sm p=some (w,none)∧w < ks.length∧CV.X ms p w=true∧CV.X held p w=false∧0 < CV.zz left w∧CV.gg zh p=CV.cc B ks hs w p∧∀ w',w' < ks.length→CV.X ms p w'=true→CV.X held p w'=false→0 < CV.zz left w'→CV.cc B ks hs w' p≤CV.cc B ks hs w p)
structure Gd (ms ks hs held za left : List Nat) : Prop where
  n : ms.length≤1000
  m : ks.length≤1000
  lh : held.length=ms.length
  lw : hs.length=ms.length
  ls : za.length=ms.length
  ll : left.length=ks.length
  bh : ∀ h∈hs,h≤1000
  fit : ∀ p w,CV.X ms p w=true→w < ks.length
  up : CV.Up ks
  hf : ∀ p w,CV.X held p w=true→CV.X ms p w=true
theorem Vi (mk fr hd : Nat) (w : Nat) : (CB.less (mk &&& fr) hd).testBit w=(mk.testBit w && fr.testBit w && !hd.testBit w):=by
  rw [CB.WN,Nat.testBit_and]
noncomputable def zck (K : PySem.W.Frag) (C : Addr) : Sp:=fun vs H Q _=>L23.E12 fun (x : Addr) (dx : Addr) (pm : Addr) (pk : Addr) (pw : Addr) (ph : Addr) (ps : Addr) (pl : Addr) (pg : Addr) (pt : Addr) (B : Nat) (ms : List Nat)=>L23.E6 fun (ks : List Nat) (hs : List Nat) (held : List Nat) (za : List Nat) (left : List Nat) (zh : List Int)=>∃ (sm : List (Option (Nat × Option Nat))),L23.A4 (vs=[.ref x]) (CV.Wgh C H x dx pm pk pw ph ps pl pg pt B ms ks hs held za left zh sm) (Gd ms ks hs held za left) (∀ H' pg' pt' zw sm',CV.Wgh C H' x dx pm pk pw ph ps pl pg' pt' B ms ks hs held za left zw sm'→zw.length=ms.length→sm'.length=ms.length→(∀ p,p < ms.length→At0 B ms ks hs held left zw sm' p)→H pg'=none→H pt'=none→CV.Kp [x] H H'→Q .non H')
theorem zfx {f : Addr} {fd jv xS xT jw : FuncData} (F : Fun K "take_free_works" "Weigher.take_free_works" zJ f fd) (T : Txt K mg a)
    (ZV : FnOk P w K mg base CX0 1 a.j0 jv ["mask"] (Vh K)) (jJ : Fun K "last_of" "last_of" vD a.j0 jv) (ZW : Binds K jv ["mask"] [])
    (jc : FnOk P w K mg base CX0 1 a.less xS ["one","other"] (YL K)) (vj : Fun K "less" "less" ve a.less xS) (jd : Binds K xS ["one","other"] [])
    (vJ : FnOk P w K mg base CX0 1 a.vA xT ["numbers"] (YK K)) (wF : Fun K "mask_of" "mask_of" xr a.vA xT) (vK : Binds K xT ["numbers"] [])
    (ZX : FnOk P w K mg base CX0 1 a.shared jw ["one","other"] (Vf K)) (jK : Fun K "shared" "shared" vE a.shared jw) (ZY : Binds K jw ["one","other"] []) : FnOk P w K mg base CX0 2 f fd ["self"] (zck K a.zd):=by
  refine F.ok zfc (fun vs H Q E h=>?_) (fun cdv A outer s H vs Q E hr h=>?_)
  · obtain ⟨x,dx,pm,pk,pw,ph,ps,pl,pg,pt,B,ms,ks,hs,held,za,left,zh,sm,rfl,_⟩:=h
    rfl
  · obtain ⟨x,dx,pm,pk,pw,ph,ps,pl,pg,pt,B,ms,ks,hs,held,za,left,zh,sm,rfl,r,G,q⟩:=h
    refine ⟨_,(pss_cons (ps_fld (pvA 0 (defScope zJ) ye rfl rfl) (zN rfl (N:=["mask"]) (own:=1) (js:=[]) (X:=(cxOf CX0 P w K mg base ye "Weigher.take_free_works" (defScope zJ) f cdv A outer s H E).nox) (zM (defScope zJ) ye rfl rfl (by decide +kernel)) (pi_list (pe_fld (pvA 0 (defScope zJ) ye rfl rfl) rfl)) (fun fp0 sx0 Hx0=>(pgN (i:=0) (sc:=zb _ (defScope zJ)) (M:=["mask"]) rfl rfl (by decide +kernel))) (fun fp0 sx0 Hx0=>zG) (fun fp0 sx0 Hx0=>pe_int)) rfl)
      (pss_cons (ps_fld (pvA 0 (defScope zJ) ye rfl rfl) (zN rfl (N:=["mask"]) (own:=1) (js:=[]) (X:=(cxOf CX0 P w K mg base ye "Weigher.take_free_works" (defScope zJ) f cdv A outer s H E).nox) (zM (defScope zJ) ye rfl rfl (by decide +kernel)) (pi_list (pe_fld (pvA 0 (defScope zJ) ye rfl rfl) rfl)) (fun fp0 sx0 Hx0=>(pgN (i:=0) (sc:=zb _ (defScope zJ)) (M:=["mask"]) rfl rfl (by decide +kernel))) (fun fp0 sx0 Hx0=>zG) (fun fp0 sx0 Hx0=>pe_non)) rfl)
      (pss_cons (psN (i:=1) (sc:=defScope zJ) (M:=ye) rfl rfl (by decide +kernel) (zk (sc:=defScope zJ) vJ (hr.mono (by decide)) rfl (by decide +kernel) T.Wt wF.kp vK .nil pass0 (pa_cons (zN rfl (N:=["work","left"]) (own:=2) (js:=[]) (X:=(cxOf CX0 P w K mg base ye "Weigher.take_free_works" (defScope zJ) f cdv A outer s H E).nox) (zM (defScope zJ) ye rfl rfl (by decide +kernel)) (xH (glR (sc:=defScope zJ) rfl (by decide +kernel)) T.zT (pa_cons (pe_fld (pvA 0 (defScope zJ) ye rfl rfl) rfl) pa_nil)) (fun fp0 sx0 Hx0=>(yU (K:=K) rfl (pg_tup (n:=2) (by rfl) (pgs_cons (pgN (i:=0) (sc:=zb _ (defScope zJ)) (M:=["work","left"]) rfl rfl (by decide +kernel)) (pgs_cons (pgN (i:=1) (sc:=zb _ (defScope zJ)) (M:=["work","left"]) rfl rfl (by decide +kernel)) pgs_nil))))) (fun fp0 sx0 Hx0=>(vn (pt_cmpR op_gt (pvN (i:=1) (sc:=zb _ (defScope zJ)) (M:=["work","left"]) rfl rfl (by decide +kernel)) pe_int (nomark _)))) (fun fp0 sx0 Hx0=>(pvN (i:=0) (sc:=zb _ (defScope zJ)) (M:=["work","left"]) rfl rfl (by decide +kernel)))) pa_nil)))
      (pss_one (ps_for PassesOwn.never rfl (xH (glR (sc:=defScope zJ) rfl (by decide +kernel)) T.zT (pa_cons (pe_fld (pvA 0 (defScope zJ) ye rfl rfl) rfl) pa_nil)) (pg_tup (n:=2) (by rfl) (pgs_cons (pgN (i:=2) (sc:=defScope zJ) (M:=ye) rfl rfl (by decide +kernel)) (pgs_cons (pgN (i:=3) (sc:=defScope zJ) (M:=ye) rfl rfl (by decide +kernel)) pgs_nil))) (pss_cons (psN (i:=4) (sc:=defScope zJ) (M:=ye) rfl rfl (by decide +kernel) (zk (sc:=defScope zJ) ZV (hr.mono (by decide)) rfl (by decide +kernel) T.zcd jJ.kp ZW .nil pass0 (pa_cons (zk (sc:=defScope zJ) jc (hr.mono (by decide)) rfl (by decide +kernel) T.Jk vj.kp jd .nil pass0 (pa_cons (zk (sc:=defScope zJ) ZX (hr.mono (by decide)) rfl (by decide +kernel) T.zce jK.kp ZY .nil pass0 (pa_cons (pvA 3 (defScope zJ) ye rfl rfl) (pa_cons (pvA 1 (defScope zJ) ye rfl rfl) pa_nil))) (pa_cons (pe_ix ix_list (pe_fld (pvA 0 (defScope zJ) ye rfl rfl) rfl) (pvA 2 (defScope zJ) ye rfl rfl) (fun _ _=>rfl)) pa_nil))) pa_nil)))
      (pss_one (ps_if (pt_cmpR op_notN (pvA 4 (defScope zJ) ye rfl rfl) pe_non (nomark _)) (pss_cons (ps_asg (pe_op op_add (pe_fld (pvA 0 (defScope zJ) ye rfl rfl) rfl) (pe_op op_mul (pe_ix ix_list (pe_fld (pvA 0 (defScope zJ) ye rfl rfl) rfl) (pvA 4 (defScope zJ) ye rfl rfl) (fun _ _=>rfl)) (pe_ix ix_list (pe_fld (pvA 0 (defScope zJ) ye rfl rfl) rfl) (pvA 2 (defScope zJ) ye rfl rfl) (fun _ _=>rfl)))) (pg_sub (pe_fld (pvA 0 (defScope zJ) ye rfl rfl) rfl) (pvA 2 (defScope zJ) ye rfl rfl) set_list))
      (pss_one (ps_asg (pe_tup (pa_cons (pvA 4 (defScope zJ) ye rfl rfl) (pa_cons pe_non pa_nil))) (pg_sub (pe_fld (pvA 0 (defScope zJ) ye rfl rfl) rfl) (pvA 2 (defScope zJ) ye rfl rfl) set_list)))) pss_nil)))))))),?_⟩
    try dsimp only [cxOf,Cx.nox]
    have hs' : sizeLine=16777216:=sizeLine_eq
    have gn:=G.n
    have gm:=G.m
    refine ⟨_,rfl,x,_,dx,_,_,rfl,r.ins,T.zg,T.zR,CV.ji,pm,rfl,⟨_,SqL.of r.m⟩,fun c1 hc1=>?_⟩
    refine vN hc1 (zF (xs:=nV ms)) (fun σ=>∃ v,σ=[v]) (fun _=>some (.int 0)) ⟨_,rfl⟩ (fun H' s'=>SqL.of (s' _ _ r.m)) (by rw [zm]; omega) ?_ ?_
    · rintro y ys σ H' R1 R0 hy ⟨v,rfl⟩ s' k1 k0
      exact k1 _ _ _ ⟨_,rfl⟩ rfl (Same.refl _)
    intro H1 s1 e1
    rw [CO.zeros,show nV (List.replicate ms.length 0)=((List.replicate ms.length (0 : Int))).map V.int by unfold nV; rw [List.map_replicate,List.map_replicate]; rfl] at e1
    have n1x : c1≠x:=(ne_of_none r.ins hc1).symm
    have r1:=r.same s1
    refine ⟨_,rfl,x,_,dx,_,rfl,r1.ins,T.zg,T.zE,by show 9 < 1000; decide,?_⟩
    rw [CV.zcL]
    have fr1 : c1∉[pm,pk,pw,ph,ps,pl,pg,pt]:=r.fresh hc1
    have r2:=r1.zfS (pg':=c1) e1 fr1 n1x
    have k2 : CV.Kp [x] H (upd H1 x (.ins a.zd dx (CV.fw B pm pk pw ph ps pl c1 pt))):=(CV.Kp.same s1).trans (CV.Kp.set (List.mem_singleton.mpr rfl) fun xs z=>by rw [r1.ins] at z; cases z)
    generalize upd H1 x (.ins a.zd dx (CV.fw B pm pk pw ph ps pl c1 pt))=H2 at r2 k2 ⊢
    refine ⟨_,rfl,x,_,dx,_,_,rfl,r2.ins,T.zg,T.zR,CV.ji,pm,rfl,⟨_,SqL.of r2.m⟩,fun c2 hc2=>?_⟩
    refine vN hc2 (zF (xs:=nV ms)) (fun σ=>∃ v,σ=[v]) (fun _=>some .non) ⟨_,rfl⟩ (fun H' s'=>SqL.of (s' _ _ r2.m)) (by rw [zm]; omega) ?_ ?_
    · rintro y ys σ H' R1 R0 hy ⟨v,rfl⟩ s' k1 k0
      exact k1 _ _ _ ⟨_,rfl⟩ rfl (Same.refl _)
    intro H3 s3 e3
    have n2x : c2≠x:=(ne_of_none r2.ins hc2).symm
    have h2 : H c2=none:=by
      cases z : H c2 with
      | none=>rfl
      | some u=>rw [k2.kp c2 u (fun y=>n2x (List.mem_singleton.mp y)) z] at hc2; cases hc2
    have r3:=r2.same s3
    have fr2 : c2∉[pm,pk,pw,ph,ps,pl,c1,pt]:=r2.fresh hc2
    refine ⟨_,rfl,x,_,dx,_,rfl,r3.ins,T.zg,T.zS,by show 9 < 1000; decide,?_⟩
    rw [CV.zcM]
    have r4:=r3.zfT (pt':=c2) (zs:=List.replicate ms.length V.non) (sm':=List.replicate ms.length none) (by rw [e3]; congr 2; rw [CV.zfU,zm]) (CV.zbq _) fr2 n2x
    have k4 : CV.Kp [x] H (upd H3 x (.ins a.zd dx (CV.fw B pm pk pw ph ps pl c1 c2))):=(k2.trans (CV.Kp.same s3)).trans (CV.Kp.set (List.mem_singleton.mpr rfl) fun xs z=>by rw [r3.ins] at z; cases z)
    generalize upd H3 x (.ins a.zd dx (CV.fw B pm pk pw ph ps pl c1 c2))=H4 at r4 k4 ⊢
    clear r1 r2 r3 s1 s3 e1 e3 k2 hc2
    refine ⟨_,rfl,x,_,dx,_,_,rfl,r4.ins,T.zg,T.yc,CV.Yz,pl,rfl,⟨_,SqL.of r4.l⟩,fun c3 hc3=>?_⟩
    refine L5.jz hc3 (fun H' s'=>s'.seq (SqL.of r4.l)) (fun σ=>L23.E2 fun v1 v2=>σ=[v1,v2]) CO.zbj ⟨_,_,rfl⟩ (by rw [zm,G.ll]; omega) ?_ ?_
    · rintro i y σ H1 Tt R1 R0 hy ⟨v1,v2,rfl⟩ s1 hTt k1 k0
      unfold nV at hy
      rw [List.getElem?_map] at hy
      obtain ⟨n,hn',rfl⟩:=Option.map_eq_some_iff.mp hy
      rw [show (0 : Int) + (i : Nat)=(i : Nat) by omega]
      refine ⟨Tt,_,rfl,SqT.of upd_same,rfl,_,_,rfl,_,_,rfl,rfl,?_⟩
      refine ⟨_,rfl,_,_,rfl,rfl,_,rfl,?_⟩
      have ex : CO.zbj i (V.int (n : Nat))=if (0 : Int) < (n : Nat) then some (V.int (i : Nat)) else none:=rfl
      refine ite2 (fun h1=>?_) (fun h1=>?_)
      · exact ⟨_,rfl,k1 _ _ _ ⟨_,_,rfl⟩ (ex.trans (if_pos (of_decide_eq_true h1))) (Same.zp hTt)⟩
      · exact k0 _ _ ⟨_,_,rfl⟩ (ex.trans (if_neg fun z=>h1 (decide_eq_true z))) (Same.zp hTt)
    intro H5 s5 e5
    rw [CO.zbk] at e5
    have r5:=r4.same s5
    have k5:=k4.trans (CV.Kp.same s5)
    refine ⟨c3,CO.Zb left,rfl,SqL.of e5,fun n hn=>by have:=CO.zcB hn; have:=G.ll; omega,?_⟩
    clear r4 k4 s5 e5
    refine ⟨_,rfl,x,_,dx,_,_,rfl,r5.ins,T.zg,T.zR,CV.ji,pm,rfl,⟨_,SqL.of r5.m⟩,?_⟩
    refine L5.vq (xs:=nV ms) (fun i σ H'=>L23.E5 fun v2 v3 v4 zw sm'=>L23.A7 (σ=[some (.ref x),some (.int (CB.maskOf (CO.Zb left) : Nat)),v2,v3,v4]) (CV.Wgh a.zd H' x dx pm pk pw ph ps pl c1 c2 B ms ks hs held za left zw sm') (zw.length=ms.length) (sm'.length=ms.length) ((∀ p,p < i→At0 B ms ks hs held left zw sm' p)) ((∀ p,i≤p→CV.ss sm' p=none∧CV.gg zw p=0)) (CV.Kp [x] H H'))
      ⟨_,_,_,_,_,rfl,r5,List.length_replicate,List.length_replicate,fun p h=>absurd h (Nat.not_lt_zero p),fun p _=>⟨CV.Ym _ _ _,CV.Ym _ _ _⟩,k5⟩ ?_ ?_ ?_
    · rintro i σ H' _ ⟨_,_,_,_,_,_,r',_⟩
      exact SqL.of r'.m
    · rintro i y σ H6 Tt hy ⟨v2,v3,v4,vm,sm6,rfl,r6,lg,lsm,at6,rest,k6⟩ hTt
      obtain ⟨hi,rfl⟩:=yr hy
      rw [show (0 : Int) + (i : Nat)=(i : Nat) by omega]
      have s7:=Same.zp (o := .tup [.int (i : Nat),.int (ms.getD i 0 : Nat)]) hTt
      have et : upd H6 Tt (.tup [.int (i : Nat),.int (ms.getD i 0 : Nat)]) Tt=some (.tup [.int (i : Nat),.int (ms.getD i 0 : Nat)]):=upd_same
      generalize upd H6 Tt (.tup [.int (i : Nat),.int (ms.getD i 0 : Nat)])=H7 at s7 et ⊢
      have r7:=r6.same s7
      have k7:=k6.trans (CV.Kp.same s7)
      have bit : ∀ w,(CB.less (ms.getD i 0 &&& CB.maskOf (CO.Zb left)) (held.getD i 0)).testBit w=(CV.X ms i w && decide (0 < left.getD w 0) && !CV.X held i w):=fun w=>by
        rw [Vi,CB.j7,CO.Wg]
        rfl
      refine ⟨Tt,_,rfl,SqT.of et,rfl,_,_,rfl,_,_,rfl,rfl,?_⟩
      refine ⟨_,rfl,_,rfl,_,_,rfl,_,rfl,x,_,dx,_,_,rfl,r7.ins,T.zg,T.zI,CV.wZ,_,rfl,ph,_,_,_,rfl,rfl,SqL.of r7.h,zP (by rw [G.lh]; exact hi),_,_,rfl,_,rfl,fun rv hrv=>?_⟩
      rcases hrv with ⟨h0,rfl⟩ | ⟨wk,hwk,hmx,rfl⟩
      · refine ⟨_,rfl,rfl,_,rfl,iteF ⟨_,_,_,vm,sm6,rfl,r7,lg,lsm,fun p hp=>?_,fun p hp=>rest p (by omega),k7⟩⟩
        by_cases z : p=i
        · subst z
          obtain ⟨z1,z2⟩:=rest p (Nat.le_refl _)
          refine .inl ⟨z1,z2,fun w hw f1 f2 f3=>?_⟩
          have:=bit w
          rw [h0,Nat.zero_testBit,f1,f2,decide_eq_true (show 0 < left.getD w 0 by unfold CV.zz at f3; omega)] at this
          cases this
        · exact at6 p (by omega)
      · rw [bit wk,Bool.and_eq_true,Bool.and_eq_true,Bool.not_eq_true',decide_eq_true_eq] at hwk
        obtain ⟨⟨b1,b2⟩,b3⟩:=hwk
        have hwl:=G.fit i wk b1
        have bh:=wA (by rw [G.lw]; exact hi : i < hs.length) G.bh
        refine ⟨_,rfl,rfl,_,rfl,iteT ?_⟩
        refine ⟨_,rfl,x,_,dx,_,_,rfl,r7.ins,T.zg,T.yE,CV.zc6,_,rfl,x,_,dx,_,_,rfl,r7.ins,T.zg,T.yk,CV.VX,_,rfl,pk,_,_,_,rfl,rfl,SqL.of r7.k,zP hwl,_,rfl,x,_,dx,_,_,rfl,r7.ins,T.zg,T.z5,CV.Yl,_,rfl,pw,_,_,_,rfl,rfl,SqL.of r7.w,zP (by rw [G.lw]; exact hi),_,_,rfl,rfl,.inr ⟨by omega,by omega⟩,_,_,rfl,rfl,_,rfl,x,_,dx,_,_,rfl,r7.ins,T.zg,T.zE,CV.wW,_,rfl,c1,_,_,i,rfl,rfl,r7.g,by rw [List.length_map,lg]; exact yL hi,?_⟩
        rw [show (fun i j : Int=>V.int (i + j)) ((B : Nat) : Int) (((ks.getD wk 0 : Nat) : Int) * ((hs.getD i 0 : Nat) : Int))=V.int (CV.cc B ks hs wk i) from rfl,← List.map_set]
        have r8:=r7.setG (vm.set i (CV.cc B ks hs wk i))
        have k8 : CV.Kp [x] H (upd H7 c1 (.lst ((vm.set i (CV.cc B ks hs wk i)).map V.int))):=k7.new hc1
        generalize upd H7 c1 (.lst ((vm.set i (CV.cc B ks hs wk i)).map V.int))=H8 at r8 k8 ⊢
        refine ⟨_,rfl,by first | decide | (simp only [List.length_cons,List.length_nil,List.length_append,List.length_map]; decide),fun t8 ht8=>?_⟩
        have s9:=Same.zp (o := .tup [.int (wk : Nat),.non]) ht8
        have e9 : upd H8 t8 (.tup [.int (wk : Nat),.non]) t8=some (.tup [.int (wk : Nat),.non]):=upd_same
        generalize upd H8 t8 (.tup [.int (wk : Nat),.non])=H9 at s9 e9 ⊢
        have r9:=r8.same s9
        have k9:=k8.trans (CV.Kp.same s9)
        obtain ⟨zs,ez,hE⟩:=r9.t
        refine ⟨_,rfl,x,_,dx,_,_,rfl,r9.ins,T.zg,T.zS,CV.ZS,_,rfl,c2,_,_,i,rfl,rfl,ez,by rw [hE.1,lsm]; exact yL hi,?_⟩
        refine ⟨_,_,_,vm.set i (CV.cc B ks hs wk i),sm6.set i (some (wk,none)),rfl,r9.zc9 (CV.VZ hE ⟨t8,rfl,e9⟩),by rw [List.length_set]; exact lg,by rw [List.length_set]; exact lsm,fun p hp=>?_,fun p hp=>?_,k9.new h2⟩
        · have eg:=CV.YF (l:=vm) (v:=CV.cc B ks hs wk i) (by rw [lg]; exact hi : i < vm.length)
          have es:=CV.W9 (l:=sm6) (v:=some (wk,none)) (by rw [lsm]; exact hi : i < sm6.length)
          unfold At0
          rw [eg,es]
          by_cases z : p=i
          · subst z
            rw [CA.up_eq,CA.up_eq]
            refine .inr ⟨wk,rfl,hwl,b1,b3,by unfold CV.zz; omega,rfl,fun w' hw' f1 f2 f3=>CV.ze4 G.up (hmx w' ?_) hwl⟩
            rw [bit w',f1,f2,decide_eq_true (show 0 < left.getD w' 0 by unfold CV.zz at f3; omega)]
            rfl
          · rw [CA.yq z,CA.yq z]
            exact at6 p (by omega)
        · rw [CV.YF (by rw [lg]; exact hi),CV.W9 (by rw [lsm]; exact hi),CA.yq (by omega),CA.yq (by omega)]
          exact rest p (by omega)
    rintro σ H6 ⟨v2,v3,v4,vm,sm6,rfl,r6,lg,lsm,at6,rest,k6⟩
    rw [zm] at at6
    exact q H6 c1 c2 vm sm6 r6 lg lsm at6 hc1 h2 k6
theorem zby {b : Bool} {A B R : Prop} (h1 : R→b=true→A) (h2 : R→¬ b=true→B) (r : R) : if b=true then A else B:=by
  by_cases h : b=true
  · rw [if_pos h]; exact h1 r h
  · rw [if_neg h]; exact h2 r h
noncomputable def zcl (K : PySem.W.Frag) (C : Addr) : Sp:=fun vs H Q _=>L23.E12 fun (x : Addr) (dx : Addr) (pm : Addr) (pk : Addr) (pw : Addr) (ph : Addr) (ps : Addr) (pl : Addr) (pg : Addr) (pt : Addr) (B : Nat) (ms : List Nat)=>L23.E8 fun (ks : List Nat) (hs : List Nat) (held : List Nat) (za : List Nat) (left : List Nat) (zh : List Int) (sm : List (Option (Nat × Option Nat))) (p : Nat)=>∃ (D0 : Hp),L23.A6 (vs=[.ref x,.int (p : Nat)]) (CV.Wgh C H x dx pm pk pw ph ps pl pg pt B ms ks hs held za left zh sm) (Gd ms ks hs held za left) (p < ms.length) (Same D0 H) (∀ D' H' v mv,Gr D0 H D' H'→CV.ML D' v mv→CV.xW ms.length ks.length (CV.cc B ks hs) (CV.X ms) (CV.X held) p ms.length mv→Q v H')
theorem zfy {f : Addr} {fd Vj jv xS jw : FuncData} (F : Fun K "moves_to" "Weigher.moves_to" zY f fd) (T : Txt K mg a)
    (Jo : FnOk P w K mg base CX0 1 a.Yp Vj ["mask"] (zaJ K)) (YM : Fun K "first_of" "first_of" vC a.Yp Vj) (Jp : Binds K Vj ["mask"] [])
    (ZV : FnOk P w K mg base CX0 1 a.j0 jv ["mask"] (Vh K)) (jJ : Fun K "last_of" "last_of" vD a.j0 jv) (ZW : Binds K jv ["mask"] [])
    (jc : FnOk P w K mg base CX0 1 a.less xS ["one","other"] (YL K)) (vj : Fun K "less" "less" ve a.less xS) (jd : Binds K xS ["one","other"] [])
    (ZX : FnOk P w K mg base CX0 1 a.shared jw ["one","other"] (Vf K)) (jK : Fun K "shared" "shared" vE a.shared jw) (ZY : Binds K jw ["one","other"] []) : FnOk P w K mg base CX0 2 f fd ["self","place"] (zcl K a.zd):=by
  refine F.ok zfd (fun vs H Q E h=>?_) (fun cdv A outer s H vs Q E hr h=>?_)
  · obtain ⟨x,dx,pm,pk,pw,ph,ps,pl,pg,pt,B,ms,ks,hs,held,za,left,zh,sm,p,D0,rfl,_⟩:=h
    rfl
  · obtain ⟨x,dx,pm,pk,pw,ph,ps,pl,pg,pt,B,ms,ks,hs,held,za,left,zh,sm,p,D0,rfl,r,G,hp,sD0,q⟩:=h
    refine ⟨_,(pss_cons (psN (i:=2) (sc:=defScope zY) (M:=yx) rfl rfl (by decide +kernel) (pe_lst pa_nil))
      (pss_cons (ps_for PassesOwn.never rfl (xH (glR (sc:=defScope zY) rfl (by decide +kernel)) T.zT (pa_cons (pe_fld (pvA 0 (defScope zY) yx rfl rfl) rfl) pa_nil)) (pg_tup (n:=2) (by rfl) (pgs_cons (pgN (i:=3) (sc:=defScope zY) (M:=yx) rfl rfl (by decide +kernel)) (pgs_cons (pgN (i:=4) (sc:=defScope zY) (M:=yx) rfl rfl (by decide +kernel)) pgs_nil))) (pss_cons (psN (i:=5) (sc:=defScope zY) (M:=yx) rfl rfl (by decide +kernel) (zk (sc:=defScope zY) jc (hr.mono (by decide)) rfl (by decide +kernel) T.Jk vj.kp jd .nil pass0 (pa_cons (zk (sc:=defScope zY) ZX (hr.mono (by decide)) rfl (by decide +kernel) T.zce jK.kp ZY .nil pass0 (pa_cons (pvA 4 (defScope zY) yx rfl rfl) (pa_cons (pe_ix ix_list (pe_fld (pvA 0 (defScope zY) yx rfl rfl) rfl) (pvA 1 (defScope zY) yx rfl rfl) (fun _ _=>rfl)) pa_nil))) (pa_cons (pe_ix ix_list (pe_fld (pvA 0 (defScope zY) yx rfl rfl) rfl) (pvA 1 (defScope zY) yx rfl rfl) (fun _ _=>rfl)) pa_nil))))
      (pss_cons (psN (i:=6) (sc:=defScope zY) (M:=yx) rfl rfl (by decide +kernel) (pe_op op_sub (pe_ix ix_list (pe_fld (pvA 0 (defScope zY) yx rfl rfl) rfl) (pvA 1 (defScope zY) yx rfl rfl) (fun _ _=>rfl)) (pe_ix ix_list (pe_fld (pvA 0 (defScope zY) yx rfl rfl) rfl) (pvA 3 (defScope zY) yx rfl rfl) (fun _ _=>rfl))))
      (pss_cons (psN (i:=7) (sc:=defScope zY) (M:=yx) rfl rfl (by decide +kernel) (pe_ifExp (pt_cmpR op_gt (pvA 6 (defScope zY) yx rfl rfl) pe_int (nomark _)) (zk (sc:=defScope zY) ZV (hr.mono (by decide)) rfl (by decide +kernel) T.zcd jJ.kp ZW .nil pass0 (pa_cons (pvA 5 (defScope zY) yx rfl rfl) pa_nil)) (zk (sc:=defScope zY) Jo (hr.mono (by decide)) rfl (by decide +kernel) T.zfk YM.kp Jp .nil pass0 (pa_cons (pvA 5 (defScope zY) yx rfl rfl) pa_nil))))
      (pss_one (ps_if (pt_cmpR op_notN (pvA 7 (defScope zY) yx rfl rfl) pe_non (nomark _)) (pss_one (ps_expr (pe_bm PySem.F.plainAttrs_list PySem.F.slot_list_append PySem.F.type_list_append mt_append (pvA 2 (defScope zY) yx rfl rfl) (pa_cons (pe_tup (pa_cons (pvA 3 (defScope zY) yx rfl rfl) (pa_cons (pvA 7 (defScope zY) yx rfl rfl) (pa_cons (pe_op op_mul (pe_ix ix_list (pe_fld (pvA 0 (defScope zY) yx rfl rfl) rfl) (pvA 7 (defScope zY) yx rfl rfl) (fun _ _=>rfl)) (pvA 6 (defScope zY) yx rfl rfl)) pa_nil)))) pa_nil)))) pss_nil))))))
      (pss_one (ps_ret (pvA 2 (defScope zY) yx rfl rfl))))),?_⟩
    try dsimp only [cxOf,Cx.nox]
    have hs' : sizeLine=16777216:=sizeLine_eq
    have gn:=G.n
    have gm:=G.m
    have lh:=G.lh
    have lw:=G.lw
    refine ⟨by first | decide | (simp only [List.length_cons,List.length_nil,List.length_append,List.length_map]; decide),fun pf hpf=>?_⟩
    have s1:=Same.zp (o := .lst []) hpf
    have e1 : upd H pf (.lst []) pf=some (.lst []):=upd_same
    generalize upd H pf (.lst [])=H1 at s1 e1 ⊢
    have r1:=r.same s1
    refine ⟨_,rfl,x,_,dx,_,_,rfl,r1.ins,T.zg,T.zI,CV.wZ,ph,rfl,⟨_,SqL.of r1.h⟩,?_⟩
    refine L5.vq (xs:=nV held) (fun i σ H'=>L23.E8 fun v3 v4 v5 v6 v7 zs mv D=>L23.A7 (σ=[some (.ref x),some (.int (p : Nat)),some (.ref pf),v3,v4,v5,v6,v7]) (H' pf=some (.lst zs)) (Gr D0 H D H') (D pf=none) (Els CV.TV D zs mv) (mv.length≤i) (CV.xW ms.length ks.length (CV.cc B ks hs) (CV.X ms) (CV.X held) p i mv)) ⟨_,_,_,_,_,[],[],D0,rfl,e1,Gr.heap sD0 s1,sD0.free hpf,Els.nil,Nat.le_refl _,CV.xW.nil⟩ ?_ ?_ ?_
    · rintro i σ H' _ ⟨_,_,_,_,_,_,_,_,_,_,g',_⟩
      exact SqL.of (g'.hh _ _ r.h)
    · rintro i y σ H2 Tt hy ⟨v3,v4,v5,v6,v7,zs,mv,D,rfl,e2,g2,n2,hE,lm,M⟩ hTt
      obtain ⟨hi,rfl⟩:=yr hy
      rw [lh] at hi
      rw [show (0 : Int) + (i : Nat)=(i : Nat) by omega]
      have t3:=Same.zp (o := .tup [.int (i : Nat),.int (held.getD i 0 : Nat)]) hTt
      have et : upd H2 Tt (.tup [.int (i : Nat),.int (held.getD i 0 : Nat)]) Tt=some (.tup [.int (i : Nat),.int (held.getD i 0 : Nat)]):=upd_same
      generalize upd H2 Tt (.tup [.int (i : Nat),.int (held.getD i 0 : Nat)])=H3 at t3 et ⊢
      have e3:=t3 _ _ e2
      have g3:=g2.then t3
      have r3:=r.same g3.hh
      have bit : ∀ w,(CB.less (held.getD i 0 &&& ms.getD p 0) (held.getD p 0)).testBit w=(CV.X held i w && CV.X ms p w && !CV.X held p w):=fun w=>Vi _ _ _ _
      have b1:=wA (by rw [lw]; exact hp : p < hs.length) G.bh
      have b2:=wA (by rw [lw]; exact hi : i < hs.length) G.bh
      refine ⟨Tt,_,rfl,SqT.of et,rfl,_,_,rfl,_,_,rfl,rfl,?_⟩
      refine ⟨_,rfl,_,rfl,x,_,dx,_,_,rfl,r3.ins,T.zg,T.zR,CV.ji,_,rfl,pm,_,_,_,rfl,rfl,SqL.of r3.m,zP hp,_,_,rfl,_,rfl,x,_,dx,_,_,rfl,r3.ins,T.zg,T.zI,CV.wZ,_,rfl,ph,_,_,_,rfl,rfl,SqL.of r3.h,zP (by rw [lh]; exact hp),_,_,rfl,?_⟩
      refine ⟨_,rfl,x,_,dx,_,_,rfl,r3.ins,T.zg,T.z5,CV.Yl,_,rfl,pw,_,_,_,rfl,rfl,SqL.of r3.w,zP (by rw [lw]; exact hp),_,rfl,x,_,dx,_,_,rfl,r3.ins,T.zg,T.z5,CV.Yl,_,rfl,pw,_,_,_,rfl,rfl,SqL.of r3.w,zP (by rw [lw]; exact hi),_,_,rfl,rfl,?_⟩
      refine ⟨_,rfl,_,_,rfl,rfl,_,rfl,zby (R:=∀ rv,CV.zfV (CB.less (held.getD i 0 &&& ms.getD p 0) (held.getD p 0)) (hs.getD i 0 < hs.getD p 0) rv→_) (fun k hb=>⟨_,rfl,_,rfl,fun rv hrv=>k rv ?_⟩) (fun k hb=>⟨_,rfl,_,rfl,fun rv hrv=>k rv ?_⟩) ?_⟩
      · have hb':=of_decide_eq_true hb
        have hlt : hs.getD i 0 < hs.getD p 0:=by omega
        rcases hrv with ⟨z1,z2⟩ | ⟨k,z1,z2,z3⟩
        · exact .inl ⟨z1,z2⟩
        · exact .inr ⟨k,z1,z3,fun _=>z2,fun z=>absurd hlt z⟩
      · have hnl : ¬ hs.getD i 0 < hs.getD p 0:=fun z=>hb (decide_eq_true (by show (0 : Int) < _ ; omega))
        rcases hrv with ⟨z1,z2⟩ | ⟨k,z1,z2⟩
        · exact .inl ⟨z1,z2⟩
        · obtain ⟨y1,y2⟩:=CV.zaF z1
          exact .inr ⟨k,y1,z2,fun z=>absurd z hnl,fun _=>y2⟩
      rintro rv (⟨h0,rfl⟩ | ⟨wk,hwk,rfl,hmx,hmn⟩)
      · refine ⟨_,rfl,rfl,_,rfl,iteF ⟨_,_,_,_,_,zs,mv,D,rfl,e3,g3,n2,hE,by omega,M.skip fun w _ f1 f2=>?_⟩⟩
        have:=bit w
        rw [h0,Nat.zero_testBit,f1,f2] at this
        cases z : CV.X held i w with
        | false=>rfl
        | true=>rw [z] at this; cases this
      · have zdV:=bit wk
        rw [hwk] at zdV
        obtain ⟨⟨c1,c2⟩,c3⟩ : (CV.X held i wk=true∧CV.X ms p wk=true)∧CV.X held p wk=false:=by
          have:=zdV.symm
          rwa [Bool.and_eq_true,Bool.and_eq_true,Bool.not_eq_true'] at this
        have hwl:=G.fit p wk c2
        refine ⟨_,rfl,rfl,_,rfl,iteT ?_⟩
        refine ⟨_,rfl,.inl ⟨rfl,_,SqL.of e3⟩,_,rfl,_,rfl,_,rfl,x,_,dx,_,_,rfl,r3.ins,T.zg,T.yk,CV.VX,_,rfl,pk,_,_,_,rfl,rfl,SqL.of r3.k,zP hwl,_,rfl,_,_,rfl,rfl,.inr ⟨by omega,by omega⟩,by first | decide | (simp only [List.length_cons,List.length_nil,List.length_append,List.length_map]; decide),fun t4 ht4=>?_⟩
        have nt : pf≠t4:=ne_of_none e3 ht4
        have g4:=g3.trans (Gr.lay (o := .tup [.int (i : Nat),.int (wk : Nat),.int (((ks.getD wk 0 : Nat) : Int) * (((hs.getD p 0 : Nat) : Int) - ((hs.getD i 0 : Nat) : Int)))]) g3.dh ht4)
        have e4:=Same.zp (o := .tup [.int (i : Nat),.int (wk : Nat),.int (((ks.getD wk 0 : Nat) : Int) * (((hs.getD p 0 : Nat) : Int) - ((hs.getD i 0 : Nat) : Int)))]) ht4 _ _ e3
        refine ⟨pf,_,_,rfl,rfl,e4,by rw [hE.1]; omega,?_⟩
        have nD4 : upd D t4 (.tup [.int (i : Nat),.int (wk : Nat),.int (((ks.getD wk 0 : Nat) : Int) * (((hs.getD p 0 : Nat) : Int) - ((hs.getD i 0 : Nat) : Int)))]) pf=none:=by rw [upd_ne nt]; exact n2
        refine ⟨_,_,_,_,_,_,mv ++ [(i,wk,((ks.getD wk 0 : Nat) : Int) * (((hs.getD p 0 : Nat) : Int) - ((hs.getD i 0 : Nat) : Int)))],_,rfl,upd_same,g4.set hpf nD4,nD4,(hE.up fun v a=>CV.TV.up (Same.zp (g3.dh.free ht4))).snoc ⟨t4,rfl,upd_same⟩,by rw [List.length_append,List.length_singleton]; omega,M.snoc hi hwl c2 c3 c1 (CV.jl B ks hs wk p i).symm fun w hw f1 f2 f3=>?_⟩
        rw [← CV.jl B ks hs wk p i]
        have hw2 : (CB.less (held.getD i 0 &&& ms.getD p 0) (held.getD p 0)).testBit w=true:=by rw [bit w,f1,f2,f3]; rfl
        by_cases hd : hs.getD i 0 < hs.getD p 0
        · exact CV.zcO G.up (hmx hd w hw2) hwl hd
        · exact CV.zcP G.up (hmn hd w hw2) hw hd
    rintro σ H2 ⟨v3,v4,v5,v6,v7,zs,mv,D,rfl,e2,g2,n2,hE,lm,M⟩
    rw [zm,lh] at M
    have g5:=g2.fix hpf n2 e2
    exact ⟨_,rfl,q _ _ _ mv g5 ⟨pf,zs,rfl,upd_same,hE.up fun v a=>CV.TV.up (Same.zp n2)⟩ M⟩
structure Wy (B : Nat) (ms ks hs held za left : List Nat) (b : Nat→Int) (zh : List Int) (sm : List (Option (Nat × Option Nat))) : Prop where
  lg : zh.length=ms.length
  lt : sm.length=ms.length
  F : CA.Find ms.length ks.length (CV.cc B ks hs) (CV.X ms) (CV.X held) (CV.zz left) b (CV.gg zh) (CV.ss sm)
noncomputable abbrev Du (B : Nat) (ms ks hs held za left : List Nat) (l : Int) (da b : Nat→Int) : Prop:=CA.zX ms.length ks.length (CV.cc B ks hs) (CV.X ms) (CV.X held) (CV.zz za) (CV.zz left) l da b
theorem ZZ {l : List Int} {p : Nat} (h : p < l.length) : atI (l.map V.int) ((p : Nat) : Int)=some (.int (CV.gg l p)) :=
  atI_nat (by rw [List.getElem?_map,List.getElem?_eq_getElem h]; unfold CV.gg; rw [List.getD_eq_getElem?_getD,List.getElem?_eq_getElem h]; rfl)
noncomputable def zcm (K : PySem.W.Frag) (C : Addr) : Sp:=fun vs H Q _=>L23.E12 fun (x : Addr) (dx : Addr) (pm : Addr) (pk : Addr) (pw : Addr) (ph : Addr) (ps : Addr) (pl : Addr) (pg : Addr) (pt : Addr) (B : Nat) (ms : List Nat)=>L23.E12 fun (ks : List Nat) (hs : List Nat) (held : List Nat) (za : List Nat) (left : List Nat) (zh : List Int) (sm : List (Option (Nat × Option Nat))) (D : Hp) (pM : Addr) (zs : List V) (mvs : List (List CV.Mv)) (l : Int)=>L23.E2 fun (da : Nat→Int) (b : Nat→Int)=>L23.A10 (vs=[.ref x,.ref pM]) (CV.Wgh C H x dx pm pk pw ph ps pl pg pt B ms ks hs held za left zh sm) (Gd ms ks hs held za left) (Same D H) (D pg=none) (D pt=none) (D pM=some (.lst zs)) (Els CV.ML D zs mvs) (mvs.length=ms.length) (L23.A4 ((∀ p mv,mvs[p]?=some mv→CV.xW ms.length ks.length (CV.cc B ks hs) (CV.X ms) (CV.X held) p ms.length mv)) (Du B ms ks hs held za left l da b) (Wy B ms ks hs held za left b zh sm) (∀ H' zw sm' lg,CV.Wgh C H' x dx pm pk pw ph ps pl pg pt B ms ks hs held za left zw sm'→Wy B ms ks hs held za left b zw sm'→Same D H'→CV.Kp [pg,pt] H H'→(lg=false→CA.Zc ms.length ks.length (CV.cc B ks hs) (CV.X ms) (CV.X held) (CV.gg zw))→(lg=true→CV.mes ms.length b (CV.gg zw) < CV.mes ms.length b (CV.gg zh))→Q (.bl lg) H'))
theorem zfz {f : Addr} {fd : FuncData} (F : Fun K "lengthen" "Weigher.lengthen" yf f fd) (T : Txt K mg a) : FnOk P w K mg base CX0 1 f fd ["self","moves"] (zcm K a.zd):=by
  refine F.ok zfe (fun vs H Q E h=>?_) (fun cdv A outer s H vs Q E hr h=>?_)
  · obtain ⟨x,dx,pm,pk,pw,ph,ps,pl,pg,pt,B,ms,ks,hs,held,za,left,zh,sm,D,pM,zs,mvs,l,da,b,rfl,_⟩:=h
    rfl
  · obtain ⟨x,dx,pm,pk,pw,ph,ps,pl,pg,pt,B,ms,ks,hs,held,za,left,zh,sm,D,pM,zs,mvs,l,da,b,rfl,r,G,sD,ng,nt,eM,hE,lM,hM,du,wy,q⟩:=h
    refine ⟨_,(pss_cons (psN (i:=2) (sc:=defScope yf) (M:=yI) rfl rfl (by decide +kernel) pe_bl)
      (pss_cons (ps_for PassesOwn.never rfl (xH (glR (sc:=defScope yf) rfl (by decide +kernel)) T.zT (pa_cons (pvA 1 (defScope yf) yI rfl rfl) pa_nil)) (pg_tup (n:=2) (by rfl) (pgs_cons (pgN (i:=3) (sc:=defScope yf) (M:=yI) rfl rfl (by decide +kernel)) (pgs_cons (pgN (i:=4) (sc:=defScope yf) (M:=yI) rfl rfl (by decide +kernel)) pgs_nil))) (pss_one (ps_for PassesOwn.never rfl (pi_list (pvA 4 (defScope yf) yI rfl rfl)) (pg_tup (n:=3) (by rfl) (pgs_cons (pgN (i:=5) (sc:=defScope yf) (M:=yI) rfl rfl (by decide +kernel)) (pgs_cons (pgN (i:=6) (sc:=defScope yf) (M:=yI) rfl rfl (by decide +kernel)) (pgs_cons (pgN (i:=7) (sc:=defScope yf) (M:=yI) rfl rfl (by decide +kernel)) pgs_nil)))) (pss_one (ps_if (pt_cmpR op_gt (pe_op op_add (pe_ix ix_list (pe_fld (pvA 0 (defScope yf) yI rfl rfl) rfl) (pvA 5 (defScope yf) yI rfl rfl) (fun _ _=>rfl)) (pvA 7 (defScope yf) yI rfl rfl)) (pe_ix ix_list (pe_fld (pvA 0 (defScope yf) yI rfl rfl) rfl) (pvA 3 (defScope yf) yI rfl rfl) (fun _ _=>rfl)) (nomark _)) (pss_cons (ps_asg (pe_op op_add (pe_ix ix_list (pe_fld (pvA 0 (defScope yf) yI rfl rfl) rfl) (pvA 5 (defScope yf) yI rfl rfl) (fun _ _=>rfl)) (pvA 7 (defScope yf) yI rfl rfl)) (pg_sub (pe_fld (pvA 0 (defScope yf) yI rfl rfl) rfl) (pvA 3 (defScope yf) yI rfl rfl) set_list))
      (pss_cons (ps_asg (pe_tup (pa_cons (pvA 6 (defScope yf) yI rfl rfl) (pa_cons (pvA 5 (defScope yf) yI rfl rfl) pa_nil))) (pg_sub (pe_fld (pvA 0 (defScope yf) yI rfl rfl) rfl) (pvA 3 (defScope yf) yI rfl rfl) set_list))
      (pss_one (psN (i:=2) (sc:=defScope yf) (M:=yI) rfl rfl (by decide +kernel) pe_bl)))) pss_nil)))))
      (pss_one (ps_ret (pvA 2 (defScope yf) yI rfl rfl))))),?_⟩
    try dsimp only [cxOf,Cx.nox]
    have hs' : sizeLine=16777216:=sizeLine_eq
    have gn:=G.n
    refine ⟨_,rfl,pM,rfl,⟨_,SqL.of (sD _ _ eM)⟩,?_⟩
    refine L5.vq (xs:=zs) (fun i σ H'=>L23.E8 fun v3 v4 v5 v6 v7 lg zw sm'=>L23.A7 (σ=[some (.ref x),some (.ref pM),some (.bl lg),v3,v4,v5,v6,v7]) (CV.Wgh a.zd H' x dx pm pk pw ph ps pl pg pt B ms ks hs held za left zw sm') (Wy B ms ks hs held za left b zw sm') (Same D H') (CV.Kp [pg,pt] H H') ((lg=true→CV.mes ms.length b (CV.gg zw) < CV.mes ms.length b (CV.gg zh))) ((lg=false→zw=zh∧∀ p mv e,p < i→mvs[p]?=some mv→e∈mv→CV.gg zh e.1 + e.2.2≤CV.gg zh p)))
      ⟨_,_,_,_,_,false,zh,sm,rfl,r,wy,sD,CV.Kp.same (Same.refl _),(fun z=>nomatch z),fun _=>⟨rfl,fun p _ _ h=>absurd h (Nat.not_lt_zero p)⟩⟩ ?_ ?_ ?_
    · rintro i σ H' _ ⟨_,_,_,_,_,_,_,_,_,_,_,s',_⟩
      exact SqL.of (s' _ _ eM)
    · rintro i y σ H2 Tt hy ⟨v3,v4,v5,v6,v7,lg,xG,sm2,rfl,r2,wy2,s2,k2,m2,f2⟩ hTt
      obtain ⟨mv,hmv,pf,zf,rfl,ef,hF⟩:=hE.back hy
      have hi : i < ms.length:=by rw [← lM]; exact (List.getElem?_eq_some_iff.mp hmv).1
      have Mi:=hM i mv hmv
      rw [show (0 : Int) + (i : Nat)=(i : Nat) by omega]
      have t3:=Same.zp (o := .tup [.int (i : Nat),.ref pf]) hTt
      have et : upd H2 Tt (.tup [.int (i : Nat),.ref pf]) Tt=some (.tup [.int (i : Nat),.ref pf]):=upd_same
      generalize upd H2 Tt (.tup [.int (i : Nat),.ref pf])=H3 at t3 et ⊢
      have r3:=r2.same t3
      have s3:=s2.trans t3
      have k3:=k2.trans (CV.Kp.same t3)
      refine ⟨Tt,_,rfl,SqT.of et,rfl,_,_,rfl,_,_,rfl,rfl,?_⟩
      clear r2 s2 k2 t3 et hTt
      refine ⟨_,rfl,pf,rfl,⟨_,SqL.of (s3 _ _ ef)⟩,?_⟩
      refine for_list (xs:=zf) (fun j σ H'=>L23.E6 fun v5 v6 v7 lg zw sm'=>L23.A7 (σ=[some (.ref x),some (.ref pM),some (.bl lg),some (.int (i : Nat)),some (.ref pf),v5,v6,v7]) (CV.Wgh a.zd H' x dx pm pk pw ph ps pl pg pt B ms ks hs held za left zw sm') (Wy B ms ks hs held za left b zw sm') (Same D H') (CV.Kp [pg,pt] H H') ((lg=true→CV.mes ms.length b (CV.gg zw) < CV.mes ms.length b (CV.gg zh))) ((lg=false→zw=zh∧(∀ p mv e,p < i→mvs[p]?=some mv→e∈mv→CV.gg zh e.1 + e.2.2≤CV.gg zh p)∧∀ e∈mv.take j,CV.gg zh e.1 + e.2.2≤CV.gg zh i)))
        ⟨_,_,_,lg,xG,sm2,rfl,r3,wy2,s3,k3,m2,fun z=>⟨(f2 z).1,(f2 z).2,by rw [List.take_zero]; exact fun _ h=>nomatch h⟩⟩ ?_ ?_ ?_
      · rintro j σ H' _ ⟨_,_,_,_,_,_,_,_,_,s',_⟩
        exact SqL.of (s' _ _ ef)
      · rintro j y σ H4 hy ⟨v5,v6,v7,lg,yp,sm4,rfl,r4,wy4,s4,k4,m4,f4⟩
        obtain ⟨e,he,te,rfl,ete⟩:=hF.back hy
        obtain ⟨o1,o2,o3,o4,o5,o6⟩:=Mi.ok e (List.mem_of_getElem? he)
        have hlg:=wy4.lg
        have hlt:=wy4.lt
        refine ⟨te,_,rfl,SqT.of (s4 _ _ ete),rfl,_,_,rfl,_,_,rfl,_,_,rfl,rfl,?_⟩
        refine ⟨_,rfl,x,_,dx,_,_,rfl,r4.ins,T.zg,T.zE,CV.wW,_,rfl,pg,_,_,_,rfl,rfl,SqL.of r4.g,ZZ (by omega),_,rfl,_,_,rfl,rfl,_,rfl,x,_,dx,_,_,rfl,r4.ins,T.zg,T.zE,CV.wW,_,rfl,pg,_,_,_,rfl,rfl,SqL.of r4.g,ZZ (by omega),_,_,rfl,rfl,_,rfl,ite2 (fun h1=>?_) (fun h1=>?_)⟩
        · have h1' : CV.gg yp i < CV.gg yp e.1 + e.2.2:=of_decide_eq_true h1
          refine ⟨_,rfl,x,_,dx,_,_,rfl,r4.ins,T.zg,T.zE,CV.wW,_,rfl,pg,_,_,_,rfl,rfl,SqL.of r4.g,ZZ (by omega),_,rfl,_,_,rfl,rfl,_,rfl,x,_,dx,_,_,rfl,r4.ins,T.zg,T.zE,CV.wW,_,rfl,pg,_,_,i,rfl,rfl,r4.g,by rw [List.length_map]; exact yL (by omega),?_⟩
          rw [← List.map_set]
          have r5:=r4.setG (yp.set i (CV.gg yp e.1 + e.2.2))
          have s5 : Same D (upd H4 pg (.lst ((yp.set i (CV.gg yp e.1 + e.2.2)).map V.int))):=zK s4 ng
          have k5 : CV.Kp [pg,pt] H (upd H4 pg (.lst ((yp.set i (CV.gg yp e.1 + e.2.2)).map V.int))):=k4.trans (CV.Kp.set (by simp) (CV.xF r4.g))
          generalize upd H4 pg (.lst ((yp.set i (CV.gg yp e.1 + e.2.2)).map V.int))=H5 at r5 s5 k5 ⊢
          refine ⟨_,rfl,_,rfl,by first | decide | (simp only [List.length_cons,List.length_nil,List.length_append,List.length_map]; decide),fun t6 ht6=>?_⟩
          have t7:=Same.zp (o := .tup [.int (e.2.1 : Nat),.int (e.1 : Nat)]) ht6
          have e7 : upd H5 t6 (.tup [.int (e.2.1 : Nat),.int (e.1 : Nat)]) t6=some (.tup [.int (e.2.1 : Nat),.int (e.1 : Nat)]):=upd_same
          generalize upd H5 t6 (.tup [.int (e.2.1 : Nat),.int (e.1 : Nat)])=H7 at t7 e7 ⊢
          have r7:=r5.same t7
          obtain ⟨zt,ezt,hT⟩:=r7.t
          refine ⟨_,rfl,x,_,dx,_,_,rfl,r7.ins,T.zg,T.zS,CV.ZS,_,rfl,pt,_,_,i,rfl,rfl,ezt,by rw [hT.1]; exact yL (by omega),?_⟩
          have F2:=wy4.F.longer du hi o1 o2 o3 o4 o5 (by rw [← o6]; exact h1')
          rw [← o6,← CV.YF (by omega),← CV.W9 (by omega)] at F2
          refine ⟨_,_,_,true,yp.set i (CV.gg yp e.1 + e.2.2),sm4.set i (some (e.2.1,some e.1)),rfl,r7.zc9 (CV.VZ hT ⟨t6,rfl,e7⟩),⟨by rw [List.length_set]; exact hlg,by rw [List.length_set]; exact hlt,F2⟩,zK (s5.trans t7) nt,(k5.trans (CV.Kp.same t7)).trans (CV.Kp.set (by simp) (CV.xF ezt)),fun _=>?_,fun z=>nomatch z⟩
          rw [CV.YF (by omega)]
          have d1:=CV.zdb (b:=b) hi h1'
          cases lg with
          | true=>exact Int.lt_trans d1 (m4 rfl)
          | false=>rw [← (f4 rfl).1]; exact d1
        · have h1' : ¬ CV.gg yp i < CV.gg yp e.1 + e.2.2:=fun z=>h1 (decide_eq_true z)
          refine ⟨_,_,_,lg,yp,sm4,rfl,r4,wy4,s4,k4,m4,fun z=>⟨(f4 z).1,(f4 z).2.1,fun e' he'=>?_⟩⟩
          rw [L4.take_snoc he] at he'
          rcases List.mem_append.mp he' with y | y
          · exact (f4 z).2.2 e' y
          · rw [List.mem_singleton.mp y]
            rw [(f4 z).1] at h1'
            omega
      rintro σ H4 ⟨v5,v6,v7,lg,yp,sm4,rfl,r4,wy4,s4,k4,m4,f4⟩
      refine ⟨_,_,_,_,_,lg,yp,sm4,rfl,r4,wy4,s4,k4,m4,fun z=>⟨(f4 z).1,fun p mv' e hp zbz he=>?_⟩⟩
      by_cases y : p=i
      · subst y
        rw [hmv] at zbz
        cases zbz
        refine (f4 z).2.2 e ?_
        rw [hF.1,List.take_length]
        exact he
      · exact (f4 z).2.1 p mv' e (by omega) zbz he
    rintro σ H2 ⟨v3,v4,v5,v6,v7,lg,xG,sm2,rfl,r2,wy2,s2,k2,m2,f2⟩
    refine ⟨_,rfl,q H2 xG sm2 lg r2 wy2 s2 k2 (fun z=>?_) m2⟩
    obtain ⟨rfl,h⟩:=f2 z
    intro p q' w hp hq hw f1 f2 f3
    have hp' : p < mvs.length:=by rw [lM]; exact hp
    obtain ⟨e,he,h1,h2⟩:=(hM p _ (List.getElem?_eq_getElem hp')).all q' w hq hw f1 f2 f3
    have h3:=h p _ e (by rw [hE.1]; exact hp') (List.getElem?_eq_getElem hp') he
    rw [h1] at h3
    omega
noncomputable def zcn (K : PySem.W.Frag) (C : Addr) : Sp:=fun vs H Q _=>L23.E12 fun (x : Addr) (dx : Addr) (pm : Addr) (pk : Addr) (pw : Addr) (ph : Addr) (ps : Addr) (pl : Addr) (pg : Addr) (pt : Addr) (B : Nat) (ms : List Nat)=>L23.E8 fun (ks : List Nat) (hs : List Nat) (held : List Nat) (za : List Nat) (left : List Nat) (zh : List Int) (sm : List (Option (Nat × Option Nat))) (l : Int)=>L23.E2 fun (da : Nat→Int) (b : Nat→Int)=>L23.A5 (vs=[.ref x]) (CV.Wgh C H x dx pm pk pw ph ps pl pg pt B ms ks hs held za left zh sm) (Gd ms ks hs held za left) (Du B ms ks hs held za left l da b) (∀ H' pg' pt' zw sm',CV.Wgh C H' x dx pm pk pw ph ps pl pg' pt' B ms ks hs held za left zw sm'→Wy B ms ks hs held za left b zw sm'→CA.Zc ms.length ks.length (CV.cc B ks hs) (CV.X ms) (CV.X held) (CV.gg zw)→H pg'=none→H pt'=none→CV.Kp [x] H H'→Q .non H')
theorem zfA {f : Addr} {fd Jq Jr Js : FuncData} (F : Fun K "find_ways" "Weigher.find_ways" xB f fd) (T : Txt K mg a)
    (zbA : FnOk P w K mg base CX0 1 a.wN Jq ["self","moves"] (zcm K a.zd)) (Jt : Fun K "lengthen" "Weigher.lengthen" yf a.wN Jq) (zbB : Binds K Jq ["self","moves"] [])
    (zbC : FnOk P w K mg base CX0 2 a.wM Jr ["self","place"] (zcl K a.zd)) (Ju : Fun K "moves_to" "Weigher.moves_to" zY a.wM Jr) (zbD : Binds K Jr ["self","place"] [])
    (zbE : FnOk P w K mg base CX0 2 a.yT Js ["self"] (zck K a.zd)) (Jv : Fun K "take_free_works" "Weigher.take_free_works" zJ a.yT Js) (zbF : Binds K Js ["self"] []) : FnOk P w K mg base CX0 4 f fd ["self"] (zcn K a.zd):=by
  refine F.ok zff (fun vs H Q E h=>?_) (fun cdv A outer s H vs Q E hr h=>?_)
  · obtain ⟨x,dx,pm,pk,pw,ph,ps,pl,pg,pt,B,ms,ks,hs,held,za,left,zh,sm,l,da,b,rfl,_⟩:=h
    rfl
  · obtain ⟨x,dx,pm,pk,pw,ph,ps,pl,pg,pt,B,ms,ks,hs,held,za,left,zh,sm,l,da,b,rfl,r,G,du,q⟩:=h
    refine ⟨_,(pss_cons (ps_expr (pe_meth0 (pvA 0 (defScope xB) ZH rfl rfl) T.zg T.vB zbE (hr.mono (by decide)) zbF .nil pass0))
      (pss_cons (vp (i:=1) (sc:=defScope xB) (M:=ZH) rfl rfl rfl (by decide +kernel) (N:=["place","self"]) (own:=1) (js:=[0]) (X:=(cxOf CX0 P w K mg base ZH "Weigher.find_ways" (defScope xB) f cdv A outer s H E).nox) (zM (defScope xB) ZH rfl rfl (by decide +kernel)) (pi_range1 (glR (sc:=defScope xB) rfl (by decide +kernel)) T.yo (pa_cons (zo (sc:=defScope xB) call_len rfl (by decide +kernel) T.yj yd (pa_cons (pe_fld (pvA 0 (defScope xB) ZH rfl rfl) rfl) pa_nil)) pa_nil)) (fun fp0 sx0 Hx0=>(pgN (i:=0) (sc:=zb _ (defScope xB)) (M:=["place","self"]) rfl rfl (by decide +kernel))) (fun fp0 sx0 Hx0=>zG) (fun fp0 sx0 Hx0=>(pe_meth (pvN (i:=1) (sc:=zb _ (defScope xB)) (M:=["place","self"]) rfl rfl (by decide +kernel)) T.zg T.j3 zbC (hr.mono (by decide)) zbD .nil pass0 (pa_cons (pvN (i:=0) (sc:=zb _ (defScope xB)) (M:=["place","self"]) rfl rfl (by decide +kernel)) pa_nil))) rfl)
      (pss_one (ps_while PassesOwn.never (pt_val (pe_meth (pvA 0 (defScope xB) ZH rfl rfl) T.zg T.j4 zbA (hr.mono (by decide)) zbB .nil pass0 (pa_cons (pvA 1 (defScope xB) ZH rfl rfl) pa_nil))) (pss_one ps_pass))))),?_⟩
    try dsimp only [cxOf,Cx.nox]
    have hs' : sizeLine=16777216:=sizeLine_eq
    have gn:=G.n
    refine ⟨_,rfl,x,dx,_,rfl,r.ins,CV.zc7,x,dx,pm,pk,pw,ph,ps,pl,pg,pt,B,ms,ks,hs,held,za,left,zh,sm,rfl,r,G,fun H1 pg1 pt1 y9 sm1 r1 lg1 lt1 at1 ng nt k1=>?_⟩
    have wy1 : Wy B ms ks hs held za left b y9 sm1:=⟨lg1,lt1,CV.ze3 du (CV.ze5 B ks hs) at1⟩
    refine ⟨_,rfl,x,_,dx,_,_,rfl,r1.ins,T.zg,T.zR,CV.ji,.ref pm,ms.length,rfl,.inl ⟨_,SqL.of r1.m,by rw [zm]⟩,_,rfl,by omega,by omega,fun c hc=>?_⟩
    refine Yi (Pd:=fun D v p=>∃ mv,CV.ML D v mv∧CV.xW ms.length ks.length (CV.cc B ks hs) (CV.X ms) (CV.X held) p ms.length mv) (fun s h=>let ⟨mv,h1,h2⟩:=h; ⟨mv,h1.up s,h2⟩) (D:=fun _=>none) (fun _ _ h=>nomatch h) hc (xO (P:=fun _=>True)) (fun σ=>∃ v,σ=[v,some (.ref x)]) (List.range ms.length) (by rw [List.length_map,List.length_range,List.length_range,Int.toNat_natCast]) ⟨_,rfl⟩ (fun _ _=>trivial) (by rw [List.length_map,List.length_range]; omega) ?_ ?_
    · rintro i y p σ D1 Ha R1 R0 hy hp ⟨v,rfl⟩ g1 kk
      rw [List.getElem?_map,Int.toNat_natCast,hp] at hy
      obtain rfl:=Option.some.inj hy
      have hp':=List.mem_range.mp (List.mem_of_getElem? hp)
      dsimp only
      rw [show (0 : Int) + (p : Nat)=(p : Nat) by omega]
      have ra:=r1.same g1.hh
      refine ⟨_,rfl,x,dx,_,rfl,ra.ins,CV.zcN,_,rfl,x,dx,pm,pk,pw,ph,ps,pl,pg1,pt1,B,ms,ks,hs,held,za,left,y9,sm1,p,D1,rfl,ra,G,hp',g1.dh,fun D2 H2 v2 mv g2 ml M=>?_⟩
      exact kk _ _ _ _ ⟨_,rfl⟩ g2 ⟨mv,ml,M⟩
    intro D2 H2 zs g2 ec nc hE
    obtain ⟨mvs,hE2,lM,hM⟩:=CV.Va hE
    rw [List.length_range] at lM
    have r2:=r1.same g2.hh
    have k2:=k1.trans (CV.Kp.same g2.hh)
    have ng2 : D2 pg1=none:=g2.nw _ _ r1.g rfl
    have nt2 : D2 pt1=none:=by obtain ⟨zt,e,_⟩:=r1.t; exact g2.nw _ _ e rfl
    have ncg : c≠pg1:=(ne_of_none r1.g hc).symm
    have nct : c≠pt1:=by obtain ⟨zt,e,_⟩:=r1.t; exact (ne_of_none e hc).symm
    have sD : Same (upd D2 c (.lst zs)) H2:=fun b' u e=>by
      by_cases z : b'=c
      · subst z; rw [upd_same] at e; rw [ec]; exact e
      · rw [upd_ne z] at e; exact g2.dh _ _ e
    refine ⟨fun m σ H'=>L23.E2 fun zw sm'=>L23.A6 (m=(CV.mes ms.length b (CV.gg zw)).toNat) (σ=[some (.ref x),some (.ref c)]) (CV.Wgh a.zd H' x dx pm pk pw ph ps pl pg1 pt1 B ms ks hs held za left zw sm') (Wy B ms ks hs held za left b zw sm') (Same (upd D2 c (.lst zs)) H') (CV.Kp [x] H H'),⟨_,y9,sm1,rfl,rfl,r2,wy1,sD,k2⟩,?_⟩
    rintro m σ H3 ⟨zdW,sm3,rfl,rfl,r3,wy3,s3,k3⟩
    refine ⟨_,rfl,x,dx,_,rfl,r3.ins,CV.Ja,_,rfl,x,dx,pm,pk,pw,ph,ps,pl,pg1,pt1,B,ms,ks,hs,held,za,left,zdW,sm3,upd D2 c (.lst zs),c,zs,mvs,l,da,b,rfl,r3,G,s3,by rw [upd_ne ncg.symm]; exact ng2,by rw [upd_ne nct.symm]; exact nt2,upd_same,hE2.up (fun _ _=>CV.ML.up (Same.zp nc)),lM,fun p mv h=>hM p mv p h (List.getElem?_range (by have:=(List.getElem?_eq_some_iff.mp h).1; omega)),du,wy3,fun H4 yp sm4 lg r4 wy4 s4 k4 hf hm=>?_⟩
    have k5:=k3.over k4 (fun b' hb => .inl (by
      simp only [List.mem_cons,List.not_mem_nil,or_false] at hb
      rcases hb with z | z <;> rw [z]
      · exact ng
      · exact nt))
    refine ⟨_,rfl,?_⟩
    cases lg with
    | false=>exact iteF (q H4 pg1 pt1 yp sm4 r4 wy4 (hf rfl) ng nt k5)
    | true =>
      have d1:=hm rfl
      have d2:=CV.zdc wy4.F.gb
      exact iteT ⟨_,fun σ' H' h=>h,_,by omega,yp,sm4,rfl,rfl,r4,wy4,s4,k5⟩
noncomputable def Start (ms za : List Nat) (zh : List Int) (r : V) : Prop:=(r = .non∧∀ p,p < ms.length→0 < CV.zz za p→CV.gg zh p≤0)∨∃ p0 : Nat,r = .int (p0 : Nat)∧p0 < ms.length∧0 < CV.zz za p0∧0 < CV.gg zh p0∧∀ p,p < ms.length→0 < CV.zz za p→CV.gg zh p≤CV.gg zh p0
noncomputable def zco (K : PySem.W.Frag) (C : Addr) : Sp:=fun vs H Q _=>L23.E12 fun (x : Addr) (dx : Addr) (pm : Addr) (pk : Addr) (pw : Addr) (ph : Addr) (ps : Addr) (pl : Addr) (pg : Addr) (pt : Addr) (B : Nat) (ms : List Nat)=>L23.E8 fun (ks : List Nat) (hs : List Nat) (held : List Nat) (za : List Nat) (left : List Nat) (zh : List Int) (sm : List (Option (Nat × Option Nat))) (l : Int)=>L23.E2 fun (da : Nat→Int) (b : Nat→Int)=>L23.A5 (vs=[.ref x]) (CV.Wgh C H x dx pm pk pw ph ps pl pg pt B ms ks hs held za left zh sm) (Gd ms ks hs held za left) (Du B ms ks hs held za left l da b) (∀ H' pg' pt' zw sm' rv,CV.Wgh C H' x dx pm pk pw ph ps pl pg' pt' B ms ks hs held za left zw sm'→Wy B ms ks hs held za left b zw sm'→CA.Zc ms.length ks.length (CV.cc B ks hs) (CV.X ms) (CV.X held) (CV.gg zw)→Start ms za zw rv→H pg'=none→H pt'=none→CV.Kp [x] H H'→Q rv H')
theorem zfB {f : Addr} {fd Jw : FuncData} (F : Fun K "find_start" "Weigher.find_start" yJ f fd) (T : Txt K mg a)
    (zbG : FnOk P w K mg base CX0 4 a.wm Jw ["self"] (zcn K a.zd)) (Jx : Fun K "find_ways" "Weigher.find_ways" xB a.wm Jw) (zbH : Binds K Jw ["self"] []) : FnOk P w K mg base CX0 6 f fd ["self"] (zco K a.zd):=by
  refine F.ok zfg (fun vs H Q E h=>?_) (fun cdv A outer s H vs Q E hr h=>?_)
  · obtain ⟨x,dx,pm,pk,pw,ph,ps,pl,pg,pt,B,ms,ks,hs,held,za,left,zh,sm,l,da,b,rfl,_⟩:=h
    rfl
  · obtain ⟨x,dx,pm,pk,pw,ph,ps,pl,pg,pt,B,ms,ks,hs,held,za,left,zh,sm,l,da,b,rfl,r,G,du,q⟩:=h
    refine ⟨_,(pss_cons (ps_expr (pe_meth0 (pvA 0 (defScope yJ) xP rfl rfl) T.zg T.jR zbG (hr.mono (by decide)) zbH .nil pass0))
      (pss_cons (psN (i:=1) (sc:=defScope yJ) (M:=xP) rfl rfl (by decide +kernel) pe_non)
      (pss_cons (psN (i:=2) (sc:=defScope yJ) (M:=xP) rfl rfl (by decide +kernel) pe_int)
      (pss_cons (ps_for PassesOwn.never rfl (xH (glR (sc:=defScope yJ) rfl (by decide +kernel)) T.zT (pa_cons (pe_fld (pvA 0 (defScope yJ) xP rfl rfl) rfl) pa_nil)) (pg_tup (n:=2) (by rfl) (pgs_cons (pgN (i:=3) (sc:=defScope yJ) (M:=xP) rfl rfl (by decide +kernel)) (pgs_cons (pgN (i:=4) (sc:=defScope yJ) (M:=xP) rfl rfl (by decide +kernel)) pgs_nil))) (pss_one (ps_if (PW.pt (pw_and (pt_cmpR op_gt (pvA 4 (defScope yJ) xP rfl rfl) pe_int (nomark _)) (pw_and1 (pt_cmpR op_gt (pe_ix ix_list (pe_fld (pvA 0 (defScope yJ) xP rfl rfl) rfl) (pvA 3 (defScope yJ) xP rfl rfl) (fun _ _=>rfl)) (pvA 2 (defScope yJ) xP rfl rfl) (nomark _))))) (pss_cons (psN (i:=1) (sc:=defScope yJ) (M:=xP) rfl rfl (by decide +kernel) (pvA 3 (defScope yJ) xP rfl rfl))
      (pss_one (psN (i:=2) (sc:=defScope yJ) (M:=xP) rfl rfl (by decide +kernel) (pe_ix ix_list (pe_fld (pvA 0 (defScope yJ) xP rfl rfl) rfl) (pvA 3 (defScope yJ) xP rfl rfl) (fun _ _=>rfl))))) pss_nil)))
      (pss_one (ps_ret (pvA 1 (defScope yJ) xP rfl rfl))))))),?_⟩
    try dsimp only [cxOf,Cx.nox]
    have hs' : sizeLine=16777216:=sizeLine_eq
    have gn:=G.n
    refine ⟨_,rfl,x,dx,_,rfl,r.ins,CV.zc8,x,dx,pm,pk,pw,ph,ps,pl,pg,pt,B,ms,ks,hs,held,za,left,zh,sm,l,da,b,rfl,r,G,du,fun H1 pg1 pt1 y9 sm1 r1 wy1 fx1 ng nt k1=>?_⟩
    have lg:=wy1.lg
    refine ⟨_,rfl,x,_,dx,_,_,rfl,r1.ins,T.zg,T.z7,CV.ZQ,ps,rfl,⟨_,SqL.of r1.s⟩,?_⟩
    refine L5.vq (xs:=nV za) (fun i σ H'=>L23.E4 fun v3 v4 rv mz=>L23.A6 (σ=[some (.ref x),some rv,some (.int mz),v3,v4]) (CV.Wgh a.zd H' x dx pm pk pw ph ps pl pg1 pt1 B ms ks hs held za left y9 sm1) (CV.Kp [x] H H') (0≤mz) ((∀ p,p < i→0 < CV.zz za p→CV.gg y9 p≤mz)) (((rv = .non∧mz=0)∨∃ p0 : Nat,rv = .int (p0 : Nat)∧p0 < ms.length∧0 < CV.zz za p0∧0 < mz∧CV.gg y9 p0=mz))) ⟨_,_,_,_,rfl,r1,k1,Int.le_refl _,fun p h=>absurd h (Nat.not_lt_zero p),.inl ⟨rfl,rfl⟩⟩ ?_ ?_ ?_
    · rintro i σ H' _ ⟨_,_,_,_,_,r',_⟩
      exact SqL.of r'.s
    · rintro i y σ H2 Tt hy ⟨v3,v4,rv,mz,rfl,r2,k2,m0,mx,st⟩ hTt
      obtain ⟨hi,rfl⟩:=yr hy
      rw [G.ls] at hi
      rw [show (0 : Int) + (i : Nat)=(i : Nat) by omega]
      have t3:=Same.zp (o := .tup [.int (i : Nat),.int (za.getD i 0 : Nat)]) hTt
      have et : upd H2 Tt (.tup [.int (i : Nat),.int (za.getD i 0 : Nat)]) Tt=some (.tup [.int (i : Nat),.int (za.getD i 0 : Nat)]):=upd_same
      generalize upd H2 Tt (.tup [.int (i : Nat),.int (za.getD i 0 : Nat)])=H3 at t3 et ⊢
      have r3:=r2.same t3
      have k3:=k2.trans (CV.Kp.same t3)
      have no : (0 < CV.zz za i→CV.gg y9 i≤mz)→∀ p,p < i + 1→0 < CV.zz za p→CV.gg y9 p≤mz:=fun h p hp hz=>by
        by_cases z : p=i
        · rw [z]; exact h (z ▸ hz)
        · exact mx p (by omega) hz
      refine ⟨Tt,_,rfl,SqT.of et,rfl,_,_,rfl,_,_,rfl,rfl,?_⟩
      refine ⟨_,rfl,_,_,rfl,rfl,_,rfl,ite2 (fun h1=>?_) (fun h1=>⟨_,_,rv,mz,rfl,r3,k3,m0,no fun z=>absurd (decide_eq_true (show (0 : Int) < ((za.getD i 0 : Nat) : Int) from z)) h1,st⟩)⟩
      have h1' : 0 < CV.zz za i:=of_decide_eq_true h1
      refine ⟨_,rfl,x,_,dx,_,_,rfl,r3.ins,T.zg,T.zE,CV.wW,_,rfl,pg1,_,_,_,rfl,rfl,SqL.of r3.g,ZZ (by omega),_,rfl,_,_,rfl,rfl,_,rfl,ite2 (fun h2=>?_) (fun h2=>⟨_,_,rv,mz,rfl,r3,k3,m0,no fun _=>Int.not_lt.mp fun z=>h2 (decide_eq_true z),st⟩)⟩
      have h2' : mz < CV.gg y9 i:=of_decide_eq_true h2
      refine ⟨_,rfl,_,rfl,x,_,dx,_,_,rfl,r3.ins,T.zg,T.zE,CV.wW,_,rfl,pg1,_,_,_,rfl,rfl,SqL.of r3.g,ZZ (by omega),?_⟩
      refine ⟨_,_,_,CV.gg y9 i,rfl,r3,k3,by omega,fun p hp hz=>?_,.inr ⟨i,rfl,hi,h1',by omega,rfl⟩⟩
      by_cases z : p=i
      · rw [z]; exact Int.le_refl _
      · have:=mx p (by omega) hz
        omega
    rintro σ H2 ⟨v3,v4,rv,mz,rfl,r2,k2,m0,mx,st⟩
    rw [zm,G.ls] at mx
    refine ⟨_,rfl,q H2 pg1 pt1 y9 sm1 rv r2 wy1 fx1 ?_ ng nt k2⟩
    rcases st with ⟨h1,rfl⟩ | ⟨p0,h1,h2,h3,h4,rfl⟩
    · exact .inl ⟨h1,mx⟩
    · exact .inr ⟨p0,h1,h2,h3,h4,mx⟩
theorem zdX (x k u : Nat) : (x ||| CB.maskOf [k]).testBit u=if u=k then true else x.testBit u:=by
  rw [Nat.testBit_or,CO.zb6]
  by_cases h : u=k
  · rw [if_pos h,decide_eq_true h,Bool.or_true]
  · rw [if_neg h,decide_eq_false h,Bool.or_false]
theorem zaL (x k u : Nat) : (CB.less x (CB.maskOf [k])).testBit u=if u=k then false else x.testBit u:=by
  rw [CB.WN,CO.zb6]
  by_cases h : u=k
  · rw [if_pos h,decide_eq_true h]; simp
  · rw [if_neg h,decide_eq_false h]; simp
noncomputable def zcp (K : PySem.W.Frag) (C : Addr) : Sp:=fun vs H Q _=>L23.E12 fun (x : Addr) (dx : Addr) (pm : Addr) (pk : Addr) (pw : Addr) (ph : Addr) (ps : Addr) (pl : Addr) (pg : Addr) (pt : Addr) (B : Nat) (ms : List Nat)=>L23.E8 fun (ks : List Nat) (hs : List Nat) (held : List Nat) (za : List Nat) (left : List Nat) (zh : List Int) (sm : List (Option (Nat × Option Nat))) (p : Nat)=>L23.E2 fun (w : Nat) (gv : Option Nat)=>L23.A8 (vs=[.ref x,.int (p : Nat)]) (CV.Wgh C H x dx pm pk pw ph ps pl pg pt B ms ks hs held za left zh sm) (Gd ms ks hs held za left) (p < ms.length) (sm[p]?=some (some (w,gv))) (w < ks.length) ((gv=none→0 < left.getD w 0∧∀ H' held',CV.Wgh C H' x dx pm pk pw ph ps pl pg pt B ms ks hs held' za (left.set w (left.getD w 0 - 1)) zh sm→held'.length=held.length→CV.X held'=CA.set (CV.X held) p w true→CV.Kp [ph,pl] H H'→Q .non H')) ((∀ q,gv=some q→q < ms.length∧q≠p∧∀ H' held',CV.Wgh C H' x dx pm pk pw ph ps pl pg pt B ms ks hs held' za left zh sm→held'.length=held.length→CV.X held'=CA.set (CA.set (CV.X held) p w true) q w false→CV.Kp [ph,pl] H H'→Q (.int (q : Nat)) H'))
theorem zfC {f : Addr} {fd Vk xS xT : FuncData} (F : Fun K "make_step" "Weigher.make_step" yb f fd) (T : Txt K mg a)
    (Jy : FnOk P w K mg base CX0 1 a.either Vk ["one","other"] (zaK K)) (YN : Fun K "either" "either" jb a.either Vk) (Jz : Binds K Vk ["one","other"] [])
    (jc : FnOk P w K mg base CX0 1 a.less xS ["one","other"] (YL K)) (vj : Fun K "less" "less" ve a.less xS) (jd : Binds K xS ["one","other"] [])
    (vJ : FnOk P w K mg base CX0 1 a.vA xT ["numbers"] (YK K)) (wF : Fun K "mask_of" "mask_of" xr a.vA xT) (vK : Binds K xT ["numbers"] []) : FnOk P w K mg base CX0 2 f fd ["self","place"] (zcp K a.zd):=by
  refine F.ok zfh (fun vs H Q E h=>?_) (fun cdv A outer s H vs Q E hr h=>?_)
  · obtain ⟨x,dx,pm,pk,pw,ph,ps,pl,pg,pt,B,ms,ks,hs,held,za,left,zh,sm,p,w,gv,rfl,_⟩:=h
    rfl
  · obtain ⟨x,dx,pm,pk,pw,ph,ps,pl,pg,pt,B,ms,ks,hs,held,za,left,zh,sm,p,wk,gv,rfl,r,G,hp,esm,hw,qn,qs⟩:=h
    refine ⟨_,(pss_cons (psN (i:=2) (sc:=defScope yb) (M:=yN) rfl rfl (by decide +kernel) (pe_ix ix_tup (pe_ix ix_list (pe_fld (pvA 0 (defScope yb) yN rfl rfl) rfl) (pvA 1 (defScope yb) yN rfl rfl) (fun _ _=>rfl)) pe_int (fun _ _=>rfl)))
      (pss_cons (psN (i:=3) (sc:=defScope yb) (M:=yN) rfl rfl (by decide +kernel) (pe_ix ix_tup (pe_ix ix_list (pe_fld (pvA 0 (defScope yb) yN rfl rfl) rfl) (pvA 1 (defScope yb) yN rfl rfl) (fun _ _=>rfl)) pe_int (fun _ _=>rfl)))
      (pss_cons (ps_asg (zk (sc:=defScope yb) Jy (hr.mono (by decide)) rfl (by decide +kernel) T.zfl YN.kp Jz .nil pass0 (pa_cons (pe_ix ix_list (pe_fld (pvA 0 (defScope yb) yN rfl rfl) rfl) (pvA 1 (defScope yb) yN rfl rfl) (fun _ _=>rfl)) (pa_cons (zk (sc:=defScope yb) vJ (hr.mono (by decide)) rfl (by decide +kernel) T.Wt wF.kp vK .nil pass0 (pa_cons (pe_lst (pa_cons (pvA 2 (defScope yb) yN rfl rfl) pa_nil)) pa_nil)) pa_nil))) (pg_sub (pe_fld (pvA 0 (defScope yb) yN rfl rfl) rfl) (pvA 1 (defScope yb) yN rfl rfl) set_list))
      (VL (ps_if (pt_cmpR op_isN (pvA 3 (defScope yb) yN rfl rfl) pe_non (nomark _)) (pss_one (ps_asg (pe_op op_sub (pe_ix ix_list (pe_fld (pvA 0 (defScope yb) yN rfl rfl) rfl) (pvA 2 (defScope yb) yN rfl rfl) (fun _ _=>rfl)) pe_int) (pg_sub (pe_fld (pvA 0 (defScope yb) yN rfl rfl) rfl) (pvA 2 (defScope yb) yN rfl rfl) set_list))) (pss_one (ps_asg (zk (sc:=defScope yb) jc (hr.mono (by decide)) rfl (by decide +kernel) T.Jk vj.kp jd .nil pass0 (pa_cons (pe_ix ix_list (pe_fld (pvA 0 (defScope yb) yN rfl rfl) rfl) (pvA 3 (defScope yb) yN rfl rfl) (fun _ _=>rfl)) (pa_cons (zk (sc:=defScope yb) vJ (hr.mono (by decide)) rfl (by decide +kernel) T.Wt wF.kp vK .nil pass0 (pa_cons (pe_lst (pa_cons (pvA 2 (defScope yb) yN rfl rfl) pa_nil)) pa_nil)) pa_nil))) (pg_sub (pe_fld (pvA 0 (defScope yb) yN rfl rfl) rfl) (pvA 3 (defScope yb) yN rfl rfl) set_list))))
      (pss_one (ps_ret (pvA 3 (defScope yb) yN rfl rfl))))))),?_⟩
    try dsimp only [cxOf,Cx.nox]
    have hs' : sizeLine=16777216:=sizeLine_eq
    have gm:=G.m
    have lh:=G.lh
    have hph : p < held.length:=by omega
    obtain ⟨zs,ez,hE⟩:=r.t
    obtain ⟨v,hv,sv⟩:=hE.at_ esm
    obtain ⟨t,g0,rfl,et,hg0⟩ : ∃ t g0,v = .ref t∧H t=some (.tup [.int (wk : Nat),g0])∧((gv=none∧g0 = .non)∨∃ q : Nat,gv=some q∧g0 = .int (q : Nat)):=by
      cases gv with
      | none=>obtain ⟨t,h1,h2⟩:=sv; exact ⟨t,_,h1,h2,.inl ⟨rfl,rfl⟩⟩
      | some q=>obtain ⟨t,h1,h2⟩:=sv; exact ⟨t,_,h1,h2,.inr ⟨q,rfl,rfl⟩⟩
    refine ⟨_,rfl,x,_,dx,_,_,rfl,r.ins,T.zg,T.zS,CV.ZS,_,rfl,pt,_,_,_,rfl,rfl,SqL.of ez,atI_nat hv,t,_,_,_,rfl,rfl,SqT.of et,rfl,?_⟩
    refine ⟨_,rfl,x,_,dx,_,_,rfl,r.ins,T.zg,T.zS,CV.ZS,_,rfl,pt,_,_,_,rfl,rfl,SqL.of ez,atI_nat hv,t,_,_,_,rfl,rfl,SqT.of et,rfl,?_⟩
    refine ⟨_,rfl,x,_,dx,_,_,rfl,r.ins,T.zg,T.zI,CV.wZ,_,rfl,ph,_,_,_,rfl,rfl,SqL.of r.h,zP hph,_,rfl,by first | decide | (simp only [List.length_cons,List.length_nil,List.length_append,List.length_map]; decide),fun q1 hq1=>?_⟩
    have t1:=Same.zp (o := .lst [V.int (wk : Nat)]) hq1
    have e1 : upd H q1 (.lst [V.int (wk : Nat)]) q1=some (.lst ([wk].map fun n : Nat=>V.int n)):=upd_same
    generalize upd H q1 (.lst [V.int (wk : Nat)])=H1 at t1 e1 ⊢
    have r1:=r.same t1
    refine ⟨q1,[wk],rfl,SqL.of e1,(fun n hn=>by rw [List.mem_singleton.mp hn]; omega),held.getD p 0,CB.maskOf [wk],rfl,_,rfl,x,_,dx,_,_,rfl,r1.ins,T.zg,T.zI,CV.wZ,_,rfl,ph,_,_,p,rfl,rfl,r1.h,by rw [zm]; exact yL hph,?_⟩
    rw [vh]
    have x1:=CV.zca (l:=held) (w:=wk) (b:=true) hph (zdX (held.getD p 0) wk)
    have l1 : (held.set p (held.getD p 0 ||| CB.maskOf [wk])).length=held.length:=List.length_set ..
    have r2:=r1.zbh (held.set p (held.getD p 0 ||| CB.maskOf [wk]))
    have k2 : CV.Kp [ph,pl] H (upd H1 ph (.lst (nV (held.set p (held.getD p 0 ||| CB.maskOf [wk]))))):=(CV.Kp.same t1).trans (CV.Kp.set (by simp) (CV.xF r1.h))
    generalize upd H1 ph (.lst (nV (held.set p (held.getD p 0 ||| CB.maskOf [wk]))))=H2 at r2 k2 ⊢
    generalize held.set p (held.getD p 0 ||| CB.maskOf [wk])=wG at x1 l1 r2
    refine ⟨fun σ' H'=>σ'=[some (.ref x),some (.int (p : Nat)),some (.int (wk : Nat)),some g0]∧Q g0 H',⟨_,rfl,rfl,_,rfl,?_⟩,fun σ' H' h=>by obtain ⟨rfl,h⟩:=h; exact ⟨_,rfl,h⟩⟩
    rcases hg0 with ⟨rfl,rfl⟩ | ⟨q',rfl,rfl⟩
    · obtain ⟨h0,qn⟩:=qn rfl
      have hwl : wk < left.length:=by rw [G.ll]; exact hw
      refine iteT ?_
      refine ⟨_,rfl,x,_,dx,_,_,rfl,r2.ins,T.zg,T.yc,CV.Yz,_,rfl,pl,_,_,_,rfl,rfl,SqL.of r2.l,zP hwl,_,_,rfl,rfl,_,rfl,x,_,dx,_,_,rfl,r2.ins,T.zg,T.yc,CV.Yz,_,rfl,pl,_,_,wk,rfl,rfl,r2.l,by rw [zm]; exact yL hwl,?_⟩
      rw [show (fun i j : Int=>V.int (i - j)) ((left.getD wk 0 : Nat) : Int) 1=V.int ((left.getD wk 0 - 1 : Nat) : Int) from congrArg V.int (by omega),vh]
      exact ⟨rfl,qn _ wG (r2.zc1 _) l1 x1 (k2.trans (CV.Kp.set (by simp) (CV.xF r2.l)))⟩
    · obtain ⟨hq,hqp,qs⟩:=qs q' rfl
      have hqh : q' < wG.length:=by omega
      refine iteF ?_
      refine ⟨_,rfl,x,_,dx,_,_,rfl,r2.ins,T.zg,T.zI,CV.wZ,_,rfl,ph,_,_,_,rfl,rfl,SqL.of r2.h,zP hqh,_,rfl,by first | decide | (simp only [List.length_cons,List.length_nil,List.length_append,List.length_map]; decide),fun q3 hq3=>?_⟩
      have t3:=Same.zp (o := .lst [V.int (wk : Nat)]) hq3
      have e3 : upd H2 q3 (.lst [V.int (wk : Nat)]) q3=some (.lst ([wk].map fun n : Nat=>V.int n)):=upd_same
      generalize upd H2 q3 (.lst [V.int (wk : Nat)])=H3 at t3 e3 ⊢
      have r3:=r2.same t3
      refine ⟨q3,[wk],rfl,SqL.of e3,(fun n hn=>by rw [List.mem_singleton.mp hn]; omega),wG.getD q' 0,CB.maskOf [wk],rfl,_,rfl,x,_,dx,_,_,rfl,r3.ins,T.zg,T.zI,CV.wZ,_,rfl,ph,_,_,q',rfl,rfl,r3.h,by rw [zm]; exact yL hqh,?_⟩
      rw [vh]
      have x3:=CV.zca (l:=wG) (w:=wk) (b:=false) hqh (zaL (wG.getD q' 0) wk)
      rw [x1] at x3
      exact ⟨rfl,qs _ (wG.set q' (CB.less (wG.getD q' 0) (CB.maskOf [wk]))) (r3.zbh _) (by rw [List.length_set]; exact l1) x3 ((k2.trans (CV.Kp.same t3)).trans (CV.Kp.set (by simp) (CV.xF r3.h)))⟩
theorem Gd.chg {ms ks hs held za left held' zZ left' : List Nat} (G : Gd ms ks hs held za left) (h1 : held'.length=held.length) (h2 : zZ.length=za.length) (h3 : left'.length=left.length) (h4 : ∀ p w,CV.X held' p w=true→CV.X ms p w=true) : Gd ms ks hs held' zZ left' :=
  ⟨G.n,G.m,h1.trans G.lh,G.lw,h2.trans G.ls,h3.trans G.ll,G.bh,G.fit,G.up,h4⟩
noncomputable abbrev Ke (ms ks held za left : List Nat) (want zu : Nat→Int) : Prop:=CA.Kept ms.length ks.length (CV.X ms) want zu (CV.X held) (CV.zz za) (CV.zz left)
noncomputable def zcq (K : PySem.W.Frag) (C : Addr) : Sp:=fun vs H Q _=>L23.E12 fun (x : Addr) (dx : Addr) (pm : Addr) (pk : Addr) (pw : Addr) (ph : Addr) (ps : Addr) (pl : Addr) (pg : Addr) (pt : Addr) (B : Nat) (ms : List Nat)=>L23.E12 fun (ks : List Nat) (hs : List Nat) (held : List Nat) (za : List Nat) (left : List Nat) (zh : List Int) (sm : List (Option (Nat × Option Nat))) (l : Int) (da : Nat→Int) (b : Nat→Int) (want : Nat→Int) (zu : Nat→Int)=>L23.A6 (vs=[.ref x]) (CV.Wgh C H x dx pm pk pw ph ps pl pg pt B ms ks hs held za left zh sm) (Gd ms ks hs held za left) (Du B ms ks hs held za left l da b) (Ke ms ks held za left want zu) (∀ H' pg' pt' held' zZ left' zw sm',CV.Wgh C H' x dx pm pk pw ph ps pl pg' pt' B ms ks hs held' zZ left' zw sm'→Gd ms ks hs held' zZ left'→zw.length=ms.length→Ke ms ks held' zZ left' want zu→(∃ a',CA.zX ms.length ks.length (CV.cc B ks hs) (CV.X ms) (CV.X held') (CV.zz zZ) (CV.zz left') 0 a' (CV.gg zw))→CV.Kp [x,ph,ps,pl,pg,pt] H H'→Q .non H')
theorem zfD {f : Addr} {fd JA JB : FuncData} (F : Fun K "add_pairs" "Weigher.add_pairs" yS f fd) (T : Txt K mg a)
    (JC : FnOk P w K mg base CX0 6 a.xQ JA ["self"] (zco K a.zd)) (JD : Fun K "find_start" "Weigher.find_start" yJ a.xQ JA) (JE : Binds K JA ["self"] [])
    (zbI : FnOk P w K mg base CX0 2 a.wo JB ["self","place"] (zcp K a.zd)) (JF : Fun K "make_step" "Weigher.make_step" yb a.wo JB) (zbJ : Binds K JB ["self","place"] []) : FnOk P w K mg base CX0 8 f fd ["self"] (zcq K a.zd):=by
  refine F.ok zfi (fun vs H Q E h=>?_) (fun cdv A outer s H vs Q E hr h=>?_)
  · obtain ⟨x,dx,pm,pk,pw,ph,ps,pl,pg,pt,B,ms,ks,hs,held,za,left,zh,sm,l,da,b,want,zu,rfl,_⟩:=h
    rfl
  · obtain ⟨x,dx,pm,pk,pw,ph,ps,pl,pg,pt,B,ms,ks,hs,held,za,left,zh,sm,l,da,b,want,zu,rfl,r,G,du,ke,q⟩:=h
    refine ⟨_,(pss_cons (psN (i:=1) (sc:=defScope yS) (M:=wj) rfl rfl (by decide +kernel) (pe_meth0 (pvA 0 (defScope yS) wj rfl rfl) T.zg T.we JC (hr.mono (by decide)) JE .nil pass0))
      (pss_one (ps_while PassesOwn.never (pt_cmpR op_notN (pvA 1 (defScope yS) wj rfl rfl) pe_non (nomark _)) (pss_cons (ps_asg (pe_op op_sub (pe_ix ix_list (pe_fld (pvA 0 (defScope yS) wj rfl rfl) rfl) (pvA 1 (defScope yS) wj rfl rfl) (fun _ _=>rfl)) pe_int) (pg_sub (pe_fld (pvA 0 (defScope yS) wj rfl rfl) rfl) (pvA 1 (defScope yS) wj rfl rfl) set_list))
      (pss_cons (psN (i:=2) (sc:=defScope yS) (M:=wj) rfl rfl (by decide +kernel) (pvA 1 (defScope yS) wj rfl rfl))
      (pss_cons (ps_while PassesOwn.never (pt_cmpR op_notN (pvA 2 (defScope yS) wj rfl rfl) pe_non (nomark _)) (pss_one (psN (i:=2) (sc:=defScope yS) (M:=wj) rfl rfl (by decide +kernel) (pe_meth (pvA 0 (defScope yS) wj rfl rfl) T.zg T.jS zbI (hr.mono (by decide)) zbJ .nil pass0 (pa_cons (pvA 2 (defScope yS) wj rfl rfl) pa_nil)))))
      (pss_one (psN (i:=1) (sc:=defScope yS) (M:=wj) rfl rfl (by decide +kernel) (pe_meth0 (pvA 0 (defScope yS) wj rfl rfl) T.zg T.we JC (hr.mono (by decide)) JE .nil pass0))))))))),?_⟩
    try dsimp only [cxOf,Cx.nox]
    have hs' : sizeLine=16777216:=sizeLine_eq
    refine ⟨_,rfl,x,dx,_,rfl,r.ins,CV.VY,x,dx,pm,pk,pw,ph,ps,pl,pg,pt,B,ms,ks,hs,held,za,left,zh,sm,l,da,b,rfl,r,G,du,fun H1 pg1 pt1 y9 sm1 rv1 r1 wy1 fx1 st1 ng1 nt1 k1=>?_⟩
    refine ⟨fun m σ H'=>L23.E12 fun v2 rv pg' pt' held' zZ left' zw sm' l' da' b'=>L23.A10 (m=CD.zQ zZ) (σ=[some (.ref x),some rv,v2]) (CV.Wgh a.zd H' x dx pm pk pw ph ps pl pg' pt' B ms ks hs held' zZ left' zw sm') (Gd ms ks hs held' zZ left') (Du B ms ks hs held' zZ left' l' da' b') (Ke ms ks held' zZ left' want zu) (Wy B ms ks hs held' zZ left' b' zw sm') (CA.Zc ms.length ks.length (CV.cc B ks hs) (CV.X ms) (CV.X held') (CV.gg zw)) (Start ms zZ zw rv) (CV.Kp [x,ph,ps,pl,pg,pt] H H'),⟨_,_,rv1,pg1,pt1,held,za,left,y9,sm1,l,da,b,rfl,rfl,r1,G,du,ke,wy1,fx1,st1,k1.mono (fun b' hb=>by rw [List.mem_singleton.mp hb]; simp)⟩,?_⟩
    clear r1 wy1 fx1 st1 ng1 nt1 k1
    rintro m σ H2 ⟨v2,rv,pg2,pt2,wG,yv,Wv,xG,sm2,l2,da2,b2,rfl,rfl,r2,G2,du2,ke2,wy2,fx2,st2,k2⟩
    refine ⟨_,rfl,rfl,_,rfl,?_⟩
    rcases st2 with ⟨rfl,hz⟩ | ⟨p0,rfl,hp0,hs0,hg0,hmx⟩
    · obtain ⟨a',D'⟩:=wy2.F.over du2 fx2 hz
      exact iteF (q H2 pg2 pt2 wG yv Wv xG sm2 r2 G2 wy2.lg ke2 ⟨a',D'⟩ k2)
    have hps : p0 < yv.length:=by rw [G2.ls]; exact hp0
    have zdY : 0 < yv.getD p0 0:=by unfold CV.zz at hs0; omega
    refine iteT ⟨_,fun σ' H' h=>h,?_⟩
    refine ⟨_,rfl,x,_,dx,_,_,rfl,r2.ins,T.zg,T.z7,CV.ZQ,_,rfl,ps,_,_,_,rfl,rfl,SqL.of r2.s,zP hps,_,_,rfl,rfl,_,rfl,x,_,dx,_,_,rfl,r2.ins,T.zg,T.z7,CV.ZQ,_,rfl,ps,_,_,p0,rfl,rfl,r2.s,by rw [zm]; exact yL hps,?_⟩
    rw [show (fun i j : Int=>V.int (i - j)) ((yv.getD p0 0 : Nat) : Int) 1=V.int ((yv.getD p0 0 - 1 : Nat) : Int) from congrArg V.int (by omega),vh]
    have r3:=r2.zc0 (yv.set p0 (yv.getD p0 0 - 1))
    have k3 : CV.Kp [x,ph,ps,pl,pg,pt] H (upd H2 ps (.lst (nV (yv.set p0 (yv.getD p0 0 - 1))))):=k2.trans (CV.Kp.set (by simp) (CV.xF r2.s))
    generalize upd H2 ps (.lst (nV (yv.set p0 (yv.getD p0 0 - 1))))=H3 at r3 k3 ⊢
    obtain ⟨a3,b3,du3,eq3,T3⟩:=wy2.F.turn du2 fx2 hp0 hs0 hg0 hmx
    obtain ⟨pth,wk3⟩:=CA.Walk.start du3 ke2 T3 (wy2.F.rt p0 hp0) hp0 hs0 eq3
    rw [← CV.zaE hps zdY] at wk3
    have lt3 : CD.zQ (yv.set p0 (yv.getD p0 0 - 1)) < CD.zQ yv:=by have:=CO.WW zdY; omega
    have ls3 : (yv.set p0 (yv.getD p0 0 - 1)).length=yv.length:=List.length_set ..
    generalize yv.set p0 (yv.getD p0 0 - 1)=vU at r3 wk3 lt3 ls3
    refine ⟨_,rfl,?_⟩
    refine ⟨fun m σ H'=>L23.E3 fun v1 held' left'=>L23.A6 (((L23.E2 fun p pth=>L23.A4 (m=pth.length + 1) (σ=[some (.ref x),v1,some (.int (p : Nat))]) (left'=Wv) (CA.Walk ms.length ks.length (CV.cc B ks hs) (CV.X ms) (CV.X wG) want zu (CV.ss sm2) (CV.gg xG p0) (CV.gg xG) a3 b3 (CV.X held') (CV.zz vU) (CV.zz left') p pth))∨m=0∧σ=[some (.ref x),v1,some .non]∧Du B ms ks hs held' vU left' (CV.gg xG p0) a3 b3∧Ke ms ks held' vU left' want zu)) (CV.Wgh a.zd H' x dx pm pk pw ph ps pl pg2 pt2 B ms ks hs held' vU left' xG sm2) (held'.length=wG.length) (left'.length=Wv.length) ((∀ p w,CV.X held' p w=true→CV.X ms p w=true)) (CV.Kp [x,ph,ps,pl,pg,pt] H H'),⟨_,_,wG,Wv,.inl ⟨p0,pth,rfl,rfl,rfl,wk3⟩,r3,rfl,rfl,G2.hf,k3⟩,?_⟩
    have gF:=wy2.F
    have lt2:=wy2.lt
    clear r2 r3 k2 k3 wk3 du3 ke2 G r du ke
    rintro m σ H4 ⟨v1,Ww,jL,(⟨p,pth4,rfl,rfl,rfl,wk4⟩ | ⟨rfl,rfl,du4,ke4⟩),r4,lh4,ll4,hf4,k4⟩
    · have G4:=G2.chg lh4 ls3 ll4 hf4
      have pn:=wk4.pn
      have esm : ∀ {o},CV.ss sm2 p=some o→sm2[p]?=some (some o):=fun {o} e=>by
        unfold CV.ss at e
        rw [List.getD_eq_getElem?_getD,List.getElem?_eq_getElem (by omega : p < sm2.length)] at e
        rw [List.getElem?_eq_getElem (by omega : p < sm2.length)]
        exact congrArg some e
      have kk : ∀ {H5 : Hp},CV.Kp [ph,pl] H4 H5→CV.Kp [x,ph,ps,pl,pg,pt] H H5:=fun k5=>k4.trans (k5.mono fun b' hb=>by
        simp only [List.mem_cons,List.not_mem_nil,or_false] at hb ⊢
        rcases hb with z | z <;> simp [z])
      refine ⟨_,rfl,rfl,_,rfl,iteT ⟨_,fun σ' H' h=>h,?_⟩⟩
      cases est : CV.ss sm2 p with
      | none=>exact absurd est (T3.no p pn wk4.eq)
      | some o =>
        obtain ⟨wk,gv⟩:=o
        cases gv with
        | none =>
          obtain ⟨hw,_,_⟩:=T3.fr p wk pn wk4.eq est
          have hl0:=(gF.fr p wk pn est).2.2.2.1
          have zdZ : 0 < jL.getD wk 0:=by unfold CV.zz at hl0; omega
          obtain ⟨d5,k5⟩:=wk4.last T3 gF est hl0
          refine ⟨_,rfl,x,dx,_,rfl,r4.ins,CV.zaD,_,rfl,x,dx,pm,pk,pw,ph,ps,pl,pg2,pt2,B,ms,ks,hs,Ww,vU,jL,xG,sm2,p,wk,none,rfl,r4,G4,pn,esm est,hw,fun _=>⟨zdZ,fun H5 YO r5 l5 x5 kp5=>?_⟩,fun q' z=>nomatch z⟩
          have hf5 : ∀ p' w',CV.X YO p' w'=true→CV.X ms p' w'=true:=fun p' w' h=>by
            rw [x5] at h
            by_cases z : p'=p∧w'=wk
            · rw [z.1,z.2]; exact (gF.fr p wk pn est).2.1
            · rw [CA.yu z] at h; exact hf4 p' w' h
          have ez:=CV.zaE (l:=jL) (by rw [G4.ll]; exact hw : wk < jL.length) zdZ
          rw [← x5,← ez] at d5 k5
          exact ⟨0,by omega,_,YO,_,.inr ⟨rfl,rfl,d5,k5⟩,r5,by omega,by rw [List.length_set],hf5,kk kp5⟩
        | some q' =>
          obtain ⟨hw,hq,_,h1,h2,_,_⟩:=T3.go p wk q' pn wk4.eq est
          have hqp : q'≠p:=fun z=>by rw [z,h1] at h2; cases h2
          obtain ⟨r',rfl,wk5⟩:=wk4.step T3 gF est
          refine ⟨_,rfl,x,dx,_,rfl,r4.ins,CV.zaD,_,rfl,x,dx,pm,pk,pw,ph,ps,pl,pg2,pt2,B,ms,ks,hs,Ww,vU,jL,xG,sm2,p,wk,some q',rfl,r4,G4,pn,esm est,hw,(fun z=>nomatch z),fun q'' z=>?_⟩
          obtain rfl:=Option.some.inj z
          refine ⟨hq,hqp,fun H5 YO r5 l5 x5 kp5=>?_⟩
          have hf5 : ∀ p' w',CV.X YO p' w'=true→CV.X ms p' w'=true:=fun p' w' h=>by
            rw [x5] at h
            by_cases y : p'=q'∧w'=wk
            · rw [y.1,y.2,CA.jZ] at h; cases h
            · rw [CA.yu y] at h
              by_cases z : p'=p∧w'=wk
              · rw [z.1,z.2]; exact (gF.mv p wk q' pn est).2.2.1
              · rw [CA.yu z] at h; exact hf4 p' w' h
          rw [← x5] at wk5
          exact ⟨r'.length + 1,by rw [List.length_cons]; omega,_,YO,jL,.inl ⟨q',r',rfl,rfl,rfl,wk5⟩,r5,by omega,rfl,hf5,kk kp5⟩
    · have G4:=G2.chg lh4 ls3 ll4 hf4
      refine ⟨_,rfl,rfl,_,rfl,iteF ?_⟩
      refine ⟨_,rfl,x,dx,_,rfl,r4.ins,CV.VY,x,dx,pm,pk,pw,ph,ps,pl,pg2,pt2,B,ms,ks,hs,Ww,vU,jL,xG,sm2,_,a3,b3,rfl,r4,G4,du4,fun H5 pg5 pt5 zd0 sm5 rv5 r5 wy5 fx5 st5 ng5 nt5 k5=>?_⟩
      exact ⟨_,lt3,_,rv5,pg5,pt5,Ww,vU,jL,zd0,sm5,_,a3,b3,rfl,rfl,r5,G4,du4,ke4,wy5,fx5,st5,k4.trans (k5.mono fun b' hb=>by rw [List.mem_singleton.mp hb]; simp)⟩
noncomputable def zcr (K : PySem.W.Frag) (C : Addr) : Sp:=fun vs H Q _=>L23.E12 fun (x : Addr) (dx : Addr) (qw : Addr) (qo : Addr) (qm : Addr) (qk : Addr) (qh : Addr) (ws : List Nat) (os : List Nat) (ms : List Nat) (ks : List Nat) (hs : List Nat)=>L23.A10 (vs=[.ref x,.ref qw,.ref qo,.ref qm,.ref qk,.ref qh]) (H x=some (.ins C dx [])) (H qw=some (.lst (nV ws))) (H qo=some (.lst (nV os))) (H qm=some (.lst (nV ms))) (H qk=some (.lst (nV ks))) (H qh=some (.lst (nV hs))) (ks.length=os.length) (ks.length≤1000) (L23.A4 (ms.length≤1000) ((∀ o∈os,o≤1000)) ((∀ h∈hs,h≤1000)) (∀ H' pm pk pw ph ps pl pg pt,CV.Wgh C H' x dx pm pk pw ph ps pl pg pt (CI.base os ks hs) ms ks hs (List.replicate ms.length 0) ws os [] []→(∀ b∈[ph,ps,pl,pg,pt],H b=none)→(∀ b u,b≠x→H b=some u→H' b=some u)→Q .non H'))
theorem zfE {f : Addr} {fd Zo : FuncData} (F : Fun K "__init__" "Weigher.__init__" z8 f fd) (T : Txt K mg a)
    (XM : FnOk P w K mg base CX0 1 a.base_of Zo ["oftens","marks","worths"] (Jm K)) (ZL : Fun K "base_of" "base_of" xy a.base_of Zo) (XN : Binds K Zo ["oftens","marks","worths"] []) : FnOk P w K mg base CX0 2 f fd ["self","wants","oftens","masks","marks","worths"] (zcr K a.zd):=by
  refine F.ok zfb (fun vs H Q E h=>?_) (fun cdv A outer s H vs Q E hr h=>?_)
  · obtain ⟨x,dx,qw,qo,qm,qk,qh,ws,os,ms,ks,hs,rfl,_⟩:=h
    rfl
  · obtain ⟨x,dx,qw,qo,qm,qk,qh,ws,os,ms,ks,hs,rfl,hx,hw,ho,hm,hk,hh,hl,hl2,hn,bo,bh,q⟩:=h
    refine ⟨_,(pss_cons (ps_fld (pvA 0 (defScope z8) xq rfl rfl) (zk (sc:=defScope z8) XM (hr.mono (by decide)) rfl (by decide +kernel) T.zdL ZL.kp XN .nil pass0 (pa_cons (pvA 2 (defScope z8) xq rfl rfl) (pa_cons (pvA 4 (defScope z8) xq rfl rfl) (pa_cons (pvA 5 (defScope z8) xq rfl rfl) pa_nil)))) rfl)
      (pss_cons (ps_fld (pvA 0 (defScope z8) xq rfl rfl) (wX (sc:=defScope z8) call_list_of rfl (by decide +kernel) T.vg jV (pa_cons (pvA 3 (defScope z8) xq rfl rfl) pa_nil)) rfl)
      (pss_cons (ps_fld (pvA 0 (defScope z8) xq rfl rfl) (wX (sc:=defScope z8) call_list_of rfl (by decide +kernel) T.vg jV (pa_cons (pvA 4 (defScope z8) xq rfl rfl) pa_nil)) rfl)
      (pss_cons (ps_fld (pvA 0 (defScope z8) xq rfl rfl) (wX (sc:=defScope z8) call_list_of rfl (by decide +kernel) T.vg jV (pa_cons (pvA 5 (defScope z8) xq rfl rfl) pa_nil)) rfl)
      (pss_cons (ps_fld (pvA 0 (defScope z8) xq rfl rfl) (zN rfl (N:=["mask"]) (own:=1) (js:=[]) (X:=(cxOf CX0 P w K mg base xq "Weigher.__init__" (defScope z8) f cdv A outer s H E).nox) (zM (defScope z8) xq rfl rfl (by decide +kernel)) (pi_list (pvA 3 (defScope z8) xq rfl rfl)) (fun fp0 sx0 Hx0=>(pgN (i:=0) (sc:=zb _ (defScope z8)) (M:=["mask"]) rfl rfl (by decide +kernel))) (fun fp0 sx0 Hx0=>zG) (fun fp0 sx0 Hx0=>pe_int)) rfl)
      (pss_cons (ps_fld (pvA 0 (defScope z8) xq rfl rfl) (wX (sc:=defScope z8) call_list_of rfl (by decide +kernel) T.vg jV (pa_cons (pvA 1 (defScope z8) xq rfl rfl) pa_nil)) rfl)
      (pss_cons (ps_fld (pvA 0 (defScope z8) xq rfl rfl) (wX (sc:=defScope z8) call_list_of rfl (by decide +kernel) T.vg jV (pa_cons (pvA 2 (defScope z8) xq rfl rfl) pa_nil)) rfl)
      (pss_cons (ps_fld (pvA 0 (defScope z8) xq rfl rfl) (pe_lst pa_nil) rfl)
      (pss_one (ps_fld (pvA 0 (defScope z8) xq rfl rfl) (pe_lst pa_nil) rfl)))))))))),?_⟩
    try dsimp only [cxOf,Cx.nox]
    have hs' : sizeLine=16777216:=sizeLine_eq
    have kx : ∀ {b : Addr} {l : List V},H b=some (.lst l)→b≠x:=fun e=>CO.ne_of e hx (fun z=>nomatch z)
    refine ⟨_,rfl,_,rfl,_,rfl,qo,qk,qh,os,ks,hs,rfl,SqL.of ho,SqL.of hk,SqL.of hh,hl,hl2,bo,bh,fun H1 s1=>?_⟩
    have B1 : CO.Bld a.zd H H1 x dx [] []:=⟨s1 _ _ hx,fun b u _ e=>s1 _ _ e,(fun e he=>nomatch he),List.nodup_nil⟩
    refine ⟨_,rfl,x,_,dx,_,rfl,B1.ins,T.zg,T.yE,by show 0 < 1000; decide,?_⟩
    rw [show putF ("base" : Str) (V.int (CI.base os ks hs : Nat)) []=([("base",V.int (CI.base os ks hs : Nat))] : List (Str × V)) from rfl]
    have B2:=B1.set [("base",V.int (CI.base os ks hs : Nat))]
    generalize upd H1 x _=H2 at B2 ⊢
    generalize CI.base os ks hs=B0 at B2 q ⊢
    clear B1 s1
    refine ⟨_,rfl,qm,_,rfl,.inl (SqL.of (B2.keep _ _ (kx hm) hm)),fun pm hpm=>?_⟩
    have B3:=B2.put (l:=ms) (H':=upd H2 pm (.lst (nV ms))) hpm (Same.zp hpm) upd_same
    generalize upd H2 pm (.lst (nV ms))=H3 at B3 ⊢
    refine ⟨_,rfl,x,_,dx,_,rfl,B3.ins,T.zg,T.zR,by show 1 < 1000; decide,?_⟩
    rw [show putF ("masks" : Str) (V.ref pm) ([("base",V.int (B0 : Nat))] : List (Str × V))=([("base",V.int (B0 : Nat)),("masks",.ref pm)] : List (Str × V)) by kernel_rfl]
    have B4:=B3.set [("base",V.int (B0 : Nat)),("masks",.ref pm)]
    generalize upd H3 x _=H4 at B4 ⊢
    clear B2 B3
    refine ⟨_,rfl,qk,_,rfl,.inl (SqL.of (B4.keep _ _ (kx hk) hk)),fun pk hpk=>?_⟩
    have B5:=B4.put (l:=ks) (H':=upd H4 pk (.lst (nV ks))) hpk (Same.zp hpk) upd_same
    generalize upd H4 pk (.lst (nV ks))=H5 at B5 ⊢
    refine ⟨_,rfl,x,_,dx,_,rfl,B5.ins,T.zg,T.yk,by show 2 < 1000; decide,?_⟩
    rw [show putF ("marks" : Str) (V.ref pk) ([("base",V.int (B0 : Nat)),("masks",.ref pm)] : List (Str × V))=([("base",V.int (B0 : Nat)),("masks",.ref pm),("marks",.ref pk)] : List (Str × V)) by kernel_rfl]
    have B6:=B5.set [("base",V.int (B0 : Nat)),("masks",.ref pm),("marks",.ref pk)]
    generalize upd H5 x _=H6 at B6 ⊢
    clear B4 B5
    refine ⟨_,rfl,qh,_,rfl,.inl (SqL.of (B6.keep _ _ (kx hh) hh)),fun pw hpw=>?_⟩
    have B7:=B6.put (l:=hs) (H':=upd H6 pw (.lst (nV hs))) hpw (Same.zp hpw) upd_same
    generalize upd H6 pw (.lst (nV hs))=H7 at B7 ⊢
    refine ⟨_,rfl,x,_,dx,_,rfl,B7.ins,T.zg,T.z5,by show 3 < 1000; decide,?_⟩
    rw [show putF ("worths" : Str) (V.ref pw) ([("base",V.int (B0 : Nat)),("masks",.ref pm),("marks",.ref pk)] : List (Str × V))=([("base",V.int (B0 : Nat)),("masks",.ref pm),("marks",.ref pk),("worths",.ref pw)] : List (Str × V)) by kernel_rfl]
    have B8:=B7.set [("base",V.int (B0 : Nat)),("masks",.ref pm),("marks",.ref pk),("worths",.ref pw)]
    generalize upd H7 x _=H8 at B8 ⊢
    clear B6 B7
    have hm8:=B8.keep _ _ (kx hm) hm
    refine ⟨_,rfl,qm,rfl,⟨_,SqL.of hm8⟩,fun ph hph=>?_⟩
    have fh:=(B8.free hph).1
    refine vN hph (zF (xs:=nV ms)) (fun σ=>∃ v,σ=[v]) (fun _=>some (.int 0)) ⟨_,rfl⟩ (fun H' s'=>SqL.of (s' _ _ hm8)) (by rw [zm]; omega) ?_ ?_
    · rintro y ys σ H' R1 R0 hy ⟨v,rfl⟩ s' k1 k0
      exact k1 _ _ _ ⟨_,rfl⟩ rfl (Same.refl _)
    intro H9 s9 e9
    rw [CO.zeros] at e9
    have B9:=B8.put hph s9 e9
    refine ⟨_,rfl,x,_,dx,_,rfl,B9.ins,T.zg,T.zI,by show 4 < 1000; decide,?_⟩
    rw [show putF ("held" : Str) (V.ref ph) ([("base",V.int (B0 : Nat)),("masks",.ref pm),("marks",.ref pk),("worths",.ref pw)] : List (Str × V))=([("base",V.int (B0 : Nat)),("masks",.ref pm),("marks",.ref pk),("worths",.ref pw),("held",.ref ph)] : List (Str × V)) by kernel_rfl]
    have B10:=B9.set [("base",V.int (B0 : Nat)),("masks",.ref pm),("marks",.ref pk),("worths",.ref pw),("held",.ref ph)]
    generalize upd H9 x _=H10 at B10 ⊢
    clear B8 B9 s9 e9
    refine ⟨_,rfl,qw,_,rfl,.inl (SqL.of (B10.keep _ _ (kx hw) hw)),fun ps hps=>?_⟩
    have B11:=B10.put (l:=ws) (H':=upd H10 ps (.lst (nV ws))) hps (Same.zp hps) upd_same
    generalize upd H10 ps (.lst (nV ws))=H11 at B11 ⊢
    refine ⟨_,rfl,x,_,dx,_,rfl,B11.ins,T.zg,T.z7,by show 5 < 1000; decide,?_⟩
    rw [show putF ("still" : Str) (V.ref ps) ([("base",V.int (B0 : Nat)),("masks",.ref pm),("marks",.ref pk),("worths",.ref pw),("held",.ref ph)] : List (Str × V))=([("base",V.int (B0 : Nat)),("masks",.ref pm),("marks",.ref pk),("worths",.ref pw),("held",.ref ph),("still",.ref ps)] : List (Str × V)) by kernel_rfl]
    have B12:=B11.set [("base",V.int (B0 : Nat)),("masks",.ref pm),("marks",.ref pk),("worths",.ref pw),("held",.ref ph),("still",.ref ps)]
    generalize upd H11 x _=H12 at B12 ⊢
    clear B10 B11
    refine ⟨_,rfl,qo,_,rfl,.inl (SqL.of (B12.keep _ _ (kx ho) ho)),fun pl hpl=>?_⟩
    have B13:=B12.put (l:=os) (H':=upd H12 pl (.lst (nV os))) hpl (Same.zp hpl) upd_same
    generalize upd H12 pl (.lst (nV os))=H13 at B13 ⊢
    refine ⟨_,rfl,x,_,dx,_,rfl,B13.ins,T.zg,T.yc,by show 6 < 1000; decide,?_⟩
    rw [show putF ("left" : Str) (V.ref pl) ([("base",V.int (B0 : Nat)),("masks",.ref pm),("marks",.ref pk),("worths",.ref pw),("held",.ref ph),("still",.ref ps)] : List (Str × V))=([("base",V.int (B0 : Nat)),("masks",.ref pm),("marks",.ref pk),("worths",.ref pw),("held",.ref ph),("still",.ref ps),("left",.ref pl)] : List (Str × V)) by kernel_rfl]
    have B14:=B13.set [("base",V.int (B0 : Nat)),("masks",.ref pm),("marks",.ref pk),("worths",.ref pw),("held",.ref ph),("still",.ref ps),("left",.ref pl)]
    generalize upd H13 x _=H14 at B14 ⊢
    clear B12 B13
    refine ⟨by first | decide | (simp only [List.length_cons,List.length_nil,List.length_append,List.length_map]; decide),fun pg hpg=>?_⟩
    have fg:=(B14.free hpg).1
    have B15:=B14.put (l:=[]) (H':=upd H14 pg (.lst [])) hpg (Same.zp hpg) upd_same
    generalize upd H14 pg (.lst [])=H15 at B15 ⊢
    refine ⟨_,rfl,x,_,dx,_,rfl,B15.ins,T.zg,T.zE,by show 7 < 1000; decide,?_⟩
    rw [show putF ("gains" : Str) (V.ref pg) ([("base",V.int (B0 : Nat)),("masks",.ref pm),("marks",.ref pk),("worths",.ref pw),("held",.ref ph),("still",.ref ps),("left",.ref pl)] : List (Str × V))=([("base",V.int (B0 : Nat)),("masks",.ref pm),("marks",.ref pk),("worths",.ref pw),("held",.ref ph),("still",.ref ps),("left",.ref pl),("gains",.ref pg)] : List (Str × V)) by kernel_rfl]
    have B16:=B15.set [("base",V.int (B0 : Nat)),("masks",.ref pm),("marks",.ref pk),("worths",.ref pw),("held",.ref ph),("still",.ref ps),("left",.ref pl),("gains",.ref pg)]
    generalize upd H15 x _=H16 at B16 ⊢
    clear B14 B15
    refine ⟨by first | decide | (simp only [List.length_cons,List.length_nil,List.length_append,List.length_map]; decide),fun pt hpt=>?_⟩
    have B17:=B16.put (l:=[]) (H':=upd H16 pt (.lst [])) hpt (Same.zp hpt) upd_same
    generalize upd H16 pt (.lst [])=H17 at B17 ⊢
    refine ⟨_,rfl,x,_,dx,_,rfl,B17.ins,T.zg,T.zS,by show 8 < 1000; decide,?_⟩
    rw [show putF ("steps" : Str) (V.ref pt) ([("base",V.int (B0 : Nat)),("masks",.ref pm),("marks",.ref pk),("worths",.ref pw),("held",.ref ph),("still",.ref ps),("left",.ref pl),("gains",.ref pg)] : List (Str × V))=CV.fw B0 pm pk pw ph ps pl pg pt by kernel_rfl]
    have B18:=B17.set (CV.fw B0 pm pk pw ph ps pl pg pt)
    generalize upd H17 x _=H18 at B18 ⊢
    refine q H18 pm pk pw ph ps pl pg pt ⟨B18.ins,(B18.at_ (pm,ms) (by simp)).1,(B18.at_ (pk,ks) (by simp)).1,(B18.at_ (pw,hs) (by simp)).1,(B18.at_ (ph,List.replicate ms.length 0) (by simp)).1,(B18.at_ (ps,ws) (by simp)).1,(B18.at_ (pl,os) (by simp)).1,(B18.at_ (pg,[]) (by simp)).1,⟨[],(B18.at_ (pt,[]) (by simp)).1,Els.nil⟩,B18.nd⟩ (fun b hb=>?_) B18.keep
    simp only [List.mem_cons,List.not_mem_nil,or_false] at hb
    rcases hb with z | z | z | z | z <;> rw [z]
    · exact fh
    · exact (B18.at_ (ps,ws) (by simp)).2.1
    · exact (B18.at_ (pl,os) (by simp)).2.1
    · exact fg
    · exact (B18.at_ (pt,[]) (by simp)).2.1
noncomputable def jM (m : Nat) (ord : List Nat) : List Nat:=(List.range ord.length).filter fun i=>m.testBit (ord.getD i 0)
noncomputable def zaM (K : PySem.W.Frag) : Sp:=fun vs H Q _=>L23.E3 fun (m : Nat) (p : Addr) (ord : List Nat)=>L23.A4 (vs=[.int (m : Nat),.ref p]) (SqL K H p (nV ord)) (ord.length≤1000) (∀ H',Same H H'→Q (.int (CB.maskOf (jM m ord) : Nat)) H')
theorem zd1 {f : Addr} {fd yw xT : FuncData} (F : Fun K "renumbered" "renumbered" yP f fd) (T : Txt K mg a)
    (xD : FnOk P w K mg base CX0 1 a.has yw ["mask","number"] (j5 K)) (xh : Fun K "has" "has" xM a.has yw) (xE : Binds K yw ["mask","number"] [])
    (vJ : FnOk P w K mg base CX0 1 a.vA xT ["numbers"] (YK K)) (wF : Fun K "mask_of" "mask_of" xr a.vA xT) (vK : Binds K xT ["numbers"] []) : FnOk P w K mg base CX0 2 f fd ["mask","order"] (zaM K):=by
  refine F.ok zdw (fun vs H Q E h=>?_) (fun cdv A outer s H vs Q E hr h=>?_)
  · obtain ⟨m,p,ord,rfl,_⟩:=h
    rfl
  · obtain ⟨m,p,ord,rfl,hp,hl,q⟩:=h
    refine ⟨_,(pss_one (ps_ret (zk (sc:=defScope yP) vJ (hr.mono (by decide)) rfl (by decide +kernel) T.Wt wF.kp vK .nil pass0 (pa_cons (zN rfl (N:=["number","work","mask"]) (own:=2) (js:=[0]) (X:=(cxOf CX0 P w K mg base Wq "renumbered" (defScope yP) f cdv A outer s H E).nox) (zM (defScope yP) Wq rfl rfl (by decide +kernel)) (xH (glR (sc:=defScope yP) rfl (by decide +kernel)) T.zT (pa_cons (pvA 1 (defScope yP) Wq rfl rfl) pa_nil)) (fun fp0 sx0 Hx0=>(yU (K:=K) rfl (pg_tup (n:=2) (by rfl) (pgs_cons (pgN (i:=0) (sc:=zb _ (defScope yP)) (M:=["number","work","mask"]) rfl rfl (by decide +kernel)) (pgs_cons (pgN (i:=1) (sc:=zb _ (defScope yP)) (M:=["number","work","mask"]) rfl rfl (by decide +kernel)) pgs_nil))))) (fun fp0 sx0 Hx0=>(vn (pt_val (zk (sc:=zb _ (defScope yP)) xD (hr.mono (by decide)) rfl (by decide +kernel) T.YJ xh.kp xE .nil pass0 (pa_cons (pvN (i:=2) (sc:=zb _ (defScope yP)) (M:=["number","work","mask"]) rfl rfl (by decide +kernel)) (pa_cons (pvN (i:=1) (sc:=zb _ (defScope yP)) (M:=["number","work","mask"]) rfl rfl (by decide +kernel)) pa_nil)))))) (fun fp0 sx0 Hx0=>(pvN (i:=0) (sc:=zb _ (defScope yP)) (M:=["number","work","mask"]) rfl rfl (by decide +kernel)))) pa_nil)))),?_⟩
    try dsimp only [cxOf,Cx.nox]
    have hs' : sizeLine=16777216:=sizeLine_eq
    refine ⟨_,rfl,p,rfl,⟨_,hp⟩,fun c hc=>?_⟩
    refine L5.jz hc (fun H' s'=>s'.seq hp) (fun σ=>L23.E2 fun v1 v2=>σ=[v1,v2,some (.int (m : Nat))]) (fun i _=>if m.testBit (ord.getD i 0) then some (.int (i : Nat)) else none) ⟨_,_,rfl⟩ (by rw [zm]; omega) ?_ ?_
    · rintro i y σ H1 Tt R1 R0 hy ⟨v1,v2,rfl⟩ s1 hTt k1 k0
      obtain ⟨hi,rfl⟩:=yr hy
      rw [show (0 : Int) + (i : Nat)=(i : Nat) by omega]
      refine ⟨Tt,_,rfl,SqT.of upd_same,rfl,_,_,rfl,_,_,rfl,rfl,?_⟩
      refine ⟨_,rfl,_,rfl,m,_,rfl,_,rfl,?_⟩
      rw [decide_eq_true (show (0 : Int)≤(ord.getD i 0 : Nat) by omega),Bool.true_and,Int.toNat_natCast]
      refine ite2 (fun h1=>?_) (fun h1=>?_)
      · exact ⟨_,rfl,k1 _ _ _ ⟨_,_,rfl⟩ (if_pos h1) (Same.zp hTt)⟩
      · exact k0 _ _ ⟨_,_,rfl⟩ (if_neg h1) (Same.zp hTt)
    intro H1 s1 e1
    have ee : L5.yV (fun i _=>if m.testBit (ord.getD i 0) then some (V.int (i : Nat)) else none) (nV ord) (nV ord).length=(jM m ord).map fun n : Nat=>V.int n:=by
      unfold L5.yV jM
      rw [zm]
      refine CO.jB fun j hj=>?_
      rw [List.getElem?_eq_getElem (by rw [zm]; exact List.mem_range.mp hj : j < (nV ord).length)]
      rfl
    rw [ee] at e1
    refine ⟨c,jM m ord,rfl,SqL.of e1,fun n hn=>?_,q H1 s1⟩
    have:=List.mem_range.mp (List.mem_filter.mp hn).1
    omega
noncomputable def zaN (_ : PySem.W.Frag) : Sp:=fun vs H Q _=>∃ (m : Nat),L23.A3 (vs=[.int m]) (m < 2 ^ 1000) (∀ H' l,H l=none→Same H H'→H' l=some (.lst ((CB.yC m).map fun n : Nat=>V.int n))→Q (.ref l) H')
theorem zd2 {f : Addr} {fd yw : FuncData} (F : Fun K "members" "members" xu f fd) (T : Txt K mg a)
    (xD : FnOk P w K mg base CX0 1 a.has yw ["mask","number"] (j5 K)) (xh : Fun K "has" "has" xM a.has yw) (xE : Binds K yw ["mask","number"] []) : FnOk P w K mg base CX0 2 f fd ["mask"] (zaN K):=by
  refine F.ok zdl (fun vs H Q E h=>?_) (fun cdv A outer s H vs Q E hr h=>?_)
  · obtain ⟨m,rfl,_⟩:=h
    rfl
  · obtain ⟨m,rfl,hm,q⟩:=h
    refine ⟨_,(pss_one (ps_ret (zN rfl (N:=["number","mask"]) (own:=1) (js:=[0]) (X:=(cxOf CX0 P w K mg base Wm "members" (defScope xu) f cdv A outer s H E).nox) (zM (defScope xu) Wm rfl rfl (by decide +kernel)) (pi_range1 (glR (sc:=defScope xu) rfl (by decide +kernel)) T.yo (pa_cons (pe_bm0 PySem.F.plainAttrs_int slot_int_bit_length type_int_bit_length vW (pvA 0 (defScope xu) Wm rfl rfl)) pa_nil)) (fun fp0 sx0 Hx0=>(pgN (i:=0) (sc:=zb _ (defScope xu)) (M:=["number","mask"]) rfl rfl (by decide +kernel))) (fun fp0 sx0 Hx0=>(vn (pt_val (zk (sc:=zb _ (defScope xu)) xD (hr.mono (by decide)) rfl (by decide +kernel) T.YJ xh.kp xE .nil pass0 (pa_cons (pvN (i:=1) (sc:=zb _ (defScope xu)) (M:=["number","mask"]) rfl rfl (by decide +kernel)) (pa_cons (pvN (i:=0) (sc:=zb _ (defScope xu)) (M:=["number","mask"]) rfl rfl (by decide +kernel)) pa_nil)))))) (fun fp0 sx0 Hx0=>(pvN (i:=0) (sc:=zb _ (defScope xu)) (M:=["number","mask"]) rfl rfl (by decide +kernel)))))),?_⟩
    try dsimp only [cxOf,Cx.nox]
    have hb : Builtin.Int.intBits (m : Int)≤1000:=intBits_le_iff.mpr (by rw [Int.natAbs_natCast]; exact hm)
    have hs : sizeLine=16777216:=sizeLine_eq
    refine ⟨_,rfl,rfl,rfl,_,rfl,_,rfl,by omega,by omega,fun c hc=>?_⟩
    refine vN hc (xO (P:=fun _=>True)) (fun σ=>∃ v,σ=[v,some (.int m)]) (fun x=>match x with | .int z=>if m.testBit z.toNat then some (.int z) else none | _=>none) ⟨_,rfl⟩ (fun _ _=>trivial) (by rw [List.length_map,List.length_range]; omega) ?_ ?_
    · rintro x ys σ H' R1 R0 hx ⟨v,rfl⟩ s1 k1 k0
      obtain ⟨i,hi,rfl⟩:=List.mem_map.mp hx
      rw [show (0 : Int) + (i : Nat)=(i : Nat) by omega] at k1 k0 ⊢
      refine ⟨_,rfl,_,rfl,m,_,rfl,_,rfl,?_⟩
      rw [decide_eq_true (show (0 : Int)≤(i : Nat) by omega),Bool.true_and,Int.toNat_natCast]
      have te : (if m.testBit ((i : Nat) : Int).toNat=true then some (V.int (i : Nat)) else none)=(if m.testBit i=true then some (V.int (i : Nat)) else none):=by rw [Int.toNat_natCast]
      refine ite2 (fun h1=>?_) (fun h1=>?_)
      · exact ⟨_,rfl,k1 _ _ _ ⟨_,rfl⟩ (te.trans (if_pos h1)) (Same.refl _)⟩
      · exact k0 _ _ ⟨_,rfl⟩ (te.trans (if_neg h1)) (Same.refl _)
    · intro H' s1 e1
      refine q H' c hc s1 (e1.trans ?_)
      congr 2
      rw [Int.toNat_natCast]
      unfold CB.yC
      generalize Builtin.Int.intBits (m : Int)=n
      rw [List.filterMap_map]
      induction List.range n with
      | nil=>rfl
      | cons i r ih =>
        rw [List.filterMap_cons,List.filter_cons]
        have ez : (0 : Int) + (i : Nat)=(i : Nat):=by omega
        cases h1 : m.testBit i with
        | true =>
          have : ((fun x=>match x with | V.int z=>if m.testBit z.toNat=true then some (V.int z) else none | _=>none) ∘ fun i : Nat=>V.int (0 + (i : Nat))) i=some (V.int (i : Nat)):=by
            show (if m.testBit ((0 : Int) + (i : Nat)).toNat=true then some (V.int (0 + (i : Nat))) else none)=_
            rw [ez,Int.toNat_natCast,if_pos h1]
          rw [this,if_pos rfl,List.map_cons]
          dsimp only
          rw [ih]
        | false =>
          have : ((fun x=>match x with | V.int z=>if m.testBit z.toNat=true then some (V.int z) else none | _=>none) ∘ fun i : Nat=>V.int (0 + (i : Nat))) i=none:=by
            show (if m.testBit ((0 : Int) + (i : Nat)).toNat=true then some (V.int (0 + (i : Nat))) else none)=_
            rw [ez,Int.toNat_natCast,if_neg (by rw [h1]; decide)]
          rw [this,if_neg (by decide)]
          dsimp only
          rw [ih]
noncomputable def zaO (K : PySem.W.Frag) : Sp:=fun vs H Q _=>L23.E2 fun (p : Addr) (held : List Nat)=>L23.A6 (vs=[.ref p]) (SqL K H p (nV held)) (held.length≤1000) ((∀ m∈held,m < 2 ^ 1000)) ((CD.hpT held held.length).length < 64) (∀ H' l zs qs,Same H H'→H' l=some (.lst zs)→zc K H' zs (List.map CP.pairD qs)→qs.Perm ((CD.hpT held held.length).map CP.wg)→CP.ym qs=true→Q (.ref l) H')
theorem zd3 {f : Addr} {fd Vl : FuncData} (F : Fun K "pairs_of" "pairs_of" yy f fd) (T : Txt K mg a)
    (JG : FnOk P w K mg base CX0 2 a.members Vl ["mask"] (zaN K)) (YQ : Fun K "members" "members" xu a.members Vl) (JH : Binds K Vl ["mask"] []) : FnOk P w K mg base CX0 3 f fd ["held"] (zaO K):=by
  refine F.ok zds (fun vs H Q E h=>?_) (fun cdv A outer s H vs Q E hr h=>?_)
  · obtain ⟨p,held,rfl,_⟩:=h
    rfl
  · obtain ⟨p,held,rfl,hp,hl,hm,h64,q⟩:=h
    refine ⟨_,(pss_cons (psN (i:=1) (sc:=defScope yy) (M:=vF) rfl rfl (by decide +kernel) (pe_lst pa_nil))
      (pss_cons (ps_for PassesOwn.never rfl (xH (glR (sc:=defScope yy) rfl (by decide +kernel)) T.zT (pa_cons (pvA 0 (defScope yy) vF rfl rfl) pa_nil)) (pg_tup (n:=2) (by rfl) (pgs_cons (pgC (i:=2) (sc:=defScope yy) (M:=vF) rfl rfl rfl (by decide +kernel)) (pgs_cons (pgN (i:=3) (sc:=defScope yy) (M:=vF) rfl rfl (by decide +kernel)) pgs_nil))) (pss_one (ps_expr (pe_bm PySem.F.plainAttrs_list PySem.F.slot_list_extend PySem.F.type_list_extend mt_extend (pvA 1 (defScope yy) vF rfl rfl) (pa_cons (zN rfl (N:=["work","place"]) (own:=1) (js:=[2]) (X:=(cxOf CX0 P w K mg base vF "pairs_of" (defScope yy) f cdv A outer s H E).nox) (zM (defScope yy) vF rfl rfl (by decide +kernel)) (pi_list (zk (sc:=defScope yy) JG (hr.mono (by decide)) rfl (by decide +kernel) T.zfj YQ.kp JH .nil pass0 (pa_cons (pvA 3 (defScope yy) vF rfl rfl) pa_nil))) (fun fp0 sx0 Hx0=>(pgN (i:=0) (sc:=zb _ (defScope yy)) (M:=["work","place"]) rfl rfl (by decide +kernel))) (fun fp0 sx0 Hx0=>zG) (fun fp0 sx0 Hx0=>(pe_tup (pa_cons (pvN (i:=0) (sc:=zb _ (defScope yy)) (M:=["work","place"]) rfl rfl (by decide +kernel)) (pa_cons (pvN (i:=1) (sc:=zb _ (defScope yy)) (M:=["work","place"]) rfl rfl (by decide +kernel)) pa_nil))))) pa_nil)))))
      (pss_one (ps_ret (zo (sc:=defScope yy) L16.jr rfl (by decide +kernel) T.xR vP (pa_cons (pvA 1 (defScope yy) vF rfl rfl) pa_nil)))))),?_⟩
    try dsimp only [cxOf,Cx.nox]
    have hs : sizeLine=16777216:=sizeLine_eq
    refine ⟨by first | decide | (simp only [List.length_cons,List.length_nil,List.length_append,List.length_map]; decide),fun l hl0=>?_⟩
    have s1 : Same H (upd H l (.lst [])):=Same.zp hl0
    have e1 : upd H l (.lst []) l=some (.lst []):=upd_same
    generalize upd H l (.lst [])=H1 at s1 e1 ⊢
    refine ⟨_,rfl,p,rfl,⟨_,s1.seq hp⟩,?_⟩
    refine L5.vq (xs:=nV held) (fun i σ H'=>L23.E4 fun v2 v3 ys D'=>L23.A6 (σ=[some (.ref p),some (.ref l),v2,v3]) (Same H H') (Same D' H') (D' l=none) (H' l=some (.lst ys)) (zc K D' ys ((CD.hpT held i).map fun q=>CP.pairD (CP.wg q)))) ⟨_,_,[],H,rfl,s1,s1,hl0,e1,zc.nil⟩ ?_ ?_ ?_
    · rintro i σ H' _ ⟨v2,v3,ys,D',_,s',_⟩
      exact s'.seq hp
    · rintro i y σ H2 Tt hy ⟨v2,v3,ys,D2,rfl,s2,d2,n2,e2,hA⟩ hTt
      unfold nV at hy
      rw [List.getElem?_map] at hy
      obtain ⟨m,hm',rfl⟩:=Option.map_eq_some_iff.mp hy
      rw [show (0 : Int) + (i : Nat)=(i : Nat) by omega]
      have s3:=s2.trans (Same.zp (o := .tup [.int (i : Nat),.int (m : Nat)]) hTt)
      have d3:=d2.trans (Same.zp (o := .tup [.int (i : Nat),.int (m : Nat)]) hTt)
      have e3:=(Same.zp (o := .tup [.int (i : Nat),.int (m : Nat)]) hTt) _ _ e2
      have et : upd H2 Tt (.tup [.int (i : Nat),.int (m : Nat)]) Tt=some (.tup [.int (i : Nat),.int (m : Nat)]):=upd_same
      generalize upd H2 Tt (.tup [.int (i : Nat),.int (m : Nat)])=H3 at s3 d3 e3 et ⊢
      have hil : i < held.length:=(List.getElem?_eq_some_iff.mp hm').1
      have em : held.getD i 0=m:=CG.Xv hm'
      have ly:=zc.length hA
      rw [List.length_map] at ly
      have lt:=CD.zc3 held (show i + 1≤held.length by omega)
      have la : (CD.hpT held (i + 1)).length=(CD.hpT held i).length + (CB.yC m).length:=by
        rw [CD.hpT,List.length_append,List.length_map,em]
      refine ⟨Tt,_,rfl,SqT.of et,rfl,_,_,rfl,_,_,rfl,rfl,?_⟩
      refine ⟨_,rfl,.inl ⟨rfl,_,SqL.of e3⟩,_,rfl,m,rfl,hm m (List.mem_of_getElem? hm'),fun H4 lm hlm s4 e4=>⟨lm,rfl,⟨_,SqL.of e4⟩,fun cc hcc=>?_⟩⟩
      refine L13.Yi (Pd:=CO.PrT i) CO.PrT.up (d3.trans s4) hcc (zF (xs:=(CB.yC m).map fun n : Nat=>V.int n)) (fun σ=>∃ v,σ=[v,some (.int (i : Nat))]) (CB.yC m) (by rw [List.length_map]) ⟨_,rfl⟩ (fun H' s'=>SqL.of (s' _ _ e4)) (by rw [List.length_map]; omega) ?_ ?_
      · rintro k y w σ D1 H1 R1 R0 hy hw ⟨v,rfl⟩ G k1
        rw [List.getElem?_map,hw] at hy
        obtain rfl:=Option.some.inj hy
        refine ⟨_,rfl,_,rfl,by first | decide | (simp only [List.length_cons,List.length_nil,List.length_append,List.length_map]; decide),fun t ht=>?_⟩
        exact k1 _ _ _ _ ⟨_,rfl⟩ (Gr.lay G.dh ht) ⟨t,rfl,upd_same⟩
      intro D5 H5 zs G e5 n5 els
      have s5:=s4.trans G.hh
      have lz:=els.1
      have n5l : D5 l=none:=G.nw l _ (s4 _ _ e3) n2
      refine ⟨l,cc,_,_,rfl,rfl,s5 _ _ e3,e5,by omega,?_⟩
      refine ⟨_,_,ys ++ zs,D5,rfl,zK (s3.trans s5) hl0,zK G.dh n5l,n5l,upd_same,?_⟩
      rw [CD.hpT,List.map_append,em]
      exact zc.append (zc.same G.dd _ hA) (CO.W0 els)
    · rintro σ H2 ⟨v2,v3,ys,D2,rfl,s2,d2,n2,e2,hA⟩
      rw [zm] at hA
      refine ⟨_,rfl,l,ys,(CD.hpT held held.length).map CP.wg,rfl,SqL.of e2,by rw [List.map_map]; exact zc.same d2 _ hA,CD.WZ (CD.ZD held _),by rw [List.length_map]; exact h64,fun l2 zs qs hl2 hD hp2 hr2=>?_⟩
      exact q _ l2 zs qs (s2.trans (Same.zp hl2)) upd_same (zc.same (Same.zp hl2) _ hD) hp2 hr2
noncomputable def z6 (l ord : List Nat) : List Nat:=ord.map fun i=>l.getD i 0
noncomputable def turns (ms ord : List Nat) : List Nat:=ms.map fun m=>CB.maskOf (jM m ord)
theorem xU {l ord : List Nat} {i : Nat} (h : i < ord.length) : (z6 l ord).getD i 0=l.getD (ord.getD i 0) 0:=by
  unfold z6
  rw [List.getD_eq_getElem?_getD,List.getElem?_map,getD_at h]
  rfl
theorem ZM {ms ord : List Nat} {p i : Nat} (hp : p < ms.length) : CV.X (turns ms ord) p i=(decide (i < ord.length) && CV.X ms p (ord.getD i 0)):=by
  unfold CV.X turns
  rw [List.getD_eq_getElem?_getD,List.getElem?_map,getD_at hp]
  show (CB.maskOf (jM (ms.getD p 0) ord)).testBit i=_
  rw [CB.j7,Bool.eq_iff_iff,List.contains_iff_mem,jM,List.mem_filter,List.mem_range,Bool.and_eq_true,decide_eq_true_eq]
theorem zaP {ms ord : List Nat} {p i : Nat} (h : CV.X (turns ms ord) p i=true) : p < ms.length:=by
  by_cases hp : p < ms.length
  · exact hp
  · unfold CV.X turns at h
    rw [List.getD_eq_getElem?_getD,List.getElem?_eq_none (by rw [List.length_map]; omega)] at h
    simp at h
structure Tl2 (ws os ms ks hs : List Nat) (qs : List CP.Pr) (ps : List Nat) : Prop where
  nd : qs.Nodup
  inr : CV.InR ms.length ks.length qs
  up : CP.ym qs=true
  lp : ps.length=ms.length
  du : ∃ za left a,CA.zX ms.length ks.length (CV.cc (CI.base os ks hs) ks hs) (CV.X ms) (CV.XL qs) za left 0 a (CV.zz ps)∧CA.Kept ms.length ks.length (CV.X ms) (CV.zz ws) (CV.zz os) (CV.XL qs) za left
noncomputable def Wx (ord : List Nat) (q : Nat × Nat) : CP.Pr:=((ord.getD q.1 0 : Nat),(q.2 : Nat))
theorem zaQ {os ks hs ord : List Nat} (perm : ord.Perm (List.range ks.length)) (lk : ks.length=os.length) : CI.base (z6 os ord) (z6 ks ord) hs=CI.base os ks hs:=by
  have lo : ord.length=ks.length:=by rw [perm.length_eq,List.length_range]
  have lom : (z6 ks ord).length=ks.length:=by unfold z6; rw [List.length_map,lo]
  obtain ⟨olt,u,hu,ou,uo⟩:=CV.perm_back perm
  have e : ((CI.sg (fun i=>(z6 ks ord).getD i 0 * (z6 os ord).getD i 0) ks.length : Nat) : Int)=((CI.sg (fun i=>ks.getD i 0 * os.getD i 0) ks.length : Nat) : Int):=by
    rw [← CV.ja,← CV.ja,← CA.VW (o:=fun i=>ord.getD i 0) olt (fun i j hi hj e=>by rw [← uo i hi,← uo j hj,e]) (fun i=>((ks.getD i 0 * os.getD i 0 : Nat) : Int))]
    exact CA.zC fun i hi=>by rw [xU (by omega),xU (by omega)]
  unfold CI.base
  rw [lom,Int.ofNat.inj e]
theorem tl2 {ws os ms ks hs ord held : List Nat} {qs : List CP.Pr} {zh : List Int} {za left a : Nat→Int} (perm : ord.Perm (List.range ks.length)) (lk : ks.length=os.length) (hh : held.length=ms.length) (bit : ∀ p w,CV.X held p w=true→w < ks.length) (lg : zh.length=ms.length) (pm : qs.Perm ((CD.hpT held ms.length).map (Wx ord))) (nd : qs.Nodup) (up : CP.ym qs=true)
    (D : CA.zX ms.length ks.length (CV.cc (CI.base (z6 os ord) (z6 ks ord) hs) (z6 ks ord) hs) (CV.X (turns ms ord)) (CV.X held) za left 0 a (CV.gg zh)) (K : CA.Kept ms.length ks.length (CV.X (turns ms ord)) (CV.zz ws) (CV.zz (z6 os ord)) (CV.X held) za left) :
    ∃ ps : List Nat,zh.map V.int=nV ps∧Tl2 ws os ms ks hs qs ps:=by
  have lo : ord.length=ks.length:=by rw [perm.length_eq,List.length_range]
  obtain ⟨olt,u,hu,ou,uo⟩:=CV.perm_back perm
  have g0 : ∀ g∈zh,0≤g:=fun g hg=>by
    obtain ⟨p,hp,rfl⟩:=List.getElem_of_mem hg
    have:=D.lb p (by omega)
    unfold CV.gg at this
    rw [List.getD_eq_getElem?_getD,List.getElem?_eq_getElem hp] at this
    exact this
  refine ⟨zh.map Int.toNat,?_,nd,fun q hq=>?_,up,by rw [List.length_map]; exact lg,?_⟩
  · unfold nV
    rw [List.map_map]
    refine List.map_congr_left fun g hg=>?_
    show V.int g=V.int ((g.toNat : Nat) : Int)
    rw [Int.toNat_of_nonneg (g0 g hg)]
  · obtain ⟨qn,hn,rfl⟩:=List.mem_map.mp (pm.mem_iff.mp hq)
    obtain ⟨h1,h2⟩:=CD.wU.mp (show (qn.1,qn.2)∈CD.hpT held ms.length from hn)
    exact ⟨_,_,rfl,olt _ (bit qn.2 qn.1 h2),h1⟩
  · have eX : ∀ p w,p < ms.length→w < ks.length→CV.X held p (u w)=CV.XL qs p w:=fun p w hp hw=>by
      rw [Bool.eq_iff_iff]
      unfold CV.XL
      rw [decide_eq_true_eq,pm.mem_iff,List.mem_map]
      constructor
      · intro h
        exact ⟨(u w,p),CD.wU.mpr ⟨hp,h⟩,by unfold Wx; rw [ou w hw]⟩
      · rintro ⟨⟨i,p'⟩,h,e⟩
        obtain ⟨h1,h2⟩:=CD.wU.mp h
        have e1 : ord.getD i 0=w:=Int.ofNat.inj (Prod.mk.inj e).1
        have e2 : p'=p:=Int.ofNat.inj (Prod.mk.inj e).2
        rw [← e1,← e2,uo i (bit p' i h2)]
        exact h2
    have eg : ∀ p,p < ms.length→CV.gg zh p=CV.zz (zh.map Int.toNat) p:=fun p hp=>by
      unfold CV.gg CV.zz
      rw [List.getD_eq_getElem?_getD,List.getD_eq_getElem?_getD,List.getElem?_map,List.getElem?_eq_getElem (by omega : p < zh.length)]
      exact (Int.toNat_of_nonneg (g0 _ (List.getElem_mem _))).symm
    have D1 : CA.zX ms.length ks.length (fun i p=>CV.cc (CI.base os ks hs) ks hs (ord.getD i 0) p) (fun p i=>CV.X ms p (ord.getD i 0)) (CV.X held) za left 0 a (CV.gg zh):=D.congr (fun p w hp hw=>by
        rw [zaQ perm lk]
        unfold CV.cc
        rw [xU (by omega)]) (fun p w hp hw=>by rw [ZM hp,decide_eq_true (by omega),Bool.true_and]) (fun _ _ _ _=>rfl)
    have K1 : CA.Kept ms.length ks.length (fun p i=>CV.X ms p (ord.getD i 0)) (CV.zz ws) (fun i=>CV.zz os (ord.getD i 0)) (CV.X held) za left:=K.congr (fun _ _=>rfl) (fun w hw=>by unfold CV.zz; rw [xU (by omega)]) (fun p w hp hw=>by rw [ZM hp,decide_eq_true (by omega),Bool.true_and]) (fun _ _ _ _=>rfl)
    have D2:=CA.zX.back (o:=fun i=>ord.getD i 0) (u:=u) (c:=CV.cc (CI.base os ks hs) ks hs) (fit:=CV.X ms) hu ou D1
    have K2:=CA.Kept.back (o:=fun i=>ord.getD i 0) (u:=u) (fit:=CV.X ms) (zu:=CV.zz os) hu ou K1
    have D3:=D2.congr (fun _ _ _ _=>rfl) (fun _ _ _ _=>rfl) eX
    refine ⟨_,_,_,⟨D3.l0,fun p hp=>by rw [← eg p hp]; exact D3.lb p hp,fun p hp h=>by rw [← eg p hp]; exact D3.lw p hp h,D3.a0,D3.af,fun p w hp hw h1 h2=>by rw [← eg p hp]; exact D3.up p w hp hw h1 h2,fun p w hp hw h=>by rw [← eg p hp]; exact D3.dn p w hp hw h⟩,K2.congr (fun _ _=>rfl) (fun _ _=>rfl) (fun _ _ _ _=>rfl) eX⟩
noncomputable def Few (ws ms ks : List Nat) : Prop:=ms.length * ks.length < 64∨CI.sg (fun p=>ws.getD p 0) ms.length < 64
theorem Vm {ws ms ks : List Nat} {fit X : Nat→Nat→Bool} {zu za left : Nat→Int} (h : Few ws ms ks) (K : CA.Kept ms.length ks.length fit (CV.zz ws) zu X za left) : CA.many ms.length ks.length X < 64:=by
  rcases h with h | h
  · have h2:=CV.zcR (n:=ms.length) (m:=ks.length) X
    have h3 : ((ms.length * ks.length : Nat) : Int) < 64:=by omega
    omega
  · have h1 : CA.many ms.length ks.length X≤CA.sz (CV.zz ws) ms.length:=by
      unfold CA.many CA.sum
      refine CA.xK fun p hp=>?_
      have e : CA.sz (fun w=>CA.one (X p w) * 1) ks.length=CA.cP ks.length X p:=by
        unfold CA.cP
        exact CA.zC fun w _=>Int.mul_one _
      have k1:=K.pl p hp
      have k2:=K.s0 p hp
      show CA.sz (fun w=>CA.one (X p w) * 1) ks.length≤_
      rw [e]
      omega
    have h2 : CA.sz (CV.zz ws) ms.length=((CI.sg (fun p=>ws.getD p 0) ms.length : Nat) : Int):=CV.ja _ _
    omega
noncomputable def zaR (K : PySem.W.Frag) (tb : L20.Tab) : Sp:=fun vs H Q _=>L23.E8 fun (qw : Addr) (qo : Addr) (qm : Addr) (qk : Addr) (qh : Addr) (ws : List Nat) (os : List Nat) (ms : List Nat)=>L23.E2 fun (ks : List Nat) (hs : List Nat)=>L23.A10 (vs=[.ref qw,.ref qo,.ref qm,.ref qk,.ref qh]) (L20.Tb tb H) (H qw=some (.lst (nV ws))) (H qo=some (.lst (nV os))) (H qm=some (.lst (nV ms))) (H qk=some (.lst (nV ks))) (H qh=some (.lst (nV hs))) (ws.length=ms.length) (hs.length=ms.length) (L23.A7 (ks.length=os.length) (ms.length≤1000) (ks.length < 64) (Few ws ms ks) ((∀ o∈os,o≤1000)) ((∀ h∈hs,h≤1000)) (∀ H' t l zs qs pg (ps : List Nat),L20.Tb tb H'→L20.SB tb H H'→H' t=some (.tup [.ref l,.ref pg])→H' l=some (.lst zs)→zc K H' zs (List.map CP.pairD qs)→H' pg=some (.lst (nV ps))→Tl2 ws os ms ks hs qs ps→Q (.ref t) H'))
theorem zd4 {f : Addr} {fd JI JJ Vn Vo : FuncData} (F : Fun K "greatest_dealing" "greatest_dealing" zD f fd) (T : Txt K mg a) (LM : L20.ze7 base mg a.tab fd)
    (zbK : FnOk P w K mg base CX0 2 a.wL JI ["self","wants","oftens","masks","marks","worths"] (zcr K a.zd)) (JK : Fun K "__init__" "Weigher.__init__" z8 a.wL JI) (zbL : Binds K JI ["self","wants","oftens","masks","marks","worths"] [])
    (zbM : FnOk P w K mg base CX0 8 a.wu JJ ["self"] (zcq K a.zd)) (JL : Fun K "add_pairs" "Weigher.add_pairs" yS a.wu JJ) (zbN : Binds K JJ ["self"] [])
    (JM : FnOk P w K mg base CX0 3 a.Yq Vn ["held"] (zaO K)) (YR : Fun K "pairs_of" "pairs_of" yy a.Yq Vn) (JN : Binds K Vn ["held"] [])
    (JO : FnOk P w K mg base CX0 2 a.Zg Vo ["mask","order"] (zaM K)) (YS : Fun K "renumbered" "renumbered" yP a.Zg Vo) (JP : Binds K Vo ["mask","order"] []) : FnOk P w K mg base CX0 10 f fd ["wants","oftens","masks","marks","worths"] (zaR K a.tab):=by
  obtain ⟨cA,hcA,hCH⟩:=LM.code
  refine L20.okC F zdx (fun vs H Q E h=>?_) (fun cdv zf3 A outer s H vs Q E hr h=>?_)
  · obtain ⟨qw,qo,qm,qk,qh,ws,os,ms,ks,hs,rfl,_⟩:=h
    rfl
  · obtain ⟨qw,qo,qm,qk,qh,ws,os,ms,ks,hs,rfl,tb,hw,ho,hm,hk,hh,lw,lh,lk,ln,l64,JQ,bo,bh,q⟩:=h
    refine ⟨_,(pss_cons (psC (i:=5) (sc:=defScope zD) (M:=yz) rfl rfl rfl (by decide +kernel) (L20.zbu (t:=a.tab) (i:=3) (c:=cA) (x:="marks") (y:="work") (sc:=defScope zD) (hr.mono (by decide)) rfl rfl (by decide +kernel) (by decide +kernel) T.xR T.yo (zo (sc:=defScope zD) call_len rfl (by decide +kernel) T.yj yd (pa_cons (pvA 3 (defScope zD) yz rfl rfl) pa_nil)) rfl (fun _ e=>by cases e; rfl) rfl (.inr (.inl rfl)) rfl (zf3.symm.trans hcA) hCH LM.blt rfl rfl rfl rfl rfl rfl (by decide) rfl rfl (fun _ _ _ _ _=>rfl) rfl rfl rfl))
      (pss_cons (vp (i:=6) (sc:=defScope zD) (M:=yz) rfl rfl rfl (by decide +kernel) (N:=["mask","order"]) (own:=1) (js:=[5]) (X:=(cxOf CX0 P w K mg base yz "greatest_dealing" (defScope zD) f cdv A outer s H E).nox) (zM (defScope zD) yz rfl rfl (by decide +kernel)) (pi_list (pvA 2 (defScope zD) yz rfl rfl)) (fun fp0 sx0 Hx0=>(pgN (i:=0) (sc:=zb _ (defScope zD)) (M:=["mask","order"]) rfl rfl (by decide +kernel))) (fun fp0 sx0 Hx0=>zG) (fun fp0 sx0 Hx0=>(zk (sc:=zb _ (defScope zD)) JO (hr.mono (by decide)) rfl (by decide +kernel) T.zfn YS.kp JP .nil pass0 (pa_cons (pvN (i:=0) (sc:=zb _ (defScope zD)) (M:=["mask","order"]) rfl rfl (by decide +kernel)) (pa_cons (pvN (i:=1) (sc:=zb _ (defScope zD)) (M:=["mask","order"]) rfl rfl (by decide +kernel)) pa_nil)))) rfl)
      (pss_cons (psN (i:=7) (sc:=defScope zD) (M:=yz) rfl rfl (by decide +kernel) (pe_make T.Jl zbK (hr.mono (by decide)) (glR (sc:=defScope zD) rfl (by decide +kernel)) T.vS zbL .nil pass0 (pa_cons (pvA 0 (defScope zD) yz rfl rfl) (pa_cons (zN rfl (N:=["work","oftens"]) (own:=1) (js:=[1]) (X:=(cxOf CX0 P w K mg base yz "greatest_dealing" (defScope zD) f cdv A outer s H E).nox) (zM (defScope zD) yz rfl rfl (by decide +kernel)) (pi_list (pvA 5 (defScope zD) yz rfl rfl)) (fun fp0 sx0 Hx0=>(pgN (i:=0) (sc:=zb _ (defScope zD)) (M:=["work","oftens"]) rfl rfl (by decide +kernel))) (fun fp0 sx0 Hx0=>zG) (fun fp0 sx0 Hx0=>(pe_ix (kIx (r:=rIxL) (K:=K) rfl ix_list) (pvN (i:=1) (sc:=zb _ (defScope zD)) (M:=["work","oftens"]) rfl rfl (by decide +kernel)) (pvN (i:=0) (sc:=zb _ (defScope zD)) (M:=["work","oftens"]) rfl rfl (by decide +kernel)) (fun _ _=>rfl)))) (pa_cons (pvA 6 (defScope zD) yz rfl rfl) (pa_cons (zN rfl (N:=["work","marks"]) (own:=1) (js:=[3]) (X:=(cxOf CX0 P w K mg base yz "greatest_dealing" (defScope zD) f cdv A outer s H E).nox) (zM (defScope zD) yz rfl rfl (by decide +kernel)) (pi_list (pvA 5 (defScope zD) yz rfl rfl)) (fun fp0 sx0 Hx0=>(pgN (i:=0) (sc:=zb _ (defScope zD)) (M:=["work","marks"]) rfl rfl (by decide +kernel))) (fun fp0 sx0 Hx0=>zG) (fun fp0 sx0 Hx0=>(pe_ix (kIx (r:=rIxL) (K:=K) rfl ix_list) (pvN (i:=1) (sc:=zb _ (defScope zD)) (M:=["work","marks"]) rfl rfl (by decide +kernel)) (pvN (i:=0) (sc:=zb _ (defScope zD)) (M:=["work","marks"]) rfl rfl (by decide +kernel)) (fun _ _=>rfl)))) (pa_cons (pvA 4 (defScope zD) yz rfl rfl) pa_nil)))))))
      (pss_cons (ps_expr (pe_meth0 (pvA 7 (defScope zD) yz rfl rfl) T.zg T.jT zbM (hr.mono (by decide)) zbN .nil pass0))
      (pss_one (ps_ret (pe_tup (pa_cons (zo (sc:=defScope zD) L16.jr rfl (by decide +kernel) T.xR vP (pa_cons (zN rfl (N:=["number","place","order"]) (own:=2) (js:=[5]) (X:=(cxOf CX0 P w K mg base yz "greatest_dealing" (defScope zD) f cdv A outer s H E).nox) (zM (defScope zD) yz rfl rfl (by decide +kernel)) (pi_list (zk (sc:=defScope zD) JM (hr.mono (by decide)) rfl (by decide +kernel) T.zfm YR.kp JN .nil pass0 (pa_cons (pe_fld (pvA 7 (defScope zD) yz rfl rfl) rfl) pa_nil))) (fun fp0 sx0 Hx0=>(yU (K:=K) rfl (pg_tup (n:=2) (by rfl) (pgs_cons (pgN (i:=0) (sc:=zb _ (defScope zD)) (M:=["number","place","order"]) rfl rfl (by decide +kernel)) (pgs_cons (pgN (i:=1) (sc:=zb _ (defScope zD)) (M:=["number","place","order"]) rfl rfl (by decide +kernel)) pgs_nil))))) (fun fp0 sx0 Hx0=>zG) (fun fp0 sx0 Hx0=>(pe_tup (pa_cons (pe_ix (kIx (r:=rIxL) (K:=K) rfl ix_list) (pvN (i:=2) (sc:=zb _ (defScope zD)) (M:=["number","place","order"]) rfl rfl (by decide +kernel)) (pvN (i:=0) (sc:=zb _ (defScope zD)) (M:=["number","place","order"]) rfl rfl (by decide +kernel)) (fun _ _=>rfl)) (pa_cons (pvN (i:=1) (sc:=zb _ (defScope zD)) (M:=["number","place","order"]) rfl rfl (by decide +kernel)) pa_nil))))) pa_nil)) (pa_cons (pe_fld (pvA 7 (defScope zD) yz rfl rfl) rfl) pa_nil))))))))),?_⟩
    try dsimp only [cxOf,Cx.nox]
    have hs' : sizeLine=16777216:=sizeLine_eq
    refine ⟨qk,ks,rfl,SqL.of hk,l64,tb,fun H1 pd ord tb1 sb1 nd1 e1 perm up=>?_⟩
    have lo : ord.length=ks.length:=by rw [perm.length_eq,List.length_range]
    have hw1:=sb1.lst tb hw
    have ho1:=sb1.lst tb ho
    have hm1:=sb1.lst tb hm
    have hk1:=sb1.lst tb hk
    have hh1:=sb1.lst tb hh
    have olt : ∀ i,i < ord.length→ord.getD i 0 < ks.length:=fun i hi=>List.mem_range.mp (perm.mem_iff.mp (List.mem_of_getElem? (getD_at hi)))
    refine ⟨_,rfl,qm,rfl,⟨_,SqL.of hm1⟩,fun c2 hc2=>?_⟩
    refine xo hc2 zF (fun σ=>∃ v,σ=[v,some (.ref pd)]) (nV (turns ms ord)) (by rw [zm,zm]; unfold turns; rw [List.length_map]) ⟨_,rfl⟩ (fun H' s'=>SqL.of (s' _ _ hm1)) (by rw [zm]; omega) ?_ ?_
    · rintro i x z σ H2 R1 R0 hx hz ⟨v,rfl⟩ s2 k1
      obtain ⟨hi,rfl⟩:=yr hx
      obtain ⟨hi',rfl⟩:=yr hz
      have e : (turns ms ord).getD i 0=CB.maskOf (jM (ms.getD i 0) ord):=by
        unfold turns
        rw [List.getD_eq_getElem?_getD,List.getElem?_map,getD_at hi]
        rfl
      rw [e] at k1
      exact ⟨_,rfl,_,rfl,ms.getD i 0,pd,ord,rfl,SqL.of (s2 _ _ e1),by omega,fun H3 s3=>k1 _ _ ⟨_,rfl⟩ s3⟩
    intro H2 s2 e2
    refine ⟨_,rfl,_,rfl,pd,rfl,⟨_,SqL.of (s2 _ _ e1)⟩,fun c3 hc3=>?_⟩
    refine xo hc3 zF (fun σ=>∃ v,σ=[v,some (.ref qo)]) (nV (z6 os ord)) (by rw [zm,zm]; unfold z6; rw [List.length_map]) ⟨_,rfl⟩ (fun H' s'=>SqL.of (s' _ _ (s2 _ _ e1))) (by rw [zm]; omega) ?_ ?_
    · rintro i x z σ H3 R1 R0 hx hz ⟨v,rfl⟩ s3 k1
      obtain ⟨hi,rfl⟩:=yr hx
      obtain ⟨hi',rfl⟩:=yr hz
      rw [xU hi] at k1
      exact ⟨_,rfl,_,rfl,qo,_,_,_,rfl,rfl,SqL.of (s3 _ _ (s2 _ _ ho1)),zP (by have:=olt i hi; omega),k1 _ _ ⟨_,rfl⟩ (Same.refl _)⟩
    intro H3 s3 e3
    refine ⟨_,rfl,_,rfl,pd,rfl,⟨_,SqL.of (s3 _ _ (s2 _ _ e1))⟩,fun c4 hc4=>?_⟩
    refine xo hc4 zF (fun σ=>∃ v,σ=[v,some (.ref qk)]) (nV (z6 ks ord)) (by rw [zm,zm]; unfold z6; rw [List.length_map]) ⟨_,rfl⟩ (fun H' s'=>SqL.of (s' _ _ (s3 _ _ (s2 _ _ e1)))) (by rw [zm]; omega) ?_ ?_
    · rintro i x z σ H4 R1 R0 hx hz ⟨v,rfl⟩ s4 k1
      obtain ⟨hi,rfl⟩:=yr hx
      obtain ⟨hi',rfl⟩:=yr hz
      rw [xU hi] at k1
      exact ⟨_,rfl,_,rfl,qk,_,_,_,rfl,rfl,SqL.of (s4 _ _ (s3 _ _ (s2 _ _ hk1))),zP (by have:=olt i hi; omega),k1 _ _ ⟨_,rfl⟩ (Same.refl _)⟩
    intro H4 s4 e4
    have s14:=s2.trans (s3.trans s4)
    refine ⟨_,rfl,fun x dx hx hdx hne=>?_⟩
    have s0 : Same H4 (upd (upd H4 dx (.own x)) x (.ins a.zd dx [])):=(Same.zp hdx).trans (Same.zp (by rw [upd_ne hne.symm]; exact hx))
    have lom : (z6 ks ord).length=ord.length:=by unfold z6; rw [List.length_map]
    have loo : (z6 os ord).length=ord.length:=by unfold z6; rw [List.length_map]
    have ltm : (turns ms ord).length=ms.length:=by unfold turns; rw [List.length_map]
    have boo : ∀ o∈z6 os ord,o≤1000:=fun o ho=>by
      obtain ⟨i,hi,rfl⟩:=List.mem_map.mp ho
      refine wA ?_ bo
      have:=List.mem_range.mp (perm.mem_iff.mp hi)
      omega
    refine ⟨x,dx,qw,c3,c2,c4,qh,ws,z6 os ord,turns ms ord,z6 ks ord,hs,rfl,upd_same,s0 _ _ (s14 _ _ hw1),s0 _ _ (s4 _ _ e3),s0 _ _ (s4 _ _ (s3 _ _ e2)),s0 _ _ e4,s0 _ _ (s14 _ _ hh1),by omega,by omega,by omega,boo,bh,fun H6 pm pk pw ph ps pl pg pt r6 nf6 k6=>⟨rfl,?_⟩⟩
    have s16 : Same H1 H6:=fun b u e=>k6 b u (ne_of_none (s14 _ _ e) hx) (s0 _ _ (s14 _ _ e))
    have zero : CV.X (List.replicate (turns ms ord).length 0)=fun _ _=>false:=by
      funext p w
      unfold CV.X
      rw [CV.Ym,Nat.zero_testBit]
    have G6 : Gd (turns ms ord) (z6 ks ord) hs (List.replicate (turns ms ord).length 0) ws (z6 os ord):=⟨by omega,by omega,List.length_replicate,by omega,by omega,by omega,bh,fun p w hX=>by
      have hp:=zaP hX
      rw [ZM hp,Bool.and_eq_true,decide_eq_true_eq] at hX
      omega,fun i j hij hj=>by
      rw [xU (by omega),xU (by omega)]
      by_cases z : i=j
      · rw [z]; exact Nat.le_refl _
      · rw [lom] at hj
        have h1:=List.pairwise_iff_getElem.mp up i j (by omega) hj (by omega)
        rw [List.getD_eq_getElem?_getD (l:=ord),List.getElem?_eq_getElem (by omega : i < ord.length),List.getD_eq_getElem?_getD (l:=ord),List.getElem?_eq_getElem hj]
        exact h1,fun p w h=>by rw [zero] at h; cases h⟩
    obtain ⟨l0,da0,b0,du0⟩:=CA.ze1 (n:=(turns ms ord).length) (m:=(z6 ks ord).length) (c:=CV.cc (CI.base (z6 os ord) (z6 ks ord) hs) (z6 ks ord) hs) (fit:=CV.X (turns ms ord)) (CV.zz ws) (CV.zz (z6 os ord))
    have ke0 : CA.Kept (turns ms ord).length (z6 ks ord).length (CV.X (turns ms ord)) (CV.zz ws) (CV.zz (z6 os ord)) (fun _ _=>false) (CV.zz ws) (CV.zz (z6 os ord)):=by
      refine ⟨fun p _=>Int.natCast_nonneg _,fun p _=>Int.natCast_nonneg _,fun p _=>?_,fun p _=>?_,fun p w _ _ h=>nomatch h⟩
      · unfold CA.cP
        show CA.sz (fun _=>0) _ + _=_
        rw [CA.wV,Int.zero_add]
      · unfold CA.cW
        show CA.sz (fun _=>0) _ + _=_
        rw [CA.wV,Int.zero_add]
    rw [← zero] at du0 ke0
    refine ⟨_,rfl,x,dx,_,rfl,r6.ins,CV.ze2,x,dx,pm,pk,pw,ph,ps,pl,pg,pt,_,turns ms ord,z6 ks ord,hs,_,ws,z6 os ord,[],[],l0,da0,b0,CV.zz ws,CV.zz (z6 os ord),rfl,r6,G6,du0,ke0,fun H7 pg7 pt7 je still7 left7 gains7 sm7 r7 G7 lg7 ke7 zfF k7=>?_⟩
    have s17 : Same H1 H7:=fun b u e=>k7.kp b u (fun hb=>by
      rcases List.mem_cons.mp hb with z | z
      · rw [z] at e
        rw [s14 _ _ e] at hx
        cases hx
      · have:=nf6 b z
        rw [s0 _ _ (s14 _ _ e)] at this
        cases this) (s16 b u e)
    have tb7:=tb1.same s17
    have sb7:=sb1.trans (L20.SB.of s17)
    have JR : ∀ p w,CV.X je p w=true→w < ks.length:=fun p w h=>by
      have:=G7.fit p w (G7.hf p w h)
      omega
    have few : (CD.hpT je je.length).length < 64:=by
      have K8:=ke7
      unfold Ke at K8
      rw [ltm,lom,lo] at K8
      have h1:=Vm JQ K8
      rw [CV.Jc JR ms.length] at h1
      have h2:=G7.lh
      rw [h2,ltm]
      omega
    refine ⟨_,rfl,x,_,dx,_,_,rfl,r7.ins,T.zg,T.zI,CV.wZ,ph,je,rfl,SqL.of r7.h,by have:=G7.lh; omega,fun m hm=>?_,few,fun H8 l8 zs8 qs8 s8 e8 hA8 hp8 hr8=>?_⟩
    · obtain ⟨p,hp,rfl⟩:=List.getElem_of_mem hm
      refine Nat.lt_of_lt_of_le (CV.Jd (m:=ks.length) fun w hw=>JR p w ?_) (Nat.pow_le_pow_right (by decide) (by omega))
      unfold CV.X
      rw [List.getD_eq_getElem?_getD,List.getElem?_eq_getElem hp]
      exact hw
    rw [G7.lh,ltm] at hp8
    have e18:=s8 _ _ (s17 _ _ e1)
    have lq8 : qs8.length < 64:=by
      rw [hp8.length_eq,List.length_map]
      rw [G7.lh,ltm] at few
      exact few
    have lz8:=zc.length hA8
    rw [List.length_map] at lz8
    obtain ⟨_,u,_,_,uo⟩:=CV.perm_back perm
    have zbO : ∀ q∈CD.hpT je ms.length,q.1 < ord.length:=fun q hq=>by
      have h1:=(CD.wU.mp (show (q.1,q.2)∈CD.hpT je ms.length from hq)).2
      have:=JR q.2 q.1 h1
      omega
    refine ⟨l8,rfl,⟨_,SqL.of e8⟩,fun c9 hc9=>?_⟩
    refine jg (K:=K) (D:=H8) (Same.refl H8) hc9 zF (fun σ=>L23.E2 fun v1 v2=>σ=[v1,v2,some (.ref pd)]) ((qs8.map fun q=>CP.pairD ((ord.getD q.1.toNat 0 : Nat),q.2)).map some) (by rw [List.length_map,List.length_map,lz8]) ⟨_,_,rfl⟩ (fun H' s'=>SqL.of (s' _ _ e8)) (by omega) ?_ ?_
    · rintro i y r σ D1 H9 R1 R0 hy hr ⟨v1,v2,rfl⟩ g1 k1 k0
      obtain ⟨qq,t,hq,rfl,et⟩:=CP.pairs_at hA8 hy
      rw [List.getElem?_map,List.getElem?_map,hq] at hr
      obtain rfl:=Option.some.inj hr
      obtain ⟨qn,hmn,rfl⟩:=List.mem_map.mp (hp8.mem_iff.mp (List.mem_of_getElem? hq))
      refine ⟨t,_,rfl,SqT.of (g1.hh _ _ et),rfl,_,_,rfl,_,_,rfl,rfl,_,rfl,_,rfl,pd,_,_,_,rfl,rfl,SqL.of (g1.hh _ _ e18),zP (zbO qn hmn),_,rfl,by first | decide | (simp only [List.length_cons,List.length_nil,List.length_append,List.length_map]; decide),fun tt htt=>?_⟩
      refine k1 _ _ _ _ _ rfl ⟨_,_,rfl⟩ (Gr.lay g1.dh htt) ?_
      exact zx.mkT (D:=fun _=>none) (zc.cons zx.ofInt (zc.cons zx.ofInt zc.nil)) upd_same (fun _ _ h=>nomatch h)
    intro D9 H9 ys g9 e9 n9 hA9
    rw [L4.filterMap_some] at hA9
    have pm9 : (qs8.map fun q=>(((ord.getD q.1.toNat 0 : Nat) : Int),q.2)).Perm ((CD.hpT je ms.length).map (Wx ord)):=by
      have:=hp8.map fun q : CP.Pr=>(((ord.getD q.1.toNat 0 : Nat) : Int),q.2)
      rw [List.map_map] at this
      exact this
    have nd9 : ((CD.hpT je ms.length).map (Wx ord)).Nodup:=by
      refine List.pairwise_map.mpr (List.Pairwise.imp_of_mem (fun {p q} hp hq hne e=>hne ?_) (CD.ZD je ms.length))
      have h1 : ord.getD p.1 0=ord.getD q.1 0:=by
        have:=(Prod.mk.inj e).1
        omega
      have h2 : p.2=q.2:=by
        have:=(Prod.mk.inj e).2
        omega
      have h3 : p.1=q.1:=by rw [← uo p.1 (by have:=zbO p hp; omega),← uo q.1 (by have:=zbO q hq; omega),h1]
      exact Prod.ext h3 h2
    refine ⟨c9,ys,qs8.map fun q=>(((ord.getD q.1.toNat 0 : Nat) : Int),q.2),rfl,SqL.of e9,by rw [List.map_map]; exact zc.same g9.dh _ hA9,pm9.nodup_iff.mpr nd9,by rw [List.length_map]; exact lq8,fun l10 Vp zd5 zf4 za8 Vq zbP=>?_⟩
    have s10:=Same.zp (o := .lst Vp) zf4
    have e10 : upd H9 l10 (.lst Vp) l10=some (.lst Vp):=upd_same
    have zd6:=zc.same s10 _ za8
    generalize upd H9 l10 (.lst Vp)=H10 at s10 e10 zd6 ⊢
    have zbQ:=s8.trans (g9.hh.trans s10)
    have r10:=r7.same zbQ
    refine ⟨_,rfl,x,_,dx,_,_,rfl,r10.ins,T.zg,T.zE,CV.wW,by first | decide | (simp only [List.length_cons,List.length_nil,List.length_append,List.length_map]; decide),fun t11 zf5=>?_⟩
    have s11:=Same.zp (o := .tup [.ref l10,.ref pg7]) zf5
    obtain ⟨a7,D7⟩:=zfF
    have D8:=D7
    have K8:=ke7
    unfold Ke at K8
    rw [ltm,lom,lo] at D8 K8
    obtain ⟨ps7,zf6,tl7⟩:=tl2 (qs:=zd5) perm lk (by have:=G7.lh; omega) JR (by omega) (Vq.trans pm9) ((Vq.trans pm9).nodup_iff.mpr nd9) zbP D8 K8
    have rg:=r10.g
    rw [zf6] at rg
    exact q _ t11 l10 Vp zd5 pg7 ps7 (tb7.same (zbQ.trans s11)) (sb7.trans (L20.SB.of (zbQ.trans s11))) upd_same (s11 _ _ e10) (zc.same s11 _ zd6) (s11 _ _ rg) tl7
noncomputable def jm (w : Nat) (qs : List CP.Pr) : List Int:=(qs.filter fun q=>decide (q.1=(w : Int))).map Prod.snd
theorem Yc (w : Nat) : ∀ qs : List CP.Pr,(qs.map fun q=>if q.1=((w : Nat) : Int) then some (PyData.int q.2) else none).filterMap id=(jm w qs).map PyData.int
  | []=>rfl
  | q :: r=>by
    have ih:=Yc w r
    unfold jm at ih ⊢
    rw [List.map_cons,List.filterMap_cons,List.filter_cons]
    by_cases h : q.1=((w : Nat) : Int)
    · rw [if_pos h,if_pos (decide_eq_true h)]
      exact congrArg (PyData.int q.2 :: ·) ih
    · rw [if_neg h,if_neg (by rw [decide_eq_false h]; decide)]
      exact ih
theorem Wd : ∀ l : List Int,(l.map V.int).all flatV=true
  | []=>rfl
  | _ :: r=>by show (true && (r.map V.int).all flatV)=true; rw [Wd r]; rfl
theorem zaS {w i : Nat} {qs : List CP.Pr} : inV (V.int (i : Nat)) ((jm w qs).map V.int)=CV.XL qs i w:=by
  rw [Bool.eq_iff_iff]
  unfold inV CV.XL jm
  rw [decide_eq_true_eq]
  constructor
  · intro h
    obtain ⟨v,hv,e⟩:=List.any_eq_true.mp h
    obtain ⟨z,hz,rfl⟩:=List.mem_map.mp hv
    obtain ⟨q,hq,rfl⟩:=List.mem_map.mp hz
    obtain ⟨h1,h2⟩:=List.mem_filter.mp hq
    have e1:=of_decide_eq_true h2
    have e2 : q.2=((i : Nat) : Int):=beq_iff_eq.mp e
    rw [← e1,← e2]
    exact h1
  · intro h
    refine List.any_eq_true.mpr ⟨V.int (i : Nat),List.mem_map.mpr ⟨_,List.mem_map.mpr ⟨_,List.mem_filter.mpr ⟨h,decide_eq_true rfl⟩,rfl⟩,rfl⟩,beq_iff_eq.mpr rfl⟩
noncomputable def zaT (K : PySem.W.Frag) : Sp:=fun vs H Q _=>L23.E12 fun (w : Nat) (pp : Addr) (pm : Addr) (pW : Addr) (pg : Addr) (xs : List V) (zs : List V) (qs : List CP.Pr) (ms : List Nat) (W : List (List Nat)) (r : List Nat) (zh : List Int)=>L23.A10 (vs=[.int (w : Nat),.ref pp,.ref pm,.ref pW,.ref pg]) (SqL K H pp xs) (zc K H xs (qs.map CP.pairD)) (SqL K H pm (nV ms)) (SqL K H pW zs) (Els NL H zs W) (W[w]?=some r) (r.length=ms.length) (SqL K H pg (zh.map V.int)) (L23.A4 (zh.length=ms.length) (ms.length≤1000) (qs.length≤1000) (∀ H' (z : Int),Same H H'→0≤z→(∀ p,p < ms.length→(ms.getD p 0).testBit w=true→CV.XL qs p w=false→((r.getD p 0 : Nat) : Int) - CV.gg zh p≤z)→(z=0∨∃ p,p < ms.length∧(ms.getD p 0).testBit w=true∧CV.XL qs p w=false∧z=((r.getD p 0 : Nat) : Int) - CV.gg zh p)→Q (.int z) H'))
theorem zd7 {f : Addr} {fd yw : FuncData} (F : Fun K "price_of_work" "price_of_work" zL f fd) (T : Txt K mg a)
    (xD : FnOk P w K mg base CX0 1 a.has yw ["mask","number"] (j5 K)) (xh : Fun K "has" "has" xM a.has yw) (xE : Binds K yw ["mask","number"] []) : FnOk P w K mg base CX0 2 f fd ["work","pairs","masks","weights","place_prices"] (zaT K):=by
  refine F.ok zdy (fun vs H Q E h=>?_) (fun cdv A outer s H vs Q E hr h=>?_)
  · obtain ⟨w,pp,pm,pW,pg,xs,zs,qs,ms,W,r,zh,rfl,_⟩:=h
    rfl
  · obtain ⟨wk,pp,pm,pW,pg,xs,zs,qs,ms,W,r,zh,rfl,hp,hA,hm,hW,hE,hrw,lr,hg,lg,ln,lq,q⟩:=h
    refine ⟨_,(pss_cons (psC (i:=5) (sc:=defScope zL) (M:=wC) rfl rfl rfl (by decide +kernel) (zN rfl (N:=["other","place","work"]) (own:=2) (js:=[0]) (X:=(cxOf CX0 P w K mg base wC "price_of_work" (defScope zL) f cdv A outer s H E).nox) (zM (defScope zL) wC rfl rfl (by decide +kernel)) (pi_list (pvA 1 (defScope zL) wC rfl rfl)) (fun fp0 sx0 Hx0=>(yU (K:=K) rfl (pg_tup (n:=2) (by rfl) (pgs_cons (pgN (i:=0) (sc:=zb _ (defScope zL)) (M:=["other","place","work"]) rfl rfl (by decide +kernel)) (pgs_cons (pgN (i:=1) (sc:=zb _ (defScope zL)) (M:=["other","place","work"]) rfl rfl (by decide +kernel)) pgs_nil))))) (fun fp0 sx0 Hx0=>(vn (pt_cmpR op_eq (pvN (i:=0) (sc:=zb _ (defScope zL)) (M:=["other","place","work"]) rfl rfl (by decide +kernel)) (pvN (i:=2) (sc:=zb _ (defScope zL)) (M:=["other","place","work"]) rfl rfl (by decide +kernel)) (nomark _)))) (fun fp0 sx0 Hx0=>(pvN (i:=1) (sc:=zb _ (defScope zL)) (M:=["other","place","work"]) rfl rfl (by decide +kernel)))))
      (pss_cons (vp (i:=6) (sc:=defScope zL) (M:=wC) rfl rfl rfl (by decide +kernel) (N:=["place","mask","work","paired"]) (own:=2) (js:=[0,5]) (X:=(cxOf CX0 P w K mg base wC "price_of_work" (defScope zL) f cdv A outer s H E).nox) (zM (defScope zL) wC rfl rfl (by decide +kernel)) (xH (glR (sc:=defScope zL) rfl (by decide +kernel)) T.zT (pa_cons (pvA 2 (defScope zL) wC rfl rfl) pa_nil)) (fun fp0 sx0 Hx0=>(yU (K:=K) rfl (pg_tup (n:=2) (by rfl) (pgs_cons (pgN (i:=0) (sc:=zb _ (defScope zL)) (M:=["place","mask","work","paired"]) rfl rfl (by decide +kernel)) (pgs_cons (pgN (i:=1) (sc:=zb _ (defScope zL)) (M:=["place","mask","work","paired"]) rfl rfl (by decide +kernel)) pgs_nil))))) (fun fp0 sx0 Hx0=>(vn (PW.pt (pw_and (pt_val (zk (sc:=zb _ (defScope zL)) xD (hr.mono (by decide)) rfl (by decide +kernel) T.YJ xh.kp xE .nil pass0 (pa_cons (pvN (i:=1) (sc:=zb _ (defScope zL)) (M:=["place","mask","work","paired"]) rfl rfl (by decide +kernel)) (pa_cons (pvN (i:=2) (sc:=zb _ (defScope zL)) (M:=["place","mask","work","paired"]) rfl rfl (by decide +kernel)) pa_nil)))) (pw_and1 (pt_cmpR (kOp (r:=fun K=>rIn K true) (K:=K) rfl op_notIn_seq) (pvN (i:=0) (sc:=zb _ (defScope zL)) (M:=["place","mask","work","paired"]) rfl rfl (by decide +kernel)) (pvN (i:=3) (sc:=zb _ (defScope zL)) (M:=["place","mask","work","paired"]) rfl rfl (by decide +kernel)) (by with_unfolding_all rfl))))))) (fun fp0 sx0 Hx0=>(pvN (i:=0) (sc:=zb _ (defScope zL)) (M:=["place","mask","work","paired"]) rfl rfl (by decide +kernel))) rfl)
      (pss_one (ps_ret (zo (sc:=defScope zL) (zat rfl) rfl (by decide +kernel) T.jH Yt (pa_cons (pe_op op_cat (pe_lst (pa_cons pe_int pa_nil)) (zN rfl (N:=["place","place_prices","weights","work"]) (own:=1) (js:=[4,3,0]) (X:=(cxOf CX0 P w K mg base wC "price_of_work" (defScope zL) f cdv A outer s H E).nox) (zM (defScope zL) wC rfl rfl (by decide +kernel)) (pi_list (pvA 6 (defScope zL) wC rfl rfl)) (fun fp0 sx0 Hx0=>(pgN (i:=0) (sc:=zb _ (defScope zL)) (M:=["place","place_prices","weights","work"]) rfl rfl (by decide +kernel))) (fun fp0 sx0 Hx0=>zG) (fun fp0 sx0 Hx0=>(pe_op op_sub (pe_ix (kIx (r:=rIxL) (K:=K) rfl ix_list) (pe_ix (kIx (r:=rIxL) (K:=K) rfl ix_list) (pvN (i:=2) (sc:=zb _ (defScope zL)) (M:=["place","place_prices","weights","work"]) rfl rfl (by decide +kernel)) (pvN (i:=3) (sc:=zb _ (defScope zL)) (M:=["place","place_prices","weights","work"]) rfl rfl (by decide +kernel)) (fun _ _=>rfl)) (pvN (i:=0) (sc:=zb _ (defScope zL)) (M:=["place","place_prices","weights","work"]) rfl rfl (by decide +kernel)) (fun _ _=>rfl)) (pe_ix (kIx (r:=rIxL) (K:=K) rfl ix_list) (pvN (i:=1) (sc:=zb _ (defScope zL)) (M:=["place","place_prices","weights","work"]) rfl rfl (by decide +kernel)) (pvN (i:=0) (sc:=zb _ (defScope zL)) (M:=["place","place_prices","weights","work"]) rfl rfl (by decide +kernel)) (fun _ _=>rfl)))))) pa_nil)))))),?_⟩
    try dsimp only [cxOf,Cx.nox]
    have hs' : sizeLine=16777216:=sizeLine_eq
    have lx:=zc.length hA
    rw [List.length_map] at lx
    refine ⟨_,rfl,pp,rfl,⟨_,hp⟩,fun c1 hc1=>?_⟩
    refine jg (K:=K) (D:=H) (Same.refl H) hc1 zF (fun σ=>L23.E2 fun v1 v2=>σ=[v1,v2,some (.int (wk : Nat))]) (qs.map fun q=>if q.1=((wk : Nat) : Int) then some (PyData.int q.2) else none) (by rw [List.length_map,lx]) ⟨_,_,rfl⟩ (fun H' s'=>s'.seq hp) (by omega) ?_ ?_
    · rintro i y o σ D1 H1 R1 R0 hy ho ⟨v1,v2,rfl⟩ g1 k1 k0
      obtain ⟨qq,t,hq,rfl,et⟩:=CP.pairs_at hA hy
      rw [List.getElem?_map,hq] at ho
      obtain rfl:=Option.some.inj ho
      refine ⟨t,_,rfl,SqT.of (g1.hh _ _ et),rfl,_,_,rfl,_,_,rfl,rfl,_,rfl,_,rfl,rfl,_,rfl,ite2 (fun h1=>?_) (fun h1=>?_)⟩
      · have h1':=V.int.inj (of_decide_eq_true h1)
        exact ⟨_,rfl,k1 _ _ _ _ _ (if_pos h1') ⟨_,_,rfl⟩ (Gr.refl g1.dh) zx.ofInt⟩
      · have h1' : ¬ qq.1=((wk : Nat) : Int):=fun z=>h1 (decide_eq_true (by rw [z]))
        exact k0 _ _ _ (if_neg h1') ⟨_,_,rfl⟩ (Gr.refl g1.dh)
    intro D1 H1 ys g1 e1 _ hA1
    rw [Yc] at hA1
    obtain rfl:=zc.jf hA1
    have s1:=g1.hh
    have pz0 : ∀ i : Nat,inV (V.int (i : Nat)) ((jm wk qs).map V.int)=CV.XL qs i wk:=fun i=>zaS
    generalize jm wk qs=pz at e1 pz0
    refine ⟨_,rfl,pm,rfl,⟨_,s1.seq hm⟩,fun c2 hc2=>?_⟩
    refine L5.jz hc2 (fun H' s'=>(s1.trans s').seq hm) (fun σ=>L23.E2 fun v1 v2=>σ=[v1,v2,some (.int (wk : Nat)),some (.ref c1)]) (fun i _=>if ((ms.getD i 0).testBit wk && !inV (V.int (i : Nat)) (pz.map V.int))=true then some (.int (i : Nat)) else none) ⟨_,_,rfl⟩ (by rw [zm]; omega) ?_ ?_
    · rintro i y σ H2 Tt R1 R0 hy ⟨v1,v2,rfl⟩ s2 hTt k1 k0
      obtain ⟨hi,rfl⟩:=yr hy
      rw [show (0 : Int) + (i : Nat)=(i : Nat) by omega]
      have s3:=s2.trans (Same.zp (o := .tup [.int (i : Nat),.int (ms.getD i 0 : Nat)]) hTt)
      refine ⟨Tt,_,rfl,SqT.of upd_same,rfl,_,_,rfl,_,_,rfl,rfl,?_⟩
      refine ⟨_,rfl,_,rfl,ms.getD i 0,_,rfl,_,rfl,?_⟩
      rw [decide_eq_true (show (0 : Int)≤(wk : Nat) by omega),Bool.true_and,Int.toNat_natCast]
      refine ite2 (fun h1=>?_) (fun h1=>iteF (k0 _ _ ⟨_,_,rfl⟩ (if_neg (by rw [Bool.eq_false_iff.mpr h1,Bool.false_and]; decide)) (Same.zp hTt)))
      refine ⟨_,rfl,_,rfl,c1,_,rfl,.inl (SqL.of (s3 _ _ e1)),rfl,Wd pz,_,rfl,?_⟩
      refine ite2 (fun h2=>?_) (fun h2=>?_)
      · exact ⟨_,rfl,k1 _ _ _ ⟨_,_,rfl⟩ (if_pos (by rw [h1,Bool.true_and]; exact h2)) (Same.zp hTt)⟩
      · exact k0 _ _ ⟨_,_,rfl⟩ (if_neg (by rw [h1,Bool.true_and]; exact h2)) (Same.zp hTt)
    intro H2 s2 e2
    obtain ⟨ot,hot,lot,mot⟩ : ∃ ot : List Nat,L5.yV (fun i _=>if ((ms.getD i 0).testBit wk && !inV (V.int (i : Nat)) (pz.map V.int))=true then some (V.int (i : Nat)) else none) (nV ms) (nV ms).length=nV ot∧((∀ i∈ot,i < ms.length)∧ot.length≤ms.length)∧∀ i,i∈ot↔i < ms.length∧(ms.getD i 0).testBit wk=true∧CV.XL qs i wk=false:=by
      refine ⟨(List.range ms.length).filter fun i=>(ms.getD i 0).testBit wk && !inV (V.int (i : Nat)) (pz.map V.int),?_,⟨fun i hi=>List.mem_range.mp (List.mem_filter.mp hi).1,Nat.le_trans (List.length_filter_le _ _) (by rw [List.length_range]; exact Nat.le_refl _)⟩,fun i=>?_⟩
      · unfold L5.yV nV
        rw [List.length_map]
        refine CO.jB fun j hj=>?_
        rw [List.getElem?_map,List.getElem?_eq_getElem (List.mem_range.mp hj)]
        rfl
      · rw [List.mem_filter,List.mem_range,Bool.and_eq_true,pz0,Bool.not_eq_true']
    rw [hot] at e2
    have s12:=s1.trans s2
    refine ⟨by first | decide | (simp only [List.length_cons,List.length_nil,List.length_append,List.length_map]; decide),fun c3 hc3=>?_⟩
    have t3:=Same.zp (o := .lst [.int 0]) hc3
    have e3 : upd H2 c3 (.lst [.int 0]) c3=some (.lst [.int 0]):=upd_same
    generalize upd H2 c3 (.lst [.int 0])=H3 at t3 e3 ⊢
    have s13:=s12.trans t3
    refine ⟨_,rfl,c2,rfl,⟨_,SqL.of (t3 _ _ e2)⟩,fun c4 hc4=>?_⟩
    refine xo hc4 zF (fun σ=>∃ v,σ=[v,some (.ref pg),some (.ref pW),some (.int (wk : Nat))]) ((ot.map fun i=>((r.getD i 0 : Nat) : Int) - CV.gg zh i).map V.int) (by rw [zm,List.length_map,List.length_map]) ⟨_,rfl⟩ (fun H' s'=>SqL.of (s' _ _ (t3 _ _ e2))) (by rw [zm]; omega) ?_ ?_
    · rintro j y z σ H4 R1 R0 hy hz ⟨v,rfl⟩ s4 k1
      obtain ⟨hj,rfl⟩:=yr hy
      have hi:=lot.1 _ (List.mem_of_getElem? (getD_at hj))
      rw [List.getElem?_map,List.getElem?_map,getD_at hj] at hz
      obtain rfl:=Option.some.inj hz
      have s14:=s13.trans s4
      obtain ⟨vr,hvr,pr,rfl,er⟩:=hE.at_ hrw
      exact ⟨_,rfl,_,rfl,pW,_,_,_,rfl,rfl,s14.seq hW,atI_nat hvr,_,rfl,pr,_,_,_,rfl,rfl,SqL.of (s14 _ _ er),zP (by omega),_,rfl,_,rfl,pg,_,_,_,rfl,rfl,s14.seq hg,ZZ (by omega),_,_,rfl,rfl,k1 _ _ ⟨_,rfl⟩ (Same.refl _)⟩
    intro H4 s4 e4
    refine ⟨c3,c4,_,_,rfl,rfl,s4 _ _ e3,e4,?_,fun c5 hc5=>?_⟩
    · rw [List.length_map,List.length_map]
      show 1 + ot.length≤sizeLine
      omega
    have s5:=Same.zp (o := .lst ([V.int 0] ++ (ot.map fun i=>((r.getD i 0 : Nat) : Int) - CV.gg zh i).map V.int)) hc5
    refine ⟨c5,0 :: ot.map (fun i=>((r.getD i 0 : Nat) : Int) - CV.gg zh i),rfl,SqL.of upd_same,(fun z=>nomatch z),fun m hm1 hm2=>q _ m (s13.trans (s4.trans s5)) (hm2 0 List.mem_cons_self) (fun p hp h1 h2=>hm2 _ (List.mem_cons_of_mem _ (List.mem_map.mpr ⟨p,(mot p).mpr ⟨hp,h1,h2⟩,rfl⟩))) ?_⟩
    rcases List.mem_cons.mp hm1 with e | e
    · exact .inl e
    · obtain ⟨p,hp,e⟩:=List.mem_map.mp e
      obtain ⟨h1,h2,h3⟩:=(mot p).mp hp
      exact .inr ⟨p,h1,h2,h3,e.symm⟩
structure Tl3 (ws os ms ks hs : List Nat) (qs : List CP.Pr) (ps qp : List Nat) : Prop where
  nd : qs.Nodup
  inr : CV.InR ms.length ks.length qs
  up : CP.ym qs=true
  lp : ps.length=ms.length
  lq : qp.length=ks.length
  du : ∃ za left,CA.zX ms.length ks.length (CV.cc (CI.base os ks hs) ks hs) (CV.X ms) (CV.XL qs) za left 0 (CV.zz qp) (CV.zz ps)∧CA.Kept ms.length ks.length (CV.X ms) (CV.zz ws) (CV.zz os) (CV.XL qs) za left
noncomputable def Prc (os ms ks hs : List Nat) (qs : List CP.Pr) (ps : List Nat) (w : Nat) (z : Int) : Prop:=0≤z∧(∀ p,p < ms.length→(ms.getD p 0).testBit w=true→CV.XL qs p w=false→((CI.wt os ks hs w p : Nat) : Int) - CV.zz ps p≤z)∧(z=0∨∃ p,p < ms.length∧(ms.getD p 0).testBit w=true∧CV.XL qs p w=false∧z=((CI.wt os ks hs w p : Nat) : Int) - CV.zz ps p)
theorem tl3 {ws os ms ks hs ps qp : List Nat} {qs : List CP.Pr} (t : Tl2 ws os ms ks hs qs ps) (lq : qp.length=ks.length) (h : ∀ w,w < ks.length→Prc os ms ks hs qs ps w (CV.zz qp w)) : Tl3 ws os ms ks hs qs ps qp:=by
  obtain ⟨za,left,a,D,K⟩:=t.du
  refine ⟨t.nd,t.inr,t.up,t.lp,lq,za,left,D.low (fun w hw=>(h w hw).1) (fun w hw=>?_) (fun p w hp hw h1 h2=>?_),K⟩
  · rcases (h w hw).2.2 with e | ⟨p,hp,h1,h2,e⟩
    · rw [e]; exact D.a0 w hw
    · rw [e]
      have:=D.up p w hp hw h1 h2
      have e' : CV.cc (CI.base os ks hs) ks hs w p=((CI.wt os ks hs w p : Nat) : Int):=by unfold CV.cc CI.wt; rw [Int.natCast_add,Int.natCast_mul]
      omega
  · have:=(h w hw).2.1 p hp h1 h2
    have e' : CV.cc (CI.base os ks hs) ks hs w p=((CI.wt os ks hs w p : Nat) : Int):=by unfold CV.cc CI.wt; rw [Int.natCast_add,Int.natCast_mul]
    omega
theorem Tl3.told {ws os ms ks hs ps qp : List Nat} {qs : List CP.Pr} (t : Tl3 ws os ms ks hs qs ps qp) (lk : ks.length=os.length) (lh : hs.length=ms.length) : CA.Told ms.length ks.length (CV.X ms) (CV.zz ws) (CV.zz os) (CV.zz ks) (CV.zz hs) (CV.XL qs):=by
  obtain ⟨za,left,D,K⟩:=t.du
  have k0 : ∀ (l : List Nat) (w : Nat),0≤CV.zz l w:=fun l w=>Int.natCast_nonneg _
  have hh : ∀ p,p < ms.length→0≤CV.zz hs p∧CV.zz hs p≤((CI.mxd hs : Nat) : Int):=fun p hp=>by
    refine ⟨k0 _ _,?_⟩
    have hne : hs≠[]:=fun z=>by rw [z] at lh; simp at lh; omega
    rw [CI.W6 hne]
    have : hs.getD p 0≤CI.mx hs:=CI.V7 (List.mem_of_getElem? (getD_at (by omega)))
    unfold CV.zz
    omega
  have hB : ((CI.base os ks hs : Nat) : Int)=1 + CA.sz (fun w=>CV.zz ks w * CV.zz os w) ks.length * ((CI.mxd hs : Nat) : Int):=by
    unfold CI.base
    rw [Int.natCast_add,Int.natCast_mul,← CV.ja]
    congr 2
  exact CA.zcK (k:=CV.zz ks) (h:=CV.zz hs) (fun w _=>k0 _ _) hh (Int.natCast_nonneg _) hB (CA.zcI D K)
theorem Tl3.ZE {ws os ms ks hs ps qp : List Nat} {qs : List CP.Pr} (t : Tl3 ws os ms ks hs qs ps qp) (lk : ks.length=os.length) (lw : ws.length=ms.length) : CP.yW qs ws os ms=true:=by
  obtain ⟨za,left,D,K⟩:=t.du
  refine CV.zaI t.nd (by rw [← lk]; exact t.inr) t.up lw ?_
  rw [← lk]
  exact K.ZE
theorem Yd {ws os ms ks hs : List Nat} (lw : ws.length=ms.length) (lk : ks.length=os.length) (lh : hs.length=ms.length) (ps qp : List Nat) : ((CI.w6 ws os ms (fun w p=>((CI.rows os ks hs).getD w []).getD p 0) ps qp : Nat) : Int)=CA.shw ms.length ks.length (CV.cc (CI.base os ks hs) ks hs) (CV.X ms) (CV.zz ws) (CV.zz os) (CV.zz qp) (CV.zz ps):=by
  rw [CV.Jf _ lw,← lk]
  refine CA.zaG fun p w hp hw=>?_
  have e : (CI.rows os ks hs).getD w []=CI.row os ks hs w:=by
    rw [List.getD_eq_getElem?_getD,CI.jY hw]
    rfl
  rw [e,CI.jk (by omega)]
  unfold CI.wt CV.cc
  rw [Int.natCast_add,Int.natCast_mul]
noncomputable def wtS (os ks hs : List Nat) (qs : List CP.Pr) : Int:=CV.yt (fun q : CP.Pr=>((CI.wt os ks hs q.1.toNat q.2.toNat : Nat) : Int)) qs
theorem V1 {os ks hs : List Nat} {n : Nat} {qs : List CP.Pr} (nd : qs.Nodup) (hr : CV.InR n ks.length qs) : wtS os ks hs qs=CA.sum n ks.length (CV.cc (CI.base os ks hs) ks hs) (CV.XL qs):=by
  rw [CV.sum_list _ nd hr]
  unfold wtS CV.cc CI.wt
  exact CV.YG fun q _=>by rw [Int.natCast_add,Int.natCast_mul]
noncomputable def gnS (ks hs : List Nat) (qs : List CP.Pr) : Int:=CV.yt (fun q : CP.Pr=>((ks.getD q.1.toNat 0 : Nat) : Int) * ((hs.getD q.2.toNat 0 : Nat) : Int)) qs
theorem Tl3.zcs {ws os ms ks hs ps qp : List Nat} {qs : List CP.Pr} (t : Tl3 ws os ms ks hs qs ps qp) : CA.shw ms.length ks.length (CV.cc (CI.base os ks hs) ks hs) (CV.X ms) (CV.zz ws) (CV.zz os) (CV.zz qp) (CV.zz ps)=wtS os ks hs qs:=by
  obtain ⟨za,left,D,K⟩:=t.du
  rw [V1 t.nd t.inr,CA.zdj D K]
theorem Vr {ws os ms ks hs : List Nat} {qs : List CP.Pr} (h : CP.yW qs ws os ms=true) (nd : qs.Nodup) (lw : ws.length=ms.length) (lk : ks.length=os.length) (ps qp : List Nat) : wtS os ks hs qs≤CA.shw ms.length ks.length (CV.cc (CI.base os ks hs) ks hs) (CV.X ms) (CV.zz ws) (CV.zz os) (CV.zz qp) (CV.zz ps):=by
  have hr:=CV.ZU h
  rw [← lk] at hr
  rw [V1 nd hr]
  have D:=CV.Wb h nd lw
  rw [← lk] at D
  exact CA.zdi (fun w _=>Int.natCast_nonneg _) (fun w _=>Int.natCast_nonneg _) D
theorem Tl3.most {ws os ms ks hs ps qp : List Nat} {qs rs : List CP.Pr} (t : Tl3 ws os ms ks hs qs ps qp) (lk : ks.length=os.length) (lh : hs.length=ms.length) (lw : ws.length=ms.length) (h : CP.yW rs ws os ms=true) (nd : rs.Nodup) : rs.length≤qs.length∧(rs.length=qs.length→gnS ks hs rs≤gnS ks hs qs):=by
  have T:=t.told lk lh
  have hr:=CV.ZU h
  rw [← lk] at hr
  have D:=CV.Wb h nd lw
  rw [← lk] at D
  have h1:=T.2 _ D
  rw [CV.jF t.nd t.inr,CV.jF nd hr] at h1
  refine ⟨by omega,fun e=>?_⟩
  have h2:=h1.2 (by omega)
  unfold CA.Ze at h2
  rw [CV.sum_list _ t.nd t.inr,CV.sum_list _ nd hr] at h2
  exact h2
theorem Tl3.few {ws os ms ks hs ps qp : List Nat} {qs : List CP.Pr} (t : Tl3 ws os ms ks hs qs ps qp) (h : Few ws ms ks) : qs.length < 64:=by
  have h1:=CV.jF t.nd t.inr
  obtain ⟨st9,le9,D9,K9⟩:=t.du
  have h2:=Vm h K9
  omega
theorem zaU {D : Hp} : ∀ {vs : List V} {bs : List Nat},Els (fun _ v (n : Nat)=>v = .int (n : Nat)) D vs bs→vs=nV bs
  | [],[],_=>rfl
  | [],_ :: _,h=>by cases h.1
  | _ :: _,[],h=>by cases h.1
  | v :: vs,b :: bs,h=>by
    have h0 : v = .int (b : Nat):=h.2 0 v b rfl rfl
    have ih:=zaU (D:=D) (vs:=vs) (bs:=bs) ⟨Nat.succ.inj h.1,fun i v a e1 e2=>h.2 (i + 1) v a e1 e2⟩
    rw [h0,ih]
    rfl
noncomputable def zaV (K : PySem.W.Frag) (tb : L20.Tab) : Sp:=fun vs H Q _=>L23.E8 fun (qw : Addr) (qo : Addr) (qm : Addr) (qk : Addr) (qh : Addr) (ws : List Nat) (os : List Nat) (ms : List Nat)=>L23.E2 fun (ks : List Nat) (hs : List Nat)=>L23.A10 (vs=[.ref qw,.ref qo,.ref qm,.ref qk,.ref qh]) (L20.Tb tb H) (H qw=some (.lst (nV ws))) (H qo=some (.lst (nV os))) (H qm=some (.lst (nV ms))) (H qk=some (.lst (nV ks))) (H qh=some (.lst (nV hs))) (ws.length=ms.length) (hs.length=ms.length) (L23.A7 (ks.length=os.length) (ms.length≤1000) (ks.length < 64) (Few ws ms ks) ((∀ o∈os,o≤1000)) ((∀ h∈hs,h≤1000)) (∀ H' t l zs qs pp pq ps qp,L20.Tb tb H'→L20.SB tb H H'→H' t=some (.tup [.ref l,.int (CV.yt (fun q : CP.Pr=>((ks.getD q.1.toNat 0 : Nat) : Int) * ((hs.getD q.2.toNat 0 : Nat) : Int)) qs),.ref pp,.ref pq])→H' l=some (.lst zs)→zc K H' zs (qs.map CP.pairD)→H' pp=some (.lst (nV ps))→H' pq=some (.lst (nV qp))→Tl3 ws os ms ks hs qs ps qp→Q (.ref t) H'))
theorem zd8 {f : Addr} {fd Vs Vt jx : FuncData} (F : Fun K "best" "best" zB f fd) (T : Txt K mg a)
    (JS : FnOk P w K mg base CX0 10 a.wO Vs ["wants","oftens","masks","marks","worths"] (zaR K a.tab)) (YT : Fun K "greatest_dealing" "greatest_dealing" zD a.wO Vs) (JT : Binds K Vs ["wants","oftens","masks","marks","worths"] [])
    (JU : FnOk P w K mg base CX0 2 a.vX Vt ["work","pairs","masks","weights","place_prices"] (zaT K)) (YU : Fun K "price_of_work" "price_of_work" zL a.vX Vt) (JV : Binds K Vt ["work","pairs","masks","weights","place_prices"] [])
    (Z0 : FnOk P w K mg base CX0 2 a.vf jx ["oftens","marks","worths"] (Vg K)) (jN : Fun K "weights_of" "weights_of" yg a.vf jx) (Z1 : Binds K jx ["oftens","marks","worths"] []) : FnOk P w K mg base CX0 11 f fd ["wants","oftens","masks","marks","worths"] (zaV K a.tab):=by
  refine F.ok zdz (fun vs H Q E h=>?_) (fun cdv A outer s H vs Q E hr h=>?_)
  · obtain ⟨qw,qo,qm,qk,qh,ws,os,ms,ks,hs,rfl,_⟩:=h
    rfl
  · obtain ⟨qw,qo,qm,qk,qh,ws,os,ms,ks,hs,rfl,tb,hw,ho,hm,hk,hh,lw,lh,lk,ln,l64,JQ,bo,bh,q⟩:=h
    refine ⟨_,(pss_cons (psN (i:=5) (sc:=defScope zB) (M:=ya) rfl rfl (by decide +kernel) (zk (sc:=defScope zB) JS (hr.mono (by decide)) rfl (by decide +kernel) T.zfo YT.kp JT .nil pass0 (pa_cons (pvA 0 (defScope zB) ya rfl rfl) (pa_cons (pvA 1 (defScope zB) ya rfl rfl) (pa_cons (pvA 2 (defScope zB) ya rfl rfl) (pa_cons (pvA 3 (defScope zB) ya rfl rfl) (pa_cons (pvA 4 (defScope zB) ya rfl rfl) pa_nil)))))))
      (pss_cons (psC (i:=6) (sc:=defScope zB) (M:=ya) rfl rfl rfl (by decide +kernel) (pe_ix ix_tup (pvA 5 (defScope zB) ya rfl rfl) pe_int (fun _ _=>rfl)))
      (pss_cons (psC (i:=7) (sc:=defScope zB) (M:=ya) rfl rfl rfl (by decide +kernel) (pe_ix ix_tup (pvA 5 (defScope zB) ya rfl rfl) pe_int (fun _ _=>rfl)))
      (pss_cons (psN (i:=8) (sc:=defScope zB) (M:=ya) rfl rfl (by decide +kernel) (zo (sc:=defScope zB) (xA rfl) rfl (by decide +kernel) T.wD vO (pa_cons (zN rfl (N:=["work","place","marks","worths"]) (own:=2) (js:=[3,4]) (X:=(cxOf CX0 P w K mg base ya "best" (defScope zB) f cdv A outer s H E).nox) (zM (defScope zB) ya rfl rfl (by decide +kernel)) (pi_list (pvA 6 (defScope zB) ya rfl rfl)) (fun fp0 sx0 Hx0=>(yU (K:=K) rfl (pg_tup (n:=2) (by rfl) (pgs_cons (pgN (i:=0) (sc:=zb _ (defScope zB)) (M:=["work","place","marks","worths"]) rfl rfl (by decide +kernel)) (pgs_cons (pgN (i:=1) (sc:=zb _ (defScope zB)) (M:=["work","place","marks","worths"]) rfl rfl (by decide +kernel)) pgs_nil))))) (fun fp0 sx0 Hx0=>zG) (fun fp0 sx0 Hx0=>(pe_op op_mul (pe_ix (kIx (r:=rIxL) (K:=K) rfl ix_list) (pvN (i:=2) (sc:=zb _ (defScope zB)) (M:=["work","place","marks","worths"]) rfl rfl (by decide +kernel)) (pvN (i:=0) (sc:=zb _ (defScope zB)) (M:=["work","place","marks","worths"]) rfl rfl (by decide +kernel)) (fun _ _=>rfl)) (pe_ix (kIx (r:=rIxL) (K:=K) rfl ix_list) (pvN (i:=3) (sc:=zb _ (defScope zB)) (M:=["work","place","marks","worths"]) rfl rfl (by decide +kernel)) (pvN (i:=1) (sc:=zb _ (defScope zB)) (M:=["work","place","marks","worths"]) rfl rfl (by decide +kernel)) (fun _ _=>rfl))))) pa_nil)))
      (pss_cons (psC (i:=9) (sc:=defScope zB) (M:=ya) rfl rfl rfl (by decide +kernel) (zk (sc:=defScope zB) Z0 (hr.mono (by decide)) rfl (by decide +kernel) T.zcf jN.kp Z1 .nil pass0 (pa_cons (pvA 1 (defScope zB) ya rfl rfl) (pa_cons (pvA 3 (defScope zB) ya rfl rfl) (pa_cons (pvA 4 (defScope zB) ya rfl rfl) pa_nil)))))
      (pss_cons (vp (i:=10) (sc:=defScope zB) (M:=ya) rfl rfl rfl (by decide +kernel) (N:=["work","pairs","masks","weights","place_prices"]) (own:=1) (js:=[6,2,9,7]) (X:=(cxOf CX0 P w K mg base ya "best" (defScope zB) f cdv A outer s H E).nox) (zM (defScope zB) ya rfl rfl (by decide +kernel)) (pi_range1 (glR (sc:=defScope zB) rfl (by decide +kernel)) T.yo (pa_cons (zo (sc:=defScope zB) call_len rfl (by decide +kernel) T.yj yd (pa_cons (pvA 3 (defScope zB) ya rfl rfl) pa_nil)) pa_nil)) (fun fp0 sx0 Hx0=>(pgN (i:=0) (sc:=zb _ (defScope zB)) (M:=["work","pairs","masks","weights","place_prices"]) rfl rfl (by decide +kernel))) (fun fp0 sx0 Hx0=>zG) (fun fp0 sx0 Hx0=>(zk (sc:=zb _ (defScope zB)) JU (hr.mono (by decide)) rfl (by decide +kernel) T.zfp YU.kp JV .nil pass0 (pa_cons (pvN (i:=0) (sc:=zb _ (defScope zB)) (M:=["work","pairs","masks","weights","place_prices"]) rfl rfl (by decide +kernel)) (pa_cons (pvN (i:=1) (sc:=zb _ (defScope zB)) (M:=["work","pairs","masks","weights","place_prices"]) rfl rfl (by decide +kernel)) (pa_cons (pvN (i:=2) (sc:=zb _ (defScope zB)) (M:=["work","pairs","masks","weights","place_prices"]) rfl rfl (by decide +kernel)) (pa_cons (pvN (i:=3) (sc:=zb _ (defScope zB)) (M:=["work","pairs","masks","weights","place_prices"]) rfl rfl (by decide +kernel)) (pa_cons (pvN (i:=4) (sc:=zb _ (defScope zB)) (M:=["work","pairs","masks","weights","place_prices"]) rfl rfl (by decide +kernel)) pa_nil))))))) rfl)
      (pss_one (ps_ret (pe_tup (pa_cons (pvA 6 (defScope zB) ya rfl rfl) (pa_cons (pvA 8 (defScope zB) ya rfl rfl) (pa_cons (pvA 7 (defScope zB) ya rfl rfl) (pa_cons (pvA 10 (defScope zB) ya rfl rfl) pa_nil))))))))))))),?_⟩
    try dsimp only [cxOf,Cx.nox]
    have hs' : sizeLine=16777216:=sizeLine_eq
    refine ⟨_,rfl,_,rfl,_,rfl,_,rfl,_,rfl,qw,qo,qm,qk,qh,ws,os,ms,ks,hs,rfl,tb,hw,ho,hm,hk,hh,lw,lh,lk,ln,l64,JQ,bo,bh,fun H1 t1 l1 zs1 qs1 pg1 ps1 tb1 sb1 et1 el1 hA1 eg1 tld=>?_⟩
    have ho1:=sb1.lst tb ho
    have hm1:=sb1.lst tb hm
    have hk1:=sb1.lst tb hk
    have hh1:=sb1.lst tb hh
    have few : qs1.length < 64:=by
      have h1:=CV.jF tld.nd tld.inr
      obtain ⟨st9,le9,a9,D9,K9⟩:=tld.du
      have h2:=Vm JQ K9
      omega
    have lz1:=zc.length hA1
    rw [List.length_map] at lz1
    have zbR : ∀ qq∈qs1,∃ a b : Nat,qq=(((a : Nat) : Int),((b : Nat) : Int))∧a < ks.length∧b < ms.length:=tld.inr
    refine ⟨_,rfl,t1,_,_,_,rfl,rfl,SqT.of et1,rfl,_,rfl,t1,_,_,_,rfl,rfl,SqT.of et1,rfl,?_⟩
    refine ⟨_,rfl,l1,rfl,⟨_,SqL.of el1⟩,fun c2 hc2=>?_⟩
    refine jg (K:=K) (D:=H1) (Same.refl H1) hc2 zF (fun σ=>L23.E2 fun v1 v2=>σ=[v1,v2,some (.ref qk),some (.ref qh)]) ((qs1.map fun q=>PyData.int (((ks.getD q.1.toNat 0 : Nat) : Int) * ((hs.getD q.2.toNat 0 : Nat) : Int))).map some) (by rw [List.length_map,List.length_map,lz1]) ⟨_,_,rfl⟩ (fun H' s'=>SqL.of (s' _ _ el1)) (by omega) ?_ ?_
    · rintro i y o σ D2 H2 R1 R0 hy hoo ⟨v1,v2,rfl⟩ g2 k1 k0
      obtain ⟨qq,t,hq,rfl,et⟩:=CP.pairs_at hA1 hy
      rw [List.getElem?_map,List.getElem?_map,hq] at hoo
      obtain rfl:=Option.some.inj hoo
      obtain ⟨a0,b0,rfl,ha,hb⟩:=zbR qq (List.mem_of_getElem? hq)
      have bb:=wA (by omega : b0 < hs.length) bh
      refine ⟨t,_,rfl,SqT.of (g2.hh _ _ et),rfl,_,_,rfl,_,_,rfl,rfl,_,rfl,_,rfl,qk,_,_,_,rfl,rfl,SqL.of (g2.hh _ _ hk1),zP ha,_,rfl,_,rfl,qh,_,_,_,rfl,rfl,SqL.of (g2.hh _ _ hh1),zP (by omega),_,_,rfl,rfl,.inr ⟨by omega,by omega⟩,?_⟩
      exact k1 _ _ _ _ _ rfl ⟨_,_,rfl⟩ (Gr.refl g2.dh) zx.ofInt
    intro D2 H2 ys g2 e2 _ hA2
    rw [L4.filterMap_some] at hA2
    have hA3 : zc K D2 ys ((qs1.map fun q : CP.Pr=>((ks.getD q.1.toNat 0 : Nat) : Int) * ((hs.getD q.2.toNat 0 : Nat) : Int)).map PyData.int):=by rw [List.map_map]; exact hA2
    obtain rfl:=zc.jf hA3
    refine ⟨c2,_,rfl,SqL.of e2,?_⟩
    rw [L7.wY]
    have s2:=g2.hh
    refine ⟨_,rfl,_,rfl,_,rfl,qo,qk,qh,os,ks,hs,rfl,SqL.of (s2 _ _ ho1),SqL.of (s2 _ _ hk1),SqL.of (s2 _ _ hh1),lk,by omega,by omega,bo,bh,fun H3 pW zW s3 eW hE _=>?_⟩
    have s13:=s2.trans s3
    refine ⟨_,rfl,.ref qk,ks.length,rfl,.inl ⟨_,SqL.of (s13 _ _ hk1),by rw [zm]⟩,_,rfl,by omega,by omega,fun c4 hc4=>?_⟩
    have eg2 : nV ps1=(ps1.map fun n : Nat=>(n : Int)).map V.int:=by unfold nV; rw [List.map_map]; rfl
    have gg2 : ∀ p,p < ms.length→CV.gg (ps1.map fun n : Nat=>(n : Int)) p=CV.zz ps1 p:=fun p hp=>by
      unfold CV.gg CV.zz
      rw [List.getD_eq_getElem?_getD,List.getD_eq_getElem?_getD,List.getElem?_map,List.getElem?_eq_getElem (by rw [tld.lp]; exact hp)]
      rfl
    rw [eg2] at eg1
    refine Yi (Pd:=fun _ v (w : Nat)=>∃ z : Nat,v = .int (z : Nat)∧Prc os ms ks hs qs1 ps1 w (z : Nat)) (fun _ h=>h) (D:=fun _=>none) (fun _ _ h=>nomatch h) hc4 (xO (P:=fun _=>True)) (fun σ=>∃ v,σ=[v,some (.ref l1),some (.ref qm),some (.ref pW),some (.ref pg1)]) (List.range ks.length) (by rw [List.length_map,List.length_range,List.length_range,Int.toNat_natCast]) ⟨_,rfl⟩ (fun _ _=>trivial) (by rw [List.length_map,List.length_range]; omega) ?_ ?_
    · rintro i y w σ D4 H4 R1 R0 hy hw ⟨v,rfl⟩ g4 kk
      rw [List.getElem?_map,Int.toNat_natCast,hw] at hy
      obtain rfl:=Option.some.inj hy
      have hw':=List.mem_range.mp (List.mem_of_getElem? hw)
      dsimp only
      rw [show (0 : Int) + (w : Nat)=(w : Nat) by omega]
      have s4:=s13.trans g4.hh
      refine ⟨_,rfl,_,rfl,_,rfl,_,rfl,_,rfl,w,l1,qm,pW,pg1,zs1,zW,qs1,ms,CI.rows os ks hs,_,ps1.map fun n : Nat=>(n : Int),rfl,SqL.of (s4 _ _ el1),zc.same s4 _ hA1,SqL.of (s4 _ _ hm1),SqL.of (g4.hh _ _ eW),hE.up (fun _ _=>NL.up g4.hh),CI.jY hw',by rw [CI.jj]; exact lh,SqL.of (s4 _ _ eg1),by rw [List.length_map]; exact tld.lp,ln,by omega,fun H5 z s5 z0 z1 z2=>?_⟩
      obtain ⟨zn,rfl⟩:=Int.eq_ofNat_of_zero_le z0
      refine kk _ _ _ _ ⟨_,rfl⟩ (Gr.heap g4.dh s5) ⟨zn,rfl,z0,fun p hp h1 h2=>?_,?_⟩
      · have:=z1 p hp h1 h2
        rw [CI.jk (by omega),gg2 p hp] at this
        exact this
      · refine z2.imp id fun ⟨p,hp,h1,h2,e⟩=>⟨p,hp,h1,h2,?_⟩
        rw [CI.jk (by omega),gg2 p hp] at e
        exact e
    intro D4 H4 ys4 g4 e4 _ hE4
    obtain ⟨qp,kE,kl,kR⟩:=CV.Va (S:=fun _ v (n : Nat)=>v = .int (n : Nat)) (R:=fun z w=>Prc os ms ks hs qs1 ps1 w ((z : Nat) : Int)) hE4
    rw [List.length_range] at kl
    rw [zaU kE] at e4
    have s14:=s13.trans g4.hh
    refine ⟨_,rfl,_,rfl,_,rfl,_,rfl,by first | decide | (simp only [List.length_cons,List.length_nil,List.length_append,List.length_map]; decide),fun t5 ht5=>?_⟩
    have s5:=Same.zp (o := .tup [.ref l1,.int (((qs1.map fun q : CP.Pr=>((ks.getD q.1.toNat 0 : Nat) : Int) * ((hs.getD q.2.toNat 0 : Nat) : Int))).foldl (· + ·) 0),.ref pg1,.ref c4]) ht5
    have s15:=s14.trans s5
    refine q _ t5 l1 zs1 qs1 pg1 c4 ps1 qp (tb1.same s15) (sb1.trans (L20.SB.of s15)) ?_ (s15 _ _ el1) (zc.same s15 _ hA1) (by rw [eg2]; exact s15 _ _ eg1) (s5 _ _ e4) (tl3 tld kl fun w hw=>?_)
    · rw [upd_same,show ((qs1.map fun q : CP.Pr=>((ks.getD q.1.toNat 0 : Nat) : Int) * ((hs.getD q.2.toNat 0 : Nat) : Int))).foldl (· + ·) 0=CV.yt (fun q : CP.Pr=>((ks.getD q.1.toNat 0 : Nat) : Int) * ((hs.getD q.2.toNat 0 : Nat) : Int)) qs1 from CV.vR _ _]
    · unfold CV.zz
      exact kR w _ w (getD_at (by omega)) (List.getElem?_range hw)
theorem zbS {l : List Nat} {i : Nat} (h : i < l.length) : atI (nV l) ((i : Nat) : Int)=some (.int (l.getD i 0 : Nat)):=zP h
noncomputable def zct (K : PySem.W.Frag) : Sp:=fun vs H Q _=>L23.E8 fun (p : Nat) (w : Nat) (pW : Addr) (pp : Addr) (pq : Addr) (zs : List V) (W : List (List Nat)) (r : List Nat)=>L23.E2 fun (ps : List Nat) (qs : List Nat)=>L23.A10 (vs=[.int p,.int w,.ref pW,.ref pp,.ref pq]) (SqL K H pW zs) (Els NL H zs W) (W[w]?=some r) (p < r.length) (SqL K H pp (nV ps)) (SqL K H pq (nV qs)) (p < ps.length) (w < qs.length) (Q (.int ((r.getD p 0 - ps.getD p 0 - qs.getD w 0 : Nat) : Int)) H)
theorem zfG {f : Addr} {fd : FuncData} (F : Fun K "above_price" "above_price" wK f fd) (T : Txt K mg a) : FnOk P w K mg base CX0 1 f fd ["place","work","weights","place_prices","work_prices"] (zct K):=by
  refine F.ok zfa (fun vs H Q E h=>?_) (fun cdv A outer s H vs Q E hr h=>?_)
  · obtain ⟨p,w,pW,pp,pq,zs,W,r,ps,qs,rfl,_⟩:=h
    rfl
  · obtain ⟨p,wk,pW,pp,pq,zs,W,r,ps,qs,rfl,hW,hE,hr,hp,hpp,hpq,lp,lq,q⟩:=h
    refine ⟨_,(pss_one (ps_ret (zo (sc:=defScope wK) (call_max2 rfl) rfl (by decide +kernel) T.jH Yt (pa_cons pe_int (pa_cons (pe_op op_sub (pe_op op_sub (pe_ix ix_list (pe_ix ix_list (pvA 2 (defScope wK) ZG rfl rfl) (pvA 1 (defScope wK) ZG rfl rfl) (fun _ _=>rfl)) (pvA 0 (defScope wK) ZG rfl rfl) (fun _ _=>rfl)) (pe_ix ix_list (pvA 3 (defScope wK) ZG rfl rfl) (pvA 0 (defScope wK) ZG rfl rfl) (fun _ _=>rfl))) (pe_ix ix_list (pvA 4 (defScope wK) ZG rfl rfl) (pvA 1 (defScope wK) ZG rfl rfl) (fun _ _=>rfl))) pa_nil))))),?_⟩
    try dsimp only [cxOf,Cx.nox]
    obtain ⟨v,hv,pr,rfl,er⟩:=hE.at_ hr
    refine ⟨_,rfl,_,rfl,pW,_,_,_,rfl,rfl,hW,atI_nat hv,_,rfl,pr,_,_,_,rfl,rfl,SqL.of er,zbS hp,_,rfl,_,rfl,pp,_,_,_,rfl,rfl,hpp,zbS lp,_,_,rfl,rfl,_,rfl,_,rfl,pq,_,_,_,rfl,rfl,hpq,zbS lq,_,_,rfl,rfl,_,_,rfl,?_⟩
    have e : ((r.getD p 0 - ps.getD p 0 - qs.getD wk 0 : Nat) : Int)=if (r.getD p 0 : Nat) - (ps.getD p 0 : Nat) - ((qs.getD wk 0 : Nat) : Int) > 0 then (r.getD p 0 : Nat) - (ps.getD p 0 : Nat) - ((qs.getD wk 0 : Nat) : Int) else 0:=by
      split <;> omega
    rw [e] at q
    exact q
theorem zbT (m n : Nat) : ((List.range n).map fun i : Nat=>V.int (0 + (i : Nat))).filterMap (fun x=>match x with | V.int z=>if m.testBit z.toNat then some (V.int z) else none | _=>none)=nV ((List.range n).filter fun w=>m.testBit w):=by
  rw [List.filterMap_map]
  induction List.range n with
  | nil=>rfl
  | cons i r ih =>
    have ez : (0 : Int) + (i : Nat)=(i : Nat):=by omega
    rw [List.filterMap_cons,List.filter_cons]
    cases h1 : m.testBit i with
    | true =>
      have : ((fun x=>match x with | V.int z=>if m.testBit z.toNat=true then some (V.int z) else none | _=>none) ∘ fun i : Nat=>V.int (0 + (i : Nat))) i=some (V.int (i : Nat)):=by
        show (if m.testBit ((0 : Int) + (i : Nat)).toNat=true then some (V.int (0 + (i : Nat))) else none)=_
        rw [ez,Int.toNat_natCast,if_pos h1]
      rw [this,if_pos rfl]
      exact congrArg (_ :: ·) ih
    | false =>
      have : ((fun x=>match x with | V.int z=>if m.testBit z.toNat=true then some (V.int z) else none | _=>none) ∘ fun i : Nat=>V.int (0 + (i : Nat))) i=none:=by
        show (if m.testBit ((0 : Int) + (i : Nat)).toNat=true then some (V.int (0 + (i : Nat))) else none)=_
        rw [ez,Int.toNat_natCast,if_neg (by rw [h1]; decide)]
      rw [this,if_neg (by decide)]
      exact ih
noncomputable def zaW (K : PySem.W.Frag) : Sp:=fun vs H Q _=>L23.E12 fun (pw : Addr) (po : Addr) (pm : Addr) (pW : Addr) (pp : Addr) (pq : Addr) (zs : List V) (W : List (List Nat)) (ws : List Nat) (os : List Nat) (ms : List Nat) (ps : List Nat)=>∃ (qs : List Nat),L23.A10 (vs=[.ref pw,.ref po,.ref pm,.ref pW,.ref pp,.ref pq]) (SqL K H pw (nV ws)) (SqL K H po (nV os)) (SqL K H pm (nV ms)) (SqL K H pW zs) (Els NL H zs W) (W.length=os.length) ((∀ r∈W,r.length=ms.length)) (SqL K H pp (nV ps)) (L23.A8 (SqL K H pq (nV qs)) (ws.length=ms.length) (ps.length=ms.length) (qs.length=os.length) (ms.length≤1000) (os.length≤1000) ((∀ x∈ws,x≤1000)) ((∀ x∈os,x≤1000)∧∀ H',Same H H'→Q (.int (CI.w6 ws os ms (fun w p=>(W.getD w []).getD p 0) ps qs : Nat)) H'))
theorem zd9 {f : Addr} {fd JW yw : FuncData} (F : Fun K "priced" "priced" zy f fd) (T : Txt K mg a)
    (zbU : FnOk P w K mg base CX0 1 a.jQ JW ["place","work","weights","place_prices","work_prices"] (zct K)) (Vu : Fun K "above_price" "above_price" wK a.jQ JW) (zbV : Binds K JW ["place","work","weights","place_prices","work_prices"] [])
    (xD : FnOk P w K mg base CX0 1 a.has yw ["mask","number"] (j5 K)) (xh : Fun K "has" "has" xM a.has yw) (xE : Binds K yw ["mask","number"] []) : FnOk P w K mg base CX0 2 f fd ["wants","oftens","masks","weights","place_prices","work_prices"] (zaW K):=by
  refine F.ok zdv (fun vs H Q E h=>?_) (fun cdv A outer s H vs Q E hr h=>?_)
  · obtain ⟨pw,po,pm,pW,pp,pq,zs,W,ws,os,ms,ps,qs,rfl,_⟩:=h
    rfl
  · obtain ⟨pw,po,pm,pW,pp,pq,zs,W,ws,os,ms,ps,qs,rfl,hw,ho,hm,hW,hE,lW,lr,hpp,hpq,lw,lp,lq,lm,lo,bw,bo,q⟩:=h
    refine ⟨_,(pss_cons (psN (i:=6) (sc:=defScope zy) (M:=yh) rfl rfl (by decide +kernel) (zo (sc:=defScope zy) (xA rfl) rfl (by decide +kernel) T.wD vO (pa_cons (zN rfl (N:=["want","price"]) (own:=2) (js:=[]) (X:=(cxOf CX0 P w K mg base yh "priced" (defScope zy) f cdv A outer s H E).nox) (zM (defScope zy) yh rfl rfl (by decide +kernel)) (L5.ZO (glR (sc:=defScope zy) rfl (by decide +kernel)) T.jI (pa_cons (pvA 0 (defScope zy) yh rfl rfl) (pa_cons (pvA 4 (defScope zy) yh rfl rfl) pa_nil))) (fun fp0 sx0 Hx0=>(yU (K:=K) rfl (pg_tup (n:=2) (by rfl) (pgs_cons (pgN (i:=0) (sc:=zb _ (defScope zy)) (M:=["want","price"]) rfl rfl (by decide +kernel)) (pgs_cons (pgN (i:=1) (sc:=zb _ (defScope zy)) (M:=["want","price"]) rfl rfl (by decide +kernel)) pgs_nil))))) (fun fp0 sx0 Hx0=>zG) (fun fp0 sx0 Hx0=>(pe_op op_mul (pvN (i:=0) (sc:=zb _ (defScope zy)) (M:=["want","price"]) rfl rfl (by decide +kernel)) (pvN (i:=1) (sc:=zb _ (defScope zy)) (M:=["want","price"]) rfl rfl (by decide +kernel))))) pa_nil)))
      (pss_cons (psN (i:=6) (sc:=defScope zy) (M:=yh) rfl rfl (by decide +kernel) (pe_op op_add (pvA 6 (defScope zy) yh rfl rfl) (zo (sc:=defScope zy) (xA rfl) rfl (by decide +kernel) T.wD vO (pa_cons (zN rfl (N:=["often","price"]) (own:=2) (js:=[]) (X:=(cxOf CX0 P w K mg base yh "priced" (defScope zy) f cdv A outer s H E).nox) (zM (defScope zy) yh rfl rfl (by decide +kernel)) (L5.ZO (glR (sc:=defScope zy) rfl (by decide +kernel)) T.jI (pa_cons (pvA 1 (defScope zy) yh rfl rfl) (pa_cons (pvA 5 (defScope zy) yh rfl rfl) pa_nil))) (fun fp0 sx0 Hx0=>(yU (K:=K) rfl (pg_tup (n:=2) (by rfl) (pgs_cons (pgN (i:=0) (sc:=zb _ (defScope zy)) (M:=["often","price"]) rfl rfl (by decide +kernel)) (pgs_cons (pgN (i:=1) (sc:=zb _ (defScope zy)) (M:=["often","price"]) rfl rfl (by decide +kernel)) pgs_nil))))) (fun fp0 sx0 Hx0=>zG) (fun fp0 sx0 Hx0=>(pe_op op_mul (pvN (i:=0) (sc:=zb _ (defScope zy)) (M:=["often","price"]) rfl rfl (by decide +kernel)) (pvN (i:=1) (sc:=zb _ (defScope zy)) (M:=["often","price"]) rfl rfl (by decide +kernel))))) pa_nil))))
      (pss_cons (ps_for PassesOwn.never rfl (xH (glR (sc:=defScope zy) rfl (by decide +kernel)) T.zT (pa_cons (pvA 2 (defScope zy) yh rfl rfl) pa_nil)) (pg_tup (n:=2) (by rfl) (pgs_cons (pgC (i:=7) (sc:=defScope zy) (M:=yh) rfl rfl rfl (by decide +kernel)) (pgs_cons (pgC (i:=8) (sc:=defScope zy) (M:=yh) rfl rfl rfl (by decide +kernel)) pgs_nil))) (pss_cons (vp (i:=9) (sc:=defScope zy) (M:=yh) rfl rfl rfl (by decide +kernel) (N:=["work","mask"]) (own:=1) (js:=[8]) (X:=(cxOf CX0 P w K mg base yh "priced" (defScope zy) f cdv A outer s H E).nox) (zM (defScope zy) yh rfl rfl (by decide +kernel)) (pi_range1 (glR (sc:=defScope zy) rfl (by decide +kernel)) T.yo (pa_cons (zo (sc:=defScope zy) call_len rfl (by decide +kernel) T.yj yd (pa_cons (pvA 1 (defScope zy) yh rfl rfl) pa_nil)) pa_nil)) (fun fp0 sx0 Hx0=>(pgN (i:=0) (sc:=zb _ (defScope zy)) (M:=["work","mask"]) rfl rfl (by decide +kernel))) (fun fp0 sx0 Hx0=>(vn (pt_val (zk (sc:=zb _ (defScope zy)) xD (hr.mono (by decide)) rfl (by decide +kernel) T.YJ xh.kp xE .nil pass0 (pa_cons (pvN (i:=1) (sc:=zb _ (defScope zy)) (M:=["work","mask"]) rfl rfl (by decide +kernel)) (pa_cons (pvN (i:=0) (sc:=zb _ (defScope zy)) (M:=["work","mask"]) rfl rfl (by decide +kernel)) pa_nil)))))) (fun fp0 sx0 Hx0=>(pvN (i:=0) (sc:=zb _ (defScope zy)) (M:=["work","mask"]) rfl rfl (by decide +kernel))) rfl)
      (pss_one (psN (i:=6) (sc:=defScope zy) (M:=yh) rfl rfl (by decide +kernel) (pe_op op_add (pvA 6 (defScope zy) yh rfl rfl) (zo (sc:=defScope zy) (xA rfl) rfl (by decide +kernel) T.wD vO (pa_cons (zN rfl (N:=["work","place","weights","place_prices","work_prices"]) (own:=1) (js:=[7,3,4,5]) (X:=(cxOf CX0 P w K mg base yh "priced" (defScope zy) f cdv A outer s H E).nox) (zM (defScope zy) yh rfl rfl (by decide +kernel)) (pi_list (pvA 9 (defScope zy) yh rfl rfl)) (fun fp0 sx0 Hx0=>(pgN (i:=0) (sc:=zb _ (defScope zy)) (M:=["work","place","weights","place_prices","work_prices"]) rfl rfl (by decide +kernel))) (fun fp0 sx0 Hx0=>zG) (fun fp0 sx0 Hx0=>(zk (sc:=zb _ (defScope zy)) zbU (hr.mono (by decide)) rfl (by decide +kernel) T.zf2 Vu.kp zbV .nil pass0 (pa_cons (pvN (i:=1) (sc:=zb _ (defScope zy)) (M:=["work","place","weights","place_prices","work_prices"]) rfl rfl (by decide +kernel)) (pa_cons (pvN (i:=0) (sc:=zb _ (defScope zy)) (M:=["work","place","weights","place_prices","work_prices"]) rfl rfl (by decide +kernel)) (pa_cons (pvN (i:=2) (sc:=zb _ (defScope zy)) (M:=["work","place","weights","place_prices","work_prices"]) rfl rfl (by decide +kernel)) (pa_cons (pvN (i:=3) (sc:=zb _ (defScope zy)) (M:=["work","place","weights","place_prices","work_prices"]) rfl rfl (by decide +kernel)) (pa_cons (pvN (i:=4) (sc:=zb _ (defScope zy)) (M:=["work","place","weights","place_prices","work_prices"]) rfl rfl (by decide +kernel)) pa_nil)))))))) pa_nil)))))))
      (pss_one (ps_ret (pvA 6 (defScope zy) yh rfl rfl)))))),?_⟩
    try dsimp only [cxOf,Cx.nox]
    have hs' : sizeLine=16777216:=sizeLine_eq
    refine ⟨_,rfl,_,rfl,pw,pp,rfl,⟨_,hw⟩,⟨_,hpp⟩,fun c hc=>?_⟩
    refine L5.j9 hc (fun H' s'=>⟨s'.seq hw,s'.seq hpp⟩) (fun σ=>L23.E2 fun v1 v2=>σ=[v1,v2]) (fun i _ _=>some (V.int ((ws.getD i 0 * ps.getD i 0 : Nat) : Int))) ⟨_,_,rfl⟩ (by rw [zm,zm]; omega) (by rw [zm]; omega) ?_ ?_
    · rintro i x y σ H2 T R1 R0 hx hy ⟨v1,v2,rfl⟩ s2 hT k1 k0
      obtain ⟨h1,rfl⟩:=yr hx
      obtain ⟨h2,rfl⟩:=yr hy
      have b:=wA h1 bw
      refine ⟨T,_,rfl,SqT.of upd_same,rfl,_,_,rfl,_,_,rfl,rfl,_,rfl,_,rfl,_,_,rfl,rfl,.inl ⟨by omega,by omega⟩,k1 _ _ _ ⟨_,_,rfl⟩ ?_ (Same.zp hT)⟩
      rw [Int.natCast_mul]
    intro H1 s1 e1
    rw [XJ (by omega)] at e1
    refine ⟨c,_,rfl,SqL.of e1,?_⟩
    rw [ZK]
    refine ⟨_,rfl,_,rfl,_,rfl,po,pq,rfl,⟨_,s1.seq ho⟩,⟨_,s1.seq hpq⟩,fun c2 hc2=>?_⟩
    refine L5.j9 hc2 (fun H' s'=>⟨(s1.trans s').seq ho,(s1.trans s').seq hpq⟩) (fun σ=>L23.E2 fun v1 v2=>σ=[v1,v2]) (fun i _ _=>some (V.int ((os.getD i 0 * qs.getD i 0 : Nat) : Int))) ⟨_,_,rfl⟩ (by rw [zm,zm]; omega) (by rw [zm]; omega) ?_ ?_
    · rintro i x y σ H2 T R1 R0 hx hy ⟨v1,v2,rfl⟩ s2 hT k1 k0
      obtain ⟨h1,rfl⟩:=yr hx
      obtain ⟨h2,rfl⟩:=yr hy
      have b:=wA h1 bo
      refine ⟨T,_,rfl,SqT.of upd_same,rfl,_,_,rfl,_,_,rfl,rfl,_,rfl,_,rfl,_,_,rfl,rfl,.inl ⟨by omega,by omega⟩,k1 _ _ _ ⟨_,_,rfl⟩ ?_ (Same.zp hT)⟩
      rw [Int.natCast_mul]
    intro H2 s2 e2
    rw [XJ (by omega)] at e2
    refine ⟨c2,_,rfl,SqL.of e2,?_⟩
    rw [ZK]
    have s12:=s1.trans s2
    refine ⟨_,_,rfl,rfl,?_⟩
    rw [show (fun i j : Int=>V.int (i + j)) ((CI.sg (fun i=>ws.getD i 0 * ps.getD i 0) ps.length : Nat) : Int) ((CI.sg (fun i=>os.getD i 0 * qs.getD i 0) qs.length : Nat) : Int)=V.int ((CI.sg (fun i=>ws.getD i 0 * ps.getD i 0) ws.length + CI.sg (fun i=>os.getD i 0 * qs.getD i 0) os.length : Nat) : Int) by rw [Int.natCast_add,lw,← lp,lq]]
    generalize hz0 : CI.sg (fun i=>ws.getD i 0 * ps.getD i 0) ws.length + CI.sg (fun i=>os.getD i 0 * qs.getD i 0) os.length=z0
    refine ⟨_,rfl,pm,rfl,⟨_,s12.seq hm⟩,?_⟩
    refine L5.vq (xs:=nV ms) (fun i σ H'=>(L23.E3 fun v1 v2 v3=>σ=[some (.ref pw),some (.ref po),some (.ref pm),some (.ref pW),some (.ref pp),some (.ref pq),some (.int ((z0 + CI.sg (fun p=>CI.over (ms.getD p 0) os.length (fun w=>(W.getD w []).getD p 0) (ps.getD p 0) fun w=>qs.getD w 0) i : Nat) : Int)),v1,v2,v3])∧Same H H') ⟨⟨_,_,_,rfl⟩,s12⟩ (fun i σ H' _ h=>h.2.seq hm) ?_ ?_
    · rintro i y σ H3 T hy ⟨⟨v1,v2,v3,rfl⟩,s3⟩ hT
      obtain ⟨hi,rfl⟩:=yr hy
      rw [show (0 : Int) + (i : Nat)=(i : Nat) by omega]
      have s4:=s3.trans (Same.zp (o := .tup [.int (i : Nat),.int (ms.getD i 0 : Nat)]) hT)
      have e4 : upd H3 T (.tup [.int (i : Nat),.int (ms.getD i 0 : Nat)]) T=some (.tup [.int (i : Nat),.int (ms.getD i 0 : Nat)]):=upd_same
      generalize upd H3 T (.tup [.int (i : Nat),.int (ms.getD i 0 : Nat)])=H4 at s4 e4 ⊢
      generalize hA : z0 + CI.sg (fun p=>CI.over (ms.getD p 0) os.length (fun w=>(W.getD w []).getD p 0) (ps.getD p 0) fun w=>qs.getD w 0) i=A
      refine ⟨T,_,rfl,SqT.of e4,rfl,_,_,rfl,_,_,rfl,rfl,?_⟩
      refine ⟨_,rfl,.ref po,os.length,rfl,.inl ⟨_,s4.seq ho,by rw [zm]⟩,_,rfl,by omega,by omega,fun c3 hc3=>?_⟩
      refine vN hc3 (xO (P:=fun _=>True)) (fun σ=>∃ v,σ=[v,some (.int (ms.getD i 0 : Nat))]) (fun x=>match x with | .int z=>if (ms.getD i 0).testBit z.toNat then some (.int z) else none | _=>none) ⟨_,rfl⟩ (fun _ _=>trivial) (by rw [List.length_map,List.length_range]; omega) ?_ ?_
      · rintro x ys σ H' R1 R0 hx ⟨v,rfl⟩ s5 k1 k0
        obtain ⟨j,hj,rfl⟩:=List.mem_map.mp hx
        rw [show (0 : Int) + (j : Nat)=(j : Nat) by omega] at k1 k0 ⊢
        refine ⟨_,rfl,_,rfl,ms.getD i 0,_,rfl,_,rfl,?_⟩
        rw [decide_eq_true (show (0 : Int)≤(j : Nat) by omega),Bool.true_and,Int.toNat_natCast]
        have te : (if (ms.getD i 0).testBit ((j : Nat) : Int).toNat=true then some (V.int (j : Nat)) else none)=(if (ms.getD i 0).testBit j=true then some (V.int (j : Nat)) else none):=by rw [Int.toNat_natCast]
        refine ite2 (fun h1=>?_) (fun h1=>?_)
        · exact ⟨_,rfl,k1 _ _ _ ⟨_,rfl⟩ (te.trans (if_pos h1)) (Same.refl _)⟩
        · exact k0 _ _ ⟨_,rfl⟩ (te.trans (if_neg h1)) (Same.refl _)
      intro H5 s5 e5
      rw [Int.toNat_natCast,zbT] at e5
      have s45:=s4.trans s5
      have mem : ∀ x∈(List.range os.length).filter fun w=>(ms.getD i 0).testBit w,x < os.length:=fun x hx=>List.mem_range.mp (List.mem_filter.mp hx).1
      have lf : ((List.range os.length).filter fun w=>(ms.getD i 0).testBit w).length≤os.length:=Nat.le_trans (List.length_filter_le _ _) (by rw [List.length_range]; exact Nat.le_refl _)
      generalize hL : (List.range os.length).filter (fun w=>(ms.getD i 0).testBit w)=L at e5 mem lf
      refine ⟨_,rfl,_,rfl,c3,rfl,⟨_,SqL.of e5⟩,fun c4 hc4=>?_⟩
      refine xo hc4 zF (fun σ=>∃ v,σ=[v,some (.int (i : Nat)),some (.ref pW),some (.ref pp),some (.ref pq)]) (nV (L.map fun w=>(W.getD w []).getD i 0 - ps.getD i 0 - qs.getD w 0)) (by rw [zm,zm,List.length_map]) ⟨_,rfl⟩ (fun H' s'=>SqL.of (s' _ _ e5)) (by rw [zm]; omega) ?_ ?_
      · rintro j x z σ H6 R1 R0 hx hz ⟨v,rfl⟩ s6 k1
        obtain ⟨hj,rfl⟩:=yr hx
        obtain ⟨hj',rfl⟩:=yr hz
        have hw' : L.getD j 0 < os.length:=mem _ (List.mem_of_getElem? (getD_at hj))
        have hr : W[L.getD j 0]?=some (W.getD (L.getD j 0) []):=by
          rw [List.getD_eq_getElem?_getD (l:=W),List.getElem?_eq_getElem (by omega : L.getD j 0 < W.length)]
          rfl
        have s56:=s45.trans s6
        have e : (L.map fun w=>(W.getD w []).getD i 0 - ps.getD i 0 - qs.getD w 0).getD j 0=(W.getD (L.getD j 0) []).getD i 0 - ps.getD i 0 - qs.getD (L.getD j 0) 0:=by
          rw [List.getD_eq_getElem?_getD,List.getElem?_map,getD_at hj]
          rfl
        rw [e] at k1
        refine ⟨_,rfl,_,rfl,_,rfl,_,rfl,_,rfl,i,L.getD j 0,pW,pp,pq,zs,W,_,ps,qs,rfl,s56.seq hW,hE.up (fun v a=>NL.up s56),hr,?_,s56.seq hpp,s56.seq hpq,by omega,by omega,k1 _ _ ⟨_,rfl⟩ (Same.refl _)⟩
        rw [lr _ (List.mem_of_getElem? hr)]
        exact hi
      intro H6 s6 e6
      rw [show nV (L.map fun w=>(W.getD w []).getD i 0 - ps.getD i 0 - qs.getD w 0)=(L.map fun w=>(((W.getD w []).getD i 0 - ps.getD i 0 - qs.getD w 0 : Nat) : Int)).map V.int by unfold nV; rw [List.map_map,List.map_map]; rfl] at e6
      refine ⟨c4,_,rfl,SqL.of e6,?_⟩
      rw [CI.zaC (fun w=>(W.getD w []).getD i 0 - ps.getD i 0 - qs.getD w 0),← hL,CI.zaB]
      refine ⟨_,_,rfl,rfl,⟨some (.int (i : Nat)),some (.int (ms.getD i 0 : Nat)),some (.ref c3),?_⟩,s45.trans s6⟩
      show [_,_,_,_,_,_,some (V.int (((A : Nat) : Int) + ((CI.over (ms.getD i 0) os.length (fun w=>(W.getD w []).getD i 0) (ps.getD i 0) (fun w=>qs.getD w 0) : Nat) : Int))),_,_,_]=_
      rw [CI.sg,← Nat.add_assoc,hA,← Int.natCast_add]
    rintro σ H3 ⟨⟨v1,v2,v3,rfl⟩,s3⟩
    refine ⟨_,rfl,?_⟩
    have q':=q H3 s3
    unfold CI.w6 at q'
    rw [hz0,← zm ms] at q'
    exact q'
noncomputable def zaX (K : PySem.W.Frag) : Sp:=fun vs H Q _=>L23.E3 fun (p : Addr) (xs : List V) (ps : List CP.Pr)=>L23.A5 (vs=[.ref p]) (SqL K H p xs) (zc K H xs (ps.map CP.pairD)) (ps.length≤1000) (∀ H',Same H H'→Q (.bl (CP.ym ps)) H')
theorem zea {f : Addr} {fd : FuncData} (F : Fun K "is_rising" "is_rising" yX f fd) (T : Txt K mg a) : FnOk P w K mg base CX0 1 f fd ["things"] (zaX K):=by
  refine F.ok zdA (fun vs H Q E h=>?_) (fun cdv A outer s H vs Q E hr h=>?_)
  · obtain ⟨p,xs,ps,rfl,_⟩:=h
    rfl
  · obtain ⟨p,xs,ps,rfl,hp,hA,hl,q⟩:=h
    refine ⟨_,(pss_one (ps_ret (zo (sc:=defScope yX) (ZA rfl) rfl (by decide +kernel) T.Zl WI (pa_cons (zN rfl (N:=["one","other"]) (own:=2) (js:=[]) (X:=(cxOf CX0 P w K mg base YH "is_rising" (defScope yX) f cdv A outer s H E).nox) (zM (defScope yX) YH rfl rfl (by decide +kernel)) (L5.ZO (glR (sc:=defScope yX) rfl (by decide +kernel)) T.jI (pa_cons (pvA 0 (defScope yX) YH rfl rfl) (pa_cons (pe_slice sl_list (pvA 0 (defScope yX) YH rfl rfl) (po_some pe_int) po_none) pa_nil))) (fun fp0 sx0 Hx0=>(yU (K:=K) rfl (pg_tup (n:=2) (by rfl) (pgs_cons (pgN (i:=0) (sc:=zb _ (defScope yX)) (M:=["one","other"]) rfl rfl (by decide +kernel)) (pgs_cons (pgN (i:=1) (sc:=zb _ (defScope yX)) (M:=["one","other"]) rfl rfl (by decide +kernel)) pgs_nil))))) (fun fp0 sx0 Hx0=>zG) (fun fp0 sx0 Hx0=>(pe_cmpR (kOp (r:=rLtT) (K:=K) rfl (op_ltT (L12.hu0 hr))) (pvN (i:=0) (sc:=zb _ (defScope yX)) (M:=["one","other"]) rfl rfl (by decide +kernel)) (pvN (i:=1) (sc:=zb _ (defScope yX)) (M:=["one","other"]) rfl rfl (by decide +kernel)) (nomark _)))) pa_nil)))),?_⟩
    try dsimp only [cxOf,Cx.nox]
    have hs : sizeLine=16777216:=sizeLine_eq
    have lx:=zc.length hA
    rw [List.length_map] at lx
    refine ⟨_,rfl,_,rfl,_,rfl,p,_,rfl,hp,fun p2 hp2=>?_⟩
    rw [zfL]
    have s1:=Same.zp (o := .lst (xs.drop 1)) hp2
    have e1 : upd H p2 (.lst (xs.drop 1)) p2=some (.lst (xs.drop 1)):=upd_same
    generalize upd H p2 (.lst (xs.drop 1))=H1 at s1 e1 ⊢
    have ld : (xs.drop 1).length=ps.length - 1:=by rw [List.length_drop,lx]
    refine ⟨p,p2,rfl,⟨_,s1.seq hp⟩,⟨_,SqL.of e1⟩,fun c hc=>?_⟩
    refine L5.j9 (xs:=xs) (ys:=xs.drop 1) hc (fun H' s'=>⟨(s1.trans s').seq hp,SqL.of (s' _ _ e1)⟩) (fun σ=>L23.E2 fun v1 v2=>σ=[v1,v2]) (fun i _ _=>some (.bl (CP.wH (CP.at' ps i) (CP.at' ps (i + 1))))) ⟨_,_,rfl⟩ (by rw [List.length_drop]; omega) (by omega) ?_ ?_
    · rintro i x y σ H2 T R1 R0 hx hy ⟨v1,v2,rfl⟩ s2 hT k1 k0
      rw [List.getElem?_drop,Nat.add_comm 1 i] at hy
      obtain ⟨a,t,ha,rfl,et⟩:=CP.pairs_at hA hx
      obtain ⟨b,u,hb,rfl,eu⟩:=CP.pairs_at hA hy
      have s3:=s1.trans (s2.trans (Same.zp (o := .tup [.ref t,.ref u]) hT))
      refine ⟨T,_,rfl,SqT.of upd_same,rfl,_,_,rfl,_,_,rfl,rfl,_,rfl,_,rfl,t,u,[a.1,a.2],[b.1,b.2],rfl,rfl,SqT.of (s3 _ _ et),SqT.of (s3 _ _ eu),k1 _ _ _ ⟨_,_,rfl⟩ ?_ (Same.zp hT)⟩
      rw [CP.at_of ha,CP.at_of hb]
      rfl
    · intro H2 s2 e2
      have e2' : L5.vt (fun i _ _=>some (V.bl (CP.wH (CP.at' ps i) (CP.at' ps (i + 1))))) xs (xs.drop 1) (xs.drop 1).length=((List.range (ps.length - 1)).map fun i=>CP.wH (CP.at' ps i) (CP.at' ps (i + 1))).map V.bl:=by
        unfold L5.vt
        rw [ld,List.map_map]
        refine CG.filterMap_some fun i hi=>?_
        have hi':=List.mem_range.mp hi
        rw [List.getElem?_eq_getElem (by omega : i < xs.length),List.getElem?_eq_getElem (by omega : i < (xs.drop 1).length)]
        rfl
      rw [e2'] at e2
      exact ⟨c,_,rfl,SqL.of e2,q H2 (s1.trans s2)⟩
noncomputable def zaY (K : PySem.W.Frag) : Sp:=fun vs H Q _=>L23.E6 fun (w : Int) (p : Int) (po : Addr) (pm : Addr) (os : List Nat) (ms : List Nat)=>L23.A4 (vs=[.int w,.int p,.ref po,.ref pm]) (SqL K H po (nV os)) (SqL K H pm (nV ms)) (Q (.bl (CP.v8 os ms w p)) H)
theorem zeb {f : Addr} {fd yw : FuncData} (F : Fun K "can_be_paired" "can_be_paired" yK f fd) (T : Txt K mg a)
    (xD : FnOk P w K mg base CX0 1 a.has yw ["mask","number"] (j5 K)) (xh : Fun K "has" "has" xM a.has yw) (xE : Binds K yw ["mask","number"] []) : FnOk P w K mg base CX0 2 f fd ["work","place","oftens","masks"] (zaY K):=by
  refine F.ok zdB (fun vs H Q E h=>?_) (fun cdv A outer s H vs Q E hr h=>?_)
  · obtain ⟨w,p,po,pm,os,ms,rfl,_⟩:=h
    rfl
  · obtain ⟨wk,pl,po,pm,os,ms,rfl,ho,hm,q⟩:=h
    refine ⟨_,(pss_cons (ps_if (PW.pt (pw_or (pt_cmpR op_lt (pvA 0 (defScope yK) vG rfl rfl) pe_int (nomark _)) (pw_or (pt_cmpR op_ge (pvA 0 (defScope yK) vG rfl rfl) (zo (sc:=defScope yK) call_len rfl (by decide +kernel) T.yj yd (pa_cons (pvA 2 (defScope yK) vG rfl rfl) pa_nil)) (nomark _)) (pw_or (pt_cmpR op_lt (pvA 1 (defScope yK) vG rfl rfl) pe_int (nomark _)) (pw_or1 (pt_cmpR op_ge (pvA 1 (defScope yK) vG rfl rfl) (zo (sc:=defScope yK) call_len rfl (by decide +kernel) T.yj yd (pa_cons (pvA 3 (defScope yK) vG rfl rfl) pa_nil)) (nomark _))))))) (pss_one (ps_ret pe_bl)) pss_nil)
      (pss_one (ps_ret (zk (sc:=defScope yK) xD (hr.mono (by decide)) rfl (by decide +kernel) T.YJ xh.kp xE .nil pass0 (pa_cons (pe_ix ix_list (pvA 3 (defScope yK) vG rfl rfl) (pvA 1 (defScope yK) vG rfl rfl) (fun _ _=>rfl)) (pa_cons (pvA 0 (defScope yK) vG rfl rfl) pa_nil)))))),?_⟩
    try dsimp only [cxOf,Cx.nox]
    unfold CP.v8 at q
    refine ⟨_,rfl,_,_,rfl,rfl,_,rfl,ite2 (fun h1=>?_) (fun h1=>?_)⟩
    · have h1' : wk < 0:=of_decide_eq_true h1
      rw [decide_eq_false (show ¬ 0≤wk by omega),Bool.false_and,Bool.false_and,Bool.false_and] at q
      exact q
    have h1' : 0≤wk:=by have : ¬ wk < 0:=fun z=>h1 (decide_eq_true z); omega
    rw [decide_eq_true h1',Bool.true_and] at q
    refine ⟨_,rfl,_,rfl,.ref po,os.length,rfl,.inl ⟨_,ho,by rw [zm]⟩,_,_,rfl,rfl,_,rfl,ite2 (fun h2=>?_) (fun h2=>?_)⟩
    · have h2' : ((os.length : Nat) : Int)≤wk:=of_decide_eq_true h2
      rw [decide_eq_false (show ¬ wk < (os.length : Nat) by omega),Bool.false_and,Bool.false_and] at q
      exact q
    have h2' : wk < (os.length : Nat):=by have : ¬ ((os.length : Nat) : Int)≤wk:=fun z=>h2 (decide_eq_true z); omega
    rw [decide_eq_true h2',Bool.true_and] at q
    refine ⟨_,rfl,_,_,rfl,rfl,_,rfl,ite2 (fun h3=>?_) (fun h3=>?_)⟩
    · have h3' : pl < 0:=of_decide_eq_true h3
      rw [decide_eq_false (show ¬ 0≤pl by omega),Bool.false_and,Bool.false_and] at q
      exact q
    have h3' : 0≤pl:=by have : ¬ pl < 0:=fun z=>h3 (decide_eq_true z); omega
    rw [decide_eq_true h3',Bool.true_and] at q
    refine ⟨_,rfl,_,rfl,.ref pm,ms.length,rfl,.inl ⟨_,hm,by rw [zm]⟩,_,_,rfl,rfl,_,rfl,ite2 (fun h4=>?_) (fun h4=>?_)⟩
    · have h4' : ((ms.length : Nat) : Int)≤pl:=of_decide_eq_true h4
      rw [decide_eq_false (show ¬ pl < (ms.length : Nat) by omega),Bool.false_and] at q
      exact q
    have h4' : pl < (ms.length : Nat):=by have : ¬ ((ms.length : Nat) : Int)≤pl:=fun z=>h4 (decide_eq_true z); omega
    rw [decide_eq_true h4',Bool.true_and] at q
    refine ⟨_,rfl,_,rfl,pm,_,_,_,rfl,rfl,hm,(by rw [← Int.toNat_of_nonneg h3']; exact zP (by omega)),_,rfl,_,wk,rfl,?_⟩
    rw [decide_eq_true h1',Bool.true_and]
    exact q
noncomputable def zaZ (K : PySem.W.Frag) : Sp:=fun vs H Q _=>L23.E4 fun (pn : Addr) (pb : Addr) (ns : List Int) (bs : List Nat)=>L23.A5 (vs=[.ref pn,.ref pb]) (SqL K H pn (ns.map V.int)) (SqL K H pb (nV bs)) (bs.length≤1000) (∀ H',Same H H'→Q (.bl (CP.jX ns bs)) H')
theorem zec {f : Addr} {fd : FuncData} (F : Fun K "none_above" "none_above" yY f fd) (T : Txt K mg a) : FnOk P w K mg base CX0 1 f fd ["numbers","bounds"] (zaZ K):=by
  refine F.ok zdC (fun vs H Q E h=>?_) (fun cdv A outer s H vs Q E hr h=>?_)
  · obtain ⟨pn,pb,ns,bs,rfl,_⟩:=h
    rfl
  · obtain ⟨pn,pb,ns,bs,rfl,hn,hb,hl,q⟩:=h
    refine ⟨_,(pss_one (ps_ret (zo (sc:=defScope yY) (ZA rfl) rfl (by decide +kernel) T.Zl WI (pa_cons (zN rfl (N:=["number","bound","numbers"]) (own:=2) (js:=[0]) (X:=(cxOf CX0 P w K mg base Wr "none_above" (defScope yY) f cdv A outer s H E).nox) (zM (defScope yY) Wr rfl rfl (by decide +kernel)) (xH (glR (sc:=defScope yY) rfl (by decide +kernel)) T.zT (pa_cons (pvA 1 (defScope yY) Wr rfl rfl) pa_nil)) (fun fp0 sx0 Hx0=>(yU (K:=K) rfl (pg_tup (n:=2) (by rfl) (pgs_cons (pgN (i:=0) (sc:=zb _ (defScope yY)) (M:=["number","bound","numbers"]) rfl rfl (by decide +kernel)) (pgs_cons (pgN (i:=1) (sc:=zb _ (defScope yY)) (M:=["number","bound","numbers"]) rfl rfl (by decide +kernel)) pgs_nil))))) (fun fp0 sx0 Hx0=>zG) (fun fp0 sx0 Hx0=>(pe_cmpR op_le (kBM (K:=K) rfl (pe_bm PySem.F.plainAttrs_list PySem.F.slot_list_count PySem.F.type_list_count (kMt (r:=L12.zav) (K:=K) rfl L12.zbf) (pvN (i:=2) (sc:=zb _ (defScope yY)) (M:=["number","bound","numbers"]) rfl rfl (by decide +kernel)) (pa_cons (pvN (i:=0) (sc:=zb _ (defScope yY)) (M:=["number","bound","numbers"]) rfl rfl (by decide +kernel)) pa_nil))) (pvN (i:=1) (sc:=zb _ (defScope yY)) (M:=["number","bound","numbers"]) rfl rfl (by decide +kernel)) (nomark _)))) pa_nil)))),?_⟩
    try dsimp only [cxOf,Cx.nox]
    have hs : sizeLine=16777216:=sizeLine_eq
    refine ⟨_,rfl,pb,rfl,⟨_,hb⟩,fun c hc=>?_⟩
    refine L5.jz hc (fun H' s'=>s'.seq hb) (fun σ=>L23.E2 fun v1 v2=>σ=[v1,v2,some (.ref pn)]) (fun i _=>some (.bl (decide (ns.count ((i : Nat) : Int)≤bs.getD i 0)))) ⟨_,_,rfl⟩ (by rw [zm]; omega) ?_ ?_
    · rintro i y σ H1 T R1 R0 hy ⟨v1,v2,rfl⟩ s1 hT k1 k0
      unfold nV at hy
      rw [List.getElem?_map] at hy
      obtain ⟨o,ho',rfl⟩:=Option.map_eq_some_iff.mp hy
      have s2:=s1.trans (Same.zp (o := .tup [.int (0 + (i : Nat)),.int (o : Nat)]) hT)
      rw [show (0 : Int) + (i : Nat)=(i : Nat) by omega] at s2 ⊢
      refine ⟨T,_,rfl,SqT.of upd_same,rfl,_,_,rfl,_,_,rfl,rfl,_,rfl,.inl ⟨rfl,_,s2.seq hn⟩,_,rfl,pn,ns,(i : Nat),rfl,rfl,s2.seq hn,_,rfl,_,_,rfl,rfl,k1 _ _ _ ⟨_,_,rfl⟩ ?_ (Same.zp hT)⟩
      rw [CG.Xv ho']
      congr 2
      exact decide_eq_decide.mpr (by omega)
    · intro H1 s1 e1
      have e1' : L5.yV (fun i _=>some (V.bl (decide (ns.count ((i : Nat) : Int)≤bs.getD i 0)))) (nV bs) (nV bs).length=((List.range bs.length).map fun i=>decide (ns.count ((i : Nat) : Int)≤bs.getD i 0)).map V.bl:=by
        unfold L5.yV
        rw [zm,List.map_map]
        refine CG.filterMap_some fun i hi=>?_
        unfold nV
        rw [List.getElem?_map,List.getElem?_eq_getElem (List.mem_range.mp hi)]
        rfl
      rw [e1'] at e1
      exact ⟨c,_,rfl,SqL.of e1,q H1 s1⟩
noncomputable def za0 (K : PySem.W.Frag) : Sp:=fun vs H Q _=>L23.E8 fun (pp : Addr) (pw : Addr) (po : Addr) (pm : Addr) (xs : List V) (ps : List CP.Pr) (ws : List Nat) (os : List Nat)=>∃ (ms : List Nat),L23.A10 (vs=[.ref pp,.ref pw,.ref po,.ref pm]) (SqL K H pp xs) (zc K H xs (ps.map CP.pairD)) (SqL K H pw (nV ws)) (SqL K H po (nV os)) (SqL K H pm (nV ms)) (ps.length≤1000) (os.length≤1000) (ws.length≤1000) (∀ H',Same H H'→Q (.bl (CP.yW ps ws os ms)) H')
theorem zed {f : Addr} {fd Vv Vw Vx : FuncData} (F : Fun K "is_dealing" "is_dealing" zO f fd) (T : Txt K mg a)
    (JX : FnOk P w K mg base CX0 2 a.vY Vv ["work","place","oftens","masks"] (zaY K)) (YV : Fun K "can_be_paired" "can_be_paired" yK a.vY Vv) (JY : Binds K Vv ["work","place","oftens","masks"] [])
    (JZ : FnOk P w K mg base CX0 1 a.ZI Vw ["things"] (zaX K)) (YW : Fun K "is_rising" "is_rising" yX a.ZI Vw) (J1 : Binds K Vw ["things"] [])
    (Wz : FnOk P w K mg base CX0 1 a.Zh Vx ["numbers","bounds"] (zaZ K)) (Z2 : Fun K "none_above" "none_above" yY a.Zh Vx) (WA : Binds K Vx ["numbers","bounds"] []) : FnOk P w K mg base CX0 3 f fd ["pairs","wants","oftens","masks"] (za0 K):=by
  refine F.ok zdD (fun vs H Q E h=>?_) (fun cdv A outer s H vs Q E hr h=>?_)
  · obtain ⟨pp,pw,po,pm,xs,ps,ws,os,ms,rfl,_⟩:=h
    rfl
  · obtain ⟨pp,pw,po,pm,xs,ps,ws,os,ms,rfl,hp,hA,hw,ho,hm,l1,l2,l3,q⟩:=h
    refine ⟨_,(pss_cons (ps_if (pt_not (pt_val (zk (sc:=defScope zO) JZ (hr.mono (by decide)) rfl (by decide +kernel) T.zfr YW.kp J1 .nil pass0 (pa_cons (pvA 0 (defScope zO) xY rfl rfl) pa_nil)))) (pss_one (ps_ret pe_bl)) pss_nil)
      (pss_cons (ps_if (pt_not (pt_val (zo (sc:=defScope zO) (ZA rfl) rfl (by decide +kernel) T.Zl WI (pa_cons (zN rfl (N:=["work","place","oftens","masks"]) (own:=2) (js:=[2,3]) (X:=(cxOf CX0 P w K mg base xY "is_dealing" (defScope zO) f cdv A outer s H E).nox) (zM (defScope zO) xY rfl rfl (by decide +kernel)) (pi_list (pvA 0 (defScope zO) xY rfl rfl)) (fun fp0 sx0 Hx0=>(yU (K:=K) rfl (pg_tup (n:=2) (by rfl) (pgs_cons (pgN (i:=0) (sc:=zb _ (defScope zO)) (M:=["work","place","oftens","masks"]) rfl rfl (by decide +kernel)) (pgs_cons (pgN (i:=1) (sc:=zb _ (defScope zO)) (M:=["work","place","oftens","masks"]) rfl rfl (by decide +kernel)) pgs_nil))))) (fun fp0 sx0 Hx0=>zG) (fun fp0 sx0 Hx0=>(zk (sc:=zb _ (defScope zO)) JX (hr.mono (by decide)) rfl (by decide +kernel) T.zfs YV.kp JY .nil pass0 (pa_cons (pvN (i:=0) (sc:=zb _ (defScope zO)) (M:=["work","place","oftens","masks"]) rfl rfl (by decide +kernel)) (pa_cons (pvN (i:=1) (sc:=zb _ (defScope zO)) (M:=["work","place","oftens","masks"]) rfl rfl (by decide +kernel)) (pa_cons (pvN (i:=2) (sc:=zb _ (defScope zO)) (M:=["work","place","oftens","masks"]) rfl rfl (by decide +kernel)) (pa_cons (pvN (i:=3) (sc:=zb _ (defScope zO)) (M:=["work","place","oftens","masks"]) rfl rfl (by decide +kernel)) pa_nil))))))) pa_nil)))) (pss_one (ps_ret pe_bl)) pss_nil)
      (pss_one (ps_ret (pe_and (zk (sc:=defScope zO) Wz (hr.mono (by decide)) rfl (by decide +kernel) T.zch Z2.kp WA .nil pass0 (pa_cons (zN rfl (N:=["work","place"]) (own:=2) (js:=[]) (X:=(cxOf CX0 P w K mg base xY "is_dealing" (defScope zO) f cdv A outer s H E).nox) (zM (defScope zO) xY rfl rfl (by decide +kernel)) (pi_list (pvA 0 (defScope zO) xY rfl rfl)) (fun fp0 sx0 Hx0=>(yU (K:=K) rfl (pg_tup (n:=2) (by rfl) (pgs_cons (pgN (i:=0) (sc:=zb _ (defScope zO)) (M:=["work","place"]) rfl rfl (by decide +kernel)) (pgs_cons (pgN (i:=1) (sc:=zb _ (defScope zO)) (M:=["work","place"]) rfl rfl (by decide +kernel)) pgs_nil))))) (fun fp0 sx0 Hx0=>zG) (fun fp0 sx0 Hx0=>(pvN (i:=0) (sc:=zb _ (defScope zO)) (M:=["work","place"]) rfl rfl (by decide +kernel)))) (pa_cons (pvA 2 (defScope zO) xY rfl rfl) pa_nil))) (pe_one (zk (sc:=defScope zO) Wz (hr.mono (by decide)) rfl (by decide +kernel) T.zch Z2.kp WA .nil pass0 (pa_cons (zN rfl (N:=["work","place"]) (own:=2) (js:=[]) (X:=(cxOf CX0 P w K mg base xY "is_dealing" (defScope zO) f cdv A outer s H E).nox) (zM (defScope zO) xY rfl rfl (by decide +kernel)) (pi_list (pvA 0 (defScope zO) xY rfl rfl)) (fun fp0 sx0 Hx0=>(yU (K:=K) rfl (pg_tup (n:=2) (by rfl) (pgs_cons (pgN (i:=0) (sc:=zb _ (defScope zO)) (M:=["work","place"]) rfl rfl (by decide +kernel)) (pgs_cons (pgN (i:=1) (sc:=zb _ (defScope zO)) (M:=["work","place"]) rfl rfl (by decide +kernel)) pgs_nil))))) (fun fp0 sx0 Hx0=>zG) (fun fp0 sx0 Hx0=>(pvN (i:=1) (sc:=zb _ (defScope zO)) (M:=["work","place"]) rfl rfl (by decide +kernel)))) (pa_cons (pvA 1 (defScope zO) xY rfl rfl) pa_nil))))))))),?_⟩
    try dsimp only [cxOf,Cx.nox]
    have hs : sizeLine=16777216:=sizeLine_eq
    have lx:=zc.length hA
    rw [List.length_map] at lx
    unfold CP.yW at q
    refine ⟨_,rfl,pp,xs,ps,rfl,hp,hA,l1,fun H1 s1=>⟨_,rfl,ite2 (fun h1=>?_) (fun h1=>?_)⟩⟩
    · rw [show CP.ym ps=false by cases e : CP.ym ps with | true=>rw [e] at h1; cases h1 | false=>rfl,Bool.false_and] at q
      exact q _ s1
    have h1' : CP.ym ps=true:=by cases e : CP.ym ps with | true=>rfl | false=>rw [e] at h1; exact absurd rfl h1
    rw [h1',Bool.true_and] at q
    refine ⟨_,rfl,pp,rfl,⟨_,s1.seq hp⟩,fun c hc=>?_⟩
    refine xo hc zF (fun σ=>L23.E2 fun v1 v2=>σ=[v1,v2,some (.ref po),some (.ref pm)]) ((ps.map fun z=>CP.v8 os ms z.1 z.2).map V.bl) (by rw [List.length_map,List.length_map,lx]) ⟨_,_,rfl⟩ (fun H' s'=>(s1.trans s').seq hp) (by omega) ?_ ?_
    · rintro i x z σ H2 R1 R0 hx hz ⟨v1,v2,rfl⟩ s2 k1
      obtain ⟨a,t,ha,rfl,et⟩:=CP.pairs_at hA hx
      rw [List.getElem?_map,List.getElem?_map,ha] at hz
      obtain rfl:=Option.some.inj hz
      have s3:=s1.trans s2
      exact ⟨t,_,rfl,SqT.of (s3 _ _ et),rfl,_,_,rfl,_,_,rfl,rfl,_,rfl,_,rfl,_,rfl,_,rfl,a.1,a.2,po,pm,os,ms,rfl,s3.seq ho,s3.seq hm,k1 _ _ ⟨_,_,rfl⟩ (Same.refl _)⟩
    intro H2 s2 e2
    refine ⟨c,_,rfl,SqL.of e2,_,rfl,ite2 (fun h2=>?_) (fun h2=>?_)⟩
    · have h2' : CP.v9 ps os ms=false:=by cases e : CP.v9 ps os ms with | true=>unfold CP.v9 at e; rw [e] at h2; cases h2 | false=>rfl
      rw [h2',Bool.false_and] at q
      exact q _ (s1.trans s2)
    have h2' : CP.v9 ps os ms=true:=by cases e : CP.v9 ps os ms with | true=>rfl | false=>unfold CP.v9 at e; rw [e] at h2; exact absurd rfl h2
    rw [h2',Bool.true_and] at q
    have s12:=s1.trans s2
    refine ⟨_,rfl,pp,rfl,⟨_,s12.seq hp⟩,fun c3 hc3=>?_⟩
    refine xo hc3 zF (fun σ=>L23.E2 fun v1 v2=>σ=[v1,v2]) ((ps.map Prod.fst).map V.int) (by rw [List.length_map,List.length_map,lx]) ⟨_,_,rfl⟩ (fun H' s'=>(s12.trans s').seq hp) (by omega) ?_ ?_
    · rintro i x z σ H3 R1 R0 hx hz ⟨v1,v2,rfl⟩ s3 k1
      obtain ⟨a,t,ha,rfl,et⟩:=CP.pairs_at hA hx
      rw [List.getElem?_map,List.getElem?_map,ha] at hz
      obtain rfl:=Option.some.inj hz
      exact ⟨t,_,rfl,SqT.of ((s12.trans s3) _ _ et),rfl,_,_,rfl,_,_,rfl,rfl,_,rfl,k1 _ _ ⟨_,_,rfl⟩ (Same.refl _)⟩
    intro H3 s3 e3
    have s13:=s12.trans s3
    refine ⟨_,rfl,c3,po,_,os,rfl,SqL.of e3,s13.seq ho,l2,fun H4 s4=>?_⟩
    have s14:=s13.trans s4
    refine ⟨_,rfl,ite2 (fun h3=>?_) (fun h3=>?_)⟩
    · rw [h3,Bool.true_and] at q
      refine ⟨_,rfl,pp,rfl,⟨_,s14.seq hp⟩,fun c5 hc5=>?_⟩
      refine xo hc5 zF (fun σ=>L23.E2 fun v1 v2=>σ=[v1,v2]) ((ps.map Prod.snd).map V.int) (by rw [List.length_map,List.length_map,lx]) ⟨_,_,rfl⟩ (fun H' s'=>(s14.trans s').seq hp) (by omega) ?_ ?_
      · rintro i x z σ H5 R1 R0 hx hz ⟨v1,v2,rfl⟩ s5 k1
        obtain ⟨a,t,ha,rfl,et⟩:=CP.pairs_at hA hx
        rw [List.getElem?_map,List.getElem?_map,ha] at hz
        obtain rfl:=Option.some.inj hz
        exact ⟨t,_,rfl,SqT.of ((s14.trans s5) _ _ et),rfl,_,_,rfl,_,_,rfl,rfl,_,rfl,k1 _ _ ⟨_,_,rfl⟩ (Same.refl _)⟩
      intro H5 s5 e5
      have s15:=s14.trans s5
      exact ⟨_,rfl,c5,pw,_,ws,rfl,SqL.of e5,s15.seq hw,l3,fun H6 s6=>q _ (s15.trans s6)⟩
    · have h3' : CP.jX (ps.map Prod.fst) os=false:=Bool.eq_false_iff.mpr h3
      rw [h3',Bool.false_and] at q
      exact q _ s14
noncomputable def yl (c k : Int) : Int:=(c % 2147483647 + 31 * k + 1) * 48271 * (c % 2147483647 + 3 * k + 7) % 2147483629
theorem zee (c k : Int) : 0≤yl c k:=Int.emod_nonneg _ (by decide)
noncomputable def ZN (_ : PySem.W.Frag) : Sp:=fun vs H Q _=>L23.E2 fun (c : Int) (k : Int)=>L23.A4 (vs=[.int c,.int k]) (0≤k) (k≤1000) (Q (.int (yl c k)) H)
theorem zef {f : Addr} {fd : FuncData} (F : Fun K "_law_mixed" "_law_mixed" xw f fd) (T : Txt K mg a) : FnOk P w K mg base CX0 1 f fd ["_law_cell","_law_k"] (ZN K):=by
  refine F.ok zdF (fun vs H Q E h=>?_) (fun cdv A outer s H vs Q E hr h=>?_)
  · obtain ⟨c,k,rfl,_⟩:=h
    rfl
  · obtain ⟨c,k,rfl,h0,h1,q⟩:=h
    refine ⟨_,(pss_cons (psN (i:=2) (sc:=defScope xw) (M:=Zf) rfl rfl (by decide +kernel) (pe_op op_mod (pvA 0 (defScope xw) Zf rfl rfl) pe_int))
      (pss_one (ps_ret (pe_op op_mod (pe_op op_mul (pe_op op_mul (pe_op op_add (pe_op op_add (pvA 2 (defScope xw) Zf rfl rfl) (pe_op op_mul pe_int (pvA 1 (defScope xw) Zf rfl rfl))) pe_int) pe_int) (pe_op op_add (pe_op op_add (pvA 2 (defScope xw) Zf rfl rfl) (pe_op op_mul pe_int (pvA 1 (defScope xw) Zf rfl rfl))) pe_int)) pe_int)))),?_⟩
    try dsimp only [cxOf,Cx.nox]
    have a0 : 0≤c % 2147483647:=Int.emod_nonneg _ (by decide)
    have a1 : c % 2147483647 < 2147483647:=Int.emod_lt_of_pos _ (by decide)
    refine ⟨_,rfl,_,_,rfl,rfl,(by show (0 : Int) < 2147483647; decide),?_⟩
    refine ⟨_,rfl,_,rfl,_,_,rfl,rfl,.inl ⟨by decide,by decide⟩,_,_,rfl,rfl,_,_,rfl,rfl,_,_,rfl,rfl,.inr ⟨by decide,by decide⟩,?_⟩
    refine ⟨_,rfl,_,rfl,_,_,rfl,rfl,.inl ⟨by decide,by decide⟩,_,_,rfl,rfl,_,_,rfl,rfl,_,_,rfl,rfl,.inr ⟨?_,?_⟩,?_⟩
    · show (-(2 ^ 64) : Int) < c % 2147483647 + 3 * k + 7
      omega
    · show c % 2147483647 + 3 * k + 7 < (2 ^ 64 : Int)
      omega
    exact ⟨_,_,rfl,rfl,(by show (0 : Int) < 2147483629; decide),q⟩
noncomputable def za1 (K : PySem.W.Frag) : Sp:=fun vs H Q _=>L23.E5 fun (p : Addr) (ms : List Nat) (w : Nat) (k : Nat) (m : Nat)=>L23.A4 (vs=[.ref p,.int w,.int k]) (SqL K H p (nV ms)) (ms[k]?=some m) (Q (.bl (m.testBit w)) H)
theorem zeg {f : Addr} {fd : FuncData} (F : Fun K "_law_fit" "_law_fit" vH f fd) (T : Txt K mg a) : FnOk P w K mg base CX0 1 f fd ["_law_masks","_law_work","_law_place"] (za1 K):=by
  refine F.ok zdH (fun vs H Q E h=>?_) (fun cdv A outer s H vs Q E hr h=>?_)
  · obtain ⟨p,ms,w,k,m,rfl,_⟩:=h
    rfl
  · obtain ⟨p,ms,w,k,m,rfl,hp,hm,q⟩:=h
    refine ⟨_,(pss_one (ps_ret (pe_cmpR op_eq (pe_op op_mod (pe_op op_shr (pe_ix ix_list (pvA 0 (defScope vH) Ws rfl rfl) (pvA 2 (defScope vH) Ws rfl rfl) (fun _ _=>rfl)) (pvA 1 (defScope vH) Ws rfl rfl)) pe_int) pe_int (nomark _)))),?_⟩
    try dsimp only [cxOf,Cx.nox]
    refine ⟨_,rfl,_,rfl,p,_,_,_,rfl,rfl,hp,atI_nat (by unfold nV; rw [List.getElem?_map,hm]; rfl),_,rfl,_,_,rfl,rfl,(by show (0 : Int)≤(w : Nat); omega),_,_,rfl,rfl,(by show (0 : Int) < 2; decide),rfl,?_⟩
    have e : m.testBit w=decide (V.int (((m : Nat) : Int) / 2 ^ ((w : Nat) : Int).toNat % 2)=V.int 1):=by
      rw [Int.toNat_natCast,Bool.eq_iff_iff,decide_eq_true_eq,← CG.zcw]
      exact ⟨fun z=>by rw [z],fun z=>V.int.inj z⟩
    rw [e] at q
    exact q
theorem zcS (n : Nat) : (List.replicate n [V.int 1]).flatten=nV (List.replicate n 1):=by
  induction n with
  | zero=>rfl
  | succ n ih=>rw [List.replicate_succ,List.flatten_cons,ih]; rfl
noncomputable def za2 (K : PySem.W.Frag) : Sp:=fun vs H Q _=>L23.E2 fun (a : Addr) (ns : List Int)=>L23.A4 (vs=[.ref a]) (SqL K H a (ns.map V.int)) (ns.length≤63) (∀ (ws os ms ks hs : List Nat) H' t pw po pm pk ph,Same H H'→CI.Good ws os ms ks hs→os.length≤7→H' t=some (.tup [.ref pw,.ref po,.ref pm,.ref pk,.ref ph])→H' pw=some (.lst (nV ws))→H' po=some (.lst (nV os))→H' pm=some (.lst (nV ms))→H' pk=some (.lst (nV ks))→H' ph=some (.lst (nV hs))→Q (.ref t) H')
theorem zeh {f : Addr} {fd jy yO : FuncData} (F : Fun K "_law_ground" "_law_ground" zj f fd) (T : Txt K mg a)
    (jO : FnOk P w K mg base CX0 1 a.wz jy ["_law_script","_law_k"] (Ve K)) (vL : Fun K "_law_cell_at" "_law_cell_at" xZ a.wz jy) (jP : Binds K jy ["_law_script","_law_k"] [])
    (yQ : FnOk P w K mg base CX0 1 a.yZ yO ["_law_cell","_law_k"] (ZN K)) (yG : Fun K "_law_mixed" "_law_mixed" xw a.yZ yO) (yR : Binds K yO ["_law_cell","_law_k"] []) : FnOk P w K mg base CX0 2 f fd ["_law_script"] (za2 K):=by
  refine F.ok zdG (fun vs H Q E h=>?_) (fun cdv A outer s H vs Q E hr h=>?_)
  · obtain ⟨a,ns,rfl,_⟩:=h
    rfl
  · obtain ⟨ad,ns,rfl,hS,hl,q⟩:=h
    refine ⟨_,(pss_cons (psN (i:=1) (sc:=defScope zj) (M:=zq) rfl rfl (by decide +kernel) (pe_op op_add pe_int (pe_op op_mod (zk (sc:=defScope zj) jO (hr.mono (by decide)) rfl (by decide +kernel) T.Wu vL.kp jP .nil pass0 (pa_cons (pvA 0 (defScope zj) zq rfl rfl) (pa_cons pe_int pa_nil))) pe_int)))
      (pss_cons (psN (i:=2) (sc:=defScope zj) (M:=zq) rfl rfl (by decide +kernel) (pe_lst pa_nil))
      (pss_cons (ps_for PassesOwn.never rfl (pi_range1 (glR (sc:=defScope zj) rfl (by decide +kernel)) T.yo (pa_cons (pvA 1 (defScope zj) zq rfl rfl) pa_nil)) (pgN (i:=3) (sc:=defScope zj) (M:=zq) rfl rfl (by decide +kernel)) (pss_cons (psN (i:=4) (sc:=defScope zj) (M:=zq) rfl rfl (by decide +kernel) (pe_op op_fdiv (zk (sc:=defScope zj) yQ (hr.mono (by decide)) rfl (by decide +kernel) T.vI yG.kp yR .nil pass0 (pa_cons (zk (sc:=defScope zj) jO (hr.mono (by decide)) rfl (by decide +kernel) T.Wu vL.kp jP .nil pass0 (pa_cons (pvA 0 (defScope zj) zq rfl rfl) (pa_cons pe_int pa_nil))) (pa_cons (pvA 3 (defScope zj) zq rfl rfl) pa_nil))) pe_int))
      (pss_cons (ps_expr (pe_bm PySem.F.plainAttrs_list PySem.F.slot_list_append PySem.F.type_list_append mt_append (pvA 2 (defScope zj) zq rfl rfl) (pa_cons (pe_op op_mod (pvA 4 (defScope zj) zq rfl rfl) pe_int) pa_nil)))
      (pss_one (ps_if (PW.pt (pw_and (pt_cmpR op_eq (pvA 3 (defScope zj) zq rfl rfl) pe_int (nomark _)) (pw_and1 (pt_cmpR op_eq (pe_op op_mod (pe_op op_fdiv (pvA 4 (defScope zj) zq rfl rfl) pe_int) pe_int) pe_int (nomark _))))) (pss_one (ps_asg (pe_op op_mod (pe_op op_fdiv (pvA 4 (defScope zj) zq rfl rfl) pe_int) pe_int) (pg_sub (pvA 2 (defScope zj) zq rfl rfl) (pvA 3 (defScope zj) zq rfl rfl) set_list))) pss_nil)))))
      (pss_cons (psN (i:=5) (sc:=defScope zj) (M:=zq) rfl rfl (by decide +kernel) (pe_slice sl_list (pvA 0 (defScope zj) zq rfl rfl) (po_some pe_int) po_none))
      (pss_cons (psN (i:=6) (sc:=defScope zj) (M:=zq) rfl rfl (by decide +kernel) (zo (sc:=defScope zj) (call_min2 rfl) rfl (by decide +kernel) T.Zm WJ (pa_cons pe_int (pa_cons (zo (sc:=defScope zj) call_len rfl (by decide +kernel) T.yj yd (pa_cons (pvA 5 (defScope zj) zq rfl rfl) pa_nil)) pa_nil))))
      (pss_cons (psN (i:=7) (sc:=defScope zj) (M:=zq) rfl rfl (by decide +kernel) (pe_op op_rep (pe_lst (pa_cons pe_int pa_nil)) (pvA 6 (defScope zj) zq rfl rfl)))
      (pss_cons (psN (i:=8) (sc:=defScope zj) (M:=zq) rfl rfl (by decide +kernel) (pe_op op_rep (pe_lst (pa_cons pe_int pa_nil)) (pvA 6 (defScope zj) zq rfl rfl)))
      (pss_cons (psN (i:=9) (sc:=defScope zj) (M:=zq) rfl rfl (by decide +kernel) (pe_op op_rep (pe_lst (pa_cons pe_int pa_nil)) (pvA 1 (defScope zj) zq rfl rfl)))
      (pss_cons (ps_for PassesOwn.never rfl (pi_range1 (glR (sc:=defScope zj) rfl (by decide +kernel)) T.yo (pa_cons (zo (sc:=defScope zj) call_len rfl (by decide +kernel) T.yj yd (pa_cons (pvA 5 (defScope zj) zq rfl rfl) pa_nil)) pa_nil)) (pgN (i:=3) (sc:=defScope zj) (M:=zq) rfl rfl (by decide +kernel)) (pss_cons (psN (i:=10) (sc:=defScope zj) (M:=zq) rfl rfl (by decide +kernel) (pe_op op_mod (pvA 3 (defScope zj) zq rfl rfl) pe_int))
      (pss_cons (ps_asg (pe_op op_add pe_int (pe_op op_mod (pe_op op_add (pe_ix ix_list (pvA 7 (defScope zj) zq rfl rfl) (pvA 10 (defScope zj) zq rfl rfl) (fun _ _=>rfl)) (pe_op op_fdiv (zk (sc:=defScope zj) yQ (hr.mono (by decide)) rfl (by decide +kernel) T.vI yG.kp yR .nil pass0 (pa_cons (pe_ix ix_list (pvA 5 (defScope zj) zq rfl rfl) (pvA 3 (defScope zj) zq rfl rfl) (fun _ _=>rfl)) (pa_cons pe_int pa_nil))) pe_int)) pe_int)) (pg_sub (pvA 7 (defScope zj) zq rfl rfl) (pvA 10 (defScope zj) zq rfl rfl) set_list))
      (pss_cons (psN (i:=11) (sc:=defScope zj) (M:=zq) rfl rfl (by decide +kernel) (pe_op op_mod (pe_op op_fdiv (zk (sc:=defScope zj) yQ (hr.mono (by decide)) rfl (by decide +kernel) T.vI yG.kp yR .nil pass0 (pa_cons (pe_ix ix_list (pvA 5 (defScope zj) zq rfl rfl) (pvA 3 (defScope zj) zq rfl rfl) (fun _ _=>rfl)) (pa_cons pe_int pa_nil))) pe_int) pe_int))
      (VL (ps_if (pt_cmpR op_eq (pe_op op_mod (pe_op op_fdiv (zk (sc:=defScope zj) yQ (hr.mono (by decide)) rfl (by decide +kernel) T.vI yG.kp yR .nil pass0 (pa_cons (pe_ix ix_list (pvA 5 (defScope zj) zq rfl rfl) (pvA 3 (defScope zj) zq rfl rfl) (fun _ _=>rfl)) (pa_cons pe_int pa_nil))) pe_int) pe_int) pe_int (nomark _)) (pss_one (psN (i:=11) (sc:=defScope zj) (M:=zq) rfl rfl (by decide +kernel) (pe_op op_mod (pe_ix ix_list (pvA 5 (defScope zj) zq rfl rfl) (pvA 3 (defScope zj) zq rfl rfl) (fun _ _=>rfl)) (pe_op op_pow pe_int pe_int)))) pss_nil)
      (pss_cons (ps_asg (pe_op op_mod (pe_op op_add (pe_ix ix_list (pvA 8 (defScope zj) zq rfl rfl) (pvA 10 (defScope zj) zq rfl rfl) (fun _ _=>rfl)) (pvA 11 (defScope zj) zq rfl rfl)) (pe_op op_pow pe_int pe_int)) (pg_sub (pvA 8 (defScope zj) zq rfl rfl) (pvA 10 (defScope zj) zq rfl rfl) set_list))
      (pss_cons (psN (i:=12) (sc:=defScope zj) (M:=zq) rfl rfl (by decide +kernel) (pe_op op_fdiv (zk (sc:=defScope zj) yQ (hr.mono (by decide)) rfl (by decide +kernel) T.vI yG.kp yR .nil pass0 (pa_cons (pe_ix ix_list (pvA 5 (defScope zj) zq rfl rfl) (pvA 3 (defScope zj) zq rfl rfl) (fun _ _=>rfl)) (pa_cons pe_int pa_nil))) pe_int))
      (pss_one (ps_for PassesOwn.never rfl (pi_range1 (glR (sc:=defScope zj) rfl (by decide +kernel)) T.yo (pa_cons (pvA 1 (defScope zj) zq rfl rfl) pa_nil)) (pgN (i:=13) (sc:=defScope zj) (M:=zq) rfl rfl (by decide +kernel)) (pss_cons (ps_asg (pe_op op_xor (pe_ix ix_list (pvA 9 (defScope zj) zq rfl rfl) (pvA 13 (defScope zj) zq rfl rfl) (fun _ _=>rfl)) (pe_op op_shl (pe_op op_mod (pvA 12 (defScope zj) zq rfl rfl) pe_int) (pvA 10 (defScope zj) zq rfl rfl))) (pg_sub (pvA 9 (defScope zj) zq rfl rfl) (pvA 13 (defScope zj) zq rfl rfl) set_list))
      (pss_one (psN (i:=12) (sc:=defScope zj) (M:=zq) rfl rfl (by decide +kernel) (pe_op op_fdiv (pvA 12 (defScope zj) zq rfl rfl) pe_int)))))))))))))
      (pss_cons (vp (i:=14) (sc:=defScope zj) (M:=zq) rfl rfl rfl (by decide +kernel) (N:=["_law_k","_law_script"]) (own:=1) (js:=[0]) (X:=(cxOf CX0 P w K mg base zq "_law_ground" (defScope zj) f cdv A outer s H E).nox) (zM (defScope zj) zq rfl rfl (by decide +kernel)) (pi_range1 (glR (sc:=defScope zj) rfl (by decide +kernel)) T.yo (pa_cons (pvA 1 (defScope zj) zq rfl rfl) pa_nil)) (fun fp0 sx0 Hx0=>(pgN (i:=0) (sc:=zb _ (defScope zj)) (M:=["_law_k","_law_script"]) rfl rfl (by decide +kernel))) (fun fp0 sx0 Hx0=>zG) (fun fp0 sx0 Hx0=>(pe_op op_add pe_int (pe_op op_mod (pe_op op_fdiv (zk (sc:=zb _ (defScope zj)) yQ (hr.mono (by decide)) rfl (by decide +kernel) T.vI yG.kp yR .nil pass0 (pa_cons (zk (sc:=zb _ (defScope zj)) jO (hr.mono (by decide)) rfl (by decide +kernel) T.Wu vL.kp jP .nil pass0 (pa_cons (pvN (i:=1) (sc:=zb _ (defScope zj)) (M:=["_law_k","_law_script"]) rfl rfl (by decide +kernel)) (pa_cons pe_int pa_nil))) (pa_cons (pvN (i:=0) (sc:=zb _ (defScope zj)) (M:=["_law_k","_law_script"]) rfl rfl (by decide +kernel)) pa_nil))) pe_int) pe_int))) rfl)
      (pss_one (ps_ret (pe_tup (pa_cons (pvA 2 (defScope zj) zq rfl rfl) (pa_cons (pvA 7 (defScope zj) zq rfl rfl) (pa_cons (pvA 9 (defScope zj) zq rfl rfl) (pa_cons (pvA 8 (defScope zj) zq rfl rfl) (pa_cons (pvA 14 (defScope zj) zq rfl rfl) pa_nil)))))))))))))))))),?_⟩
    try dsimp only [cxOf,Cx.nox]
    have hs : sizeLine=16777216:=sizeLine_eq
    refine ⟨_,rfl,ad,ns,0,rfl,hS,hl,by decide,_,_,rfl,rfl,(by show (0 : Int) < 4; decide),_,_,rfl,rfl,?_⟩
    obtain ⟨pl,hpl⟩ : ∃ pl : Nat,1 + yF ns 0 % 4=(pl : Int):=⟨(1 + yF ns 0 % 4).toNat,by omega⟩
    have hpl1 : 1≤pl:=by omega
    have hpl4 : pl≤4:=by omega
    rw [show (fun i j : Int=>V.int (i + j)) 1 (yF ns 0 % 4)=V.int (pl : Nat) from congrArg V.int hpl]
    refine ⟨by first | decide | (simp only [List.length_cons,List.length_nil,List.length_append,List.length_map]; decide),fun pw hpw=>?_⟩
    have s1:=Same.zp (o := .lst []) hpw
    refine ⟨_,rfl,_,rfl,by omega,by omega,?_⟩
    rw [Int.toNat_natCast]
    refine for_range (fun i σ H'=>L23.A3 ((L23.E2 fun v1 v2=>σ=[some (.ref ad),some (.int (pl : Nat)),some (.ref pw),v1,v2,none,none,none,none,none,none,none,none,none,none])) (Same H H') (∃ (ws : List Nat),L23.A4 (ws.length=i) ((∀ w∈ws,w≤60)) ((∀ (k w : Nat),ws[k]?=some w→1≤k→w≤3)) (H' pw=some (.lst (nV ws))))) ⟨⟨_,_,rfl⟩,s1,[],rfl,(fun _ h=>nomatch h),(fun _ _ h=>nomatch h),upd_same⟩ ?_ ?_
    · rintro i σ H' hi ⟨⟨v1,v2,rfl⟩,sx,ws,lw,bw,tw,ew⟩
      rw [show (0 : Int) + (i : Nat)=(i : Nat) by omega]
      refine ⟨_,rfl,ad,ns,1,rfl,sx.seq hS,hl,by decide,_,rfl,_,_,rfl,by omega,by omega,_,_,rfl,rfl,⟨by decide,by decide⟩,?_⟩
      obtain ⟨sm,hsm⟩ : ∃ sm : Nat,yl (yF ns 1) i / 3=(sm : Int):=⟨(yl (yF ns 1) i / 3).toNat,by have:=zee (yF ns 1) i; omega⟩
      rw [show (fun i j : Int=>V.int (i / j)) (yl (yF ns 1) i) 3=V.int (sm : Nat) from congrArg V.int hsm]
      obtain ⟨r4,hr4⟩ : ∃ r : Nat,(sm : Int) % 4=(r : Int):=⟨((sm : Int) % 4).toNat,by omega⟩
      refine ⟨_,rfl,.inl ⟨rfl,_,SqL.of ew⟩,_,rfl,_,_,rfl,rfl,(by show (0 : Int) < 4; decide),pw,_,_,rfl,rfl,ew,(by unfold nV; rw [List.length_map]; omega),?_⟩
      rw [show (fun i j : Int=>V.int (i % j)) (sm : Nat) 4=V.int (r4 : Nat) from congrArg V.int hr4,show nV ws ++ [V.int (r4 : Nat)]=nV (ws ++ [r4]) by unfold nV; rw [List.map_append]; rfl]
      have sx2 : Same H (upd H' pw (.lst (nV (ws ++ [r4])))):=zK sx hpw
      have done : ∃ ws' : List Nat,ws'.length=i + 1∧(∀ w∈ws',w≤60)∧(∀ (k w : Nat),ws'[k]?=some w→1≤k→w≤3)∧upd H' pw (.lst (nV (ws ++ [r4]))) pw=some (.lst (nV ws')) :=
        ⟨ws ++ [r4],by rw [List.length_append,lw]; rfl,fun x hx=>by
          rcases List.mem_append.mp hx with h | h
          · exact bw x h
          · rw [List.mem_singleton.mp h]; omega,fun k x hk h1=>by
          by_cases hkl : k < ws.length
          · rw [List.getElem?_append_left hkl] at hk
            exact tw k x hk h1
          · rw [List.getElem?_append_right (by omega)] at hk
            have hlt:=(List.getElem?_eq_some_iff.mp hk).1
            rw [List.length_singleton] at hlt
            rw [show k - ws.length=0 by omega] at hk
            obtain rfl:=Option.some.inj hk
            omega,upd_same⟩
      refine ⟨_,rfl,rfl,_,rfl,ite2 (fun h0=>?_) (fun h0=>⟨⟨_,_,rfl⟩,sx2,(let ⟨d1,d2,d3,d4,d5⟩:=done; ⟨d1,d2,d3,d4,d5⟩)⟩)⟩
      refine ⟨_,rfl,_,_,rfl,rfl,⟨by decide,by decide⟩,_,_,rfl,rfl,(by show (0 : Int) < 9; decide),rfl,_,rfl,ite2 (fun h1=>?_) (fun h1=>⟨⟨_,_,rfl⟩,sx2,(let ⟨d1,d2,d3,d4,d5⟩:=done; ⟨d1,d2,d3,d4,d5⟩)⟩)⟩
      have h0':=V.int.inj (of_decide_eq_true h0)
      obtain rfl : i=0:=by omega
      obtain rfl : ws=[]:=List.eq_nil_of_length_eq_zero lw
      obtain ⟨r5,hr5⟩ : ∃ r : Nat,(sm : Int) / 36 % 61=(r : Int):=⟨((sm : Int) / 36 % 61).toNat,by omega⟩
      refine ⟨_,rfl,_,_,rfl,rfl,⟨by decide,by decide⟩,_,_,rfl,rfl,(by show (0 : Int) < 61; decide),_,rfl,_,rfl,pw,_,_,0,rfl,rfl,upd_same,rfl,⟨_,_,rfl⟩,zK sx2 hpw,[r5],rfl,(fun x hx=>by rw [List.mem_singleton.mp hx]; omega),(fun k x hk h1=>by cases k with | zero=>omega | succ k=>cases hk),?_⟩
      rw [upd_same,show (fun i j : Int=>V.int (i % j)) ((sm : Int) / 36) 61=V.int (r5 : Nat) from congrArg V.int hr5]
      rfl
    rintro σ H1 ⟨⟨v1,v2,rfl⟩,sH1,ws,lw,bw,tw,ew⟩
    refine ⟨_,rfl,_,rfl,ad,_,rfl,sH1.seq hS,fun p2 hp2=>?_⟩
    obtain ⟨zs,hzs⟩ : ∃ zs,zs=ns.drop 3:=⟨_,rfl⟩
    have lzs : zs.length≤60:=by rw [hzs,List.length_drop]; omega
    have ec : cutV (ns.map V.int) (some 3) none=zs.map V.int:=by
      by_cases h3 : 3≤ns.length
      · have:=WL (xs:=ns.map V.int) 3 (by rw [List.length_map]; exact h3)
        rw [hzs,List.map_drop]
        exact this
      · have : cutV (ns.map V.int) (some ((3 : Nat) : Int)) none=[]:=by
          unfold cutV
          rw [HT.sIx_nat,HT.sIx_none,Nat.min_eq_right (by rw [List.length_map]; omega),List.drop_length,List.take_nil]
        rw [hzs,List.drop_of_length_le (by omega)]
        exact this
    rw [ec]
    have s2:=Same.zp (o := .lst (zs.map V.int)) hp2
    have e2 : upd H1 p2 (.lst (zs.map V.int)) p2=some (.lst (zs.map V.int)):=upd_same
    have ew2:=s2 _ _ ew
    have sH2:=sH1.trans s2
    generalize upd H1 p2 (.lst (zs.map V.int))=H2 at s2 e2 ew2 sH2 ⊢
    obtain ⟨mn,hmn⟩ : ∃ mn : Nat,mn=min 7 zs.length:=⟨_,rfl⟩
    refine ⟨_,rfl,.ref p2,zs.length,rfl,.inl ⟨_,SqL.of e2,by rw [List.length_map]⟩,_,_,rfl,?_⟩
    rw [show (if ((zs.length : Nat) : Int) < 7 then ((zs.length : Nat) : Int) else 7)=((mn : Nat) : Int) by split <;> omega]
    refine ⟨by first | decide | (simp only [List.length_cons,List.length_nil,List.length_append,List.length_map]; decide),fun pz hpz=>⟨_,rfl,pz,_,_,rfl,rfl,upd_same,by omega,by omega,?_,fun po hpo=>?_⟩⟩
    · rw [Int.toNat_natCast]
      show 1 * mn≤sizeLine
      omega
    rw [Int.toNat_natCast,zcS]
    have s3:=(Same.zp (o := .lst [.int 1]) hpz).trans (Same.zp (o := .lst (nV (List.replicate mn 1))) hpo)
    have J2 : H2 po=none:=(Same.zp (o := .lst [.int 1]) hpz).free hpo
    have eo3 : upd (upd H2 pz (.lst [.int 1])) po (.lst (nV (List.replicate mn 1))) po=some (.lst (nV (List.replicate mn 1))):=upd_same
    have ew3:=s3 _ _ ew2
    have e23:=s3 _ _ e2
    have sH3:=sH2.trans s3
    have npo:=sH2.free J2
    generalize upd (upd H2 pz (.lst [.int 1])) po (.lst (nV (List.replicate mn 1)))=H3 at s3 eo3 ew3 e23 sH3 ⊢
    refine ⟨by first | decide | (simp only [List.length_cons,List.length_nil,List.length_append,List.length_map]; decide),fun pz2 zbW=>⟨_,rfl,pz2,_,_,rfl,rfl,upd_same,by omega,by omega,?_,fun pk hpk=>?_⟩⟩
    · rw [Int.toNat_natCast]
      show 1 * mn≤sizeLine
      omega
    rw [Int.toNat_natCast,Zn]
    have s4:=(Same.zp (o := .lst [.int 0]) zbW).trans (Same.zp (o := .lst (nV (List.replicate mn 0))) hpk)
    have Vy : H3 pk=none:=(Same.zp (o := .lst [.int 0]) zbW).free hpk
    have ek4 : upd (upd H3 pz2 (.lst [.int 0])) pk (.lst (nV (List.replicate mn 0))) pk=some (.lst (nV (List.replicate mn 0))):=upd_same
    have ew4:=s4 _ _ ew3
    have e24:=s4 _ _ e23
    have eo4:=s4 _ _ eo3
    have sH4:=sH3.trans s4
    have npk:=sH3.free Vy
    have nok : po≠pk:=ne_of_none eo3 Vy
    generalize upd (upd H3 pz2 (.lst [.int 0])) pk (.lst (nV (List.replicate mn 0)))=H4 at s4 ek4 ew4 e24 eo4 sH4 ⊢
    refine ⟨by first | decide | (simp only [List.length_cons,List.length_nil,List.length_append,List.length_map]; decide),fun pz3 zbX=>⟨_,rfl,pz3,_,_,rfl,rfl,upd_same,by omega,by omega,?_,fun pm hpm=>?_⟩⟩
    · rw [Int.toNat_natCast]
      show 1 * pl≤sizeLine
      omega
    rw [Int.toNat_natCast,Zn]
    have s5:=(Same.zp (o := .lst [.int 0]) zbX).trans (Same.zp (o := .lst (nV (List.replicate pl 0))) hpm)
    have XO : H4 pm=none:=(Same.zp (o := .lst [.int 0]) zbX).free hpm
    have em5 : upd (upd H4 pz3 (.lst [.int 0])) pm (.lst (nV (List.replicate pl 0))) pm=some (.lst (nV (List.replicate pl 0))):=upd_same
    have ew5:=s5 _ _ ew4
    have e25:=s5 _ _ e24
    have eo5:=s5 _ _ eo4
    have ek5:=s5 _ _ ek4
    have sH5:=sH4.trans s5
    have npm:=sH4.free XO
    have nom : po≠pm:=ne_of_none eo4 XO
    have nkm : pk≠pm:=ne_of_none ek4 XO
    have nwo : pw≠po:=ne_of_none ew2 J2
    have nwk : pw≠pk:=ne_of_none ew3 Vy
    have nwm : pw≠pm:=ne_of_none ew4 XO
    have n2o : p2≠po:=ne_of_none e2 J2
    have n2k : p2≠pk:=ne_of_none e23 Vy
    have n2m : p2≠pm:=ne_of_none e24 XO
    generalize upd (upd H4 pz3 (.lst [.int 0])) pm (.lst (nV (List.replicate pl 0)))=H5 at s5 em5 ew5 e25 eo5 ek5 sH5 ⊢
    clear hpz hpo zbW hpk zbX hpm s2 s3 s4 s5 ew ew2 ew3 ew4 e2 e23 e24 eo3 eo4 ek4 sH1 sH2 sH3 sH4 J2 Vy XO ec hp2
    refine ⟨_,rfl,.ref p2,zs.length,rfl,.inl ⟨_,SqL.of e25,by rw [List.length_map]⟩,_,rfl,by omega,by omega,?_⟩
    rw [Int.toNat_natCast]
    refine for_range (fun i σ H'=>L23.A5 ((L23.E6 fun u1 u2 u3 u4 u5 u6=>σ=[some (.ref ad),some (.int (pl : Nat)),some (.ref pw),u1,u2,some (.ref p2),some (.int (mn : Nat)),some (.ref po),some (.ref pk),some (.ref pm),u3,u4,u5,u6,none])) (Same H H') (H' pw=some (.lst (nV ws))) (H' p2=some (.lst (zs.map V.int))) (L23.E3 fun (os : List Nat) (ks : List Nat) (ms : List Nat)=>L23.A8 (os.length=mn) (ks.length=mn) (ms.length=pl) ((∀ o∈os,1≤o∧o≤3)) ((∀ k∈ks,k < 10 ^ 60)) ((∀ m∈ms,m < 2 ^ mn)) (H' po=some (.lst (nV os))) (H' pk=some (.lst (nV ks))∧H' pm=some (.lst (nV ms))))) ⟨⟨_,_,_,_,_,_,rfl⟩,sH5,ew5,e25,List.replicate mn 1,List.replicate mn 0,List.replicate pl 0,List.length_replicate,List.length_replicate,List.length_replicate,(fun o ho=>by rw [List.eq_of_mem_replicate ho]; decide),(fun k hk=>by rw [List.eq_of_mem_replicate hk]; decide),(fun m hm=>by rw [List.eq_of_mem_replicate hm]; exact Nat.two_pow_pos _),eo5,ek5,em5⟩ ?_ ?_
    · rintro i σ H6 hi ⟨⟨u1,u2,u3,u4,u5,u6,rfl⟩,sH6,ew6,e26,os,ks,ms,lo,lk,lm,bo,bk,bm,eo6,ek6,em6⟩
      rw [show (0 : Int) + (i : Nat)=(i : Nat) by omega]
      obtain ⟨wk,hwk⟩ : ∃ wk : Nat,wk=i % 7:=⟨_,rfl⟩
      have hwm : wk < mn:=by omega
      obtain ⟨z,hz⟩ : ∃ z,zs[i]?=some z:=⟨_,List.getElem?_eq_getElem hi⟩
      have hzi : atI (zs.map V.int) ((i : Nat) : Int)=some (.int z):=atI_nat (by rw [List.getElem?_map,hz]; rfl)
      refine ⟨_,rfl,_,_,rfl,rfl,(by show (0 : Int) < 7; decide),?_⟩
      rw [show (fun i j : Int=>V.int (i % j)) ((i : Nat) : Int) 7=V.int (wk : Nat) from congrArg V.int (by omega)]
      obtain ⟨o1,ho1⟩ : ∃ o : Nat,1 + ((os.getD wk 0 : Nat) + yl z 2 / 5) % 3=(o : Int):=⟨(1 + ((os.getD wk 0 : Nat) + yl z 2 / 5) % 3).toNat,by omega⟩
      refine ⟨_,rfl,_,rfl,po,_,_,_,rfl,rfl,SqL.of eo6,zP (by omega),_,rfl,_,rfl,p2,_,_,_,rfl,rfl,SqL.of e26,hzi,z,2,rfl,by decide,by decide,_,_,rfl,rfl,⟨by decide,by decide⟩,_,_,rfl,rfl,_,_,rfl,rfl,(by show (0 : Int) < 3; decide),_,_,rfl,rfl,_,rfl,_,rfl,po,_,_,wk,rfl,rfl,eo6,by rw [zm]; exact yL (by omega),?_⟩
      rw [show (fun i j : Int=>V.int (i + j)) 1 (((os.getD wk 0 : Nat) + yl z 2 / 5) % 3)=V.int (o1 : Nat) from congrArg V.int ho1,vh]
      have bo7 : ∀ o∈os.set wk o1,1≤o∧o≤3:=fun x hx=>by
        rcases List.mem_or_eq_of_mem_set hx with h | h
        · exact bo x h
        · rw [h]; omega
      have lo7 : (os.set wk o1).length=mn:=by rw [List.length_set]; exact lo
      have sH7 : Same H (upd H6 po (.lst (nV (os.set wk o1)))):=zK sH6 npo
      have ew7 : upd H6 po (.lst (nV (os.set wk o1))) pw=some (.lst (nV ws)):=(upd_ne nwo).trans ew6
      have e27 : upd H6 po (.lst (nV (os.set wk o1))) p2=some (.lst (zs.map V.int)):=(upd_ne n2o).trans e26
      have ek7 : upd H6 po (.lst (nV (os.set wk o1))) pk=some (.lst (nV ks)):=(upd_ne nok.symm).trans ek6
      have em7 : upd H6 po (.lst (nV (os.set wk o1))) pm=some (.lst (nV ms)):=(upd_ne nom.symm).trans em6
      have eo7 : upd H6 po (.lst (nV (os.set wk o1))) po=some (.lst (nV (os.set wk o1))):=upd_same
      generalize upd H6 po (.lst (nV (os.set wk o1)))=H7 at sH7 ew7 e27 ek7 em7 eo7 ⊢
      generalize os.set wk o1=os7 at bo7 lo7 eo7
      clear sH6 ew6 e26 ek6 em6 eo6 bo
      refine ⟨_,rfl,_,rfl,p2,_,_,_,rfl,rfl,SqL.of e27,hzi,z,5,rfl,by decide,by decide,_,_,rfl,rfl,⟨by decide,by decide⟩,_,_,rfl,rfl,(by show (0 : Int) < 9; decide),?_⟩
      refine ⟨fun σ' H'=>(∃ (y : Nat),σ'=[some (.ref ad),some (.int (pl : Nat)),some (.ref pw),some (.int (i : Nat)),u2,some (.ref p2),some (.int (mn : Nat)),some (.ref po),some (.ref pk),some (.ref pm),some (.int (wk : Nat)),some (.int (y : Nat)),u5,u6,none])∧H'=H7,?_,?_⟩
      · refine ⟨_,rfl,_,rfl,p2,_,_,_,rfl,rfl,SqL.of e27,hzi,z,6,rfl,by decide,by decide,_,_,rfl,rfl,⟨by decide,by decide⟩,_,_,rfl,rfl,(by show (0 : Int) < 3; decide),rfl,_,rfl,ite2 (fun h1=>?_) (fun h1=>⟨⟨(yl z 5 / 5 % 9).toNat,?_⟩,rfl⟩)⟩
        · refine ⟨_,rfl,_,rfl,p2,_,_,_,rfl,rfl,SqL.of e27,hzi,_,_,rfl,rfl,⟨by decide,by decide,by decide⟩,_,_,rfl,rfl,(by show (0 : Int) < 10 ^ 60; decide),⟨(z % 10 ^ 60).toNat,?_⟩,rfl⟩
          have : (0 : Int)≤z % 10 ^ 60:=Int.emod_nonneg _ (by decide)
          rw [Int.toNat_of_nonneg this]
          rfl
        · have : (0 : Int)≤yl z 5 / 5 % 9:=Int.emod_nonneg _ (by decide)
          rw [Int.toNat_of_nonneg this]
          rfl
      rintro σ' H7' ⟨⟨y,rfl⟩,rfl⟩
      obtain ⟨k1,hk1⟩ : ∃ k : Nat,(((ks.getD wk 0 : Nat) : Int) + (y : Nat)) % 10 ^ 60=(k : Int):=⟨((((ks.getD wk 0 : Nat) : Int) + (y : Nat)) % 10 ^ 60).toNat,by have:=Int.emod_nonneg (((ks.getD wk 0 : Nat) : Int) + (y : Nat)) (show (10 ^ 60 : Int)≠0 by decide); omega⟩
      have zf7 : k1 < 10 ^ 60:=by
        have:=Int.emod_lt_of_pos (((ks.getD wk 0 : Nat) : Int) + (y : Nat)) (show (0 : Int) < 10 ^ 60 by decide)
        omega
      refine ⟨_,rfl,_,rfl,pk,_,_,_,rfl,rfl,SqL.of ek7,zP (by omega),_,rfl,_,_,rfl,rfl,_,_,rfl,rfl,⟨by decide,by decide,by decide⟩,((ks.getD wk 0 : Nat) : Int) + (y : Nat),(10 ^ 60 : Int),rfl,rfl,(by show (0 : Int) < 10 ^ 60; decide),_,rfl,_,rfl,pk,_,_,wk,rfl,rfl,ek7,by rw [zm]; exact yL (by omega),?_⟩
      rw [show (fun i j : Int=>V.int (i % j)) (((ks.getD wk 0 : Nat) : Int) + (y : Nat)) (10 ^ 60)=V.int (k1 : Nat) from congrArg V.int hk1,vh]
      have bk8 : ∀ k∈ks.set wk k1,k < 10 ^ 60:=fun x hx=>by
        rcases List.mem_or_eq_of_mem_set hx with h | h
        · exact bk x h
        · rw [h]; exact zf7
      have lk8 : (ks.set wk k1).length=mn:=by rw [List.length_set]; exact lk
      have sH8 : Same H (upd H7' pk (.lst (nV (ks.set wk k1)))):=zK sH7 npk
      have ew8 : upd H7' pk (.lst (nV (ks.set wk k1))) pw=some (.lst (nV ws)):=(upd_ne nwk).trans ew7
      have e28 : upd H7' pk (.lst (nV (ks.set wk k1))) p2=some (.lst (zs.map V.int)):=(upd_ne n2k).trans e27
      have eo8 : upd H7' pk (.lst (nV (ks.set wk k1))) po=some (.lst (nV os7)):=(upd_ne nok).trans eo7
      have em8 : upd H7' pk (.lst (nV (ks.set wk k1))) pm=some (.lst (nV ms)):=(upd_ne nkm.symm).trans em7
      have ek8 : upd H7' pk (.lst (nV (ks.set wk k1))) pk=some (.lst (nV (ks.set wk k1))):=upd_same
      generalize upd H7' pk (.lst (nV (ks.set wk k1)))=H8 at sH8 ew8 e28 eo8 em8 ek8 ⊢
      generalize ks.set wk k1=ks8 at bk8 lk8 ek8
      refine ⟨_,rfl,_,rfl,p2,_,_,_,rfl,rfl,SqL.of e28,hzi,z,1,rfl,by decide,by decide,_,_,rfl,rfl,⟨by decide,by decide⟩,?_⟩
      refine ⟨_,rfl,_,rfl,by omega,by omega,?_⟩
      rw [Int.toNat_natCast]
      refine for_range (fun j σ H'=>L23.A7 ((L23.E2 fun l v1=>σ=[some (.ref ad),some (.int (pl : Nat)),some (.ref pw),some (.int (i : Nat)),u2,some (.ref p2),some (.int (mn : Nat)),some (.ref po),some (.ref pk),some (.ref pm),some (.int (wk : Nat)),some (.int (y : Nat)),some (.int l),v1,none])) (Same H H') (H' pw=some (.lst (nV ws))) (H' p2=some (.lst (zs.map V.int))) (H' po=some (.lst (nV os7))) (H' pk=some (.lst (nV ks8))) (∃ (ms' : List Nat),L23.A3 (ms'.length=pl) ((∀ m∈ms',m < 2 ^ mn)) (H' pm=some (.lst (nV ms'))))) ⟨⟨_,_,rfl⟩,sH8,ew8,e28,eo8,ek8,ms,lm,bm,em8⟩ ?_ ?_
      · rintro j σ H9 hj ⟨⟨l,v1,rfl⟩,sH9,ew9,e29,eo9,ek9,ms',lm',bm',em9⟩
        rw [show (0 : Int) + (j : Nat)=(j : Nat) by omega]
        have hj' : j < ms'.length:=by omega
        obtain ⟨r,hr⟩ : ∃ r : Nat,l % 2=(r : Int):=⟨(l % 2).toNat,by omega⟩
        have hr2 : r < 2:=by omega
        have hb : r * 2 ^ wk < 2 ^ mn:=by
          have h1 : r * 2 ^ wk≤1 * 2 ^ wk:=Nat.mul_le_mul_right _ (by omega)
          have h2 : 2 ^ wk < 2 ^ mn:=Nat.pow_lt_pow_right (by decide) hwm
          omega
        obtain ⟨x,hx,hxl⟩:=CI.zcH (bm' _ (List.mem_of_getElem? (getD_at hj'))) hb
        refine ⟨_,rfl,_,rfl,pm,_,_,_,rfl,rfl,SqL.of em9,zP hj',_,rfl,_,_,rfl,rfl,(by show (0 : Int) < 2; decide),_,rfl,_,_,rfl,rfl,⟨by omega,by omega,?_⟩,_,_,rfl,rfl,_,rfl,_,rfl,pm,_,_,j,rfl,rfl,em9,by rw [zm]; exact yL hj',?_⟩
        · show (l % 2).natAbs < 2 ^ 64
          omega
        rw [show (fun i j : Int=>V.int (Builtin.bitXor i j)) ((ms'.getD j 0 : Nat) : Int) (l % 2 * 2 ^ ((wk : Nat) : Int).toNat)=V.int (x : Nat) by
          show V.int (Builtin.bitXor ((ms'.getD j 0 : Nat) : Int) (l % 2 * 2 ^ ((wk : Nat) : Int).toNat))=_
          rw [← hx,hr,Int.toNat_natCast,Int.natCast_mul,CB.jq],vh]
        refine ⟨_,rfl,_,_,rfl,rfl,⟨by decide,by decide⟩,⟨_,_,rfl⟩,zK sH9 npm,(upd_ne nwm).trans ew9,(upd_ne n2m).trans e29,(upd_ne nom).trans eo9,(upd_ne nkm).trans ek9,_,by rw [List.length_set]; exact lm',fun m hm=>?_,upd_same⟩
        rcases List.mem_or_eq_of_mem_set hm with h | h
        · exact bm' m h
        · rw [h]; exact hxl
      rintro σ H9 ⟨⟨l,v1,rfl⟩,sH9,ew9,e29,eo9,ek9,ms',lm',bm',em9⟩
      exact ⟨⟨_,_,_,_,_,_,rfl⟩,sH9,ew9,e29,os7,ks8,ms',lo7,lk8,lm',bo7,bk8,bm',eo9,ek9,em9⟩
    rintro σ H6 ⟨⟨u1,u2,u3,u4,u5,u6,rfl⟩,sH6,ew6,e26,os,ks,ms,lo,lk,lm,bo,bk,bm,eo6,ek6,em6⟩
    obtain ⟨hf,hhf⟩ : ∃ hf : Nat→Nat,∀ k : Nat,1 + yl (yF ns 2) k / 3 % 9=((hf k : Nat) : Int):=⟨fun k=>(1 + yl (yF ns 2) k / 3 % 9).toNat,fun k=>by
      have:=Int.emod_nonneg (yl (yF ns 2) k / 3) (show (9 : Int)≠0 by decide)
      rw [Int.toNat_of_nonneg (by omega)]⟩
    refine ⟨_,rfl,_,rfl,by omega,by omega,fun c hc=>?_⟩
    refine xo hc (xO (P:=fun _=>True)) (fun σ=>∃ v,σ=[v,some (.ref ad)]) (nV ((List.range pl).map hf)) (by rw [zm,List.length_map,List.length_map,List.length_range,List.length_range,Int.toNat_natCast]) ⟨_,rfl⟩ (fun _ _=>trivial) (by rw [List.length_map,List.length_range]; omega) ?_ ?_
    · rintro j x z σ H7 R1 R0 hx hz ⟨v,rfl⟩ s7 k1
      rw [List.getElem?_map,Int.toNat_natCast] at hx
      obtain ⟨j',hj',rfl⟩:=Option.map_eq_some_iff.mp hx
      have hjl : j < pl:=by
        have:=(List.getElem?_eq_some_iff.mp hj').1
        rw [List.length_range] at this
        exact this
      rw [List.getElem?_range hjl] at hj'
      obtain rfl:=Option.some.inj hj'
      unfold nV at hz
      rw [List.getElem?_map,List.getElem?_map,List.getElem?_range hjl] at hz
      obtain rfl:=Option.some.inj hz
      rw [show (0 : Int) + (j : Nat)=(j : Nat) by omega]
      refine ⟨_,rfl,ad,ns,2,rfl,(sH6.trans s7).seq hS,hl,by decide,_,rfl,_,_,rfl,by omega,by omega,_,_,rfl,rfl,⟨by decide,by decide⟩,_,_,rfl,rfl,(by show (0 : Int) < 9; decide),_,_,rfl,rfl,?_⟩
      rw [show (fun i j : Int=>V.int (i + j)) 1 (yl (yF ns 2) j / 3 % 9)=V.int (hf j : Nat) from congrArg V.int (hhf j)]
      exact k1 _ _ ⟨_,rfl⟩ (Same.refl _)
    intro H7 s7 e7
    refine ⟨_,rfl,_,rfl,_,rfl,_,rfl,_,rfl,by first | decide | (simp only [List.length_cons,List.length_nil,List.length_append,List.length_map]; decide),fun t ht=>?_⟩
    have s8:=Same.zp (o := .tup [.ref pw,.ref po,.ref pm,.ref pk,.ref c]) ht
    have s78:=s7.trans s8
    refine q ws os ms ks _ _ t pw po pm pk c (sH6.trans s78) ⟨by omega,by rw [List.length_map,List.length_range]; omega,by omega,by omega,by omega,by omega,bw,tw,bo,by rw [lo]; exact bm,bk,fun h hh=>?_⟩ (by omega) upd_same (s78 _ _ ew6) (s78 _ _ eo6) (s78 _ _ em6) (s78 _ _ ek6) (s8 _ _ e7)
    obtain ⟨k,_,rfl⟩:=List.mem_map.mp hh
    have h1:=hhf k
    have h2:=Int.emod_nonneg (yl (yF ns 2) k / 3) (show (9 : Int)≠0 by decide)
    have h3:=Int.emod_lt_of_pos (yl (yF ns 2) k / 3) (show (0 : Int) < 9 by decide)
    omega
noncomputable def za3 (K : PySem.W.Frag) : Sp:=fun vs H Q _=>L23.E6 fun (c : Int) (pw : Addr) (po : Addr) (pm : Addr) (ws : List Nat) (os : List Nat)=>∃ (ms : List Nat),L23.A6 (vs=[.int c,.ref pw,.ref po,.ref pm]) (SqL K H pw (nV ws)) (SqL K H po (nV os)) (SqL K H pm (nV ms)) (CG.Good 24 ws os ms) (∀ H' r zs qs (tk : List (Nat × Nat)),Same H H'→H' r=some (.lst zs)→zc K H' zs (List.map CP.pairD qs)→CD.Dl ws os ms tk→qs.Perm (tk.map CP.wg)→CP.ym qs=true→Q (.ref r) H')
theorem zei {f : Addr} {fd Vz yO : FuncData} (F : Fun K "_law_taken" "_law_taken" zA f fd) (T : Txt K mg a)
    (J3 : FnOk P w K mg base CX0 1 a.XI Vz ["_law_masks","_law_work","_law_place"] (za1 K)) (YX : Fun K "_law_fit" "_law_fit" vH a.XI Vz) (J4 : Binds K Vz ["_law_masks","_law_work","_law_place"] [])
    (yQ : FnOk P w K mg base CX0 1 a.yZ yO ["_law_cell","_law_k"] (ZN K)) (yG : Fun K "_law_mixed" "_law_mixed" xw a.yZ yO) (yR : Binds K yO ["_law_cell","_law_k"] []) : FnOk P w K mg base CX0 2 f fd ["_law_cell","_law_wants","_law_oftens","_law_masks"] (za3 K):=by
  refine F.ok zdI (fun vs H Q E h=>?_) (fun cdv A outer s H vs Q E hr h=>?_)
  · obtain ⟨c,pw,po,pm,ws,os,ms,rfl,_⟩:=h
    rfl
  · obtain ⟨c,pw,po,pm,ws,os,ms,rfl,hw,ho,hm,g,q⟩:=h
    refine ⟨_,(pss_cons (psN (i:=4) (sc:=defScope zA) (M:=zH) rfl rfl (by decide +kernel) (pe_op op_rep (pe_lst (pa_cons pe_int pa_nil)) (zo (sc:=defScope zA) call_len rfl (by decide +kernel) T.yj yd (pa_cons (pvA 2 (defScope zA) zH rfl rfl) pa_nil))))
      (pss_cons (psN (i:=5) (sc:=defScope zA) (M:=zH) rfl rfl (by decide +kernel) (pe_op op_rep (pe_lst (pa_cons pe_int pa_nil)) (zo (sc:=defScope zA) call_len rfl (by decide +kernel) T.yj yd (pa_cons (pvA 1 (defScope zA) zH rfl rfl) pa_nil))))
      (pss_cons (psN (i:=6) (sc:=defScope zA) (M:=zH) rfl rfl (by decide +kernel) (pe_lst pa_nil))
      (pss_cons (ps_for PassesOwn.never rfl (pi_range1 (glR (sc:=defScope zA) rfl (by decide +kernel)) T.yo (pa_cons (pe_op op_mul (zo (sc:=defScope zA) call_len rfl (by decide +kernel) T.yj yd (pa_cons (pvA 2 (defScope zA) zH rfl rfl) pa_nil)) (zo (sc:=defScope zA) call_len rfl (by decide +kernel) T.yj yd (pa_cons (pvA 1 (defScope zA) zH rfl rfl) pa_nil))) pa_nil)) (pgN (i:=7) (sc:=defScope zA) (M:=zH) rfl rfl (by decide +kernel)) (pss_cons (psN (i:=8) (sc:=defScope zA) (M:=zH) rfl rfl (by decide +kernel) (pe_op op_mod (pe_op op_add (pvA 7 (defScope zA) zH rfl rfl) (pvA 0 (defScope zA) zH rfl rfl)) (zo (sc:=defScope zA) call_len rfl (by decide +kernel) T.yj yd (pa_cons (pvA 2 (defScope zA) zH rfl rfl) pa_nil))))
      (pss_cons (psN (i:=9) (sc:=defScope zA) (M:=zH) rfl rfl (by decide +kernel) (pe_op op_mod (pe_op op_add (pe_op op_fdiv (pvA 7 (defScope zA) zH rfl rfl) (zo (sc:=defScope zA) call_len rfl (by decide +kernel) T.yj yd (pa_cons (pvA 2 (defScope zA) zH rfl rfl) pa_nil))) (zk (sc:=defScope zA) yQ (hr.mono (by decide)) rfl (by decide +kernel) T.vI yG.kp yR .nil pass0 (pa_cons (pvA 0 (defScope zA) zH rfl rfl) (pa_cons (pvA 8 (defScope zA) zH rfl rfl) pa_nil)))) (zo (sc:=defScope zA) call_len rfl (by decide +kernel) T.yj yd (pa_cons (pvA 1 (defScope zA) zH rfl rfl) pa_nil))))
      (pss_one (ps_if (PW.pt (pw_and (pt_cmpR op_lt (pe_ix ix_list (pvA 4 (defScope zA) zH rfl rfl) (pvA 8 (defScope zA) zH rfl rfl) (fun _ _=>rfl)) (pe_ix ix_list (pvA 2 (defScope zA) zH rfl rfl) (pvA 8 (defScope zA) zH rfl rfl) (fun _ _=>rfl)) (nomark _)) (pw_and (pt_cmpR op_lt (pe_ix ix_list (pvA 5 (defScope zA) zH rfl rfl) (pvA 9 (defScope zA) zH rfl rfl) (fun _ _=>rfl)) (pe_ix ix_list (pvA 1 (defScope zA) zH rfl rfl) (pvA 9 (defScope zA) zH rfl rfl) (fun _ _=>rfl)) (nomark _)) (pw_and1 (pt_val (zk (sc:=defScope zA) J3 (hr.mono (by decide)) rfl (by decide +kernel) T.zfu YX.kp J4 .nil pass0 (pa_cons (pvA 3 (defScope zA) zH rfl rfl) (pa_cons (pvA 8 (defScope zA) zH rfl rfl) (pa_cons (pvA 9 (defScope zA) zH rfl rfl) pa_nil))))))))) (pss_cons (ps_expr (pe_bm PySem.F.plainAttrs_list PySem.F.slot_list_append PySem.F.type_list_append mt_append (pvA 6 (defScope zA) zH rfl rfl) (pa_cons (pe_tup (pa_cons (pvA 8 (defScope zA) zH rfl rfl) (pa_cons (pvA 9 (defScope zA) zH rfl rfl) pa_nil))) pa_nil)))
      (pss_cons (ps_asg (pe_op op_add (pe_ix ix_list (pvA 4 (defScope zA) zH rfl rfl) (pvA 8 (defScope zA) zH rfl rfl) (fun _ _=>rfl)) pe_int) (pg_sub (pvA 4 (defScope zA) zH rfl rfl) (pvA 8 (defScope zA) zH rfl rfl) set_list))
      (pss_one (ps_asg (pe_op op_add (pe_ix ix_list (pvA 5 (defScope zA) zH rfl rfl) (pvA 9 (defScope zA) zH rfl rfl) (fun _ _=>rfl)) pe_int) (pg_sub (pvA 5 (defScope zA) zH rfl rfl) (pvA 9 (defScope zA) zH rfl rfl) set_list))))) pss_nil)))))
      (pss_one (ps_ret (zo (sc:=defScope zA) L16.jr rfl (by decide +kernel) T.xR vP (pa_cons (pvA 6 (defScope zA) zH rfl rfl) pa_nil)))))))),?_⟩
    try dsimp only [cxOf,Cx.nox]
    have hs : sizeLine=16777216:=sizeLine_eq
    have g1:=g.len
    have g2:=g.one
    have g3:=g.six
    have g4:=g.many
    refine ⟨by first | decide | (simp only [List.length_cons,List.length_nil,List.length_append,List.length_map]; decide),fun p1 hp1=>⟨_,rfl,.ref po,os.length,rfl,.inl ⟨_,(Same.zp hp1).seq ho,by rw [zm]⟩,p1,_,_,rfl,rfl,upd_same,by omega,by omega,by rw [Int.toNat_natCast]; show 1 * os.length≤sizeLine; omega,fun p2 hp2=>?_⟩⟩
    rw [Int.toNat_natCast,Zn]
    have s2:=(Same.zp (o := .lst [.int 0]) hp1).trans (Same.zp (o := .lst (nV (List.replicate os.length 0))) hp2)
    have e2 : upd (upd H p1 (.lst [.int 0])) p2 (.lst (nV (List.replicate os.length 0))) p2=some (.lst (nV (List.replicate os.length 0))):=upd_same
    have n2 : H p2=none:=(Same.zp (o := .lst [.int 0]) hp1).free hp2
    generalize upd (upd H p1 (.lst [.int 0])) p2 (.lst (nV (List.replicate os.length 0)))=H2 at s2 e2 ⊢
    refine ⟨by first | decide | (simp only [List.length_cons,List.length_nil,List.length_append,List.length_map]; decide),fun p3 hp3=>⟨_,rfl,.ref pw,ws.length,rfl,.inl ⟨_,(s2.trans (Same.zp hp3)).seq hw,by rw [zm]⟩,p3,_,_,rfl,rfl,upd_same,by omega,by omega,by rw [Int.toNat_natCast]; show 1 * ws.length≤sizeLine; omega,fun p4 hp4=>?_⟩⟩
    rw [Int.toNat_natCast,Zn]
    have t4:=(Same.zp (o := .lst [.int 0]) hp3).trans (Same.zp (o := .lst (nV (List.replicate ws.length 0))) hp4)
    have s4:=s2.trans t4
    have e4 : upd (upd H2 p3 (.lst [.int 0])) p4 (.lst (nV (List.replicate ws.length 0))) p4=some (.lst (nV (List.replicate ws.length 0))):=upd_same
    have e24:=t4 _ _ e2
    have n4' : H2 p4=none:=(Same.zp (o := .lst [.int 0]) hp3).free hp4
    have n4 : H p4=none:=s2.free n4'
    have n24 : p2≠p4:=ne_of_none e2 n4'
    generalize upd (upd H2 p3 (.lst [.int 0])) p4 (.lst (nV (List.replicate ws.length 0)))=H4 at t4 s4 e4 e24 ⊢
    clear hp1 hp2 hp3 hp4 t4 s2 e2 n4'
    refine ⟨by first | decide | (simp only [List.length_cons,List.length_nil,List.length_append,List.length_map]; decide),fun pt hpt=>?_⟩
    have s5:=s4.trans (Same.zp (o := .lst []) hpt)
    have e5 : upd H4 pt (.lst []) pt=some (.lst []):=upd_same
    have e25:=Same.zp (o := .lst []) hpt _ _ e24
    have e45:=Same.zp (o := .lst []) hpt _ _ e4
    have nt : H pt=none:=s4.free hpt
    have n2t : p2≠pt:=ne_of_none e24 hpt
    have n4t : p4≠pt:=ne_of_none e4 hpt
    generalize upd H4 pt (.lst [])=H5 at s5 e5 e25 e45 ⊢
    clear s4 e24 e4 hpt
    have hmul : ((os.length : Nat) : Int) * (ws.length : Nat)=((os.length * ws.length : Nat) : Int):=(Int.natCast_mul _ _).symm
    have hle : os.length * ws.length≤24 * 6:=Nat.mul_le_mul (by omega) g3
    refine ⟨_,rfl,.ref po,os.length,rfl,.inl ⟨_,s5.seq ho,by rw [zm]⟩,_,rfl,.ref pw,ws.length,rfl,.inl ⟨_,s5.seq hw,by rw [zm]⟩,_,_,rfl,rfl,.inl ⟨by omega,by omega⟩,_,rfl,by rw [hmul]; omega,by rw [hmul]; omega,?_⟩
    rw [hmul,Int.toNat_natCast]
    have hml : ∀ p w,CD.hb ms p w=true→w < os.length:=(CD.yH.start g1 g.ml).lt
    have few64:=(CD.Gd.of g).few
    refine for_range (fun i σ H'=>L23.A3 ((L23.E3 fun v1 v2 v3=>σ=[some (.int c),some (.ref pw),some (.ref po),some (.ref pm),some (.ref p2),some (.ref p4),some (.ref pt),v1,v2,v3])) (Same H H') (L23.E5 fun (D : Hp) (tk : List (Nat × Nat)) (wc : List Nat) (pc : List Nat) (xs : List V)=>L23.A10 (CD.Tkn ws os ms tk wc pc) ((∀ q∈tk,∃ k : Nat,k < i∧((k : Nat) + c) % (os.length : Nat)=(q.1 : Nat)∧(((k : Nat) : Int) / (os.length : Nat) + yl c (q.1 : Nat)) % (ws.length : Nat)=(q.2 : Nat))) (H' p2=some (.lst (nV wc))) (H' p4=some (.lst (nV pc))) (H' pt=some (.lst xs)) (Same D H') (D p2=none) (D p4=none) (D pt=none) (zc K D xs ((tk.map CP.wg).map CP.pairD)))) ⟨⟨_,_,_,rfl⟩,s5,fun _=>none,[],_,_,[],CD.Tkn.zero ws os ms,(fun _ h=>nomatch h),e25,e45,e5,(fun _ _ e=>nomatch e),rfl,rfl,rfl,zc.nil⟩ ?_ ?_
    · rintro i σ H6 hi ⟨⟨v1,v2,v3,rfl⟩,s6,D,tk,wc,pc,xs,hT,hI,e26,e46,et6,sD,d2,d4,dt,hA⟩
      rw [show (0 : Int) + (i : Nat)=(i : Nat) by omega]
      have hpos : 0 < os.length:=by
        rcases Nat.eq_zero_or_pos os.length with z | z
        · rw [z,Nat.zero_mul] at hi; omega
        · exact z
      refine ⟨_,rfl,_,rfl,_,_,rfl,rfl,_,rfl,.ref po,os.length,rfl,.inl ⟨_,s6.seq ho,by rw [zm]⟩,_,_,rfl,rfl,(by show (0 : Int) < (os.length : Nat); omega),?_⟩
      have w0 : 0≤(((i : Nat) : Int) + c) % (os.length : Nat):=Int.emod_nonneg _ (by omega)
      have w1 : (((i : Nat) : Int) + c) % (os.length : Nat) < (os.length : Nat):=Int.emod_lt_of_pos _ (by omega)
      obtain ⟨wk,hwk⟩ : ∃ wk : Nat,(((i : Nat) : Int) + c) % (os.length : Nat)=(wk : Int):=⟨_,(Int.toNat_of_nonneg w0).symm⟩
      rw [show (fun i j : Int=>V.int (i % j)) (((i : Nat) : Int) + c) ((os.length : Nat) : Int)=V.int (wk : Nat) from congrArg V.int hwk]
      have zbY : wk < os.length:=by omega
      refine ⟨_,rfl,_,rfl,.ref po,os.length,rfl,.inl ⟨_,s6.seq ho,by rw [zm]⟩,_,_,rfl,rfl,⟨by omega,by omega⟩,_,rfl,_,rfl,_,_,rfl,by omega,by omega,_,_,rfl,rfl,_,rfl,.ref pw,ws.length,rfl,.inl ⟨_,s6.seq hw,by rw [zm]⟩,_,_,rfl,rfl,(by show (0 : Int) < (ws.length : Nat); omega),?_⟩
      have l0 : 0≤(((i : Nat) : Int) / (os.length : Nat) + yl c wk) % (ws.length : Nat):=Int.emod_nonneg _ (by omega)
      have l1 : (((i : Nat) : Int) / (os.length : Nat) + yl c wk) % (ws.length : Nat) < (ws.length : Nat):=Int.emod_lt_of_pos _ (by omega)
      obtain ⟨pl,hpl⟩ : ∃ pl : Nat,(((i : Nat) : Int) / (os.length : Nat) + yl c wk) % (ws.length : Nat)=(pl : Int):=⟨_,(Int.toNat_of_nonneg l0).symm⟩
      rw [show (fun i j : Int=>V.int (i % j)) (((i : Nat) : Int) / (os.length : Nat) + yl c wk) ((ws.length : Nat) : Int)=V.int (pl : Nat) from congrArg V.int hpl]
      have zbZ : pl < ws.length:=by omega
      have hwc : wk < wc.length:=by rw [hT.lw]; exact zbY
      have hpc : pl < pc.length:=by rw [hT.lp]; exact zbZ
      have hI' : ∀ q∈tk,∃ k : Nat,k < i + 1∧((k : Nat) + c) % (os.length : Nat)=(q.1 : Nat)∧(((k : Nat) : Int) / (os.length : Nat) + yl c (q.1 : Nat)) % (ws.length : Nat)=(q.2 : Nat):=fun q hq=>by
        obtain ⟨k,k1,k2⟩:=hI q hq
        exact ⟨k,by omega,k2⟩
      refine ⟨_,rfl,_,rfl,p2,_,_,_,rfl,rfl,SqL.of e26,zP hwc,_,rfl,_,rfl,po,_,_,_,rfl,rfl,s6.seq ho,zP zbY,_,_,rfl,rfl,_,rfl,ite2 (fun h2=>?_) (fun h2=>iteF ⟨⟨_,_,_,rfl⟩,s6,D,tk,wc,pc,xs,hT,hI',e26,e46,et6,sD,d2,d4,dt,hA⟩)⟩
      refine ⟨_,rfl,_,rfl,p4,_,_,_,rfl,rfl,SqL.of e46,zP hpc,_,rfl,_,rfl,pw,_,_,_,rfl,rfl,s6.seq hw,zP zbZ,_,_,rfl,rfl,_,rfl,ite2 (fun h3=>?_) (fun h3=>iteF ⟨⟨_,_,_,rfl⟩,s6,D,tk,wc,pc,xs,hT,hI',e26,e46,et6,sD,d2,d4,dt,hA⟩)⟩
      refine ⟨_,rfl,_,rfl,_,rfl,pm,ms,wk,pl,_,rfl,s6.seq hm,getD_at (by omega),_,rfl,ite2 (fun h1=>?_) (fun h1=>⟨⟨_,_,_,rfl⟩,s6,D,tk,wc,pc,xs,hT,hI',e26,e46,et6,sD,d2,d4,dt,hA⟩)⟩
      have h2' : wc.getD wk 0 < os.getD wk 0:=by have : ((wc.getD wk 0 : Nat) : Int) < (os.getD wk 0 : Nat):=of_decide_eq_true h2; omega
      have h3' : pc.getD pl 0 < ws.getD pl 0:=by have : ((pc.getD pl 0 : Nat) : Int) < (ws.getD pl 0 : Nat):=of_decide_eq_true h3; omega
      have hni : (wk,pl)∉tk:=fun hin=>by
        obtain ⟨k,k1,k2,k3⟩:=hI _ hin
        have:=CD.zbo (a:=k) (b:=i) (c:=c) (M:=yl c wk) (by omega) (by omega) (k2.trans hwk.symm) (k3.trans hpl.symm)
        omega
      refine ⟨_,rfl,.inl ⟨rfl,_,SqL.of et6⟩,_,rfl,_,rfl,by first | decide | (simp only [List.length_cons,List.length_nil,List.length_append,List.length_map]; decide),fun t2 ht2=>?_⟩
      have t8:=Same.zp (o := .tup [.int (wk : Nat),.int (pl : Nat)]) ht2
      have nd2 : D t2=none:=VJ sD ht2
      have sD8 : Same (upd D t2 (.tup [.int (wk : Nat),.int (pl : Nat)])) (upd H6 t2 (.tup [.int (wk : Nat),.int (pl : Nat)])):=fun b o e=>by
        by_cases hb : b=t2
        · subst hb
          rw [upd_same] at e ⊢
          exact e
        · rw [upd_ne hb] at e ⊢
          exact sD _ _ e
      have dx8 : zx K (upd D t2 (.tup [.int (wk : Nat),.int (pl : Nat)])) (.ref t2) (CP.pairD (CP.wg (wk,pl))):=CP.VO upd_same
      have hA8:=zc.up hA (Same.zp (o := .tup [.int (wk : Nat),.int (pl : Nat)]) nd2)
      have d2' : upd D t2 (.tup [.int (wk : Nat),.int (pl : Nat)]) p2=none:=(upd_ne (ne_of_none e26 ht2)).trans d2
      have d4' : upd D t2 (.tup [.int (wk : Nat),.int (pl : Nat)]) p4=none:=(upd_ne (ne_of_none e46 ht2)).trans d4
      have dt' : upd D t2 (.tup [.int (wk : Nat),.int (pl : Nat)]) pt=none:=(upd_ne (ne_of_none et6 ht2)).trans dt
      have e28:=t8 _ _ e26
      have e48:=t8 _ _ e46
      have et8:=t8 _ _ et6
      have s8:=s6.trans t8
      generalize upd D t2 (.tup [.int (wk : Nat),.int (pl : Nat)])=D8 at sD8 dx8 hA8 d2' d4' dt'
      generalize upd H6 t2 (.tup [.int (wk : Nat),.int (pl : Nat)])=H8 at sD8 e28 e48 et8 s8 t8 ⊢
      have lxs:=zc.length hA
      rw [List.length_map,List.length_map] at lxs
      have hfew:=hT.dl.few g1 hml
      refine ⟨pt,_,_,rfl,rfl,et8,by omega,?_⟩
      have s9:=zK (o := .lst (xs ++ [.ref t2])) s8 nt
      have sD9:=zK (o := .lst (xs ++ [.ref t2])) sD8 dt'
      have e29 : upd H8 pt (.lst (xs ++ [.ref t2])) p2=some (.lst (nV wc)):=(upd_ne n2t).trans e28
      have e49 : upd H8 pt (.lst (xs ++ [.ref t2])) p4=some (.lst (nV pc)):=(upd_ne n4t).trans e48
      have et9 : upd H8 pt (.lst (xs ++ [.ref t2])) pt=some (.lst (xs ++ [.ref t2])):=upd_same
      generalize upd H8 pt (.lst (xs ++ [.ref t2]))=H9 at s9 sD9 e29 e49 et9 ⊢
      refine ⟨_,rfl,_,rfl,p2,_,_,_,rfl,rfl,SqL.of e29,zP hwc,_,_,rfl,rfl,_,rfl,_,rfl,p2,_,_,wk,rfl,rfl,e29,by rw [zm]; exact yL hwc,?_⟩
      rw [show (fun i j : Int=>V.int (i + j)) ((wc.getD wk 0 : Nat) : Int) 1=V.int ((wc.getD wk 0 + 1 : Nat) : Int) from rfl,vh]
      have s10:=zK (o := .lst (nV (wc.set wk (wc.getD wk 0 + 1)))) s9 n2
      have zej:=zK (o := .lst (nV (wc.set wk (wc.getD wk 0 + 1)))) sD9 d2'
      have zek : upd H9 p2 (.lst (nV (wc.set wk (wc.getD wk 0 + 1)))) p2=some (.lst (nV (wc.set wk (wc.getD wk 0 + 1)))):=upd_same
      have zb0 : upd H9 p2 (.lst (nV (wc.set wk (wc.getD wk 0 + 1)))) p4=some (.lst (nV pc)):=(upd_ne n24.symm).trans e49
      have zel : upd H9 p2 (.lst (nV (wc.set wk (wc.getD wk 0 + 1)))) pt=some (.lst (xs ++ [.ref t2])):=(upd_ne n2t.symm).trans et9
      generalize upd H9 p2 (.lst (nV (wc.set wk (wc.getD wk 0 + 1))))=H10 at s10 zej zek zb0 zel ⊢
      refine ⟨_,rfl,_,rfl,p4,_,_,_,rfl,rfl,SqL.of zb0,zP hpc,_,_,rfl,rfl,_,rfl,_,rfl,p4,_,_,pl,rfl,rfl,zb0,by rw [zm]; exact yL hpc,?_⟩
      rw [show (fun i j : Int=>V.int (i + j)) ((pc.getD pl 0 : Nat) : Int) 1=V.int ((pc.getD pl 0 + 1 : Nat) : Int) from rfl,vh]
      refine ⟨⟨_,_,_,rfl⟩,zK s10 n4,D8,tk ++ [(wk,pl)],_,_,_,hT.step zbY zbZ g1 hni h1 h2' h3',?_,(upd_ne n24).trans zek,upd_same,(upd_ne n4t.symm).trans zel,zK zej d4',d2',d4',dt',?_⟩
      · intro q hq
        rcases List.mem_append.mp hq with z | z
        · exact hI' q z
        · rw [List.mem_singleton.mp z]
          exact ⟨i,by omega,hwk,hpl⟩
      rw [List.map_append,List.map_append]
      exact zc.snoc dx8 hA8
    rintro σ H6 ⟨⟨v1,v2,v3,rfl⟩,s6,D,tk,wc,pc,xs,hT,hI,e26,e46,et6,sD,d2,d4,dt,hA⟩
    have hfew:=hT.dl.few g1 hml
    refine ⟨_,rfl,pt,xs,tk.map CP.wg,rfl,SqL.of et6,zc.same sD _ hA,CD.WZ hT.dl.nd,by rw [List.length_map]; omega,fun l zs qs hl' hD hp hr=>?_⟩
    have t7:=Same.zp (o := .lst zs) hl'
    exact q _ l zs qs tk (s6.trans t7) upd_same (zc.same t7 _ hD) hT.dl hp hr
noncomputable def za4 (K : PySem.W.Frag) : Sp:=fun vs H Q _=>L23.E4 fun (c : Int) (pp : Addr) (ps : List Nat) (y : Nat)=>L23.A4 (vs=[.int c,.ref pp,.int (y : Nat)]) (SqL K H pp (nV ps)) (ps.length≤1000) (∀ H' r (xs : List Nat),Same H H'→H' r=some (.lst (nV xs))→xs.length=ps.length→Q (.ref r) H')
theorem zem {f : Addr} {fd yO : FuncData} (F : Fun K "_law_raised" "_law_raised" yi f fd) (T : Txt K mg a)
    (yQ : FnOk P w K mg base CX0 1 a.yZ yO ["_law_cell","_law_k"] (ZN K)) (yG : Fun K "_law_mixed" "_law_mixed" xw a.yZ yO) (yR : Binds K yO ["_law_cell","_law_k"] []) : FnOk P w K mg base CX0 2 f fd ["_law_cell","_law_prices_of","_law_way"] (za4 K):=by
  refine F.ok zdJ (fun vs H Q E h=>?_) (fun cdv A outer s H vs Q E hr h=>?_)
  · obtain ⟨c,pp,ps,y,rfl,_⟩:=h
    rfl
  · obtain ⟨c,pp,ps,y,rfl,hp,lp,q⟩:=h
    refine ⟨_,(pss_cons (psN (i:=3) (sc:=defScope yi) (M:=xC) rfl rfl (by decide +kernel) (pe_lst pa_nil))
      (pss_cons (ps_for PassesOwn.never rfl (pi_range1 (glR (sc:=defScope yi) rfl (by decide +kernel)) T.yo (pa_cons (zo (sc:=defScope yi) call_len rfl (by decide +kernel) T.yj yd (pa_cons (pvA 1 (defScope yi) xC rfl rfl) pa_nil)) pa_nil)) (pgN (i:=4) (sc:=defScope yi) (M:=xC) rfl rfl (by decide +kernel)) (pss_cons (psN (i:=5) (sc:=defScope yi) (M:=xC) rfl rfl (by decide +kernel) (pe_op op_sub (pe_op op_mod (pe_op op_fdiv (zk (sc:=defScope yi) yQ (hr.mono (by decide)) rfl (by decide +kernel) T.vI yG.kp yR .nil pass0 (pa_cons (pvA 0 (defScope yi) xC rfl rfl) (pa_cons (pvA 4 (defScope yi) xC rfl rfl) pa_nil))) pe_int) pe_int) pe_int))
      (pss_one (ps_expr (pe_bm PySem.F.plainAttrs_list PySem.F.slot_list_append PySem.F.type_list_append mt_append (pvA 3 (defScope yi) xC rfl rfl) (pa_cons (pe_ix ix_list (pe_lst (pa_cons (zo (sc:=defScope yi) (call_max2 rfl) rfl (by decide +kernel) T.jH Yt (pa_cons pe_int (pa_cons (pe_op op_add (pe_ix ix_list (pvA 1 (defScope yi) xC rfl rfl) (pvA 4 (defScope yi) xC rfl rfl) (fun _ _=>rfl)) (pvA 5 (defScope yi) xC rfl rfl)) pa_nil))) (pa_cons (pe_op op_fdiv (pe_ix ix_list (pvA 1 (defScope yi) xC rfl rfl) (pvA 4 (defScope yi) xC rfl rfl) (fun _ _=>rfl)) pe_int) (pa_cons pe_int pa_nil)))) (pe_op op_mod (pvA 2 (defScope yi) xC rfl rfl) pe_int) (fun _ _=>rfl)) pa_nil))))))
      (pss_one (ps_ret (pvA 3 (defScope yi) xC rfl rfl))))),?_⟩
    try dsimp only [cxOf,Cx.nox]
    have hs' : sizeLine=16777216:=sizeLine_eq
    refine ⟨by first | decide | (simp only [List.length_cons,List.length_nil,List.length_append,List.length_map]; decide),fun pf hpf=>?_⟩
    have s1:=Same.zp (o := .lst []) hpf
    have e1 : upd H pf (.lst []) pf=some (.lst []):=upd_same
    generalize upd H pf (.lst [])=H1 at s1 e1 ⊢
    refine ⟨_,rfl,.ref pp,ps.length,rfl,.inl ⟨_,s1.seq hp,by rw [zm]⟩,_,rfl,by omega,by omega,?_⟩
    rw [Int.toNat_natCast]
    refine for_range (fun i σ H'=>L23.A3 ((L23.E2 fun v1 v2=>σ=[some (.int c),some (.ref pp),some (.int (y : Nat)),some (.ref pf),v1,v2])) (Same H H') (∃ (xs : List Nat),xs.length=i∧H' pf=some (.lst (nV xs)))) ⟨⟨_,_,rfl⟩,s1,[],rfl,e1⟩ ?_ ?_
    · rintro i σ H2 hi ⟨⟨v1,v2,rfl⟩,s2,xs,lx,e2⟩
      rw [show (0 : Int) + (i : Nat)=(i : Nat) by omega]
      refine ⟨_,rfl,_,rfl,c,(i : Nat),rfl,by omega,by omega,_,_,rfl,rfl,⟨by decide,by decide⟩,_,_,rfl,rfl,(show (0 : Int) < 5 by decide),_,_,rfl,rfl,?_⟩
      refine ⟨_,rfl,.inl ⟨rfl,_,SqL.of e2⟩,_,rfl,_,rfl,pp,_,_,_,rfl,rfl,s2.seq hp,zP hi,_,rfl,_,_,rfl,rfl,_,_,rfl,_,rfl,_,rfl,pp,_,_,_,rfl,rfl,s2.seq hp,zP hi,_,_,rfl,rfl,⟨by decide,by decide⟩,by first | decide | (simp only [List.length_cons,List.length_nil,List.length_append,List.length_map]; decide),fun p3 hp3=>?_⟩
      have t3:=Same.zp (o := .lst [V.int (if ((ps.getD i 0 : Nat) : Int) + (yl c (i : Nat) / 3 % 5 - 2) > 0 then ((ps.getD i 0 : Nat) : Int) + (yl c (i : Nat) / 3 % 5 - 2) else 0),V.int (((ps.getD i 0 : Nat) : Int) / 2),V.int 0]) hp3
      have e3 : upd H2 p3 (.lst [V.int (if ((ps.getD i 0 : Nat) : Int) + (yl c (i : Nat) / 3 % 5 - 2) > 0 then ((ps.getD i 0 : Nat) : Int) + (yl c (i : Nat) / 3 % 5 - 2) else 0),V.int (((ps.getD i 0 : Nat) : Int) / 2),V.int 0]) p3=some (.lst (nV [(((ps.getD i 0 : Nat) : Int) + (yl c (i : Nat) / 3 % 5 - 2)).toNat,ps.getD i 0 / 2,0])):=by
        rw [upd_same]
        generalize (((ps.getD i 0 : Nat) : Int) + (yl c (i : Nat) / 3 % 5 - 2))=z
        have h1 : (if z > 0 then z else 0)=((z.toNat : Nat) : Int):=by split <;> omega
        rw [h1]
        rfl
      have hy : (y : Int) % 3=((y % 3 : Nat) : Int):=rfl
      have hy3 : y % 3 < 3:=Nat.mod_lt _ (by decide)
      refine ⟨_,rfl,_,_,rfl,rfl,(show (0 : Int) < 3 by decide),p3,_,_,_,rfl,rfl,SqL.of e3,zP (p:=y % 3) (l:=[_,_,_]) hy3,pf,_,_,rfl,rfl,t3 _ _ e2,by rw [zm]; omega,?_⟩
      generalize ([(((ps.getD i 0 : Nat) : Int) + (yl c (i : Nat) / 3 % 5 - 2)).toNat,ps.getD i 0 / 2,0] : List Nat).getD (y % 3) 0=zz
      refine ⟨⟨_,_,rfl⟩,zK (s2.trans t3) hpf,xs ++ [zz],by rw [List.length_append]; show xs.length + 1=_; omega,?_⟩
      rw [upd_same]
      unfold nV
      rw [List.map_append]
      rfl
    · rintro σ H2 ⟨⟨v1,v2,rfl⟩,s2,xs,lx,e2⟩
      exact ⟨_,rfl,q _ pf xs s2 e2 lx⟩
noncomputable def YY (K : PySem.W.Frag) (tb : L20.Tab) : Sp:=fun vs H Q _=>L23.E2 fun (a : Addr) (ns : List Int)=>L23.A5 (vs=[.ref a]) (L20.Tb tb H) (SqL K H a (ns.map V.int)) (ns.length≤63) (∀ H',Q (.bl true) H')
theorem zen {f : Addr} {fd jy VA yO VB VC VD VE VF jx : FuncData} (F : Fun K "law" "law" ze f fd) (T : Txt K mg a)
    (jO : FnOk P w K mg base CX0 1 a.wz jy ["_law_script","_law_k"] (Ve K)) (vL : Fun K "_law_cell_at" "_law_cell_at" xZ a.wz jy) (jP : Binds K jy ["_law_script","_law_k"] [])
    (J5 : FnOk P w K mg base CX0 2 a.Zj VA ["_law_script"] (za2 K)) (YZ : Fun K "_law_ground" "_law_ground" zj a.Zj VA) (J6 : Binds K VA ["_law_script"] [])
    (yQ : FnOk P w K mg base CX0 1 a.yZ yO ["_law_cell","_law_k"] (ZN K)) (yG : Fun K "_law_mixed" "_law_mixed" xw a.yZ yO) (yR : Binds K yO ["_law_cell","_law_k"] [])
    (WB : FnOk P w K mg base CX0 2 a.Zk VB ["_law_cell","_law_prices_of","_law_way"] (za4 K)) (Z3 : Fun K "_law_raised" "_law_raised" yi a.Zk VB) (WC : Binds K VB ["_law_cell","_law_prices_of","_law_way"] [])
    (J7 : FnOk P w K mg base CX0 2 a.ZJ VC ["_law_cell","_law_wants","_law_oftens","_law_masks"] (za3 K)) (Y0 : Fun K "_law_taken" "_law_taken" zA a.ZJ VC) (J8 : Binds K VC ["_law_cell","_law_wants","_law_oftens","_law_masks"] [])
    (J9 : FnOk P w K mg base CX0 11 a.best VD ["wants","oftens","masks","marks","worths"] (zaV K a.tab)) (Y3 : Fun K "best" "best" zB a.best VD) (zaa : Binds K VD ["wants","oftens","masks","marks","worths"] [])
    (WD : FnOk P w K mg base CX0 3 a.Zi VE ["pairs","wants","oftens","masks"] (za0 K)) (Z4 : Fun K "is_dealing" "is_dealing" zO a.Zi VE) (WE : Binds K VE ["pairs","wants","oftens","masks"] [])
    (WG : FnOk P w K mg base CX0 2 a.w6 VF ["wants","oftens","masks","weights","place_prices","work_prices"] (zaW K)) (Z5 : Fun K "priced" "priced" zy a.w6 VF) (WH : Binds K VF ["wants","oftens","masks","weights","place_prices","work_prices"] [])
    (Z0 : FnOk P w K mg base CX0 2 a.vf jx ["oftens","marks","worths"] (Vg K)) (jN : Fun K "weights_of" "weights_of" yg a.vf jx) (Z1 : Binds K jx ["oftens","marks","worths"] []) : FnOk P w K mg base CX0 12 f fd ["_law_script"] (YY K a.tab):=by
  refine F.ok zdK (fun vs H Q E h=>?_) (fun cdv A outer s H vs Q E hr h=>?_)
  · obtain ⟨ad,ns,rfl,_⟩:=h
    rfl
  · obtain ⟨ad,ns,rfl,tb0,hS,hl,q⟩:=h
    refine ⟨_,(pss_cons (ps_asg (zk (sc:=defScope ze) J5 (hr.mono (by decide)) rfl (by decide +kernel) T.zft YZ.kp J6 .nil pass0 (pa_cons (pvA 0 (defScope ze) zl rfl rfl) pa_nil)) (pg_tup (n:=5) (by rfl) (pgs_cons (pgN (i:=1) (sc:=defScope ze) (M:=zl) rfl rfl (by decide +kernel)) (pgs_cons (pgN (i:=2) (sc:=defScope ze) (M:=zl) rfl rfl (by decide +kernel)) (pgs_cons (pgN (i:=3) (sc:=defScope ze) (M:=zl) rfl rfl (by decide +kernel)) (pgs_cons (pgC (i:=4) (sc:=defScope ze) (M:=zl) rfl rfl rfl (by decide +kernel)) (pgs_cons (pgC (i:=5) (sc:=defScope ze) (M:=zl) rfl rfl rfl (by decide +kernel)) pgs_nil)))))))
      (pss_cons (psC (i:=6) (sc:=defScope ze) (M:=zl) rfl rfl rfl (by decide +kernel) (zk (sc:=defScope ze) Z0 (hr.mono (by decide)) rfl (by decide +kernel) T.zcf jN.kp Z1 .nil pass0 (pa_cons (pvA 2 (defScope ze) zl rfl rfl) (pa_cons (pvA 4 (defScope ze) zl rfl rfl) (pa_cons (pvA 5 (defScope ze) zl rfl rfl) pa_nil)))))
      (pss_cons (ps_asg (zk (sc:=defScope ze) J9 (hr.mono (by decide)) rfl (by decide +kernel) T.zfq Y3.kp zaa .nil pass0 (pa_cons (pvA 1 (defScope ze) zl rfl rfl) (pa_cons (pvA 2 (defScope ze) zl rfl rfl) (pa_cons (pvA 3 (defScope ze) zl rfl rfl) (pa_cons (pvA 4 (defScope ze) zl rfl rfl) (pa_cons (pvA 5 (defScope ze) zl rfl rfl) pa_nil)))))) (pg_tup (n:=4) (by rfl) (pgs_cons (pgN (i:=7) (sc:=defScope ze) (M:=zl) rfl rfl (by decide +kernel)) (pgs_cons (pgN (i:=8) (sc:=defScope ze) (M:=zl) rfl rfl (by decide +kernel)) (pgs_cons (pgN (i:=9) (sc:=defScope ze) (M:=zl) rfl rfl (by decide +kernel)) (pgs_cons (pgN (i:=10) (sc:=defScope ze) (M:=zl) rfl rfl (by decide +kernel)) pgs_nil))))))
      (pss_cons (psN (i:=11) (sc:=defScope ze) (M:=zl) rfl rfl (by decide +kernel) (zo (sc:=defScope ze) (xA rfl) rfl (by decide +kernel) T.wD vO (pa_cons (zN rfl (N:=["_law_work","_law_place","_law_weights"]) (own:=2) (js:=[6]) (X:=(cxOf CX0 P w K mg base zl "law" (defScope ze) f cdv A outer s H E).nox) (zM (defScope ze) zl rfl rfl (by decide +kernel)) (pi_list (pvA 7 (defScope ze) zl rfl rfl)) (fun fp0 sx0 Hx0=>(yU (K:=K) rfl (pg_tup (n:=2) (by rfl) (pgs_cons (pgN (i:=0) (sc:=zb _ (defScope ze)) (M:=["_law_work","_law_place","_law_weights"]) rfl rfl (by decide +kernel)) (pgs_cons (pgN (i:=1) (sc:=zb _ (defScope ze)) (M:=["_law_work","_law_place","_law_weights"]) rfl rfl (by decide +kernel)) pgs_nil))))) (fun fp0 sx0 Hx0=>zG) (fun fp0 sx0 Hx0=>(pe_ix (kIx (r:=rIxL) (K:=K) rfl ix_list) (pe_ix (kIx (r:=rIxL) (K:=K) rfl ix_list) (pvN (i:=2) (sc:=zb _ (defScope ze)) (M:=["_law_work","_law_place","_law_weights"]) rfl rfl (by decide +kernel)) (pvN (i:=0) (sc:=zb _ (defScope ze)) (M:=["_law_work","_law_place","_law_weights"]) rfl rfl (by decide +kernel)) (fun _ _=>rfl)) (pvN (i:=1) (sc:=zb _ (defScope ze)) (M:=["_law_work","_law_place","_law_weights"]) rfl rfl (by decide +kernel)) (fun _ _=>rfl)))) pa_nil)))
      (pss_cons (ps_if (pt_cmpR XZ (zk (sc:=defScope ze) WD (hr.mono (by decide)) rfl (by decide +kernel) T.zci Z4.kp WE .nil pass0 (pa_cons (pvA 7 (defScope ze) zl rfl rfl) (pa_cons (pvA 1 (defScope ze) zl rfl rfl) (pa_cons (pvA 2 (defScope ze) zl rfl rfl) (pa_cons (pvA 3 (defScope ze) zl rfl rfl) pa_nil))))) pe_bl (nomark _)) (pss_one (ps_ret pe_bl)) pss_nil)
      (pss_cons (psN (i:=12) (sc:=defScope ze) (M:=zl) rfl rfl (by decide +kernel) (pe_lst (pa_cons (zk (sc:=defScope ze) WG (hr.mono (by decide)) rfl (by decide +kernel) T.zcg Z5.kp WH .nil pass0 (pa_cons (pvA 1 (defScope ze) zl rfl rfl) (pa_cons (pvA 2 (defScope ze) zl rfl rfl) (pa_cons (pvA 3 (defScope ze) zl rfl rfl) (pa_cons (pvA 6 (defScope ze) zl rfl rfl) (pa_cons (pvA 9 (defScope ze) zl rfl rfl) (pa_cons (pvA 10 (defScope ze) zl rfl rfl) pa_nil))))))) pa_nil)))
      (pss_cons (ps_if (pt_cmpR op_ne (pe_ix ix_list (pvA 12 (defScope ze) zl rfl rfl) pe_int (fun _ _=>rfl)) (pvA 11 (defScope ze) zl rfl rfl) (nomark _)) (pss_one (ps_ret pe_bl)) pss_nil)
      (pss_cons (psN (i:=13) (sc:=defScope ze) (M:=zl) rfl rfl (by decide +kernel) (zk (sc:=defScope ze) yQ (hr.mono (by decide)) rfl (by decide +kernel) T.vI yG.kp yR .nil pass0 (pa_cons (zk (sc:=defScope ze) jO (hr.mono (by decide)) rfl (by decide +kernel) T.Wu vL.kp jP .nil pass0 (pa_cons (pvA 0 (defScope ze) zl rfl rfl) (pa_cons pe_int pa_nil))) (pa_cons pe_int pa_nil))))
      (pss_cons (ps_for PassesOwn.never rfl (pi_range1 (glR (sc:=defScope ze) rfl (by decide +kernel)) T.yo (pa_cons pe_int pa_nil)) (pgN (i:=14) (sc:=defScope ze) (M:=zl) rfl rfl (by decide +kernel)) (pss_cons (psN (i:=15) (sc:=defScope ze) (M:=zl) rfl rfl (by decide +kernel) (zk (sc:=defScope ze) WB (hr.mono (by decide)) rfl (by decide +kernel) T.zcj Z3.kp WC .nil pass0 (pa_cons (pe_op op_fdiv (pvA 13 (defScope ze) zl rfl rfl) (pe_op op_add pe_int (pvA 14 (defScope ze) zl rfl rfl))) (pa_cons (pvA 9 (defScope ze) zl rfl rfl) (pa_cons (pvA 14 (defScope ze) zl rfl rfl) pa_nil)))))
      (pss_cons (psN (i:=16) (sc:=defScope ze) (M:=zl) rfl rfl (by decide +kernel) (zk (sc:=defScope ze) WB (hr.mono (by decide)) rfl (by decide +kernel) T.zcj Z3.kp WC .nil pass0 (pa_cons (pe_op op_fdiv (pvA 13 (defScope ze) zl rfl rfl) (pe_op op_add pe_int (pvA 14 (defScope ze) zl rfl rfl))) (pa_cons (pvA 10 (defScope ze) zl rfl rfl) (pa_cons (pe_op op_fdiv (pvA 14 (defScope ze) zl rfl rfl) pe_int) pa_nil)))))
      (pss_one (ps_expr (pe_bm PySem.F.plainAttrs_list PySem.F.slot_list_append PySem.F.type_list_append mt_append (pvA 12 (defScope ze) zl rfl rfl) (pa_cons (zk (sc:=defScope ze) WG (hr.mono (by decide)) rfl (by decide +kernel) T.zcg Z5.kp WH .nil pass0 (pa_cons (pvA 1 (defScope ze) zl rfl rfl) (pa_cons (pvA 2 (defScope ze) zl rfl rfl) (pa_cons (pvA 3 (defScope ze) zl rfl rfl) (pa_cons (pvA 6 (defScope ze) zl rfl rfl) (pa_cons (pvA 15 (defScope ze) zl rfl rfl) (pa_cons (pvA 16 (defScope ze) zl rfl rfl) pa_nil))))))) pa_nil)))))))
      (pss_cons (ps_for PassesOwn.never rfl (pi_range1 (glR (sc:=defScope ze) rfl (by decide +kernel)) T.yo (pa_cons pe_int pa_nil)) (pgN (i:=14) (sc:=defScope ze) (M:=zl) rfl rfl (by decide +kernel)) (pss_cons (psN (i:=17) (sc:=defScope ze) (M:=zl) rfl rfl (by decide +kernel) (zk (sc:=defScope ze) J7 (hr.mono (by decide)) rfl (by decide +kernel) T.zfv Y0.kp J8 .nil pass0 (pa_cons (pe_op op_fdiv (zk (sc:=defScope ze) yQ (hr.mono (by decide)) rfl (by decide +kernel) T.vI yG.kp yR .nil pass0 (pa_cons (pvA 13 (defScope ze) zl rfl rfl) (pa_cons (pvA 14 (defScope ze) zl rfl rfl) pa_nil))) pe_int) (pa_cons (pvA 1 (defScope ze) zl rfl rfl) (pa_cons (pvA 2 (defScope ze) zl rfl rfl) (pa_cons (pvA 3 (defScope ze) zl rfl rfl) pa_nil))))))
      (pss_cons (psN (i:=18) (sc:=defScope ze) (M:=zl) rfl rfl (by decide +kernel) (zo (sc:=defScope ze) (xA rfl) rfl (by decide +kernel) T.wD vO (pa_cons (zN rfl (N:=["_law_work","_law_place","_law_weights"]) (own:=2) (js:=[6]) (X:=(cxOf CX0 P w K mg base zl "law" (defScope ze) f cdv A outer s H E).nox) (zM (defScope ze) zl rfl rfl (by decide +kernel)) (pi_list (pvA 17 (defScope ze) zl rfl rfl)) (fun fp0 sx0 Hx0=>(yU (K:=K) rfl (pg_tup (n:=2) (by rfl) (pgs_cons (pgN (i:=0) (sc:=zb _ (defScope ze)) (M:=["_law_work","_law_place","_law_weights"]) rfl rfl (by decide +kernel)) (pgs_cons (pgN (i:=1) (sc:=zb _ (defScope ze)) (M:=["_law_work","_law_place","_law_weights"]) rfl rfl (by decide +kernel)) pgs_nil))))) (fun fp0 sx0 Hx0=>zG) (fun fp0 sx0 Hx0=>(pe_ix (kIx (r:=rIxL) (K:=K) rfl ix_list) (pe_ix (kIx (r:=rIxL) (K:=K) rfl ix_list) (pvN (i:=2) (sc:=zb _ (defScope ze)) (M:=["_law_work","_law_place","_law_weights"]) rfl rfl (by decide +kernel)) (pvN (i:=0) (sc:=zb _ (defScope ze)) (M:=["_law_work","_law_place","_law_weights"]) rfl rfl (by decide +kernel)) (fun _ _=>rfl)) (pvN (i:=1) (sc:=zb _ (defScope ze)) (M:=["_law_work","_law_place","_law_weights"]) rfl rfl (by decide +kernel)) (fun _ _=>rfl)))) pa_nil)))
      (pss_cons (ps_if (PW.pt (pw_or (pt_cmpR XZ (zk (sc:=defScope ze) WD (hr.mono (by decide)) rfl (by decide +kernel) T.zci Z4.kp WE .nil pass0 (pa_cons (pvA 17 (defScope ze) zl rfl rfl) (pa_cons (pvA 1 (defScope ze) zl rfl rfl) (pa_cons (pvA 2 (defScope ze) zl rfl rfl) (pa_cons (pvA 3 (defScope ze) zl rfl rfl) pa_nil))))) pe_bl (nomark _)) (pw_or (pt_cmpR op_gt (zo (sc:=defScope ze) call_len rfl (by decide +kernel) T.yj yd (pa_cons (pvA 17 (defScope ze) zl rfl rfl) pa_nil)) (zo (sc:=defScope ze) call_len rfl (by decide +kernel) T.yj yd (pa_cons (pvA 7 (defScope ze) zl rfl rfl) pa_nil)) (nomark _)) (pw_or1 (pt_cmpR op_gt (pvA 18 (defScope ze) zl rfl rfl) (zo (sc:=defScope ze) (Wc rfl) rfl (by decide +kernel) T.Zm WJ (pa_cons (pvA 12 (defScope ze) zl rfl rfl) pa_nil)) (nomark _)))))) (pss_one (ps_ret pe_bl)) pss_nil)
      (pss_cons (psN (i:=18) (sc:=defScope ze) (M:=zl) rfl rfl (by decide +kernel) (zo (sc:=defScope ze) (xA rfl) rfl (by decide +kernel) T.wD vO (pa_cons (zN rfl (N:=["_law_work","_law_place","_law_marks","_law_worths"]) (own:=2) (js:=[4,5]) (X:=(cxOf CX0 P w K mg base zl "law" (defScope ze) f cdv A outer s H E).nox) (zM (defScope ze) zl rfl rfl (by decide +kernel)) (pi_list (pvA 17 (defScope ze) zl rfl rfl)) (fun fp0 sx0 Hx0=>(yU (K:=K) rfl (pg_tup (n:=2) (by rfl) (pgs_cons (pgN (i:=0) (sc:=zb _ (defScope ze)) (M:=["_law_work","_law_place","_law_marks","_law_worths"]) rfl rfl (by decide +kernel)) (pgs_cons (pgN (i:=1) (sc:=zb _ (defScope ze)) (M:=["_law_work","_law_place","_law_marks","_law_worths"]) rfl rfl (by decide +kernel)) pgs_nil))))) (fun fp0 sx0 Hx0=>zG) (fun fp0 sx0 Hx0=>(pe_op op_mul (pe_ix (kIx (r:=rIxL) (K:=K) rfl ix_list) (pvN (i:=2) (sc:=zb _ (defScope ze)) (M:=["_law_work","_law_place","_law_marks","_law_worths"]) rfl rfl (by decide +kernel)) (pvN (i:=0) (sc:=zb _ (defScope ze)) (M:=["_law_work","_law_place","_law_marks","_law_worths"]) rfl rfl (by decide +kernel)) (fun _ _=>rfl)) (pe_ix (kIx (r:=rIxL) (K:=K) rfl ix_list) (pvN (i:=3) (sc:=zb _ (defScope ze)) (M:=["_law_work","_law_place","_law_marks","_law_worths"]) rfl rfl (by decide +kernel)) (pvN (i:=1) (sc:=zb _ (defScope ze)) (M:=["_law_work","_law_place","_law_marks","_law_worths"]) rfl rfl (by decide +kernel)) (fun _ _=>rfl))))) pa_nil)))
      (pss_one (ps_if (PW.pt (pw_and (pt_cmpR op_eq (zo (sc:=defScope ze) call_len rfl (by decide +kernel) T.yj yd (pa_cons (pvA 17 (defScope ze) zl rfl rfl) pa_nil)) (zo (sc:=defScope ze) call_len rfl (by decide +kernel) T.yj yd (pa_cons (pvA 7 (defScope ze) zl rfl rfl) pa_nil)) (nomark _)) (pw_and1 (pt_cmpR op_gt (pvA 18 (defScope ze) zl rfl rfl) (pvA 8 (defScope ze) zl rfl rfl) (nomark _))))) (pss_one (ps_ret pe_bl)) pss_nil)))))))
      (pss_one (ps_ret (pe_cmpR op_le (pvA 11 (defScope ze) zl rfl rfl) (zo (sc:=defScope ze) (Wc rfl) rfl (by decide +kernel) T.Zm WJ (pa_cons (pvA 12 (defScope ze) zl rfl rfl) pa_nil)) (nomark _)))))))))))))),?_⟩
    try dsimp only [cxOf,Cx.nox]
    have hs' : sizeLine=16777216:=sizeLine_eq
    refine ⟨_,rfl,ad,ns,rfl,hS,hl,fun ws os ms ks hs H1 t pw po pm pk ph s1 G l7 et ew eo em ek eh=>?_⟩
    have g1:=G.lk
    have g3:=G.lm
    have g4:=G.lh
    have g5:=G.four
    have g6:=G.one
    have bo : ∀ o∈os,o≤1000:=fun o ho=>by have:=(G.ol o ho).2; omega
    have bh : ∀ o∈hs,o≤1000:=fun o ho=>by have:=(G.hl o ho).2; omega
    have bw : ∀ o∈ws,o≤1000:=fun o ho=>by have:=G.wl o ho; omega
    have tb1:=tb0.same s1
    have hg : CG.Good 24 ws os ms:=⟨by omega,by omega,by omega,by omega,G.wl,G.wt,fun o ho=>⟨(G.ol o ho).1,by have:=(G.ol o ho).2; omega⟩,G.ml⟩
    have lmk : ms.length * ks.length < 64:=by
      have : ms.length * ks.length≤4 * 7:=Nat.mul_le_mul (by omega) (by omega)
      omega
    refine ⟨t,_,rfl,SqT.of et,rfl,_,_,rfl,_,_,rfl,_,_,rfl,_,_,rfl,_,_,rfl,rfl,?_⟩
    refine ⟨_,rfl,_,rfl,_,rfl,po,pk,ph,os,ks,hs,rfl,SqL.of eo,SqL.of ek,SqL.of eh,g1,by omega,by omega,bo,bh,fun H2 pW zW s2 eW hE nW=>?_⟩
    have tb2:=tb1.same s2
    refine ⟨_,rfl,_,rfl,_,rfl,_,rfl,_,rfl,pw,po,pm,pk,ph,ws,os,ms,ks,hs,rfl,tb2,s2 _ _ ew,s2 _ _ eo,s2 _ _ em,s2 _ _ ek,s2 _ _ eh,by omega,by omega,g1,by omega,by omega,.inl lmk,bo,bh,fun H3 t3 l zs qs pp pq ps qp tb3 sb3 et3 el hA epp epq tl=>?_⟩
    refine ⟨t3,_,rfl,SqT.of et3,rfl,_,_,rfl,_,_,rfl,_,_,rfl,_,_,rfl,rfl,?_⟩
    have ew3:=sb3.lst tb2 (s2 _ _ ew)
    have eo3:=sb3.lst tb2 (s2 _ _ eo)
    have em3:=sb3.lst tb2 (s2 _ _ em)
    have ek3:=sb3.lst tb2 (s2 _ _ ek)
    have eh3:=sb3.lst tb2 (s2 _ _ eh)
    have eW3:=sb3.lst tb2 eW
    have hE3 : Els NL H3 zW (CI.rows os ks hs):=hE.up (fun v x ⟨q',e1,e2⟩=>⟨q',e1,sb3.lst tb2 e2⟩)
    have hS3:=sb3.seq tb2 ((s1.trans s2).seq hS)
    clear tb0 hS s1 tb1 et ew eo em ek eh s2 tb2 eW hE nW sb3 tb3 et3
    have lz : zs.length=qs.length:=by have:=zc.length hA; rwa [List.length_map] at this
    have few:=(tl.most g1 (by omega) (by omega) (tl.ZE g1 (by omega)) tl.nd).1
    have fw : qs.length < 64:=tl.few (.inl lmk)
    have zbR : ∀ qq∈qs,∃ a b : Nat,qq=(((a : Nat) : Int),((b : Nat) : Int))∧a < ks.length∧b < ms.length:=tl.inr
    refine ⟨_,rfl,l,rfl,⟨_,SqL.of el⟩,fun c4 hc4=>?_⟩
    refine jg (K:=K) (D:=H3) (Same.refl H3) hc4 zF (fun σ=>L23.E2 fun v1 v2=>σ=[v1,v2,some (.ref pW)]) ((qs.map fun q=>PyData.int ((CI.wt os ks hs q.1.toNat q.2.toNat : Nat) : Int)).map some) (by rw [List.length_map,List.length_map,lz]) ⟨_,_,rfl⟩ (fun H' s'=>SqL.of (s' _ _ el)) (by omega) ?_ ?_
    · rintro i y o σ D2 H2 R1 R0 hy hoo ⟨v1,v2,rfl⟩ g2 k1 k0
      obtain ⟨qq,t,hq,rfl,et⟩:=CP.pairs_at hA hy
      rw [List.getElem?_map,List.getElem?_map,hq] at hoo
      obtain rfl:=Option.some.inj hoo
      obtain ⟨a0,b0,rfl,ha,hb⟩:=zbR qq (List.mem_of_getElem? hq)
      obtain ⟨vr,hvr,pr,rfl,er⟩:=hE3.at_ (CI.jY (os:=os) (hs:=hs) ha)
      have e0 : (CI.row os ks hs a0).getD b0 0=CI.wt os ks hs a0 b0:=CI.jk (by omega)
      refine ⟨t,_,rfl,SqT.of (g2.hh _ _ et),rfl,_,_,rfl,_,_,rfl,rfl,_,rfl,_,rfl,pW,_,_,_,rfl,rfl,SqL.of (g2.hh _ _ eW3),atI_nat hvr,_,rfl,pr,_,_,_,rfl,rfl,SqL.of (g2.hh _ _ er),zP (by rw [CI.jj]; omega),?_⟩
      rw [e0]
      exact k1 _ _ _ _ _ rfl ⟨_,_,rfl⟩ (Gr.refl g2.dh) zx.ofInt
    intro D4 H4 ys g4 e4 _ hA4
    rw [L4.filterMap_some] at hA4
    have hA5 : zc K D4 ys ((qs.map fun q : CP.Pr=>((CI.wt os ks hs q.1.toNat q.2.toNat : Nat) : Int)).map PyData.int):=by rw [List.map_map]; exact hA4
    obtain rfl:=zc.jf hA5
    refine ⟨c4,_,rfl,SqL.of e4,?_⟩
    rw [L7.wY,show (qs.map fun q : CP.Pr=>((CI.wt os ks hs q.1.toNat q.2.toNat : Nat) : Int)).foldl (· + ·) 0=wtS os ks hs qs from CV.vR _ _]
    have s4:=g4.hh
    clear g4 e4 hA4 hA5 hc4
    refine ⟨_,rfl,_,rfl,_,rfl,_,rfl,l,pw,po,pm,zs,qs,ws,os,ms,rfl,SqL.of (s4 _ _ el),zc.same s4 _ hA,SqL.of (s4 _ _ ew3),SqL.of (s4 _ _ eo3),SqL.of (s4 _ _ em3),by omega,by omega,by omega,fun H5 s5=>?_⟩
    rw [tl.ZE g1 (by omega)]
    refine ⟨_,_,rfl,rfl,_,rfl,iteF ?_⟩
    have s35:=s4.trans s5
    clear s4 s5
    refine ⟨_,rfl,_,rfl,_,rfl,_,rfl,_,rfl,_,rfl,pw,po,pm,pW,pp,pq,zW,CI.rows os ks hs,ws,os,ms,ps,qp,rfl,SqL.of (s35 _ _ ew3),SqL.of (s35 _ _ eo3),SqL.of (s35 _ _ em3),SqL.of (s35 _ _ eW3),hE3.up (fun _ _=>NL.up s35),by rw [CI.wJ]; exact g1,fun r hr'=>?_,SqL.of (s35 _ _ epp),SqL.of (s35 _ _ epq),by omega,tl.lp,by rw [tl.lq]; exact g1,by omega,by omega,bw,bo,fun H6 s6=>?_⟩
    · obtain ⟨w0,_,rfl⟩:=List.mem_map.mp hr'
      rw [CI.jj]
      omega
    rw [Yd (by omega) g1 (by omega),tl.zcs]
    refine ⟨by first | decide | (simp only [List.length_cons,List.length_nil,List.length_append,List.length_map]; decide),fun psh zeo=>?_⟩
    have s36:=s35.trans s6
    have u7:=Same.zp (o := .lst [V.int (wtS os ks hs qs)]) zeo
    have e7 : upd H6 psh (.lst [V.int (wtS os ks hs qs)]) psh=some (.lst [V.int (wtS os ks hs qs)]):=upd_same
    generalize upd H6 psh (.lst [V.int (wtS os ks hs qs)])=H7 at u7 e7 ⊢
    refine ⟨_,rfl,psh,_,_,_,rfl,rfl,SqL.of e7,rfl,_,rfl,rfl,_,rfl,?_⟩
    rw [show (!decide (V.int (wtS os ks hs qs)=V.int (wtS os ks hs qs)))=false by rw [decide_eq_true rfl]; rfl]
    refine iteF ?_
    refine ⟨_,rfl,ad,ns,2,rfl,(s36.trans u7).seq hS3,hl,by decide,_,30,rfl,by decide,by decide,?_⟩
    have c0:=zee (yF ns 2) 30
    generalize yl (yF ns 2) 30=cc at c0 ⊢
    have ge0 : ∀ rs : List CP.Pr,CP.yW rs ws os ms=true→rs.Nodup→wtS os ks hs rs≤wtS os ks hs qs:=fun rs h1 h2=>by
      rw [← tl.zcs]
      exact Vr h1 h2 (by omega) g1 ps qp
    generalize hWT : wtS os ks hs qs=WT at e7 ge0 ⊢
    generalize hSS : CV.yt (fun q : CP.Pr=>((ks.getD q.1.toNat 0 : Nat) : Int) * ((hs.getD q.2.toNat 0 : Nat) : Int)) qs=SS
    refine ⟨_,rfl,by decide,by decide,?_⟩
    refine for_range (fun i σ H'=>L23.A3 ((L23.E3 fun v14 v15 v16=>σ=[some (.ref ad),some (.ref pw),some (.ref po),some (.ref pm),some (.ref pk),some (.ref ph),some (.ref pW),some (.ref l),some (.int SS),some (.ref pp),some (.ref pq),some (.int WT),some (.ref psh),some (.int cc),v14,v15,v16,none,none])) (Same H6 H') (∃ (xs : List Int),L23.A4 (xs≠[]) (xs.length≤i + 1) (H' psh=some (.lst (xs.map V.int))) (∀ x∈xs,∀ rs : List CP.Pr,CP.yW rs ws os ms=true→rs.Nodup→wtS os ks hs rs≤x))) ⟨⟨_,_,_,rfl⟩,u7,[WT],(fun z=>nomatch z),Nat.le_refl _,e7,fun x hx=>by rw [List.mem_singleton.mp hx]; exact ge0⟩ ?_ ?_
    · rintro i σ H8 hi ⟨⟨v14,v15,v16,rfl⟩,s8,xs,xne,xl,e8,xg⟩
      rw [show (0 : Int) + (i : Nat)=(i : Nat) by omega]
      replace hi : i < 5:=hi
      have s38:=s36.trans s8
      refine ⟨_,rfl,_,rfl,_,_,rfl,rfl,_,_,rfl,rfl,⟨by show (0 : Int) < 3 + ((i : Nat) : Int); omega,by show (3 : Int) + ((i : Nat) : Int) < _; omega⟩,_,rfl,_,rfl,_,pp,ps,i,rfl,SqL.of (s38 _ _ epp),by rw [tl.lp]; omega,fun H9 r9 x9 s9 e9 l9=>?_⟩
      have s39:=s38.trans s9
      refine ⟨_,rfl,_,rfl,_,_,rfl,rfl,_,_,rfl,rfl,⟨by show (0 : Int) < 5 + ((i : Nat) : Int); omega,by show (5 : Int) + ((i : Nat) : Int) < _; omega⟩,_,rfl,_,rfl,_,_,rfl,rfl,⟨by decide,by decide⟩,_,pq,qp,i / 2,rfl,SqL.of (s39 _ _ epq),by rw [tl.lq]; omega,fun H10 r10 x10 s10 e10 l10=>?_⟩
      have Zp:=s39.trans s10
      have e8':=s10 _ _ (s9 _ _ e8)
      refine ⟨_,rfl,.inl ⟨rfl,_,SqL.of e8'⟩,_,rfl,_,rfl,_,rfl,_,rfl,_,rfl,_,rfl,pw,po,pm,pW,r9,r10,zW,CI.rows os ks hs,ws,os,ms,x9,x10,rfl,SqL.of (Zp _ _ ew3),SqL.of (Zp _ _ eo3),SqL.of (Zp _ _ em3),SqL.of (Zp _ _ eW3),hE3.up (fun _ _=>NL.up Zp),by rw [CI.wJ]; exact g1,fun r hr'=>?_,SqL.of (s10 _ _ e9),SqL.of e10,by omega,by rw [l9]; exact tl.lp,by rw [l10,tl.lq]; exact g1,by omega,by omega,bw,bo,fun H11 s11=>?_⟩
      · obtain ⟨w0,_,rfl⟩:=List.mem_map.mp hr'
        rw [CI.jj]
        omega
      rw [Yd (by omega) g1 (by omega)]
      refine ⟨psh,_,_,rfl,rfl,s11 _ _ e8',by rw [List.length_map]; omega,?_⟩
      refine ⟨⟨_,_,_,rfl⟩,zK (s8.trans (s9.trans (s10.trans s11))) zeo,xs ++ [CA.shw ms.length ks.length (CV.cc (CI.base os ks hs) ks hs) (CV.X ms) (CV.zz ws) (CV.zz os) (CV.zz x10) (CV.zz x9)],(fun z=>by simp at z),by rw [List.length_append]; show xs.length + 1≤_; omega,by rw [upd_same,List.map_append]; rfl,fun x hx rs h1 h2=>?_⟩
      rcases List.mem_append.mp hx with hx | hx
      · exact xg x hx rs h1 h2
      · rw [List.mem_singleton.mp hx]
        exact Vr h1 h2 (by omega) g1 x9 x10
    rintro σ H8 ⟨⟨v14,v15,v16,rfl⟩,s8,xs,xne,xl,e8,xg⟩
    have s38:=s36.trans s8
    refine ⟨_,rfl,by decide,by decide,?_⟩
    refine for_range (fun i σ H'=>(L23.E3 fun v14 v17 v18=>σ=[some (.ref ad),some (.ref pw),some (.ref po),some (.ref pm),some (.ref pk),some (.ref ph),some (.ref pW),some (.ref l),some (.int SS),some (.ref pp),some (.ref pq),some (.int WT),some (.ref psh),some (.int cc),v14,v15,v16,v17,v18])∧Same H8 H') ⟨⟨_,_,_,rfl⟩,Same.refl _⟩ ?_ ?_
    · rintro i σ H9 hi ⟨⟨v14',v17,v18,rfl⟩,s9⟩
      rw [show (0 : Int) + (i : Nat)=(i : Nat) by omega]
      replace hi : i < 4:=hi
      have s39:=s38.trans s9
      refine ⟨_,rfl,_,rfl,cc,(i : Nat),rfl,by omega,by omega,_,_,rfl,rfl,⟨by decide,by decide⟩,_,rfl,_,rfl,_,rfl,_,pw,po,pm,ws,os,ms,rfl,SqL.of (s39 _ _ ew3),SqL.of (s39 _ _ eo3),SqL.of (s39 _ _ em3),hg,fun H10 r zr qr tk s10 e10 zab zep Vq zbP=>?_⟩
      have dB:=zep.yW Vq zbP
      have ndr : qr.Nodup:=Vq.nodup_iff.mpr (List.pairwise_map.mpr (List.Pairwise.imp (fun {x y} hxy e=>hxy (CP.WU e)) zep.nd))
      have most:=tl.most g1 (by omega) (by omega) dB ndr
      have lzr : zr.length=qr.length:=by have:=zc.length zab; rwa [List.length_map] at this
      have zeq : ∀ qq∈qr,∃ a b : Nat,qq=(((a : Nat) : Int),((b : Nat) : Int))∧a < ks.length∧b < ms.length:=by rw [g1]; exact CV.ZU dB
      have Zp:=s39.trans s10
      have zb1:=s9.trans s10
      refine ⟨_,rfl,r,rfl,⟨_,SqL.of e10⟩,fun c4 hc4=>?_⟩
      refine jg (K:=K) (D:=H10) (Same.refl H10) hc4 zF (fun σ=>L23.E2 fun v1 v2=>σ=[v1,v2,some (.ref pW)]) ((qr.map fun q=>PyData.int ((CI.wt os ks hs q.1.toNat q.2.toNat : Nat) : Int)).map some) (by rw [List.length_map,List.length_map,lzr]) ⟨_,_,rfl⟩ (fun H' s'=>SqL.of (s' _ _ e10)) (by omega) ?_ ?_
      · rintro i y o σ D2 H2 R1 R0 hy hoo ⟨v1,v2,rfl⟩ g2 k1 k0
        obtain ⟨qq,t,hq,rfl,et⟩:=CP.pairs_at zab hy
        rw [List.getElem?_map,List.getElem?_map,hq] at hoo
        obtain rfl:=Option.some.inj hoo
        obtain ⟨a0,b0,rfl,ha,hb⟩:=zeq qq (List.mem_of_getElem? hq)
        obtain ⟨vr,hvr,pr,rfl,er⟩:=hE3.at_ (CI.jY (os:=os) (hs:=hs) ha)
        have e0 : (CI.row os ks hs a0).getD b0 0=CI.wt os ks hs a0 b0:=CI.jk (by omega)
        refine ⟨t,_,rfl,SqT.of (g2.hh _ _ et),rfl,_,_,rfl,_,_,rfl,rfl,_,rfl,_,rfl,pW,_,_,_,rfl,rfl,SqL.of (g2.hh _ _ (Zp _ _ eW3)),atI_nat hvr,_,rfl,pr,_,_,_,rfl,rfl,SqL.of (g2.hh _ _ (Zp _ _ er)),zP (by rw [CI.jj]; omega),?_⟩
        rw [e0]
        exact k1 _ _ _ _ _ rfl ⟨_,_,rfl⟩ (Gr.refl g2.dh) zx.ofInt
      intro D4 H11 ys g4 e4 _ hA4
      rw [L4.filterMap_some] at hA4
      have hA5 : zc K D4 ys ((qr.map fun q : CP.Pr=>((CI.wt os ks hs q.1.toNat q.2.toNat : Nat) : Int)).map PyData.int):=by rw [List.map_map]; exact hA4
      obtain rfl:=zc.jf hA5
      refine ⟨c4,_,rfl,SqL.of e4,?_⟩
      rw [L7.wY,show (qr.map fun q : CP.Pr=>((CI.wt os ks hs q.1.toNat q.2.toNat : Nat) : Int)).foldl (· + ·) 0=wtS os ks hs qr from CV.vR _ _]
      have s11:=g4.hh
      clear g4 e4 hA4 hA5 hc4
      have zac:=Zp.trans s11
      refine ⟨_,rfl,_,rfl,_,rfl,_,rfl,r,pw,po,pm,zr,qr,ws,os,ms,rfl,SqL.of (s11 _ _ e10),zc.same s11 _ zab,SqL.of (zac _ _ ew3),SqL.of (zac _ _ eo3),SqL.of (zac _ _ em3),by omega,by omega,by omega,fun H12 s12=>?_⟩
      rw [dB]
      have Z6:=s11.trans s12
      have zad:=zac.trans s12
      refine ⟨_,_,rfl,rfl,_,rfl,iteF ?_⟩
      refine ⟨_,rfl,.ref r,zr.length,rfl,.inl ⟨_,SqL.of (Z6 _ _ e10),rfl⟩,_,rfl,.ref l,zs.length,rfl,.inl ⟨_,SqL.of (zad _ _ el),rfl⟩,_,_,rfl,rfl,_,rfl,?_⟩
      rw [show decide (((zs.length : Nat) : Int) < ((zr.length : Nat) : Int))=false from decide_eq_false (by omega)]
      refine iteF ?_
      refine ⟨_,rfl,_,rfl,psh,xs,rfl,SqL.of (Z6 _ _ (zb1 _ _ e8)),xne,fun m hm1 hm2=>?_⟩
      refine ⟨_,_,rfl,rfl,_,rfl,?_⟩
      rw [show decide (m < wtS os ks hs qr)=false from decide_eq_false (by have:=xg m hm1 qr dB ndr; omega)]
      refine iteF ?_
      refine ⟨_,rfl,r,rfl,⟨_,SqL.of (Z6 _ _ e10)⟩,fun c6 hc6=>?_⟩
      refine jg (K:=K) (D:=H12) (Same.refl H12) hc6 zF (fun σ=>L23.E2 fun v1 v2=>σ=[v1,v2,some (.ref pk),some (.ref ph)]) ((qr.map fun q=>PyData.int (((ks.getD q.1.toNat 0 : Nat) : Int) * ((hs.getD q.2.toNat 0 : Nat) : Int))).map some) (by rw [List.length_map,List.length_map,lzr]) ⟨_,_,rfl⟩ (fun H' s'=>SqL.of (s' _ _ (Z6 _ _ e10))) (by omega) ?_ ?_
      · rintro i y o σ D2 H2 R1 R0 hy hoo ⟨v1,v2,rfl⟩ g2 k1 k0
        obtain ⟨qq,t,hq,rfl,et⟩:=CP.pairs_at (zc.same Z6 _ zab) hy
        rw [List.getElem?_map,List.getElem?_map,hq] at hoo
        obtain rfl:=Option.some.inj hoo
        obtain ⟨a0,b0,rfl,ha,hb⟩:=zeq qq (List.mem_of_getElem? hq)
        have bb:=wA (by omega : b0 < hs.length) bh
        refine ⟨t,_,rfl,SqT.of (g2.hh _ _ et),rfl,_,_,rfl,_,_,rfl,rfl,_,rfl,_,rfl,pk,_,_,_,rfl,rfl,SqL.of (g2.hh _ _ (zad _ _ ek3)),zP ha,_,rfl,_,rfl,ph,_,_,_,rfl,rfl,SqL.of (g2.hh _ _ (zad _ _ eh3)),zP (by omega),_,_,rfl,rfl,.inr ⟨by omega,by omega⟩,?_⟩
        exact k1 _ _ _ _ _ rfl ⟨_,_,rfl⟩ (Gr.refl g2.dh) zx.ofInt
      intro D6 H13 ys6 g6 e6 _ hA6
      rw [L4.filterMap_some] at hA6
      have hA7 : zc K D6 ys6 ((qr.map fun q : CP.Pr=>((ks.getD q.1.toNat 0 : Nat) : Int) * ((hs.getD q.2.toNat 0 : Nat) : Int)).map PyData.int):=by rw [List.map_map]; exact hA6
      obtain rfl:=zc.jf hA7
      refine ⟨c6,_,rfl,SqL.of e6,?_⟩
      rw [L7.wY,show (qr.map fun q : CP.Pr=>((ks.getD q.1.toNat 0 : Nat) : Int) * ((hs.getD q.2.toNat 0 : Nat) : Int)).foldl (· + ·) 0=gnS ks hs qr from CV.vR _ _]
      have s13:=g6.hh
      have zae:=Z6.trans s13
      have zf8:=zad.trans s13
      refine ⟨_,rfl,.ref r,zr.length,rfl,.inl ⟨_,SqL.of (zae _ _ e10),rfl⟩,_,rfl,.ref l,zs.length,rfl,.inl ⟨_,SqL.of (zf8 _ _ el),rfl⟩,rfl,_,rfl,ite2 (fun h1=>?_) (fun h1=>⟨⟨_,_,_,rfl⟩,zb1.trans zae⟩)⟩
      have h1':=V.int.inj (of_decide_eq_true h1)
      have le:=most.2 (by omega)
      have e9 : gnS ks hs qs=SS:=hSS
      refine ⟨_,rfl,_,rfl,_,_,rfl,rfl,_,rfl,?_⟩
      rw [show decide (SS < gnS ks hs qr)=false from decide_eq_false (by omega)]
      exact iteF ⟨⟨_,_,_,rfl⟩,zb1.trans zae⟩
    rintro σ H9 ⟨⟨v14,v17,v18,rfl⟩,s9⟩
    refine ⟨_,rfl,_,rfl,psh,xs,rfl,SqL.of (s9 _ _ e8),xne,fun m hm1 hm2=>?_⟩
    refine ⟨_,_,rfl,rfl,?_⟩
    show Q (V.bl (decide (WT≤m))) H9
    rw [show decide (WT≤m)=true from decide_eq_true (by rw [← hWT]; exact xg m hm1 qs (tl.ZE g1 (by omega)) tl.nd)]
    exact q _
end
theorem all_mk {l : PySem.W.OpenLaw} {w : World} {K : PySem.W.Frag} {h : Heap} {mg : Str→Option Value} {fa : Addr} (X : K.In h) (G : h.Ns mainGlobals mg) (hfa : mg "law"=some (.ref fa))
    {zd : Addr}
    {Y4 : Addr} {od1 an1 : Option Addr} {sl1 : Array (Option Value)} {oc1 kV1 dc1 pm1 cd1 ct1 : Value}
    {Y5 : Addr} {od2 an2 : Option Addr} {sl2 : Array (Option Value)} {oc2 kV2 dc2 pm2 cd2 ct2 : Value}
    {Y6 : Addr} {od3 an3 : Option Addr} {sl3 : Array (Option Value)} {oc3 kV3 dc3 pm3 cd3 ct3 : Value}
    {Y7 : Addr} {od4 an4 : Option Addr} {sl4 : Array (Option Value)} {oc4 kV4 dc4 pm4 cd4 ct4 : Value}
    {Y8 : Addr} {od5 an5 : Option Addr} {sl5 : Array (Option Value)} {oc5 kV5 dc5 pm5 cd5 ct5 : Value}
    {Y9 : Addr} {od6 an6 : Option Addr} {sl6 : Array (Option Value)} {oc6 kV6 dc6 pm6 cd6 ct6 : Value}
    {Xa : Addr} {od7 an7 : Option Addr} {sl7 : Array (Option Value)} {oc7 kV7 dc7 pm7 cd7 ct7 : Value}
    {Xb : Addr} {od8 an8 : Option Addr} {sl8 : Array (Option Value)} {oc8 kV8 dc8 pm8 cd8 ct8 : Value}
    {Xc : Addr} {od9 an9 : Option Addr} {sl9 : Array (Option Value)} {oc9 kV9 dc9 pm9 cd9 ct9 : Value}
    {VG : Addr} {zf9 zga : Option Addr} {zgb : Array (Option Value)} {zgc zgd zge zgf zer zgg : Value}
    {Xd : Addr} {zgh zgi : Option Addr} {zgj : Array (Option Value)} {zgk zgl zgm zgn zes zgo : Value}
    {VH : Addr} {zgp zgq : Option Addr} {zgr : Array (Option Value)} {zgs zgt zgu zgv zet zgw : Value}
    {Xe : Addr} {zgx zgy : Option Addr} {zgz : Array (Option Value)} {zgA zgB zgC zgD zeu zgE : Value}
    {XQ : Addr} {zgF zgG : Option Addr} {zgH : Array (Option Value)} {zgI zgJ zgK zgL zew zgM : Value}
    {XR : Addr} {zgN zgO : Option Addr} {zgP : Array (Option Value)} {zgQ zgR zgS zgT zex zgU : Value}
    {XS : Addr} {zgV zgW : Option Addr} {zgX : Array (Option Value)} {zgY zgZ zg0 zg1 zey zg2 : Value}
    {XT : Addr} {zg3 zg4 : Option Addr} {zg5 : Array (Option Value)} {zg6 zg7 zg8 zg9 zez zha : Value}
    {XU : Addr} {zhb zhc : Option Addr} {zhd : Array (Option Value)} {zhe zhf zhg zhh zeA zhi : Value}
    {XW : Addr} {zhj zhk : Option Addr} {zhl : Array (Option Value)} {zhm zhn zho zhp zeB zhq : Value}
    {XX : Addr} {zhr zhs : Option Addr} {zht : Array (Option Value)} {zhu zhv zhw zhx zeC zhy : Value}
    {XY : Addr} {zhz zhA : Option Addr} {zhB : Array (Option Value)} {zhC zhD zhE zhF zeD zhG : Value}
    {Xf : Addr} {zhH zhI : Option Addr} {zhJ : Array (Option Value)} {zhK zhL zhM zhN zeE zhO : Value}
    {Xg : Addr} {zhP zhQ : Option Addr} {zhR : Array (Option Value)} {zhS zhT zhU zhV zb2 zhW : Value}
    {Xh : Addr} {zhX zhY : Option Addr} {zhZ : Array (Option Value)} {zh0 zh1 zh2 zh3 zeF zh4 : Value}
    {Xi : Addr} {zh5 zh6 : Option Addr} {zh7 : Array (Option Value)} {zh8 zh9 zia zib zeG zic : Value}
    {Xj : Addr} {zid zie : Option Addr} {zif : Array (Option Value)} {zig zih zii zij zeH zik : Value}
    {Xk : Addr} {zil zim : Option Addr} {zin : Array (Option Value)} {zio ziq zir zis zeI zit : Value}
    {Xl : Addr} {ziu ziv : Option Addr} {ziw : Array (Option Value)} {zix ziy ziz ziA zeJ ziB : Value}
    {Xm : Addr} {ziC ziD : Option Addr} {ziE : Array (Option Value)} {ziF ziG ziH ziI zeK ziJ : Value}
    {Xn : Addr} {ziK ziL : Option Addr} {ziM : Array (Option Value)} {ziN ziO ziP ziQ zeL ziR : Value}
    {Xo : Addr} {ziS ziT : Option Addr} {ziU : Array (Option Value)} {ziV ziW ziX ziY zeM ziZ : Value}
    {Xp : Addr} {zi0 zi1 : Option Addr} {zi2 : Array (Option Value)} {zi3 zi4 zi5 zi6 zeN zi7 : Value}
    {Xq : Addr} {zi8 zi9 : Option Addr} {zja : Array (Option Value)} {zjb zjc zjd zje zeO zjf : Value}
    {Xr : Addr} {zjg zjh : Option Addr} {zji : Array (Option Value)} {zjj zjk zjl zjm zeP zjn : Value}
    {Xs : Addr} {zjo zjp : Option Addr} {zjq : Array (Option Value)} {zjr zjs zjt zju zeQ zjv : Value}
    {zaf : Addr} {zjw zeR : Option Addr} {zjx : Array (Option Value)} {zjy zeS zeT zeU zb3 zeV : Value}
    (vS : PySem.W.nsIn K mainGlobals "Weigher"=some (some (.ref zd)))
    (a1 : PySem.W.nsIn K mainGlobals "mask_of"=some (some (.ref Y4))) (l1 : K.lookup Y4=some ⟨oc1,od1,.func (PySem.W.fnOf "mask_of" "mask_of" (defArgs xr) (defBody xr) (defScope xr) .none kV1 dc1 pm1 an1 cd1 ct1),sl1⟩) (c1 : PySem.W.codeIn K cd1 "mask_of"=true) (k1 : PySem.W.keepIn K (.ref Y4)=true)
    (a2 : PySem.W.nsIn K mainGlobals "members"=some (some (.ref Y5))) (l2 : K.lookup Y5=some ⟨oc2,od2,.func (PySem.W.fnOf "members" "members" (defArgs xu) (defBody xu) (defScope xu) .none kV2 dc2 pm2 an2 cd2 ct2),sl2⟩) (c2 : PySem.W.codeIn K cd2 "members"=true) (k2 : PySem.W.keepIn K (.ref Y5)=true)
    (a3 : PySem.W.nsIn K mainGlobals "has"=some (some (.ref Y6))) (l3 : K.lookup Y6=some ⟨oc3,od3,.func (PySem.W.fnOf "has" "has" (defArgs xM) (defBody xM) (defScope xM) .none kV3 dc3 pm3 an3 cd3 ct3),sl3⟩) (c3 : PySem.W.codeIn K cd3 "has"=true) (k3 : PySem.W.keepIn K (.ref Y6)=true)
    (a4 : PySem.W.nsIn K mainGlobals "first_of"=some (some (.ref Y7))) (l4 : K.lookup Y7=some ⟨oc4,od4,.func (PySem.W.fnOf "first_of" "first_of" (defArgs vC) (defBody vC) (defScope vC) .none kV4 dc4 pm4 an4 cd4 ct4),sl4⟩) (c4 : PySem.W.codeIn K cd4 "first_of"=true) (k4 : PySem.W.keepIn K (.ref Y7)=true)
    (a5 : PySem.W.nsIn K mainGlobals "last_of"=some (some (.ref Y8))) (l5 : K.lookup Y8=some ⟨oc5,od5,.func (PySem.W.fnOf "last_of" "last_of" (defArgs vD) (defBody vD) (defScope vD) .none kV5 dc5 pm5 an5 cd5 ct5),sl5⟩) (c5 : PySem.W.codeIn K cd5 "last_of"=true) (k5 : PySem.W.keepIn K (.ref Y8)=true)
    (a6 : PySem.W.nsIn K mainGlobals "shared"=some (some (.ref Y9))) (l6 : K.lookup Y9=some ⟨oc6,od6,.func (PySem.W.fnOf "shared" "shared" (defArgs vE) (defBody vE) (defScope vE) .none kV6 dc6 pm6 an6 cd6 ct6),sl6⟩) (c6 : PySem.W.codeIn K cd6 "shared"=true) (k6 : PySem.W.keepIn K (.ref Y9)=true)
    (a7 : PySem.W.nsIn K mainGlobals "either"=some (some (.ref Xa))) (l7 : K.lookup Xa=some ⟨oc7,od7,.func (PySem.W.fnOf "either" "either" (defArgs jb) (defBody jb) (defScope jb) .none kV7 dc7 pm7 an7 cd7 ct7),sl7⟩) (c7 : PySem.W.codeIn K cd7 "either"=true) (k7 : PySem.W.keepIn K (.ref Xa)=true)
    (a8 : PySem.W.nsIn K mainGlobals "less"=some (some (.ref Xb))) (l8 : K.lookup Xb=some ⟨oc8,od8,.func (PySem.W.fnOf "less" "less" (defArgs ve) (defBody ve) (defScope ve) .none kV8 dc8 pm8 an8 cd8 ct8),sl8⟩) (c8 : PySem.W.codeIn K cd8 "less"=true) (k8 : PySem.W.keepIn K (.ref Xb)=true)
    (a9 : PySem.W.nsIn K mainGlobals "pairs_of"=some (some (.ref Xc))) (l9 : K.lookup Xc=some ⟨oc9,od9,.func (PySem.W.fnOf "pairs_of" "pairs_of" (defArgs yy) (defBody yy) (defScope yy) .none kV9 dc9 pm9 an9 cd9 ct9),sl9⟩) (c9 : PySem.W.codeIn K cd9 "pairs_of"=true) (k9 : PySem.W.keepIn K (.ref Xc)=true)
    (a10 : PySem.W.nsIn K mainGlobals "base_of"=some (some (.ref VG))) (l10 : K.lookup VG=some ⟨zgc,zf9,.func (PySem.W.fnOf "base_of" "base_of" (defArgs xy) (defBody xy) (defScope xy) .none zgd zge zgf zga zer zgg),zgb⟩) (c10 : PySem.W.codeIn K zer "base_of"=true) (k10 : PySem.W.keepIn K (.ref VG)=true)
    (a11 : PySem.W.nsIn K mainGlobals "weights_of"=some (some (.ref Xd))) (l11 : K.lookup Xd=some ⟨zgk,zgh,.func (PySem.W.fnOf "weights_of" "weights_of" (defArgs yg) (defBody yg) (defScope yg) .none zgl zgm zgn zgi zes zgo),zgj⟩) (c11 : PySem.W.codeIn K zes "weights_of"=true) (k11 : PySem.W.keepIn K (.ref Xd)=true)
    (a12 : PySem.W.nsIn K mainGlobals "above_price"=some (some (.ref VH))) (l12 : K.lookup VH=some ⟨zgs,zgp,.func (PySem.W.fnOf "above_price" "above_price" (defArgs wK) (defBody wK) (defScope wK) .none zgt zgu zgv zgq zet zgw),zgr⟩) (c12 : PySem.W.codeIn K zet "above_price"=true) (k12 : PySem.W.keepIn K (.ref VH)=true)
    (a13 : PySem.W.nsIn K mainGlobals "priced"=some (some (.ref Xe))) (l13 : K.lookup Xe=some ⟨zgA,zgx,.func (PySem.W.fnOf "priced" "priced" (defArgs zy) (defBody zy) (defScope zy) .none zgB zgC zgD zgy zeu zgE),zgz⟩) (c13 : PySem.W.codeIn K zeu "priced"=true) (k13 : PySem.W.keepIn K (.ref Xe)=true)
    (a14 : PySem.W.findIn K (.ref zd) "__init__"=some (some (.ref XQ))) (l14 : K.lookup XQ=some ⟨zgI,zgF,.func (PySem.W.fnOf "__init__" "Weigher.__init__" (defArgs z8) (defBody z8) (defScope z8) .none zgJ zgK zgL zgG zew zgM),zgH⟩) (c14 : PySem.W.codeIn K zew "Weigher.__init__"=true) (k14 : PySem.W.keepIn K (.ref XQ)=true)
    (a15 : PySem.W.findIn K (.ref zd) "take_free_works"=some (some (.ref XR))) (l15 : K.lookup XR=some ⟨zgQ,zgN,.func (PySem.W.fnOf "take_free_works" "Weigher.take_free_works" (defArgs zJ) (defBody zJ) (defScope zJ) .none zgR zgS zgT zgO zex zgU),zgP⟩) (c15 : PySem.W.codeIn K zex "Weigher.take_free_works"=true) (k15 : PySem.W.keepIn K (.ref XR)=true)
    (a16 : PySem.W.findIn K (.ref zd) "moves_to"=some (some (.ref XS))) (l16 : K.lookup XS=some ⟨zgY,zgV,.func (PySem.W.fnOf "moves_to" "Weigher.moves_to" (defArgs zY) (defBody zY) (defScope zY) .none zgZ zg0 zg1 zgW zey zg2),zgX⟩) (c16 : PySem.W.codeIn K zey "Weigher.moves_to"=true) (k16 : PySem.W.keepIn K (.ref XS)=true)
    (a17 : PySem.W.findIn K (.ref zd) "lengthen"=some (some (.ref XT))) (l17 : K.lookup XT=some ⟨zg6,zg3,.func (PySem.W.fnOf "lengthen" "Weigher.lengthen" (defArgs yf) (defBody yf) (defScope yf) .none zg7 zg8 zg9 zg4 zez zha),zg5⟩) (c17 : PySem.W.codeIn K zez "Weigher.lengthen"=true) (k17 : PySem.W.keepIn K (.ref XT)=true)
    (a18 : PySem.W.findIn K (.ref zd) "find_ways"=some (some (.ref XU))) (l18 : K.lookup XU=some ⟨zhe,zhb,.func (PySem.W.fnOf "find_ways" "Weigher.find_ways" (defArgs xB) (defBody xB) (defScope xB) .none zhf zhg zhh zhc zeA zhi),zhd⟩) (c18 : PySem.W.codeIn K zeA "Weigher.find_ways"=true) (k18 : PySem.W.keepIn K (.ref XU)=true)
    (a19 : PySem.W.findIn K (.ref zd) "find_start"=some (some (.ref XW))) (l19 : K.lookup XW=some ⟨zhm,zhj,.func (PySem.W.fnOf "find_start" "Weigher.find_start" (defArgs yJ) (defBody yJ) (defScope yJ) .none zhn zho zhp zhk zeB zhq),zhl⟩) (c19 : PySem.W.codeIn K zeB "Weigher.find_start"=true) (k19 : PySem.W.keepIn K (.ref XW)=true)
    (a20 : PySem.W.findIn K (.ref zd) "make_step"=some (some (.ref XX))) (l20 : K.lookup XX=some ⟨zhu,zhr,.func (PySem.W.fnOf "make_step" "Weigher.make_step" (defArgs yb) (defBody yb) (defScope yb) .none zhv zhw zhx zhs zeC zhy),zht⟩) (c20 : PySem.W.codeIn K zeC "Weigher.make_step"=true) (k20 : PySem.W.keepIn K (.ref XX)=true)
    (a21 : PySem.W.findIn K (.ref zd) "add_pairs"=some (some (.ref XY))) (l21 : K.lookup XY=some ⟨zhC,zhz,.func (PySem.W.fnOf "add_pairs" "Weigher.add_pairs" (defArgs yS) (defBody yS) (defScope yS) .none zhD zhE zhF zhA zeD zhG),zhB⟩) (c21 : PySem.W.codeIn K zeD "Weigher.add_pairs"=true) (k21 : PySem.W.keepIn K (.ref XY)=true)
    (a22 : PySem.W.nsIn K mainGlobals "renumbered"=some (some (.ref Xf))) (l22 : K.lookup Xf=some ⟨zhK,zhH,.func (PySem.W.fnOf "renumbered" "renumbered" (defArgs yP) (defBody yP) (defScope yP) .none zhL zhM zhN zhI zeE zhO),zhJ⟩) (c22 : PySem.W.codeIn K zeE "renumbered"=true) (k22 : PySem.W.keepIn K (.ref Xf)=true)
    (a23 : PySem.W.nsIn K mainGlobals "greatest_dealing"=some (some (.ref Xg))) (l23 : K.lookup Xg=some ⟨zhS,zhP,.func (PySem.W.fnOf "greatest_dealing" "greatest_dealing" (defArgs zD) (defBody zD) (defScope zD) .none zhT zhU zhV zhQ zb2 zhW),zhR⟩) (c23 : PySem.W.codeIn K zb2 "greatest_dealing"=true) (k23 : PySem.W.keepIn K (.ref Xg)=true)
    (a24 : PySem.W.nsIn K mainGlobals "price_of_work"=some (some (.ref Xh))) (l24 : K.lookup Xh=some ⟨zh0,zhX,.func (PySem.W.fnOf "price_of_work" "price_of_work" (defArgs zL) (defBody zL) (defScope zL) .none zh1 zh2 zh3 zhY zeF zh4),zhZ⟩) (c24 : PySem.W.codeIn K zeF "price_of_work"=true) (k24 : PySem.W.keepIn K (.ref Xh)=true)
    (a25 : PySem.W.nsIn K mainGlobals "best"=some (some (.ref Xi))) (l25 : K.lookup Xi=some ⟨zh8,zh5,.func (PySem.W.fnOf "best" "best" (defArgs zB) (defBody zB) (defScope zB) .none zh9 zia zib zh6 zeG zic),zh7⟩) (c25 : PySem.W.codeIn K zeG "best"=true) (k25 : PySem.W.keepIn K (.ref Xi)=true)
    (a26 : PySem.W.nsIn K mainGlobals "is_rising"=some (some (.ref Xj))) (l26 : K.lookup Xj=some ⟨zig,zid,.func (PySem.W.fnOf "is_rising" "is_rising" (defArgs yX) (defBody yX) (defScope yX) .none zih zii zij zie zeH zik),zif⟩) (c26 : PySem.W.codeIn K zeH "is_rising"=true) (k26 : PySem.W.keepIn K (.ref Xj)=true)
    (a27 : PySem.W.nsIn K mainGlobals "can_be_paired"=some (some (.ref Xk))) (l27 : K.lookup Xk=some ⟨zio,zil,.func (PySem.W.fnOf "can_be_paired" "can_be_paired" (defArgs yK) (defBody yK) (defScope yK) .none ziq zir zis zim zeI zit),zin⟩) (c27 : PySem.W.codeIn K zeI "can_be_paired"=true) (k27 : PySem.W.keepIn K (.ref Xk)=true)
    (a28 : PySem.W.nsIn K mainGlobals "none_above"=some (some (.ref Xl))) (l28 : K.lookup Xl=some ⟨zix,ziu,.func (PySem.W.fnOf "none_above" "none_above" (defArgs yY) (defBody yY) (defScope yY) .none ziy ziz ziA ziv zeJ ziB),ziw⟩) (c28 : PySem.W.codeIn K zeJ "none_above"=true) (k28 : PySem.W.keepIn K (.ref Xl)=true)
    (a29 : PySem.W.nsIn K mainGlobals "is_dealing"=some (some (.ref Xm))) (l29 : K.lookup Xm=some ⟨ziF,ziC,.func (PySem.W.fnOf "is_dealing" "is_dealing" (defArgs zO) (defBody zO) (defScope zO) .none ziG ziH ziI ziD zeK ziJ),ziE⟩) (c29 : PySem.W.codeIn K zeK "is_dealing"=true) (k29 : PySem.W.keepIn K (.ref Xm)=true)
    (a30 : PySem.W.nsIn K mainGlobals "_law_cell_at"=some (some (.ref Xn))) (l30 : K.lookup Xn=some ⟨ziN,ziK,.func (PySem.W.fnOf "_law_cell_at" "_law_cell_at" (defArgs xZ) (defBody xZ) (defScope xZ) .none ziO ziP ziQ ziL zeL ziR),ziM⟩) (c30 : PySem.W.codeIn K zeL "_law_cell_at"=true) (k30 : PySem.W.keepIn K (.ref Xn)=true)
    (a31 : PySem.W.nsIn K mainGlobals "_law_mixed"=some (some (.ref Xo))) (l31 : K.lookup Xo=some ⟨ziV,ziS,.func (PySem.W.fnOf "_law_mixed" "_law_mixed" (defArgs xw) (defBody xw) (defScope xw) .none ziW ziX ziY ziT zeM ziZ),ziU⟩) (c31 : PySem.W.codeIn K zeM "_law_mixed"=true) (k31 : PySem.W.keepIn K (.ref Xo)=true)
    (a32 : PySem.W.nsIn K mainGlobals "_law_ground"=some (some (.ref Xp))) (l32 : K.lookup Xp=some ⟨zi3,zi0,.func (PySem.W.fnOf "_law_ground" "_law_ground" (defArgs zj) (defBody zj) (defScope zj) .none zi4 zi5 zi6 zi1 zeN zi7),zi2⟩) (c32 : PySem.W.codeIn K zeN "_law_ground"=true) (k32 : PySem.W.keepIn K (.ref Xp)=true)
    (a33 : PySem.W.nsIn K mainGlobals "_law_fit"=some (some (.ref Xq))) (l33 : K.lookup Xq=some ⟨zjb,zi8,.func (PySem.W.fnOf "_law_fit" "_law_fit" (defArgs vH) (defBody vH) (defScope vH) .none zjc zjd zje zi9 zeO zjf),zja⟩) (c33 : PySem.W.codeIn K zeO "_law_fit"=true) (k33 : PySem.W.keepIn K (.ref Xq)=true)
    (a34 : PySem.W.nsIn K mainGlobals "_law_taken"=some (some (.ref Xr))) (l34 : K.lookup Xr=some ⟨zjj,zjg,.func (PySem.W.fnOf "_law_taken" "_law_taken" (defArgs zA) (defBody zA) (defScope zA) .none zjk zjl zjm zjh zeP zjn),zji⟩) (c34 : PySem.W.codeIn K zeP "_law_taken"=true) (k34 : PySem.W.keepIn K (.ref Xr)=true)
    (a35 : PySem.W.nsIn K mainGlobals "_law_raised"=some (some (.ref Xs))) (l35 : K.lookup Xs=some ⟨zjr,zjo,.func (PySem.W.fnOf "_law_raised" "_law_raised" (defArgs yi) (defBody yi) (defScope yi) .none zjs zjt zju zjp zeQ zjv),zjq⟩) (c35 : PySem.W.codeIn K zeQ "_law_raised"=true) (k35 : PySem.W.keepIn K (.ref Xs)=true)
    (a36 : PySem.W.nsIn K mainGlobals "law"=some (some (.ref zaf))) (l36 : K.lookup zaf=some ⟨zjy,zjw,.func (PySem.W.fnOf "law" "law" (defArgs ze) (defBody ze) (defScope ze) .none zeS zeT zeU zeR zb3 zeV),zjx⟩) (c36 : PySem.W.codeIn K zb3 "law"=true) (k36 : PySem.W.keepIn K (.ref zaf)=true)
    (Zq : PySem.W.plainGet K zd Str.empty=true) (Zr : PySem.W.hasDictIn K zd=true) (Zs : PySem.W.plainOver K zd=true) (Zt : PySem.W.findIn K (.ref zd) "__setattr__"=some (some (.builtin "object.__setattr__")))
    (jU : PySem.W.makesIn K zd=true) (zag : PySem.W.isFn K (.ref XQ)=true) (Zu : PySem.W.keepIn K (.ref zd)=true)
    (zah : PySem.W.isFn K (.ref XR)=true)
    (zai : PySem.W.isFn K (.ref XS)=true)
    (zaj : PySem.W.isFn K (.ref XT)=true)
    (zak : PySem.W.isFn K (.ref XU)=true)
    (zal : PySem.W.isFn K (.ref XW)=true)
    (zam : PySem.W.isFn K (.ref XX)=true)
    (zan : PySem.W.isFn K (.ref XY)=true)
    (yE : PySem.W.findIn K (.ref zd) "base"=some none)
    (zR : PySem.W.findIn K (.ref zd) "masks"=some none)
    (yk : PySem.W.findIn K (.ref zd) "marks"=some none)
    (z5 : PySem.W.findIn K (.ref zd) "worths"=some none)
    (zI : PySem.W.findIn K (.ref zd) "held"=some none)
    (z7 : PySem.W.findIn K (.ref zd) "still"=some none)
    (yc : PySem.W.findIn K (.ref zd) "left"=some none)
    (zE : PySem.W.findIn K (.ref zd) "gains"=some none)
    (zS : PySem.W.findIn K (.ref zd) "steps"=some none)
    (Zl : PySem.W.nsIn K mainGlobals "all"=some none)
    (zT : PySem.W.nsIn K mainGlobals "enumerate"=some none)
    (yj : PySem.W.nsIn K mainGlobals "len"=some none)
    (vg : PySem.W.nsIn K mainGlobals "list"=some none)
    (jH : PySem.W.nsIn K mainGlobals "max"=some none)
    (Zm : PySem.W.nsIn K mainGlobals "min"=some none)
    (yo : PySem.W.nsIn K mainGlobals "range"=some none)
    (xR : PySem.W.nsIn K mainGlobals "sorted"=some none)
    (wD : PySem.W.nsIn K mainGlobals "sum"=some none)
    (jI : PySem.W.nsIn K mainGlobals "zip"=some none) {c0 P0 : Addr} (cr0 : zb2 = .ref c0) (ch0 : PySem.W.codeHdIn K c0 P0=true) (no0 : K.lookup P0=none) :
    ∃ (fd : FuncData) (t : L20.Tab) (c : Addr),t.P=P0∧PySem.W.codeHdIn K c P0=true∧K.lookup P0=none∧(∀ (s : Shared) (v : Value),BindsTo s fd ⟨[v],[]⟩ [("_law_script",v)])∧∀ base : Heap,K.In base→base.Ns mainGlobals mg→base.BuiltinsAt mg P0→FnOk l.prog w K mg base CX0 12 fa fd ["_law_script"] (YY K t):=by
  have e:=hfa.symm.trans (PySem.W.mg_of X G a36)
  cases e
  have T : Txt K mg ⟨Y4,Y5,Y6,Y7,Y8,Y9,Xa,Xb,Xc,VG,Xd,VH,Xe,XQ,XR,XS,XT,XU,XW,XX,XY,Xf,Xg,Xh,Xi,Xj,Xk,Xl,Xm,Xn,Xo,Xp,Xq,Xr,Xs,zd,P0⟩:=⟨PySem.W.mg_of X G a1,PySem.W.mg_of X G a2,PySem.W.mg_of X G a3,PySem.W.mg_of X G a4,PySem.W.mg_of X G a5,PySem.W.mg_of X G a6,PySem.W.mg_of X G a7,PySem.W.mg_of X G a8,PySem.W.mg_of X G a9,PySem.W.mg_of X G a10,PySem.W.mg_of X G a11,PySem.W.mg_of X G a12,PySem.W.mg_of X G a13,PySem.W.mg_of X G a22,PySem.W.mg_of X G a23,PySem.W.mg_of X G a24,PySem.W.mg_of X G a25,PySem.W.mg_of X G a26,PySem.W.mg_of X G a27,PySem.W.mg_of X G a28,PySem.W.mg_of X G a29,PySem.W.mg_of X G a30,PySem.W.mg_of X G a31,PySem.W.mg_of X G a32,PySem.W.mg_of X G a33,PySem.W.mg_of X G a34,PySem.W.mg_of X G a35,PySem.W.mg_of X G vS,⟨Zq,Zr,Zs,Zt⟩,⟨jU,a14,zag,Zu⟩,⟨a15,zah,k15⟩,⟨a16,zai,k16⟩,⟨a17,zaj,k17⟩,⟨a18,zak,k18⟩,⟨a19,zal,k19⟩,⟨a20,zam,k20⟩,⟨a21,zan,k21⟩,yE,zR,yk,z5,zI,z7,yc,zE,zS,PySem.W.mg_none_of X G Zl,PySem.W.mg_none_of X G zT,PySem.W.mg_none_of X G yj,PySem.W.mg_none_of X G vg,PySem.W.mg_none_of X G jH,PySem.W.mg_none_of X G Zm,PySem.W.mg_none_of X G yo,PySem.W.mg_none_of X G xR,PySem.W.mg_none_of X G wD,PySem.W.mg_none_of X G jI⟩
  have wF:=fun_mk (st:=xr) l1 c1 k1
  have vK:=wF.binds (ps:=["numbers"]) fun _ _ _ _ _ _ us hl=>L23.ls us hl fun _ us hl=>L23.lz us hl rfl
  have YQ:=fun_mk (st:=xu) l2 c2 k2
  have JH:=YQ.binds (ps:=["mask"]) fun _ _ _ _ _ _ us hl=>L23.ls us hl fun _ us hl=>L23.lz us hl rfl
  have xh:=fun_mk (st:=xM) l3 c3 k3
  have xE:=xh.binds (ps:=["mask","number"]) fun _ _ _ _ _ _ us hl=>L23.ls us hl fun _ us hl=>L23.ls us hl fun _ us hl=>L23.lz us hl rfl
  have YM:=fun_mk (st:=vC) l4 c4 k4
  have Jp:=YM.binds (ps:=["mask"]) fun _ _ _ _ _ _ us hl=>L23.ls us hl fun _ us hl=>L23.lz us hl rfl
  have jJ:=fun_mk (st:=vD) l5 c5 k5
  have ZW:=jJ.binds (ps:=["mask"]) fun _ _ _ _ _ _ us hl=>L23.ls us hl fun _ us hl=>L23.lz us hl rfl
  have jK:=fun_mk (st:=vE) l6 c6 k6
  have ZY:=jK.binds (ps:=["one","other"]) fun _ _ _ _ _ _ us hl=>L23.ls us hl fun _ us hl=>L23.ls us hl fun _ us hl=>L23.lz us hl rfl
  have YN:=fun_mk (st:=jb) l7 c7 k7
  have Jz:=YN.binds (ps:=["one","other"]) fun _ _ _ _ _ _ us hl=>L23.ls us hl fun _ us hl=>L23.ls us hl fun _ us hl=>L23.lz us hl rfl
  have vj:=fun_mk (st:=ve) l8 c8 k8
  have jd:=vj.binds (ps:=["one","other"]) fun _ _ _ _ _ _ us hl=>L23.ls us hl fun _ us hl=>L23.ls us hl fun _ us hl=>L23.lz us hl rfl
  have YR:=fun_mk (st:=yy) l9 c9 k9
  have JN:=YR.binds (ps:=["held"]) fun _ _ _ _ _ _ us hl=>L23.ls us hl fun _ us hl=>L23.lz us hl rfl
  have ZL:=fun_mk (st:=xy) l10 c10 k10
  have XN:=ZL.binds (ps:=["oftens","marks","worths"]) fun _ _ _ _ _ _ us hl=>L23.ls us hl fun _ us hl=>L23.ls us hl fun _ us hl=>L23.ls us hl fun _ us hl=>L23.lz us hl rfl
  have jN:=fun_mk (st:=yg) l11 c11 k11
  have Z1:=jN.binds (ps:=["oftens","marks","worths"]) fun _ _ _ _ _ _ us hl=>L23.ls us hl fun _ us hl=>L23.ls us hl fun _ us hl=>L23.ls us hl fun _ us hl=>L23.lz us hl rfl
  have Vu:=fun_mk (st:=wK) l12 c12 k12
  have zbV:=Vu.binds (ps:=["place","work","weights","place_prices","work_prices"]) fun _ _ _ _ _ _ us hl=>L23.ls us hl fun _ us hl=>L23.ls us hl fun _ us hl=>L23.ls us hl fun _ us hl=>L23.ls us hl fun _ us hl=>L23.ls us hl fun _ us hl=>L23.lz us hl rfl
  have Z5:=fun_mk (st:=zy) l13 c13 k13
  have WH:=Z5.binds (ps:=["wants","oftens","masks","weights","place_prices","work_prices"]) fun _ _ _ _ _ _ us hl=>L23.ls us hl fun _ us hl=>L23.ls us hl fun _ us hl=>L23.ls us hl fun _ us hl=>L23.ls us hl fun _ us hl=>L23.ls us hl fun _ us hl=>L23.ls us hl fun _ us hl=>L23.lz us hl rfl
  have JK:=fun_mk (st:=z8) l14 c14 k14
  have zbL:=JK.binds (ps:=["self","wants","oftens","masks","marks","worths"]) fun _ _ _ _ _ _ us hl=>L23.ls us hl fun _ us hl=>L23.ls us hl fun _ us hl=>L23.ls us hl fun _ us hl=>L23.ls us hl fun _ us hl=>L23.ls us hl fun _ us hl=>L23.ls us hl fun _ us hl=>L23.lz us hl rfl
  have Jv:=fun_mk (st:=zJ) l15 c15 k15
  have zbF:=Jv.binds (ps:=["self"]) fun _ _ _ _ _ _ us hl=>L23.ls us hl fun _ us hl=>L23.lz us hl rfl
  have Ju:=fun_mk (st:=zY) l16 c16 k16
  have zbD:=Ju.binds (ps:=["self","place"]) fun _ _ _ _ _ _ us hl=>L23.ls us hl fun _ us hl=>L23.ls us hl fun _ us hl=>L23.lz us hl rfl
  have Jt:=fun_mk (st:=yf) l17 c17 k17
  have zbB:=Jt.binds (ps:=["self","moves"]) fun _ _ _ _ _ _ us hl=>L23.ls us hl fun _ us hl=>L23.ls us hl fun _ us hl=>L23.lz us hl rfl
  have Jx:=fun_mk (st:=xB) l18 c18 k18
  have zbH:=Jx.binds (ps:=["self"]) fun _ _ _ _ _ _ us hl=>L23.ls us hl fun _ us hl=>L23.lz us hl rfl
  have JD:=fun_mk (st:=yJ) l19 c19 k19
  have JE:=JD.binds (ps:=["self"]) fun _ _ _ _ _ _ us hl=>L23.ls us hl fun _ us hl=>L23.lz us hl rfl
  have JF:=fun_mk (st:=yb) l20 c20 k20
  have zbJ:=JF.binds (ps:=["self","place"]) fun _ _ _ _ _ _ us hl=>L23.ls us hl fun _ us hl=>L23.ls us hl fun _ us hl=>L23.lz us hl rfl
  have JL:=fun_mk (st:=yS) l21 c21 k21
  have zbN:=JL.binds (ps:=["self"]) fun _ _ _ _ _ _ us hl=>L23.ls us hl fun _ us hl=>L23.lz us hl rfl
  have YS:=fun_mk (st:=yP) l22 c22 k22
  have JP:=YS.binds (ps:=["mask","order"]) fun _ _ _ _ _ _ us hl=>L23.ls us hl fun _ us hl=>L23.ls us hl fun _ us hl=>L23.lz us hl rfl
  have YT:=fun_mk (st:=zD) l23 c23 k23
  have JT:=YT.binds (ps:=["wants","oftens","masks","marks","worths"]) fun _ _ _ _ _ _ us hl=>L23.ls us hl fun _ us hl=>L23.ls us hl fun _ us hl=>L23.ls us hl fun _ us hl=>L23.ls us hl fun _ us hl=>L23.ls us hl fun _ us hl=>L23.lz us hl rfl
  have YU:=fun_mk (st:=zL) l24 c24 k24
  have JV:=YU.binds (ps:=["work","pairs","masks","weights","place_prices"]) fun _ _ _ _ _ _ us hl=>L23.ls us hl fun _ us hl=>L23.ls us hl fun _ us hl=>L23.ls us hl fun _ us hl=>L23.ls us hl fun _ us hl=>L23.ls us hl fun _ us hl=>L23.lz us hl rfl
  have Y3:=fun_mk (st:=zB) l25 c25 k25
  have zaa:=Y3.binds (ps:=["wants","oftens","masks","marks","worths"]) fun _ _ _ _ _ _ us hl=>L23.ls us hl fun _ us hl=>L23.ls us hl fun _ us hl=>L23.ls us hl fun _ us hl=>L23.ls us hl fun _ us hl=>L23.ls us hl fun _ us hl=>L23.lz us hl rfl
  have YW:=fun_mk (st:=yX) l26 c26 k26
  have J1:=YW.binds (ps:=["things"]) fun _ _ _ _ _ _ us hl=>L23.ls us hl fun _ us hl=>L23.lz us hl rfl
  have YV:=fun_mk (st:=yK) l27 c27 k27
  have JY:=YV.binds (ps:=["work","place","oftens","masks"]) fun _ _ _ _ _ _ us hl=>L23.ls us hl fun _ us hl=>L23.ls us hl fun _ us hl=>L23.ls us hl fun _ us hl=>L23.ls us hl fun _ us hl=>L23.lz us hl rfl
  have Z2:=fun_mk (st:=yY) l28 c28 k28
  have WA:=Z2.binds (ps:=["numbers","bounds"]) fun _ _ _ _ _ _ us hl=>L23.ls us hl fun _ us hl=>L23.ls us hl fun _ us hl=>L23.lz us hl rfl
  have Z4:=fun_mk (st:=zO) l29 c29 k29
  have WE:=Z4.binds (ps:=["pairs","wants","oftens","masks"]) fun _ _ _ _ _ _ us hl=>L23.ls us hl fun _ us hl=>L23.ls us hl fun _ us hl=>L23.ls us hl fun _ us hl=>L23.ls us hl fun _ us hl=>L23.lz us hl rfl
  have vL:=fun_mk (st:=xZ) l30 c30 k30
  have jP:=vL.binds (ps:=["_law_script","_law_k"]) fun _ _ _ _ _ _ us hl=>L23.ls us hl fun _ us hl=>L23.ls us hl fun _ us hl=>L23.lz us hl rfl
  have yG:=fun_mk (st:=xw) l31 c31 k31
  have yR:=yG.binds (ps:=["_law_cell","_law_k"]) fun _ _ _ _ _ _ us hl=>L23.ls us hl fun _ us hl=>L23.ls us hl fun _ us hl=>L23.lz us hl rfl
  have YZ:=fun_mk (st:=zj) l32 c32 k32
  have J6:=YZ.binds (ps:=["_law_script"]) fun _ _ _ _ _ _ us hl=>L23.ls us hl fun _ us hl=>L23.lz us hl rfl
  have YX:=fun_mk (st:=vH) l33 c33 k33
  have J4:=YX.binds (ps:=["_law_masks","_law_work","_law_place"]) fun _ _ _ _ _ _ us hl=>L23.ls us hl fun _ us hl=>L23.ls us hl fun _ us hl=>L23.ls us hl fun _ us hl=>L23.lz us hl rfl
  have Y0:=fun_mk (st:=zA) l34 c34 k34
  have J8:=Y0.binds (ps:=["_law_cell","_law_wants","_law_oftens","_law_masks"]) fun _ _ _ _ _ _ us hl=>L23.ls us hl fun _ us hl=>L23.ls us hl fun _ us hl=>L23.ls us hl fun _ us hl=>L23.ls us hl fun _ us hl=>L23.lz us hl rfl
  have Z3:=fun_mk (st:=yi) l35 c35 k35
  have WC:=Z3.binds (ps:=["_law_cell","_law_prices_of","_law_way"]) fun _ _ _ _ _ _ us hl=>L23.ls us hl fun _ us hl=>L23.ls us hl fun _ us hl=>L23.ls us hl fun _ us hl=>L23.lz us hl rfl
  have zfH:=fun_mk (st:=ze) l36 c36 k36
  refine ⟨PySem.W.fnOf "law" "law" (defArgs ze) (defBody ze) (defScope ze) .none zeS zeT zeU zeR zb3 zeV,Adr.tab ⟨Y4,Y5,Y6,Y7,Y8,Y9,Xa,Xb,Xc,VG,Xd,VH,Xe,XQ,XR,XS,XT,XU,XW,XX,XY,Xf,Xg,Xh,Xi,Xj,Xk,Xl,Xm,Xn,Xo,Xp,Xq,Xr,Xs,zd,P0⟩,c0,rfl,ch0,no0,fun s v => .of_eq rfl,fun base kb0 _ bb0=>?_⟩
  have vJ:=zdO (P:=l.prog) (w:=w) (base:=base) wF T
  have xD:=zdN (P:=l.prog) (w:=w) (base:=base) xh T
  have JG:=zd2 (P:=l.prog) (w:=w) (base:=base) YQ T xD xh xE
  have Jo:=zdP (P:=l.prog) (w:=w) (base:=base) YM T
  have ZV:=zdU (P:=l.prog) (w:=w) (base:=base) jJ T
  have ZX:=zdQ (P:=l.prog) (w:=w) (base:=base) jK T
  have Jy:=zdR (P:=l.prog) (w:=w) (base:=base) YN T
  have jc:=zdS (P:=l.prog) (w:=w) (base:=base) vj T
  have JM:=zd3 (P:=l.prog) (w:=w) (base:=base) YR T JG YQ JH
  have XM:=zfw (P:=l.prog) (w:=w) (base:=base) ZL T
  have Z0:=zdT (P:=l.prog) (w:=w) (base:=base) jN T XM ZL XN
  have zbU:=zfG (P:=l.prog) (w:=w) (base:=base) Vu T
  have WG:=zd9 (P:=l.prog) (w:=w) (base:=base) Z5 T zbU Vu zbV xD xh xE
  have zbK:=zfE (P:=l.prog) (w:=w) (base:=base) JK T XM ZL XN
  have zbE:=zfx (P:=l.prog) (w:=w) (base:=base) Jv T ZV jJ ZW jc vj jd vJ wF vK ZX jK ZY
  have zbC:=zfy (P:=l.prog) (w:=w) (base:=base) Ju T Jo YM Jp ZV jJ ZW jc vj jd ZX jK ZY
  have zbA:=zfz (P:=l.prog) (w:=w) (base:=base) Jt T
  have zbG:=zfA (P:=l.prog) (w:=w) (base:=base) Jx T zbA Jt zbB zbC Ju zbD zbE Jv zbF
  have JC:=zfB (P:=l.prog) (w:=w) (base:=base) JD T zbG Jx zbH
  have zbI:=zfC (P:=l.prog) (w:=w) (base:=base) JF T Jy YN Jz jc vj jd vJ wF vK
  have zbM:=zfD (P:=l.prog) (w:=w) (base:=base) JL T JC JD JE zbI JF zbJ
  have JO:=zd1 (P:=l.prog) (w:=w) (base:=base) YS T xD xh xE vJ wF vK
  have JS:=zd4 (P:=l.prog) (w:=w) (base:=base) YT T ⟨⟨c0,cr0,PySem.W.codeHd_of_K kb0 ch0⟩,bb0⟩ zbK JK zbL zbM JL zbN JM YR JN JO YS JP
  have JU:=zd7 (P:=l.prog) (w:=w) (base:=base) YU T xD xh xE
  have J9:=zd8 (P:=l.prog) (w:=w) (base:=base) Y3 T JS YT JT JU YU JV Z0 jN Z1
  have JZ:=zea (P:=l.prog) (w:=w) (base:=base) YW T
  have JX:=zeb (P:=l.prog) (w:=w) (base:=base) YV T xD xh xE
  have Wz:=zec (P:=l.prog) (w:=w) (base:=base) Z2 T
  have WD:=zed (P:=l.prog) (w:=w) (base:=base) Z4 T JX YV JY JZ YW J1 Wz Z2 WA
  have jO:=zdM (P:=l.prog) (w:=w) (base:=base) vL T
  have yQ:=zef (P:=l.prog) (w:=w) (base:=base) yG T
  have J5:=zeh (P:=l.prog) (w:=w) (base:=base) YZ T jO vL jP yQ yG yR
  have J3:=zeg (P:=l.prog) (w:=w) (base:=base) YX T
  have J7:=zei (P:=l.prog) (w:=w) (base:=base) Y0 T J3 YX J4 yQ yG yR
  have WB:=zem (P:=l.prog) (w:=w) (base:=base) Z3 T yQ yG yR
  exact zen zfH T jO vL jP J5 YZ J6 yQ yG yR WB Z3 WC J7 Y0 J8 J9 Y3 zaa WD Z4 WE WG Z5 WH Z0 jN Z1
theorem walk {l : PySem.W.OpenLaw} {q : Program} {loose : List Str} {XP : (Str→Option Value)→Heap→Prop} {YP : World→Heap→Prop} {d : DefRec} {K : Params→PySem.W.Frag} {P0 : Addr} (hn : l.most=some 63) (hdf : d.params.defaults=[])
    (hY : ∀ (w : World) (h : Heap),YP w h→(K w.params).In h∧h.get? P0=some (PySem.W.tabObj #[]))
    (F : ∀ (w : World) (mg : Str→Option Value) (fa : Addr) (h : Heap),(K w.params).In h→h.Ns mainGlobals mg→mg d.name=some (.ref fa) →
      ∃ (fd : FuncData) (t : L20.Tab) (c : Addr),t.P=P0∧PySem.W.codeHdIn (K w.params) c P0=true∧(K w.params).lookup P0=none∧(∀ (s : Shared) (u : Value),BindsTo s fd ⟨[u],[]⟩ [("_law_script",u)])∧∀ base : Heap,(K w.params).In base→base.Ns mainGlobals mg→base.BuiltinsAt mg P0→FnOk l.prog w (K w.params) mg base CX0 12 fa fd ["_law_script"] (YY (K w.params) t)) :
    PySem.W.WalkO q loose XP YP l.row.toRowW d [] (fun f vs=>PySem.call f vs) :=
  L20.ze8 (n:=63) (k:=12) (x:="_law_script") (sp:=YY) hn (by decide) hdf ⟨rfl,by decide,by decide⟩ hY F fun _ _ _ a ns hl ht hS=>⟨a,ns,rfl,ht,hS,hl,fun _=>rfl⟩
end K63
open PySem PySem.W PyProof.Rows
set_option maxRecDepth 100000 in
set_option maxHeartbeats 0 in
theorem PySem.Challenge.cw_court_k63_whole_none_has_more_holds : PySem.Challenge.rw_court_k63_whole_none_has_more.Holds := by
  w_on; o_law; k_head; (case hw => w_witness2)
  k_fill
  refine K63.walk (l:=PySem.Challenge.rw_court_k63_whole_none_has_more) rfl rfl (fun w h Y=>⟨PySem.W.km_in_of Y,PySem.W.km_tabs_of Y _ List.mem_cons_self⟩) ?F
  case F =>
    intro w mg fa h KX G hmg
    refine' K63.all_mk KX G hmg ?vS ?a1 ?l1 ?c1 ?k1 ?a2 ?l2 ?c2 ?k2 ?a3 ?l3 ?c3 ?k3 ?a4 ?l4 ?c4 ?k4 ?a5 ?l5 ?c5 ?k5 ?a6 ?l6 ?c6 ?k6 ?a7 ?l7 ?c7 ?k7 ?a8 ?l8 ?c8 ?k8 ?a9 ?l9 ?c9 ?k9 ?a10 ?l10 ?c10 ?k10 ?a11 ?l11 ?c11 ?k11 ?a12 ?l12 ?c12 ?k12 ?a13 ?l13 ?c13 ?k13 ?a14 ?l14 ?c14 ?k14 ?a15 ?l15 ?c15 ?k15 ?a16 ?l16 ?c16 ?k16 ?a17 ?l17 ?c17 ?k17 ?a18 ?l18 ?c18 ?k18 ?a19 ?l19 ?c19 ?k19 ?a20 ?l20 ?c20 ?k20 ?a21 ?l21 ?c21 ?k21 ?a22 ?l22 ?c22 ?k22 ?a23 ?l23 ?c23 ?k23 ?a24 ?l24 ?c24 ?k24 ?a25 ?l25 ?c25 ?k25 ?a26 ?l26 ?c26 ?k26 ?a27 ?l27 ?c27 ?k27 ?a28 ?l28 ?c28 ?k28 ?a29 ?l29 ?c29 ?k29 ?a30 ?l30 ?c30 ?k30 ?a31 ?l31 ?c31 ?k31 ?a32 ?l32 ?c32 ?k32 ?a33 ?l33 ?c33 ?k33 ?a34 ?l34 ?c34 ?k34 ?a35 ?l35 ?c35 ?k35 ?a36 ?l36 ?c36 ?k36 ?Zq ?Zr ?Zs ?Zt ?jU ?zag ?Zu ?zah ?zai ?zaj ?zak ?zal ?zam ?zan ?yE ?zR ?yk ?z5 ?zI ?z7 ?yc ?zE ?zS ?Zl ?zT ?yj ?vg ?jH ?Zm ?yo ?xR ?wD ?jI ?cr0 ?ch0 ?no0
    (case vS=>k_is)
    (case a1=>k_is)
    (case l1=>k_is)
    (case c1=>k_is)
    (case k1=>k_is)
    (case a2=>k_is)
    (case l2=>k_is)
    (case c2=>k_is)
    (case k2=>k_is)
    (case a3=>k_is)
    (case l3=>k_is)
    (case c3=>k_is)
    (case k3=>k_is)
    (case a4=>k_is)
    (case l4=>k_is)
    (case c4=>k_is)
    (case k4=>k_is)
    (case a5=>k_is)
    (case l5=>k_is)
    (case c5=>k_is)
    (case k5=>k_is)
    (case a6=>k_is)
    (case l6=>k_is)
    (case c6=>k_is)
    (case k6=>k_is)
    (case a7=>k_is)
    (case l7=>k_is)
    (case c7=>k_is)
    (case k7=>k_is)
    (case a8=>k_is)
    (case l8=>k_is)
    (case c8=>k_is)
    (case k8=>k_is)
    (case a9=>k_is)
    (case l9=>k_is)
    (case c9=>k_is)
    (case k9=>k_is)
    (case a10=>k_is)
    (case l10=>k_is)
    (case c10=>k_is)
    (case k10=>k_is)
    (case a11=>k_is)
    (case l11=>k_is)
    (case c11=>k_is)
    (case k11=>k_is)
    (case a12=>k_is)
    (case l12=>k_is)
    (case c12=>k_is)
    (case k12=>k_is)
    (case a13=>k_is)
    (case l13=>k_is)
    (case c13=>k_is)
    (case k13=>k_is)
    (case a14=>k_is)
    (case l14=>k_is)
    (case c14=>k_is)
    (case k14=>k_is)
    (case a15=>k_is)
    (case l15=>k_is)
    (case c15=>k_is)
    (case k15=>k_is)
    (case a16=>k_is)
    (case l16=>k_is)
    (case c16=>k_is)
    (case k16=>k_is)
    (case a17=>k_is)
    (case l17=>k_is)
    (case c17=>k_is)
    (case k17=>k_is)
    (case a18=>k_is)
    (case l18=>k_is)
    (case c18=>k_is)
    (case k18=>k_is)
    (case a19=>k_is)
    (case l19=>k_is)
    (case c19=>k_is)
    (case k19=>k_is)
    (case a20=>k_is)
    (case l20=>k_is)
    (case c20=>k_is)
    (case k20=>k_is)
    (case a21=>k_is)
    (case l21=>k_is)
    (case c21=>k_is)
    (case k21=>k_is)
    (case a22=>k_is)
    (case l22=>k_is)
    (case c22=>k_is)
    (case k22=>k_is)
    (case a23=>k_is)
    (case l23=>k_is)
    (case c23=>k_is)
    (case k23=>k_is)
    (case a24=>k_is)
    (case l24=>k_is)
    (case c24=>k_is)
    (case k24=>k_is)
    (case a25=>k_is)
    (case l25=>k_is)
    (case c25=>k_is)
    (case k25=>k_is)
    (case a26=>k_is)
    (case l26=>k_is)
    (case c26=>k_is)
    (case k26=>k_is)
    (case a27=>k_is)
    (case l27=>k_is)
    (case c27=>k_is)
    (case k27=>k_is)
    (case a28=>k_is)
    (case l28=>k_is)
    (case c28=>k_is)
    (case k28=>k_is)
    (case a29=>k_is)
    (case l29=>k_is)
    (case c29=>k_is)
    (case k29=>k_is)
    (case a30=>k_is)
    (case l30=>k_is)
    (case c30=>k_is)
    (case k30=>k_is)
    (case a31=>k_is)
    (case l31=>k_is)
    (case c31=>k_is)
    (case k31=>k_is)
    (case a32=>k_is)
    (case l32=>k_is)
    (case c32=>k_is)
    (case k32=>k_is)
    (case a33=>k_is)
    (case l33=>k_is)
    (case c33=>k_is)
    (case k33=>k_is)
    (case a34=>k_is)
    (case l34=>k_is)
    (case c34=>k_is)
    (case k34=>k_is)
    (case a35=>k_is)
    (case l35=>k_is)
    (case c35=>k_is)
    (case k35=>k_is)
    (case a36=>k_is)
    (case l36=>k_is)
    (case c36=>k_is)
    (case k36=>k_is)
    (case Zl=>k_is)
    (case zT=>k_is)
    (case yj=>k_is)
    (case vg=>k_is)
    (case jH=>k_is)
    (case Zm=>k_is)
    (case yo=>k_is)
    (case xR=>k_is)
    (case wD=>k_is)
    (case jI=>k_is)
    (case Zq=>first | k_is | kernel_rfl)
    (case Zr=>first | k_is | kernel_rfl)
    (case Zs=>first | k_is | kernel_rfl)
    (case Zt=>first | k_is | kernel_rfl)
    (case jU=>first | k_is | kernel_rfl)
    (case zag=>first | k_is | kernel_rfl)
    (case Zu=>first | k_is | kernel_rfl)
    (case zah=>first | k_is | kernel_rfl)
    (case zai=>first | k_is | kernel_rfl)
    (case zaj=>first | k_is | kernel_rfl)
    (case zak=>first | k_is | kernel_rfl)
    (case zal=>first | k_is | kernel_rfl)
    (case zam=>first | k_is | kernel_rfl)
    (case zan=>first | k_is | kernel_rfl)
    (case yE=>first | k_is | kernel_rfl)
    (case zR=>first | k_is | kernel_rfl)
    (case yk=>first | k_is | kernel_rfl)
    (case z5=>first | k_is | kernel_rfl)
    (case zI=>first | k_is | kernel_rfl)
    (case z7=>first | k_is | kernel_rfl)
    (case yc=>first | k_is | kernel_rfl)
    (case zE=>first | k_is | kernel_rfl)
    (case zS=>first | k_is | kernel_rfl)
    (case cr0=>rfl)
    (case ch0=>kernel_rfl)
    (case no0=>kernel_rfl)
#print axioms PySem.Challenge.cw_court_k63_whole_none_has_more_holds
