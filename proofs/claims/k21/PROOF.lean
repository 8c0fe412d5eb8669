import PyProof.Rows.All
import Wide.All
import OpenK.AllK
import Wide.FinOn
import Lean
import PyProof.EqAt
import PyProof.EqKinds
import PyProof.TupleCall
import PySem.Challenge.RW_court_k21_whole_courses_read_back
set_option Elab.async false
local macro_rules | `(tactic| omega)=>`(tactic| lia)
namespace L23
inductive E2 {t0 : Type} {t1 : Type} (p : t0→t1→Prop) : Prop where
  | mk (x0 : t0) (x1 : t1) (h : p x0 x1) : E2 p
inductive E3 {t0 : Type} {t1 : Type} {t2 : Type} (p : t0→t1→t2→Prop) : Prop where
  | mk (x0 : t0) (x1 : t1) (x2 : t2) (h : p x0 x1 x2) : E3 p
inductive E4 {t0 : Type} {t1 : Type} {t2 : Type} {t3 : Type} (p : t0→t1→t2→t3→Prop) : Prop where
  | mk (x0 : t0) (x1 : t1) (x2 : t2) (x3 : t3) (h : p x0 x1 x2 x3) : E4 p
inductive E5 {t0 : Type} {t1 : Type} {t2 : Type} {t3 : Type} {t4 : Type} (p : t0→t1→t2→t3→t4→Prop) : Prop where
  | mk (x0 : t0) (x1 : t1) (x2 : t2) (x3 : t3) (x4 : t4) (h : p x0 x1 x2 x3 x4) : E5 p
inductive E6 {t0 : Type} {t1 : Type} {t2 : Type} {t3 : Type} {t4 : Type} {t5 : Type} (p : t0→t1→t2→t3→t4→t5→Prop) : Prop where
  | mk (x0 : t0) (x1 : t1) (x2 : t2) (x3 : t3) (x4 : t4) (x5 : t5) (h : p x0 x1 x2 x3 x4 x5) : E6 p
inductive E8 {t0 : Type} {t1 : Type} {t2 : Type} {t3 : Type} {t4 : Type} {t5 : Type} {t6 : Type} {t7 : Type} (p : t0→t1→t2→t3→t4→t5→t6→t7→Prop) : Prop where
  | mk (x0 : t0) (x1 : t1) (x2 : t2) (x3 : t3) (x4 : t4) (x5 : t5) (x6 : t6) (x7 : t7) (h : p x0 x1 x2 x3 x4 x5 x6 x7) : E8 p
inductive E12 {t0 : Type} {t1 : Type} {t2 : Type} {t3 : Type} {t4 : Type} {t5 : Type} {t6 : Type} {t7 : Type} {t8 : Type} {t9 : Type} {t10 : Type} {t11 : Type} (p : t0→t1→t2→t3→t4→t5→t6→t7→t8→t9→t10→t11→Prop) : Prop where
  | mk (x0 : t0) (x1 : t1) (x2 : t2) (x3 : t3) (x4 : t4) (x5 : t5) (x6 : t6) (x7 : t7) (x8 : t8) (x9 : t9) (x10 : t10) (x11 : t11) (h : p x0 x1 x2 x3 x4 x5 x6 x7 x8 x9 x10 x11) : E12 p
inductive A3 (p0 p1 p2 : Prop) : Prop where
  | mk (h0 : p0) (h1 : p1) (h2 : p2) : A3 p0 p1 p2
inductive A4 (p0 p1 p2 p3 : Prop) : Prop where
  | mk (h0 : p0) (h1 : p1) (h2 : p2) (h3 : p3) : A4 p0 p1 p2 p3
inductive A5 (p0 p1 p2 p3 p4 : Prop) : Prop where
  | mk (h0 : p0) (h1 : p1) (h2 : p2) (h3 : p3) (h4 : p4) : A5 p0 p1 p2 p3 p4
inductive A6 (p0 p1 p2 p3 p4 p5 : Prop) : Prop where
  | mk (h0 : p0) (h1 : p1) (h2 : p2) (h3 : p3) (h4 : p4) (h5 : p5) : A6 p0 p1 p2 p3 p4 p5
inductive A7 (p0 p1 p2 p3 p4 p5 p6 : Prop) : Prop where
  | mk (h0 : p0) (h1 : p1) (h2 : p2) (h3 : p3) (h4 : p4) (h5 : p5) (h6 : p6) : A7 p0 p1 p2 p3 p4 p5 p6
inductive A8 (p0 p1 p2 p3 p4 p5 p6 p7 : Prop) : Prop where
  | mk (h0 : p0) (h1 : p1) (h2 : p2) (h3 : p3) (h4 : p4) (h5 : p5) (h6 : p6) (h7 : p7) : A8 p0 p1 p2 p3 p4 p5 p6 p7
inductive A10 (p0 p1 p2 p3 p4 p5 p6 p7 p8 p9 : Prop) : Prop where
  | mk (h0 : p0) (h1 : p1) (h2 : p2) (h3 : p3) (h4 : p4) (h5 : p5) (h6 : p6) (h7 : p7) (h8 : p8) (h9 : p9) : A10 p0 p1 p2 p3 p4 p5 p6 p7 p8 p9
@[elab_as_elim] theorem lz {α : Type} {C : List α→Prop} (us : List α) (hl : us.length=0) (h : C []) : C us:=by cases us with | nil=>exact h | cons _ _=>cases hl
@[elab_as_elim] theorem ls {α : Type} {C : List α→Prop} {n : Nat} (us : List α) (hl : us.length=n + 1) (h : ∀ a t,t.length=n→C (a :: t)) : C us:=by cases us with | nil=>cases hl | cons a t=>exact h a t (Nat.succ.inj hl)
theorem a1 (h : True:=by rfl) : True:=h
theorem a2 (h : True:=by decide) : True:=h
theorem a3 (h : True:=by intro _; rfl) : True:=h
theorem a4 (h : True:=by first | left; rfl | right; rfl | assumption) : True:=h
theorem a5 (h : True:=by with_unfolding_all rfl) : True:=h
theorem a6 (h : True:=by first | apply nobehind <;> decide | rfl) : True:=h
theorem a7 (h : True:=by first | left; rfl | right; first | left; rfl | right; rfl) : True:=h
end L23
set_option Elab.async false
set_option linter.all false
set_option maxRecDepth 100000
namespace L2
open PySem PySem.Spec PyProof.Rows
noncomputable abbrev Key:=Sum Int Str
noncomputable def keyIs : Key→Value→Bool
  | .inl k,v=>Value.isInt k v
  | .inr x,v=>Value.isStrOf x v
noncomputable def keyH (w : World) : Key→Int
  | .inl k=>hashInt k
  | .inr x=>hashStr w x
theorem keyIs_shape : ∀ {k : Key} {v : Value},keyIs k v=true→(∃ i t,k=Sum.inl i∧v=Value.int i t)∨(∃ x t,k=Sum.inr x∧v=Value.str x t)
  | .inl i,v,h=>by
    obtain ⟨t,e⟩:=Value.isInt_shape (k:=i) (v:=v) h
    exact .inl ⟨i,t,rfl,e⟩
  | .inr x,v,h=>by
    obtain ⟨t,e⟩:=Value.isStrOf_shape (x:=x) (v:=v) h
    exact .inr ⟨x,t,rfl,e⟩
theorem key_ll (a b : Int) : decide ((Sum.inl a : Key)=Sum.inl b)=(a == b):=by
  by_cases e : a=b
  · subst e; simp
  · have h : ¬ (Sum.inl a : Key)=Sum.inl b:=fun q=>e (Sum.inl.inj q)
    rw [decide_eq_false h]
    exact (beq_eq_false_iff_ne.mpr e).symm
theorem key_rr (a b : Str) : decide ((Sum.inr a : Key)=Sum.inr b)=decide (a=b):=by
  by_cases e : a=b
  · subst e; simp
  · have h : ¬ (Sum.inr a : Key)=Sum.inr b:=fun q=>e (Sum.inr.inj q)
    rw [decide_eq_false h,decide_eq_false e]
theorem key_lr (a : Int) (b : Str) : decide ((Sum.inl a : Key)=Sum.inr b)=false:=decide_eq_false (fun q=>nomatch q)
theorem key_rl (a : Str) (b : Int) : decide ((Sum.inr a : Key)=Sum.inl b)=false:=decide_eq_false (fun q=>nomatch q)
noncomputable def mixKind (prog : Program) (w : World) : PySem.KeyKind prog w Key where
  is:=keyIs
  hash:=keyH w
  inj:=fun v a b ha hb=>by
    rcases keyIs_shape ha with ⟨i,t,rfl,rfl⟩ | ⟨x,t,rfl,rfl⟩
    · rcases keyIs_shape hb with ⟨j,u,rfl,e⟩ | ⟨y,u,rfl,e⟩
      · injection e with e1 _; rw [e1]
      · exact nomatch e
    · rcases keyIs_shape hb with ⟨j,u,rfl,e⟩ | ⟨y,u,rfl,e⟩
      · exact nomatch e
      · injection e with e1 _; rw [e1]
  byValue:=fun k v h=>by
    rcases keyIs_shape h with ⟨i,t,rfl,rfl⟩ | ⟨x,t,rfl,rfl⟩ <;> rfl
  pyHash:=fun hv h=>by
    rcases keyIs_shape hv with ⟨i,t,rfl,rfl⟩ | ⟨x,t,rfl,rfl⟩
    · exact wpAny_pyHash_int h
    · exact wpAny_pyHash_str h
  eqBool:=fun hu hv h=>by
    rcases keyIs_shape hu with ⟨i,t,rfl,rfl⟩ | ⟨x,t,rfl,rfl⟩
    · rcases keyIs_shape hv with ⟨j,u,rfl,rfl⟩ | ⟨y,u,rfl,rfl⟩
      · rw [key_ll] at h; exact wpAny_eqBool_int h
      · rw [key_lr] at h; exact SeqAt.EqAt.int_str i t y u _ _ _ _ h
    · rcases keyIs_shape hv with ⟨j,u,rfl,rfl⟩ | ⟨y,u,rfl,rfl⟩
      · rw [key_rl] at h; exact SeqAt.EqAt.str_int x t j u _ _ _ _ h
      · rw [key_rr] at h; exact wpAny_eqBool_str h
  «strs»:=fun k x t v h=>by
    rcases keyIs_shape h with ⟨i,u,rfl,e⟩ | ⟨y,u,rfl,e⟩
    · exact nomatch e
    · injection e with e1 _
      subst e1
      cases v <;> rfl
end L2
namespace L2
open PySem PySem.Spec PyProof.Rows
inductive V where
  | non | bl (b : Bool) | int (i : Int) | str (x : Str) | byt (b : Array UInt8) | flt (b : UInt64) | ref (a : Addr) | ty (n : String)
  deriving DecidableEq
noncomputable def RelV : V→Value→Prop
  | .non,u=>u=Value.none
  | .bl b,u=>u=Value.bool b
  | .int i,u=>∃ t,u=Value.int i t
  | .str x,u=>∃ t,u=Value.str x t
  | .byt b,u=>∃ t,u=Value.bytes b t
  | .flt b,u=>∃ t,u=Value.float b t
  | .ref a,u=>u=Value.ref a
  | .ty n,u=>u=Value.type n
noncomputable abbrev Vals : List V→List Value→Prop:=Paired RelV
theorem Vals.length {xs : List V} {us : List Value} (r : Vals xs us) : xs.length=us.length:=Paired.length r
theorem Vals.get : ∀ {xs : List V} {us : List Value} {i : Nat} {x : V},Vals xs us→xs[i]?=some x→∃ u,us[i]?=some u∧RelV x u
  | _,_,_,_,.nil,e=>by simp at e
  | _,_,0,_,.cons r _,e=>by simp at e; subst e; exact ⟨_,rfl,r⟩
  | _,_,i + 1,x,.cons _ t,e=>by
    obtain ⟨u,h1,h2⟩:=Vals.get (i:=i) (x:=x) t (by simpa using e)
    exact ⟨u,by simpa using h1,h2⟩
theorem Vals.append : ∀ {xs ys : List V} {us ws : List Value},Vals xs us→Vals ys ws→Vals (xs ++ ys) (us ++ ws)
  := by
  intro xs ys us ws h s
  induction h with
  | nil=>exact s
  | cons r t ih=>exact .cons r ih
theorem Vals.take : ∀ {xs : List V} {us : List Value} (n : Nat),Vals xs us→Vals (xs.take n) (us.take n)
  | _,_,0,_ => .nil
  | _,_,_ + 1,.nil => .nil
  | _,_,n + 1,.cons r t => .cons r (Vals.take n t)
theorem Vals.drop : ∀ {xs : List V} {us : List Value} (n : Nat),Vals xs us→Vals (xs.drop n) (us.drop n)
  | _,_,0,r=>r
  | _,_,_ + 1,.nil => .nil
  | _,_,n + 1,.cons _ t=>Vals.drop n t
theorem Vals.none_of : ∀ {xs : List V} {us : List Value} {i : Nat},Vals xs us→xs[i]?=none→us[i]?=none:=fun {xs us i} r e=>by
  have h1:=r.length
  have h2 : xs.length≤i:=List.getElem?_eq_none_iff.mp e
  exact List.getElem?_eq_none_iff.mpr (by omega)
noncomputable def RelO : Option V→Option Value→Prop
  | some v,some u=>RelV v u
  | none,none=>True
  | _,_=>False
noncomputable def KV {κ : Type} : List (κ × V)→List (κ × Value)→Prop:=Paired fun (p : κ × V) (q : κ × Value)=>p.1=q.1∧RelV p.2 q.2
noncomputable def kV : Key→V
  | .inl i => .int i
  | .inr x => .str x
inductive HO where
    | lst (xs : List V)
    | tup (xs : List V)
    | dK (kvs : List (Key × V)) | dT (kvs : List (List Key × V))
    | set (S : Int→Bool) (n : Nat)
    | ins (C dx : Addr) (fs : List (Str × V))
    | own (x : Addr)
    | xd (fs : List (Str × V))
    | met (f x : Addr)
    | rng (lo hi : Int)
    | frz (o : Obj) (u : HO)
    | tbl (ps : Array Value)
    | ext (φ : Heap→Prop)
noncomputable abbrev Hp:=Addr→Option HO
noncomputable def upd (H : Hp) (a : Addr) (o : HO) : Hp:=fun b=>if b=a then some o else H b
theorem upd_same {H : Hp} {a : Addr} {o : HO} : upd H a o a=some o:=by unfold upd; rw [if_pos rfl]
theorem upd_ne {H : Hp} {a b : Addr} {o : HO} (h : b≠a) : upd H a o b=H b:=by unfold upd; rw [if_neg h]
theorem ne_of {H : Hp} {a b : Addr} {o u : HO} (h : H a=some o) (h' : H b=some u) (d : o≠u) : a≠b:=by
  intro e; subst e; rw [h] at h'; exact d (Option.some.inj h')
theorem ne_of_none {H : Hp} {a b : Addr} {o : HO} (h : H a=some o) (h' : H b=none) : a≠b:=by
  intro e; subst e; rw [h] at h'; cases h'
section
variable (P : Program) (w : World)
noncomputable def ObjOk (H : Hp) (h : Heap) (a : Addr) : HO→Prop
  | .lst xs=>xs.length≤sizeLine∧∃ (its : List Value) (n : Nat),Vals xs its∧h.get? a=some { cls := .type "list",data := .seq its.toArray n }
  | .tup xs=>xs.length≤sizeLine∧∃ its : List Value,Vals xs its∧IsTup h a its.toArray
  | .dK kvs=>kvs.length≤sizeLine∧(a == sysModules)=false∧∃ vs,KV kvs vs∧h.DictOf (mixKind P w) a vs
  | .dT kvs=>kvs.length≤sizeLine∧(a == sysModules)=false∧∃ xs : List (List Key × Addr × Value),
      Paired (fun (p : List Key × V) (q : List Key × Addr × Value)=>p.1=q.1∧H q.2.1=some (.tup (p.1.map kV))∧RelV p.2 q.2.2) kvs xs ∧
      ∃ o es ep,h.get? a=some o∧o.ExactDict∧o.data = .dict es ep∧es.toList=xs.map (entryOfKey (tupleKind (mixKind P w)))∧(xs.map (·.1)).Nodup
  | .set S n=>h.SetOf (intKind P w) a S n
  | .ins C dx fs=>H dx=some (.own a)∧fs.length≤1000∧dx≠a∧h.get? a=some (PySem.W.instObj C dx) ∧
      ∃ mA,h.Ns1 dx mA∧(∀ f,RelO (fs.lookup f) (mA f))∧PySem.Within mA (fs.map (·.1))
  | .own _=>∃ o,h.get? a=some o
  | .xd fs=>∃ mA,h.Ns1 a mA∧∀ f,RelO (fs.lookup f) (mA f)
  | .rng lo hi=>∃ t u v,h.get? a=some { cls := .type "range",data := .fields #[.int lo t,.int hi u,.int 1 v] }
  | .frz o u=>h.get? a=some o∧ObjOk H h a u
  | .tbl ps=>h.get? a=some { cls := .none,data := .fields ps }
  | .met f x=>h.get? a=some (PySem.W.methodObj (.ref f) (.ref x))
  | .ext φ=>φ h∧(∃ o,h.get? a=some o)∧∀ h1 h2 : Heap,φ h1→(∀ o,h1.get? a=some o→h2.get? a=some o)→φ h2
noncomputable def HOk (H : Hp) (h : Heap) : Prop:=∀ a o,H a=some o→ObjOk P w H h a o
end
section
variable {P : Program} {w : World} {H H' : Hp} {h h' : Heap} {a : Addr} {o : HO}
theorem ObjOk.lt (x : ObjOk P w H h a o) : a < h.objs.size:=by
  cases o with
  | lst xs=>obtain ⟨zz,zz,zz,zz,e⟩:=x; exact Heap.lt_size e
  | tup xs=>obtain ⟨zz,zz,zz,p⟩:=x; exact p.lt
  | dK kvs=>obtain ⟨zz,zz,zz,zz,o,zz,zz,e,zz⟩:=x; exact Heap.lt_size e
  | dT kvs=>obtain ⟨zz,zz,zz,zz,o,zz,zz,e,zz⟩:=x; exact Heap.lt_size e
  | set S n=>obtain ⟨o,zz,zz,zz,e,zz⟩:=x; exact Heap.lt_size e
  | ins C dx fs=>obtain ⟨zz,zz,zz,e,zz⟩:=x; exact Heap.lt_size e
  | own y=>obtain ⟨zz,e⟩:=x; exact Heap.lt_size e
  | xd fs=>obtain ⟨zz,⟨zz,zz,zz,e,zz⟩,zz⟩:=x; exact Heap.lt_size e
  | rng lo hi=>obtain ⟨zz,zz,zz,e⟩:=x; exact Heap.lt_size e
  | frz ob u=>obtain ⟨e,zz⟩:=x; exact Heap.lt_size e
  | tbl ps=>exact Heap.lt_size (show h.get? a=some _ from x)
  | met f y=>exact Heap.lt_size (show h.get? a=some _ from x)
  | ext φ=>obtain ⟨zz,⟨zz,e⟩,zz⟩:=x; exact Heap.lt_size e
theorem Paired.mapP {α β : Type} {F G : α→β→Prop} : ∀ {l₁ : List α} {l₂ : List β},Paired F l₁ l₂→(∀ a b,F a b→G a b)→Paired G l₁ l₂
  := by
  intro l₁ l₂ h f
  induction h with
  | nil=>exact .nil
  | cons r t ih=>exact .cons (f _ _ r) ih
theorem ObjOk.stay (x : ObjOk P w H h a o) (k : ∀ b u,(b=a∨H b=some (.own a))→h.get? b=some u→h'.get? b=some u)
    (ho : ∀ b,H b=some (.own a)→H' b=some (.own a)) (ht : ∀ b xs,H b=some (.tup xs)→H' b=some (.tup xs)) : ObjOk P w H' h' a o:=by
  induction o with
  | lst xs=>obtain ⟨z,its,n,r,e⟩:=x; exact ⟨z,its,n,r,k _ _ (.inl rfl) e⟩
  | tup xs=>obtain ⟨z,its,r,ob,e,c⟩:=x; exact ⟨z,its,r,ob,k _ _ (.inl rfl) e,c⟩
  | dK kvs=>obtain ⟨z,y,vs,r,ob,es,ep,e,c⟩:=x; exact ⟨z,y,vs,r,ob,es,ep,k _ _ (.inl rfl) e,c⟩
  | dT kvs =>
    obtain ⟨z,y,xs,r,ob,es,ep,e,c⟩:=x
    exact ⟨z,y,xs,Paired.mapP r fun p q z=>⟨z.1,ht _ _ z.2.1,z.2.2⟩,ob,es,ep,k _ _ (.inl rfl) e,c⟩
  | set S n=>obtain ⟨ob,es,ep,t,e,c⟩:=x; exact ⟨ob,es,ep,t,k _ _ (.inl rfl) e,c⟩
  | ins C dx fs =>
    obtain ⟨d,z,ne,e,mA,⟨od,es,ep,e2,c⟩,r⟩:=x
    exact ⟨ho _ d,z,ne,k _ _ (.inl rfl) e,mA,⟨od,es,ep,k _ _ (.inr d) e2,c⟩,r⟩
  | own y=>obtain ⟨ob,e⟩:=x; exact ⟨ob,k _ _ (.inl rfl) e⟩
  | xd fs=>obtain ⟨mA,⟨od,es,ep,e,c⟩,r⟩:=x; exact ⟨mA,⟨od,es,ep,k _ _ (.inl rfl) e,c⟩,r⟩
  | rng lo hi=>obtain ⟨t,u,v,e⟩:=x; exact ⟨t,u,v,k _ _ (.inl rfl) e⟩
  | frz ob u ih=>obtain ⟨e,q⟩:=x; exact ⟨k _ _ (.inl rfl) e,ih q⟩
  | tbl ps =>
    have e : h.get? a=some { cls := .none,data := .fields ps }:=x
    show h'.get? a=some { cls := .none,data := .fields ps }
    exact k a _ (.inl rfl) e
  | met f y =>
    have e : h.get? a=some (PySem.W.methodObj (.ref f) (.ref y)):=x
    show h'.get? a=some (PySem.W.methodObj (.ref f) (.ref y))
    exact k a _ (.inl rfl) e
  | ext φ=>obtain ⟨p,⟨o,e⟩,st⟩:=x; exact ⟨st _ _ p fun o q=>k _ _ (.inl rfl) q,⟨o,k _ _ (.inl rfl) e⟩,st⟩
theorem HOk.lt (x : HOk P w H h) (e : H a=some o) : a < h.objs.size:=(x a o e).lt
theorem HOk.fresh (x : HOk P w H h) (e : h.objs.size≤a) : H a=none:=by
  cases q : H a with
  | none=>rfl
  | some u=>exact absurd (Nat.lt_of_lt_of_le (x.lt q) e) (Nat.lt_irrefl _)
theorem HOk.kept (x : HOk P w H h) (k : ∀ b u,h.get? b=some u→h'.get? b=some u) : HOk P w H h':=fun a o e =>
  (x a o e).stay (fun b u zz q=>k b u q) (fun zz q=>q) fun zz zz q=>q
theorem HOk.laid (x : HOk P w H h) (k : ∀ b u,h.get? b=some u→h'.get? b=some u) (hp : h.objs.size≤a) (new : ObjOk P w (upd H a o) h' a o) : HOk P w (upd H a o) h':=fun b u e=>by
  have hn:=x.fresh hp
  by_cases hb : b=a
  · subst hb; rw [upd_same] at e; cases e; exact new
  · rw [upd_ne hb] at e
    exact (x b u e).stay (fun c v zz q=>k c v q) (fun c q=>by rw [upd_ne (ne_of_none q hn)]; exact q) fun c xs q=>by rw [upd_ne (ne_of_none q hn)]; exact q
end
noncomputable def Rd (H : Hp) (a : Addr) (u : HO) : Prop:=H a=some u∨∃ o,H a=some (.frz o u)
theorem Rd.of {H : Hp} {a : Addr} {u : HO} (h : H a=some u) : Rd H a u := .inl h
theorem Rd.ok {P : Program} {w : World} {H : Hp} {h : Heap} {a : Addr} {u : HO} (r : Rd H a u) (x : HOk P w H h) : ObjOk P w H h a u:=by
  rcases r with r | ⟨o,r⟩
  · exact x a u r
  · obtain ⟨zz,q⟩:=x a _ r
    exact q
noncomputable def Mut : Option HO→Prop
  | some (.lst _)=>True
  | some (.dK _)=>True
  | some (.dT _)=>True
  | some (.set _ _)=>True
  | some (.ins _ _ _)=>True
  | some (.ext _)=>True
  | _=>False
section
variable {P : Program} {w : World} {H : Hp} {h h' : Heap} {x e : Addr} {o' : HO}
theorem HOk.write (ok : HOk P w H h) (mu : Mut (H x)) (he : e=x∨H e=some (.own x)) (k : ∀ b u,b≠e→h.get? b=some u→h'.get? b=some u) (heo : ∃ u,h'.get? e=some u)
    (new : ObjOk P w (upd H x o') h' x o') : HOk P w (upd H x o') h':=fun b u q=>by
  have nown : ∀ c y,H c=some (.own y)→c≠x:=fun c y r z=>by subst z; rw [r] at mu; exact mu
  have ntup : ∀ c xs,H c=some (.tup xs)→c≠x:=fun c xs r z=>by subst z; rw [r] at mu; exact mu
  by_cases hb : b=x
  · subst hb; rw [upd_same] at q; cases q; exact new
  · rw [upd_ne hb] at q
    by_cases hbe : b=e
    · have q' : H b=some (.own x):=by
        rcases he with z | z
        · exact absurd (hbe.trans z) hb
        · rw [hbe]; exact z
      rw [q] at q'; cases q'
      obtain ⟨v,hv⟩:=heo
      exact ⟨v,by rw [hbe]; exact hv⟩
    · refine (ok b u q).stay (fun c v hc r=>k c v ?_ r) (fun c r=>by rw [upd_ne (nown c b r)]; exact r) fun c xs r=>by rw [upd_ne (ntup c xs r)]; exact r
      rcases hc with rfl | hc
      · exact hbe
      · rintro rfl
        rcases he with z | z
        · exact nown c b hc z
        · rw [hc] at z; cases z; exact hb rfl
end
structure Un (fs ex : List Addr) (H H' : Hp) (h h' : Heap) : Prop where
  keep : ∀ b o,h.get? b=some o→H b=none→b∉fs→b∉ex→h'.get? b=some o
  slot : ∀ b o,h.get? b=some o→H b=none→b∈fs→b∉ex→∃ sl,h'.get? b=some { o with slots:=sl }
  free : ∀ b o,h.get? b=some o→H b=none→b∉ex→H' b=none
  there : ∀ b o,h.get? b=some o→b∉ex→∃ o',h'.get? b=some o'
  tups : ∀ b xs,H b=some (.tup xs)→H' b=some (.tup xs)
  frzs : ∀ b o u,H b=some (.frz o u)→H' b=some (.frz o u)
  tbls : ∀ b ps,H b=some (.tbl ps)→∃ more,H' b=some (.tbl (ps ++ more))
section
variable {fs fs' ex ex' : List Addr} {H H1 H2 : Hp} {h h1 h2 h' : Heap} {a x e : Addr} {o : HO}
theorem Un.any (u : Un fs ex H H1 h h1) {b : Addr} {ob : Obj} (q : h.get? b=some ob) (n : H b=none) (hx : b∉ex) : ∃ sl,h1.get? b=some { ob with slots:=sl }:=by
  by_cases hb : b∈fs
  · exact u.slot b ob q n hb hx
  · exact ⟨ob.slots,u.keep b ob q n hb hx⟩
theorem Un.kept (k : ∀ b u,h.get? b=some u→h'.get? b=some u) : Un fs ex H H h h' :=
  ⟨fun b ob q zz zz zz=>k b ob q,fun b ob q zz zz zz=>⟨ob.slots,k b ob q⟩,fun zz zz zz n zz=>n,fun b ob q zz=>⟨ob,k b ob q⟩,fun zz zz q=>q,fun zz zz zz q=>q,fun zz ps q=>⟨#[],by rw [q]; simp⟩⟩
theorem Un.refl : Un fs ex H H h h:=Un.kept fun zz zz q=>q
theorem Un.laid (k : ∀ b u,h.get? b=some u→h'.get? b=some u) (hp : h.objs.size≤a) (hn : H a=none) : Un fs ex H (upd H a o) h h' where
  keep:=fun b u q zz zz zz=>k b u q
  slot:=fun b u q zz zz zz=>⟨u.slots,k b u q⟩
  free:=fun b u q n zz=>by rw [upd_ne (Nat.ne_of_lt (Nat.lt_of_lt_of_le (Heap.lt_size q) hp))]; exact n
  there:=fun b u q zz=>⟨u,k b u q⟩
  tups:=fun b xs q=>by rw [upd_ne (ne_of_none q hn)]; exact q
  frzs:=fun b u xs q=>by rw [upd_ne (ne_of_none q hn)]; exact q
  tbls:=fun b ps q=>⟨#[],by rw [upd_ne (ne_of_none q hn),q]; simp⟩
theorem Un.write (mu : Mut (H x)) (he : e=x∨H e=some (.own x)) (k : ∀ b u,b≠e→h.get? b=some u→h'.get? b=some u) (heo : ∃ u,h'.get? e=some u) : Un fs ex H (upd H x o) h h':=by
  have hx : ∀ b,H b=none→b≠x:=fun b n z=>by subst z; rw [n] at mu; exact mu
  have hb : ∀ b,H b=none→b≠e:=fun b n z=>by
    subst z
    rcases he with r | r
    · exact hx b n r
    · rw [n] at r; cases r
  have hm : ∀ b u,H b=some u→¬ Mut (some u)→b≠x:=fun b u q nm z=>by subst z; rw [q] at mu; exact nm mu
  refine ⟨fun b u q n zz zz=>k b u (hb b n) q,fun b u q n zz zz=>⟨u.slots,k b u (hb b n) q⟩,fun b u q n zz=>by rw [upd_ne (hx b n)]; exact n,fun b u q zz=>?_,
    fun b xs q=>by rw [upd_ne (hm b _ q fun z=>z)]; exact q,fun b u xs q=>by rw [upd_ne (hm b _ q fun z=>z)]; exact q,fun b ps q=>⟨#[],by rw [upd_ne (hm b _ q fun z=>z),q]; simp⟩⟩
  by_cases hbe : b=e
  · subst hbe; exact heo
  · exact ⟨u,k b u hbe q⟩
end
noncomputable def trk (h : Heap) (H : Hp) : List Addr:=(List.range h.objs.size).filter fun a=>(H a).isSome
noncomputable def hidT (h : Heap) (H : Hp) : Heap:=PySem.W.hideAll h (trk h H)
theorem hidT_size (h : Heap) (H : Hp) : (hidT h H).objs.size=h.objs.size:=PySem.W.hideAll_size _ _
theorem hidT_get {h : Heap} {H : Hp} {b : Addr} {o : Obj} (e : h.get? b=some o) (n : H b=none) : (hidT h H).get? b=some o :=
  PySem.W.hideAll_get _ e fun hm=>by
    have q : (H b).isSome=true:=(List.mem_filter.mp hm).2
    rw [n] at q; simp at q
theorem of_hidT {h : Heap} {H : Hp} {b : Addr} {o : Obj} (e : (hidT h H).get? b=some o) : h.get? b=some o∧H b=none:=by
  have e' : h.get? b=some o:=PySem.W.of_hideAll (trk h H) e
  refine ⟨e',?_⟩
  cases q : H b with
  | none=>rfl
  | some x =>
    have hm : b∈trk h H:=List.mem_filter.mpr ⟨List.mem_range.mpr (Heap.lt_size e'),by simp [q]⟩
    have z : (hidT h H).get? b=none:=PySem.W.hideAll_none (trk h H) hm
    rw [z] at e; cases e
noncomputable def allNews (g h : Heap) (L : Addr) : List (Addr × Obj):=(List.range h.objs.size).filterMap fun a=>if a=L∨(g.get? a).isSome=true then none else (h.get? a).map fun o=>(a,o)
noncomputable def rest (g h : Heap) (L d : Addr) : List (Addr × Obj):=(allNews g h L).filter fun p=>decide (p.1≠d)
end L2
namespace L2
open PySem PySem.Spec PyProof.Rows
structure Mod (K : PySem.W.Frag) (mg : Str→Option Value) (base : Heap) : Prop where
  kin : K.In base
  glob : base.Ns mainGlobals mg
  blt : ∃ mb,base.Ns builtinsNs mb∧∀ x : Str,x≠"__name__"→mb x=bootBuiltins x
  nolimit : base.NoLimit
structure Cx where
  prog : Program
  w : World
  K : PySem.W.Frag
  mg : Str→Option Value
  base : Heap
  A : Around
  N : List Str
  s₀ : Shared
  H₀ : Hp
  env : Env
  outer : List Env
  stack : List Env
  ex : List Addr
  fn : Str→Bool
  calm : Bool
  pn : List (Addr × Obj)
  xe : Value→Shared→Prop
noncomputable def frs (l : List Env) : List Addr:=l.filterMap (·.frame)
noncomputable abbrev Cx.fs (X : Cx) : List Addr:=frs X.outer
noncomputable def Vis (sc : Scope) (x : Str) : Prop:=sc.names.lookup x=some .local∨sc.names.lookup x=some .cell∨sc.names.lookup x=some .free
noncomputable def Loc (sc : Scope) (x : Str) : Prop:=sc.names.lookup x=some .local∨sc.names.lookup x=some .cell
noncomputable def Look (env : Env) (h : Heap) (m : Str→Option Value) (x : Str) (u : Value) : Prop :=
  (env.kindOf x=some .local∧m x=some u)∨((env.kindOf x=some .cell∨env.kindOf x=some .free)∧∃ c,env.cells.lookup x=some c∧h.IsCell c (some u))
structure Cx.Ok (X : Cx) : Prop where
  mod : Mod X.K X.mg X.base
  kind : X.env.scope.kind = .function
  glob : X.env.globals=mainGlobals
  blt : X.env.builtins=builtinsNs
  above : X.s₀.heap.objs.size≤X.env.locals
  inj : ∀ x y c,X.env.cells.lookup x=some c→X.env.cells.lookup y=some c→x=y
  has : ∀ x,(X.env.kindOf x=some .cell∨X.env.kindOf x=some .free)→∃ c,X.env.cells.lookup x=some c
  cab : ∀ x c,X.fn x=true→X.env.cells.lookup x=some c→X.s₀.heap.objs.size≤c
  hd : X.calm=true→X.A.handled=none
  frames : X.A.frames=some X.stack
  stk : X.stack=X.outer∨(X.stack=X.env :: X.outer∧X.env.frame=some X.env.locals)
  exf : ∀ b∈X.ex,b≠X.env.locals∧∀ x c,X.env.cells.lookup x=some c→c≠b
  bs : ∀ b o,X.base.get? b=some o→X.s₀.heap.get? b=some o∧X.H₀ b=none
  bsz : X.base.objs.size≤X.s₀.heap.objs.size
  noex : ∀ b o,X.base.get? b=some o→b∉X.ex
  exfs : ∀ b∈X.ex,b∉X.fs
  funs : X.s₀.heap.FunFrames X.base X.outer
  frf : ∀ b∈X.fs,X.H₀ b=none
structure Inv (X : Cx) (pins : List (Addr × Obj)) (σ : List (Option V)) (H : Hp) (s : Shared) : Prop where
  ok : X.Ok
  os : s.os=X.s₀.os
  bare : AllBare s.gens
  base : Un X.fs X.ex X.H₀ H X.s₀.heap s.heap
  loc : ∃ m,s.heap.Ns X.env.locals m∧∀ (i : Nat) (x : Str) (v : V),X.N[i]?=some x→σ[i]?=some (some v)→Vis X.env.scope x→∃ u,RelV v u∧Look X.env s.heap m x u
  cell : ∀ x c,X.env.cells.lookup x=some c→∃ v,s.heap.IsCell c v
  free : H X.env.locals=none
  freeC : ∀ x c,X.env.cells.lookup x=some c→H c=none
  pin : ∀ p∈X.pn ++ pins,s.heap.get? p.1=some p.2∧H p.1=none∧p.1≠X.env.locals∧p.1∉X.fs∧∀ v,p.2.data ≠ .cell v
  hok : HOk X.prog X.w H s.heap
  len : σ.length=X.N.length
section
variable {X : Cx} {pins : List (Addr × Obj)} {σ : List (Option V)} {H H' : Hp} {s : Shared} {h' : Heap}
theorem Cx.Ok.nofr (ok : X.Ok) {b : Addr} {o : Obj} (e : X.base.get? b=some o) : b∉X.fs:=fun hb=>by
  have:=(ok.funs.mem hb).1
  rw [e] at this; cases this
theorem Inv.bs (I : Inv X pins σ H s) : ∀ b o,X.base.get? b=some o→s.heap.get? b=some o∧H b=none:=fun b o e =>
  ⟨I.base.keep b o (I.ok.bs b o e).1 (I.ok.bs b o e).2 (I.ok.nofr e) (I.ok.noex b o e),I.base.free b o (I.ok.bs b o e).1 (I.ok.bs b o e).2 (I.ok.noex b o e)⟩
theorem Inv.bk (I : Inv X pins σ H s) : ∀ b o,X.base.get? b=some o→s.heap.get? b=some o:=fun b o e=>(I.bs b o e).1
theorem Inv.mod (I : Inv X pins σ H s) : Mod X.K X.mg X.base:=I.ok.mod
theorem Inv.kIn (I : Inv X pins σ H s) : X.K.In s.heap:=I.ok.mod.kin.keeps I.bk
theorem Inv.nolimit (I : Inv X pins σ H s) : s.heap.NoLimit:=I.ok.mod.nolimit.keeps I.bk
theorem Inv.lt (I : Inv X pins σ H s) : X.env.locals < s.heap.objs.size:=let ⟨_,hn,_⟩:=I.loc; hn.lt
theorem Inv.sz (I : Inv X pins σ H s) : X.s₀.heap.objs.size≤s.heap.objs.size:=Nat.le_trans I.ok.above (Nat.le_of_lt I.lt)
theorem Inv.nofs (I : Inv X pins σ H s) {a : Addr} (h : s.heap.objs.size≤a) : a∉X.fs:=fun hb=>by
  obtain ⟨zz,o,ho,zz⟩:=I.ok.funs.mem hb
  exact absurd (Nat.lt_of_lt_of_le (Heap.lt_size ho) (Nat.le_trans I.sz h)) (Nat.lt_irrefl _)
theorem Inv.cne (I : Inv X pins σ H s) : ∀ x c,X.env.cells.lookup x=some c→c≠X.env.locals:=fun x c e z=>by
  obtain ⟨v,o,ho,hd⟩:=I.cell x c e
  obtain ⟨m,⟨o',es,ep,ho',hd',zz⟩,zz⟩:=I.loc
  rw [z,ho'] at ho; cases ho; rw [hd'] at hd; cases hd
theorem Inv.funs (I : Inv X pins σ H s) : s.heap.FunFrames X.base X.outer:=by
  have all : ∀ (l : List Env),(∀ b∈frs l,b∈X.fs)→X.s₀.heap.FunFrames X.base l→s.heap.FunFrames X.base l:=by
    intro l
    induction l with
    | nil=>intro _ _; trivial
    | cons env r ih =>
      intro hs hl
      obtain ⟨hk,⟨L,o,hf,hn,ho,hd⟩,hr⟩:=hl
      have hL : L∈X.fs:=hs L (by unfold frs; rw [List.filterMap_cons,hf]; exact List.mem_cons_self)
      obtain ⟨sl,e⟩:=I.base.slot L o ho (I.ok.frf L hL) hL fun z=>I.ok.exfs L z hL
      exact ⟨hk,⟨L,_,hf,hn,e,hd⟩,ih (fun b hb=>hs b (by unfold frs; rw [List.filterMap_cons,hf]; exact List.mem_cons_of_mem _ hb)) hr⟩
  exact all X.outer (fun zz hb=>hb) I.ok.funs
theorem Inv.stack (I : Inv X pins σ H s) : s.heap.FunFrames X.base X.stack:=by
  rcases I.ok.stk with e | ⟨e,hf⟩
  · rw [e]; exact I.funs
  · rw [e]
    obtain ⟨m,hn,zz⟩:=I.loc
    refine .cons (by rw [I.ok.kind]; decide) hf hn ?_ I.funs
    exact Heap.get?_none_of_le (Nat.le_trans I.ok.bsz I.ok.above)
theorem Inv.stkSub (I : Inv X pins σ H s) : ∀ b∈frs X.stack,b∈X.env.locals :: X.fs:=fun b hb=>by
  rcases I.ok.stk with e | ⟨e,hf⟩
  · rw [e] at hb; exact List.mem_cons_of_mem _ hb
  · rw [e] at hb
    unfold frs at hb
    rw [List.filterMap_cons,hf] at hb
    exact hb
theorem Inv.stkFree (I : Inv X pins σ H s) : ∀ b∈frs X.stack,H b=none:=fun b hb=>by
  rcases List.mem_cons.mp (I.stkSub b hb) with e | hb
  · rw [e]; exact I.free
  · obtain ⟨zz,o,ho,zz⟩:=I.ok.funs.mem hb
    exact I.base.free b o ho (I.ok.frf b hb) fun z=>I.ok.exfs b z hb
theorem Inv.step {g' : Array GenState} {t' : Nat} {d' : Drawn} {ch : List Addr} (I : Inv X pins σ H s)
    (hch : ∀ b∈ch,(b∈X.ex∨X.s₀.heap.objs.size≤b)∧b≠X.env.locals∧(∀ x c,X.env.cells.lookup x=some c→c≠b)∧∀ p∈X.pn ++ pins,p.1≠b)
    (keep : ∀ b o,b≠X.env.locals→b∉X.fs→b∉ch→s.heap.get? b=some o→H b=none→h'.get? b=some o)
    (slot : ∀ b o,b≠X.env.locals→b∈X.fs→b∉ch→s.heap.get? b=some o→H b=none→∃ sl,h'.get? b=some { o with slots:=sl }) (free : ∀ b o,b∉ch→s.heap.get? b=some o→H b=none→H' b=none)
    (there : ∀ b o,b∉ch→s.heap.get? b=some o→∃ o',h'.get? b=some o')
    (tups : ∀ b xs,H b=some (.tup xs)→H' b=some (.tup xs)) (frzs : ∀ b o u,H b=some (.frz o u)→H' b=some (.frz o u)) (tbls : ∀ b ps,H b=some (.tbl ps)→∃ more,H' b=some (.tbl (ps ++ more)))
    (ns : ∀ m,s.heap.Ns X.env.locals m→h'.Ns X.env.locals m) (hok : HOk X.prog X.w H' h') (hg : AllBare g') :
    Inv X pins σ H' { s with heap:=h',gens:=g',drawn:=d',toks:=t' }:=by
  have neL : ∀ b o,X.s₀.heap.get? b=some o→b≠X.env.locals:=fun b o e=>Nat.ne_of_lt (Nat.lt_of_lt_of_le (Heap.lt_size e) I.ok.above)
  have neC : ∀ b o,X.s₀.heap.get? b=some o→b∉X.ex→b∉ch:=fun b o e hx hb=>by
    rcases (hch b hb).1 with z | z
    · exact hx z
    · exact absurd (Nat.lt_of_lt_of_le (Heap.lt_size e) z) (Nat.lt_irrefl _)
  have cellK : ∀ x c,X.env.cells.lookup x=some c→∀ v,s.heap.IsCell c v→h'.IsCell c v:=fun x c e v ⟨o,ho,hd⟩=>by
    have nch : c∉ch:=fun z=>(hch c z).2.2.1 x c e rfl
    by_cases hc : c∈X.fs
    · obtain ⟨sl,q⟩:=slot c o (I.cne x c e) hc nch ho (I.freeC x c e)
      exact ⟨_,q,hd⟩
    · exact ⟨o,keep c o (I.cne x c e) hc nch ho (I.freeC x c e),hd⟩
  refine ⟨I.ok,I.os,hg,⟨fun b o e n hb hx=>?_,fun b o e n hb hx=>?_,fun b o e n hx=>?_,fun b o e hx=>?_,fun b xs e=>tups b xs (I.base.tups b xs e),fun b o xs e=>frzs b o xs (I.base.frzs b o xs e),fun b ps e=>?_⟩,?_,fun x c e=>?_,?_,fun x c e=>?_,fun p hp=>?_,hok,I.len⟩
  · exact keep b o (neL b o e) hb (neC b o e hx) (I.base.keep b o e n hb hx) (I.base.free b o e n hx)
  · obtain ⟨sl,e1⟩:=I.base.slot b o e n hb hx
    obtain ⟨sl',e2⟩:=slot b _ (neL b o e) hb (neC b o e hx) e1 (I.base.free b o e n hx)
    exact ⟨sl',e2⟩
  · obtain ⟨o',e1⟩:=I.base.there b o e hx
    exact free b o' (neC b o e hx) e1 (I.base.free b o e n hx)
  · obtain ⟨o',e1⟩:=I.base.there b o e hx
    exact there b o' (neC b o e hx) e1
  · obtain ⟨m1,e1⟩:=I.base.tbls b ps e
    obtain ⟨m2,e2⟩:=tbls b _ e1
    exact ⟨m1 ++ m2,by rw [e2,Array.append_assoc]⟩
  · obtain ⟨m,hn,hl⟩:=I.loc
    refine ⟨m,ns m hn,fun i x v e1 e2 e3=>?_⟩
    obtain ⟨u,r,l⟩:=hl i x v e1 e2 e3
    refine ⟨u,r,?_⟩
    rcases l with l | ⟨k,c,e,z⟩
    · exact .inl l
    · exact .inr ⟨k,c,e,cellK x c e _ z⟩
  · obtain ⟨v,z⟩:=I.cell x c e
    exact ⟨v,cellK x c e v z⟩
  · obtain ⟨m,⟨o,zz,zz,ho,zz⟩,zz⟩:=I.loc
    exact free _ o (fun z=>(hch _ z).2.1 rfl) ho I.free
  · obtain ⟨v,o,ho,hd⟩:=I.cell x c e
    exact free c o (fun z=>(hch c z).2.2.1 x c e rfl) ho (I.freeC x c e)
  · obtain ⟨e,n,ne,nf,d⟩:=I.pin p hp
    have nch : p.1∉ch:=fun z=>(hch p.1 z).2.2.2 p hp rfl
    exact ⟨keep p.1 p.2 ne nf nch e n,free p.1 p.2 nch e n,ne,nf,d⟩
theorem Inv.un {t' : Nat} (I : Inv X pins σ H s) (u : Un X.fs [] H H' s.heap h') (hok : HOk X.prog X.w H' h') : Inv X pins σ H' { s with heap:=h',toks:=t' }:=by
  obtain ⟨m,⟨o,es,ep,ho,r⟩,zz⟩:=id I.loc
  obtain ⟨sl,hL⟩:=u.any ho I.free (by simp)
  exact I.step (g':=s.gens) (d':=s.drawn) (ch:=[]) (fun zz z=>nomatch z) (fun b o zz hb zz e n=>u.keep b o e n hb (by simp)) (fun b o zz hb zz e n=>u.slot b o e n hb (by simp)) (fun b o zz e n=>u.free b o e n (by simp)) (fun b o zz e=>u.there b o e (by simp)) u.tups u.frzs u.tbls (fun m' hm=>by
    obtain ⟨o',es',ep',ho',r'⟩:=hm
    rw [ho] at ho'; cases ho'
    exact ⟨_,es',ep',hL,r'⟩) hok I.bare
theorem Inv.call {g' : Array GenState} {t' : Nat} {d' : Drawn} {ch : List Addr} (I : Inv X pins σ H s) (u : Un (frs X.stack) ch H H' s.heap h') (hok : HOk X.prog X.w H' h') (hg : AllBare g')
    (hch : ∀ b∈ch,(b∈X.ex∨X.s₀.heap.objs.size≤b)∧b≠X.env.locals∧(∀ x c,X.env.cells.lookup x=some c→c≠b)∧∀ p∈X.pn ++ pins,p.1≠b) :
    Inv X pins σ H' { s with heap:=h',gens:=g',drawn:=d',toks:=t' }:=by
  obtain ⟨m,⟨o,es,ep,ho,r⟩,zz⟩:=id I.loc
  obtain ⟨sl,hL⟩:=u.any ho I.free fun z=>(hch _ z).2.1 rfl
  exact I.step (ch:=ch) hch (fun b o hL hb hc e n=>u.keep b o e n (fun z=>(List.mem_cons.mp (I.stkSub b z)).elim hL hb) hc) (fun b o zz zz hc e n=>u.any e n hc) (fun b o hc e n=>u.free b o e n hc) (fun b o hc e=>u.there b o e hc) u.tups u.frzs u.tbls (fun m' hm=>by
    obtain ⟨o',es',ep',ho',r'⟩:=hm
    rw [ho] at ho'; cases ho'
    exact ⟨_,es',ep',hL,r'⟩) hok hg
theorem Inv.turned {t' : Nat} {it : Addr} (I : Inv X pins σ H s) (k : ∀ b o,b≠it→s.heap.get? b=some o→h'.get? b=some o) (hn : H it=none) (hL : it≠X.env.locals)
    (h1 : it∈X.ex∨X.s₀.heap.objs.size≤it) (h2 : ∀ x c,X.env.cells.lookup x=some c→c≠it) (h3 : ∀ p∈X.pn ++ pins,p.1≠it) : Inv X pins σ H { s with heap:=h',toks:=t' }:=by
  have nit : ∀ b u,H b=some u→b≠it:=fun b u e z=>by rw [z,hn] at e; cases e
  refine I.step (g':=s.gens) (d':=s.drawn) (ch:=[it]) (fun b hb=>?_) (fun b o zz zz hc e zz=>k b o (fun z=>hc (by simp [z])) e) (fun b o zz zz hc e zz=>⟨o.slots,k b o (fun z=>hc (by simp [z])) e⟩) (fun zz zz zz zz n=>n)
    (fun b o hc e=>⟨o,k b o (fun z=>hc (by simp [z])) e⟩) (fun zz zz e=>e) (fun zz zz zz e=>e) (fun b ps e=>⟨#[],by rw [e]; simp⟩) (fun m hm=>?_) (fun b u e=>?_) I.bare
  · have e : b=it:=by simpa using hb
    subst e
    exact ⟨h1,hL,h2,h3⟩
  · obtain ⟨o,es,ep,ho,r⟩:=hm
    exact ⟨o,es,ep,k _ o (Ne.symm hL) ho,r⟩
  · refine (I.hok b u e).stay (fun c v hc q=>k c v ?_ q) (fun zz q=>q) fun zz zz q=>q
    rcases hc with z | z
    · rw [z]; exact nit b u e
    · exact nit c _ z
theorem Inv.tok (I : Inv X pins σ H s) (t : Nat) : Inv X pins σ H { s with toks:=t }:=I.un (h':=s.heap) (t':=t) Un.refl I.hok
theorem Inv.kept {t' : Nat} (I : Inv X pins σ H s) (k : ∀ b u,s.heap.get? b=some u→h'.get? b=some u) : Inv X pins σ H { s with heap:=h',toks:=t' }:=I.un (Un.kept k) (I.hok.kept k)
theorem Inv.laid {a : Addr} {o : HO} {t' : Nat} (I : Inv X pins σ H s) (k : ∀ b u,s.heap.get? b=some u→h'.get? b=some u) (hp : s.heap.objs.size≤a) (new : ObjOk X.prog X.w (upd H a o) h' a o) :
    Inv X pins σ (upd H a o) { s with heap:=h',toks:=t' }:=I.un (Un.laid k hp (I.hok.fresh hp)) (I.hok.laid k hp new)
theorem Inv.write {x e : Addr} {o : HO} {t' : Nat} (I : Inv X pins σ H s) (mu : Mut (H x)) (he : e=x∨H e=some (.own x)) (k : ∀ b u,b≠e→s.heap.get? b=some u→h'.get? b=some u) (heo : ∃ u,h'.get? e=some u)
    (new : ObjOk X.prog X.w (upd H x o) h' x o) : Inv X pins σ (upd H x o) { s with heap:=h',toks:=t' }:=I.un (Un.write mu he k heo) (I.hok.write mu he k heo new)
theorem Inv.pins_of {pins' : List (Addr × Obj)} (I : Inv X pins σ H s) (h : ∀ p∈pins',s.heap.get? p.1=some p.2∧H p.1=none∧p.1≠X.env.locals∧p.1∉X.fs∧∀ v,p.2.data ≠ .cell v) : Inv X pins' σ H s :=
  ⟨I.ok,I.os,I.bare,I.base,I.loc,I.cell,I.free,I.freeC,fun p hp=>(List.mem_append.mp hp).elim (fun z=>I.pin p (List.mem_append_left _ z)) (h p),I.hok,I.len⟩
theorem nodup_ix {N : List Str} (hN : N.Nodup) {i j : Nat} {x : Str} (a : N[i]?=some x) (b : N[j]?=some x) : i=j:=by
  obtain ⟨h1,e1⟩:=List.getElem?_eq_some_iff.mp a
  obtain ⟨h2,e2⟩:=List.getElem?_eq_some_iff.mp b
  exact (List.getElem_inj hN).mp (e1.trans e2.symm)
theorem store_ok2 {M : Model} {A : Around} {E : Value→Shared→Prop} {i : Nat} {x : Str} {v : V} {u : Value} {Q : Unit→Shared→Prop} (I : Inv X pins σ H s) (hN : X.N.Nodup) (hi : X.N[i]?=some x) (hx : Loc X.env.scope x) (r : RelV v u)
    (h : ∀ s',Inv X pins (σ.set i (some v)) H s'→(∃ a,Heap.SameBut a s.heap s'.heap∧(a=X.env.locals∨X.env.cells.lookup x=some a))→Q () s') (hf : autoParam (X.fn x=true∨X.env.scope.names.lookup x=some .local) L23.a4._auto_1) : wpAny M A (storeName X.env x u) Q E s:=by
  obtain ⟨m,hn,hl⟩:=id I.loc
  have hcls : (X.env.scope.kind == .class || (X.env.scope.kind == .module && X.env.locals != X.env.globals))=false:=by rw [I.ok.kind]; rfl
  have hiσ : i < σ.length:=by rw [I.len]; exact (List.getElem?_eq_some_iff.mp hi).1
  have cne:=I.cne
  have tracked : ∀ {a : Addr} {h' : Heap},(∃ o,s.heap.get? a=some o∧H a=none)→Heap.SameBut a s.heap h'→HOk X.prog X.w H h':=fun {a h'} ha hs b ob e=>by
    obtain ⟨zz,zz,hfree⟩:=ha
    refine (I.hok b ob e).stay (fun c w' hc q=>(hs.2 c ?_).trans q) (fun zz q=>q) fun zz zz q=>q
    rintro rfl
    rcases hc with rfl | hc
    · rw [hfree] at e; cases e
    · rw [hfree] at hc; cases hc
  rcases hx with hk | hk
  · refine wpAny_storeName_local hk hn (fun h' hn' hs=>?_) hcls
    obtain ⟨oL,zz,zz,hoL,zz⟩:=id hn
    refine h _ ⟨I.ok,I.os,I.bare,⟨fun b o e n hb hx=>?_,fun b o e n hb hx=>?_,I.base.free,fun b o e hx=>?_,I.base.tups,I.base.frzs,I.base.tbls⟩,⟨_,hn',fun j y v' e1 e2 e3=>?_⟩,fun y c e=>?_,I.free,I.freeC,fun p hp=>?_,tracked ⟨oL,hoL,I.free⟩ hs,by simpa using I.len⟩ ⟨_,hs,.inl rfl⟩
    · exact (hs.2 b (Nat.ne_of_lt (Nat.lt_of_lt_of_le (Heap.lt_size e) I.ok.above))).trans (I.base.keep b o e n hb hx)
    · obtain ⟨sl,e1⟩:=I.base.slot b o e n hb hx
      exact ⟨sl,(hs.2 b (Nat.ne_of_lt (Nat.lt_of_lt_of_le (Heap.lt_size e) I.ok.above))).trans e1⟩
    · obtain ⟨o',e1⟩:=I.base.there b o e hx
      exact ⟨o',(hs.2 b (Nat.ne_of_lt (Nat.lt_of_lt_of_le (Heap.lt_size e) I.ok.above))).trans e1⟩
    · by_cases hj : j=i
      · subst hj
        rw [hi] at e1; cases e1
        rw [List.getElem?_set_self hiσ] at e2
        cases e2
        exact ⟨u,r,.inl ⟨hk,by simp⟩⟩
      · rw [List.getElem?_set_ne (Ne.symm hj)] at e2
        obtain ⟨u',r',q⟩:=hl j y v' e1 e2 e3
        refine ⟨u',r',?_⟩
        rcases q with ⟨k,e⟩ | ⟨k,c,e,z⟩
        · refine .inl ⟨k,?_⟩
          have : y≠x:=fun e=>hj (nodup_ix hN e1 (e ▸ hi))
          simp [this,e]
        · exact .inr ⟨k,c,e,z.sameBut hs (cne y c e)⟩
    · obtain ⟨w',z⟩:=I.cell y c e
      exact ⟨w',z.sameBut hs (cne y c e)⟩
    · obtain ⟨e,n,ne,nf,d⟩:=I.pin p hp
      exact ⟨(hs.2 p.1 ne).trans e,n,ne,nf,d⟩
  · have hfn : X.fn x=true:=by
      rcases hf with z | z
      · exact z
      · rw [z] at hk; cases hk
    obtain ⟨c,hc⟩:=I.ok.has x (.inl hk)
    obtain ⟨w',z⟩:=I.cell x c hc
    refine wpAny_storeName_cell I.ok.kind hk hc z (fun h' hc' hs=>?_)
    obtain ⟨oc,hoc,hocd⟩:=id z
    refine h { s with heap:=h' } ⟨I.ok,I.os,I.bare,⟨fun b o e n hb hx=>?_,fun b o e n hb hx=>?_,I.base.free,fun b o e hx=>?_,I.base.tups,I.base.frzs,I.base.tbls⟩,⟨m,hn.sameBut hs (Ne.symm (cne x c hc)),fun j y v' e1 e2 e3=>?_⟩,fun y c' e=>?_,I.free,I.freeC,fun p hp=>?_,tracked ⟨oc,hoc,I.freeC x c hc⟩ hs,by simpa using I.len⟩ ⟨c,hs,.inr hc⟩
    · exact (hs.2 b (Nat.ne_of_lt (Nat.lt_of_lt_of_le (Heap.lt_size e) (I.ok.cab x c hfn hc)))).trans (I.base.keep b o e n hb hx)
    · obtain ⟨sl,e1⟩:=I.base.slot b o e n hb hx
      exact ⟨sl,(hs.2 b (Nat.ne_of_lt (Nat.lt_of_lt_of_le (Heap.lt_size e) (I.ok.cab x c hfn hc)))).trans e1⟩
    · obtain ⟨o',e1⟩:=I.base.there b o e hx
      exact ⟨o',(hs.2 b (Nat.ne_of_lt (Nat.lt_of_lt_of_le (Heap.lt_size e) (I.ok.cab x c hfn hc)))).trans e1⟩
    · by_cases hj : j=i
      · subst hj
        rw [hi] at e1; cases e1
        rw [List.getElem?_set_self hiσ] at e2
        cases e2
        exact ⟨u,r,.inr ⟨.inl hk,c,hc,hc'⟩⟩
      · rw [List.getElem?_set_ne (Ne.symm hj)] at e2
        obtain ⟨u',r',q⟩:=hl j y v' e1 e2 e3
        refine ⟨u',r',?_⟩
        rcases q with q | ⟨k,c',e,z'⟩
        · exact .inl q
        · refine .inr ⟨k,c',e,z'.sameBut hs ?_⟩
          rintro rfl
          exact hj (nodup_ix hN e1 (I.ok.inj _ _ _ e hc ▸ hi))
    · by_cases hcc : c'=c
      · subst hcc; exact ⟨_,hc'⟩
      · obtain ⟨w2,z2⟩:=I.cell y c' e
        exact ⟨w2,z2.sameBut hs hcc⟩
    · obtain ⟨e,n,ne,nf,d⟩:=I.pin p hp
      refine ⟨(hs.2 p.1 ?_).trans e,n,ne,nf,d⟩
      intro q
      rw [q,hoc] at e
      have q' : oc=p.2:=Option.some.inj e
      exact d w' (by rw [← q']; exact hocd)
theorem store_ok {M : Model} {A : Around} {E : Value→Shared→Prop} {i : Nat} {x : Str} {v : V} {u : Value} {Q : Unit→Shared→Prop} (I : Inv X pins σ H s) (hN : X.N.Nodup) (hi : X.N[i]?=some x) (hx : Loc X.env.scope x) (r : RelV v u)
    (h : ∀ s',Inv X pins (σ.set i (some v)) H s'→Q () s') (hf : autoParam (X.fn x=true∨X.env.scope.names.lookup x=some .local) L23.a4._auto_1) : wpAny M A (storeName X.env x u) Q E s :=
  store_ok2 I hN hi hx r (fun s' I' zz=>h s' I') hf
theorem Inv.call' {s' : Shared} {ch : List Addr} (I : Inv X pins σ H s) (ho : s'.os=s.os) (u : Un (frs X.stack) ch H H' s.heap s'.heap) (hok : HOk X.prog X.w H' s'.heap) (hg : AllBare s'.gens)
    (hch : ∀ b∈ch,(b∈X.ex∨X.s₀.heap.objs.size≤b)∧b≠X.env.locals∧(∀ x c,X.env.cells.lookup x=some c→c≠b)∧∀ p∈X.pn ++ pins,p.1≠b) : Inv X pins σ H' s':=by
  obtain ⟨h',g',d',t',o'⟩:=s'
  have e : o'=s.os:=ho
  subst e
  exact I.call (g':=g') (t':=t') (d':=d') u hok hg hch
end
noncomputable abbrev XK:=Value→Option Addr→Hp→Prop
noncomputable abbrev St:=List (Option V)
noncomputable abbrev VK:=V→Hp→Prop
noncomputable abbrev TE:=St→Hp→VK→Prop
noncomputable abbrev TT:=St→Hp→(Bool→Hp→Prop)→Prop
noncomputable abbrev TA:=St→Hp→(List V→Hp→Prop)→Prop
structure Ends where
  nx : St→Hp→Prop
  rt : VK
  bk : St→Hp→Prop:=fun zz zz=>False
  ct : St→Hp→Prop:=fun zz zz=>False
noncomputable abbrev TS:=Ends→St→Hp→Prop
inductive EP (X : Cx) (pins : List (Addr × Obj)) (σ : St) (Q : VK) (u : Value) (s' : Shared) : Prop where
  | mk (v : V) (H' : Hp) (i : Inv X pins σ H' s') (r : RelV v u) (q : Q v H') : EP X pins σ Q u s'
inductive TP (X : Cx) (pins : List (Addr × Obj)) (σ : St) (Q : Bool→Hp→Prop) (b : Bool) (s' : Shared) : Prop where
  | mk (H' : Hp) (i : Inv X pins σ H' s') (q : Q b H') : TP X pins σ Q b s'
inductive AP (X : Cx) (pins : List (Addr × Obj)) (σ : St) (Q : List V→Hp→Prop) (us : List Value) (s' : Shared) : Prop where
  | mk (vs : List V) (H' : Hp) (i : Inv X pins σ H' s') (r : Vals vs us) (q : Q vs H') : AP X pins σ Q us s'
inductive NP (X : Cx) (pins : List (Addr × Obj)) (Q : St→Hp→Prop) (s' : Shared) : Prop where
  | mk (σ' : St) (H' : Hp) (i : Inv X pins σ' H' s') (q : Q σ' H') : NP X pins Q s'
inductive RP (X : Cx) (pins : List (Addr × Obj)) (Q : VK) (u : Value) (s' : Shared) : Prop where
  | mk (v : V) (σ' : St) (H' : Hp) (i : Inv X pins σ' H' s') (r : RelV v u) (q : Q v H') : RP X pins Q u s'
inductive HP (X : Cx) (pins : List (Addr × Obj)) (σ : St) (Q : Hp→Prop) (s' : Shared) : Prop where
  | mk (H' : Hp) (i : Inv X pins σ H' s') (q : Q H') : HP X pins σ Q s'
noncomputable def SP (X : Cx) (pins : List (Addr × Obj)) (D : Ends) (f : Flow) (s' : Shared) : Prop :=
  match f with
  | .next=>NP X pins D.nx s'
  | .brk=>NP X pins D.bk s'
  | .cont=>NP X pins D.ct s'
  | .ret u=>RP X pins D.rt u s'
noncomputable def PE (X : Cx) (e : Expr) (t : TE) : Prop :=
  ∀ (pins : List (Addr × Obj)) (s : Shared) (σ : St) (H : Hp) (Q : VK),Inv X pins σ H s→t σ H Q→wpAny (model X.prog X.w) X.A (eval e X.env) (EP X pins σ Q) X.xe s
noncomputable def PT (X : Cx) (e : Expr) (t : TT) : Prop :=
  ∀ (pins : List (Addr × Obj)) (s : Shared) (σ : St) (H : Hp) (Q : Bool→Hp→Prop),Inv X pins σ H s→t σ H Q→wpAny (model X.prog X.w) X.A (isTrue e X.env (eval e X.env)) (TP X pins σ Q) X.xe s
noncomputable def PW (X : Cx) (e : Expr) (t : TT) : Prop :=
  ∀ (whole : Sem Value) (pins : List (Addr × Obj)) (s : Shared) (σ : St) (H : Hp) (Q : Bool→Hp→Prop),Inv X pins σ H s→t σ H Q→wpAny (model X.prog X.w) X.A (isTrue e X.env whole) (TP X pins σ Q) X.xe s
theorem PW.pt {X : Cx} {e : Expr} {t : TT} (h : PW X e t) : PT X e t:=h _
noncomputable def PA (X : Cx) (es : List Expr) (t : TA) : Prop :=
  ∀ (pos : Pos) (pins : List (Addr × Obj)) (s : Shared) (σ : St) (H : Hp) (Q : List V→Hp→Prop),Inv X pins σ H s→t σ H Q→wpAny (model X.prog X.w) X.A (spliced (backTo pos (starEach es X.env))) (AP X pins σ Q) X.xe s
noncomputable def PS (X : Cx) (st : Stmt) (t : TS) : Prop :=
  ∀ (pins : List (Addr × Obj)) (s : Shared) (σ : St) (H : Hp) (D : Ends),Inv X pins σ H s→t D σ H→wpAny (model X.prog X.w) X.A (exec st X.env) (SP X pins D) X.xe s
noncomputable def PSs (X : Cx) (st : List Stmt) (t : TS) : Prop :=
  ∀ (pins : List (Addr × Obj)) (s : Shared) (σ : St) (H : Hp) (D : Ends),Inv X pins σ H s→t D σ H→wpAny (model X.prog X.w) X.A (execs st X.env) (SP X pins D) X.xe s
theorem thn {α : Type} {t : Sem α} {Q Q' : α→Shared→Prop} {M : Model} {A : Around} {E : Value→Shared→Prop} {s : Shared} (h : wpAny M A t Q E s) (hQ : ∀ a s,Q a s→Q' a s) : wpAny M A t Q' E s:=wpAny_mono h hQ fun zz zz x=>x
end L2
namespace L2
open PySem PySem.Spec PyProof.Rows
section
variable {X : Cx}
inductive TV (σ : St) (i : Nat) (H : Hp) (k : VK) : Prop where
  | mk (v : V) (h : σ[i]?=some (some v)) (q : k v H) : TV σ i H k
noncomputable def tVar (i : Nat) : TE:=fun σ H Q=>TV σ i H Q
noncomputable def tC (v : V) : TE:=fun zz H Q=>Q v H
theorem pe_var {i : Nat} {x : Str} {pos : Pos} (hN : X.N[i]?=some x) (hv : Vis X.env.scope x) (hd : autoParam ((x == ("__debug__" : Str))=false) L23.a2._auto_1) (hcd : autoParam ((x == ("__classdict__" : Str))=false) L23.a2._auto_1) : PE X (.Name x pos) (tVar i):=by
  intro pins s σ H Q I h
  obtain ⟨v,e,h⟩:=h
  obtain ⟨m,hn,hl⟩:=I.loc
  obtain ⟨u,r,l⟩:=hl i x v hN e hv
  have fin : EP X pins σ Q u s:=⟨v,H,I,r,h⟩
  rcases l with ⟨hk,hm⟩ | ⟨hk,c,hc,hcell⟩
  · exact wpAny_Name (wpAny_loadName_local I.ok.kind hk hn hm fin) hd
  · rcases hk with hk | hk
    · exact wpAny_Name (wpAny_loadName_cell I.ok.kind hk hc hcell fin) hd
    · exact wpAny_Name (wpAny_loadName_free I.ok.kind hk hc hcell fin hcd) hd
theorem pe_int {i j pos} : PE X (.Constant (.int i) j pos) (tC (.int i)):=fun zz zz zz H zz I h=>wpAny_Constant_int ⟨.int i,H,I.tok _,⟨_,rfl⟩,h⟩
theorem pe_bl {b j pos} : PE X (.Constant (.bool b) j pos) (tC (.bl b)):=fun zz zz zz H zz I h=>Constant_bool ⟨.bl b,H,I,rfl,h⟩
theorem pe_non {j pos} : PE X (.Constant .none j pos) (tC .non):=fun zz zz zz H zz I h=>Constant_none ⟨.non,H,I,rfl,h⟩
theorem pe_str {x j pos} : PE X (.Constant (.str x) j pos) (tC (.str x)):=fun zz zz zz H zz I h=>Calls.Constant_str ⟨.str x,H,I.tok _,⟨_,rfl⟩,h⟩
noncomputable def Gl (X : Cx) (x : Str) : Prop:=X.env.kindOf x=some .globalImplicit
theorem ld_glob {E : Value→Shared→Prop} {pins : List (Addr × Obj)} {s : Shared} {σ : St} {H : Hp} {x : Str} {u : Value} {pos : Pos} {Q : Value→Shared→Prop} (I : Inv X pins σ H s) (hg : Gl X x) (hm : X.mg x=some u) (h : Q u s)
    (hd : autoParam ((x == ("__debug__" : Str))=false) L23.a2._auto_1) : wpAny (model X.prog X.w) X.A (eval (.Name x pos) X.env) Q E s :=
  Calls.Name_function_global I.ok.kind hg (Calls.loadGlobal_global (by rw [I.ok.glob]; exact I.mod.glob.keeps I.bk) hm h) hd
theorem ld_blt {E : Value→Shared→Prop} {pins : List (Addr × Obj)} {s : Shared} {σ : St} {H : Hp} {x : Str} {u : Value} {pos : Pos} {Q : Value→Shared→Prop} (I : Inv X pins σ H s) (hg : Gl X x) (hm : X.mg x=none) (hv : bootBuiltins x=some u) (h : Q u s)
    (hn : autoParam (x≠"__name__") L23.a2._auto_1) (hd : autoParam ((x == ("__debug__" : Str))=false) L23.a2._auto_1) : wpAny (model X.prog X.w) X.A (eval (.Name x pos) X.env) Q E s:=by
  obtain ⟨mb,h1,h2⟩:=I.mod.blt
  exact Calls.Name_function_global I.ok.kind hg (Calls.loadGlobal_builtin (by rw [I.ok.glob]; exact I.mod.glob.keeps I.bk) hm (by rw [I.ok.blt]; exact h1.keeps I.bk) ((h2 x hn).trans hv) h) hd
theorem pe_glob {x : Str} {v : V} {u : Value} {pos : Pos} (hg : Gl X x) (hm : X.mg x=some u) (r : RelV v u) (hd : autoParam ((x == ("__debug__" : Str))=false) L23.a2._auto_1) : PE X (.Name x pos) (tC v) :=
  fun zz zz zz H zz I h=>ld_glob I hg hm ⟨v,H,I,r,h⟩ hd
theorem pe_bltn {x : Str} {v : V} {u : Value} {pos : Pos} (hg : Gl X x) (hm : X.mg x=none) (hv : bootBuiltins x=some u) (r : RelV v u) (hn : autoParam (x≠"__name__") L23.a2._auto_1) (hd : autoParam ((x == ("__debug__" : Str))=false) L23.a2._auto_1) : PE X (.Name x pos) (tC v) :=
  fun zz zz zz H zz I h=>ld_blt I hg hm hv ⟨v,H,I,r,h⟩ hn hd
variable {a b : Expr} {ta tb : TE} {pos : Pos}
noncomputable def PC (X : Cx) (op : CmpOp) (a b : Expr) (t : TE) : Prop :=
  ∀ (pins : List (Addr × Obj)) (s : Shared) (σ : St) (H : Hp) (Q : VK),Inv X pins σ H s→t σ H Q →
    wpAny (model X.prog X.w) X.A (eval a X.env) (fun v s₁=>wpAny (model X.prog X.w) X.A (eval b X.env) (fun u s₂=>wpAny (model X.prog X.w) X.A (compareOp op v u) (EP X pins σ Q) X.xe s₂) X.xe s₁) X.xe s
theorem nobehind (b : Expr) {op : CmpOp} (h : op ≠ .In) (h2 : op ≠ .NotIn) : behindInMarks op b=false:=by
  have e1 : (op == CmpOp.In)=false:=by cases op <;> first | rfl | exact absurd rfl h
  have e2 : (op == CmpOp.NotIn)=false:=by cases op <;> first | rfl | exact absurd rfl h2
  cases b <;> simp [behindInMarks,e1,e2]
inductive zhb (Q : (Bool→Hp→Prop)) (x : V) (H1 : Hp) : Prop where
  | mk (c : _) (h0 : x = .bl c) (h1 : Q c H1) : zhb Q x H1
noncomputable def tB (t : TE) : TT:=fun σ H Q=>t σ H (zhb Q)
theorem pt_cmp {op : CmpOp} {t : TE} (h : PC X op a b t) (h1 : autoParam (behindInMarks op b=false) L23.a6._auto_1) : PT X (.Compare a [op] [b] pos) (tB t):=by
  intro pins s σ H Q I hw
  refine wpAny_isTrue_Compare1 (thn (h pins s σ H _ I hw) fun v s1 h1=>thn h1 fun u s2 h2=>thn h2 fun c s3 ⟨x,H1,I1,r1,q1⟩=>?_) h1
  obtain ⟨d,rfl,q⟩:=q1
  cases r1
  exact wpAny_truthy_bool ⟨H1,I1,q⟩
theorem pt_val {e : Expr} {t : TE} (h : PE X e t) (he : autoParam (∀ whole,isTrue e X.env whole=(do let v ← whole; standAt e.pos; holding [v] (truthy v))) L23.a3._auto_1) : PT X e (tB t):=by
  intro pins s σ H Q I hw
  refine isTrue_plain (thn (h pins s σ H _ I hw) fun v s1 ⟨x,H1,I1,r1,q1⟩=>?_) (he _)
  obtain ⟨d,rfl,q⟩:=q1
  cases r1
  exact wpAny_truthy_bool ⟨H1,I1,q⟩
variable {tA tB' : TT} {rest : List Expr}
noncomputable def zhC (u : TT) (σ : L2.St) (Q : (Bool→Hp→Prop)):=fun (c : Bool) (H1 : Hp)=>if c=true then u σ H1 Q else Q false H1
noncomputable def tAnd (t u : TT) : TT:=fun σ H Q=>t σ H (zhC u σ Q)
noncomputable def ziv (u : TT) (σ : L2.St) (Q : (Bool→Hp→Prop)):=fun (c : Bool) (H1 : Hp)=>if c=true then Q true H1 else u σ H1 Q
noncomputable def tOr (t u : TT) : TT:=fun σ H Q=>t σ H (ziv u σ Q)
noncomputable def zhD (Q : (Bool→Hp→Prop)):=fun (c : Bool) (H1 : Hp)=>Q (!c) H1
noncomputable def tNot (t : TT) : TT:=fun σ H Q=>t σ H (zhD Q)
theorem pw_and1 (ha : PT X a tA) : PW X (.BoolOp .And [a] pos) tA:=by
  intro wh pins s σ H Q I h
  refine isTrue_and (thn (ha pins s σ H Q I h) fun c s1 e=>?_)
  cases c with
  | true=>exact isTrue_and_nil e
  | false=>exact e
theorem pw_or1 (ha : PT X a tA) : PW X (.BoolOp .Or [a] pos) tA:=by
  intro wh pins s σ H Q I h
  refine isTrue_or (thn (ha pins s σ H Q I h) fun c s1 e=>?_)
  cases c with
  | false=>exact isTrue_or_nil e
  | true=>exact e
theorem pw_and (ha : PT X a tA) (hb : PW X (.BoolOp .And (b :: rest) pos) tB') : PW X (.BoolOp .And (a :: b :: rest) pos) (tAnd tA tB'):=by
  intro wh pins s σ H Q I h
  refine isTrue_and (thn (ha pins s σ H _ I h) fun c s1 ⟨H1,I1,q1⟩=>?_)
  cases c with
  | true=>exact hb wh pins s1 σ H1 Q I1 q1
  | false=>exact ⟨H1,I1,q1⟩
theorem pw_or (ha : PT X a tA) (hb : PW X (.BoolOp .Or (b :: rest) pos) tB') : PW X (.BoolOp .Or (a :: b :: rest) pos) (tOr tA tB'):=by
  intro wh pins s σ H Q I h
  refine isTrue_or (thn (ha pins s σ H _ I h) fun c s1 ⟨H1,I1,q1⟩=>?_)
  cases c with
  | true=>exact ⟨H1,I1,q1⟩
  | false=>exact hb wh pins s1 σ H1 Q I1 q1
theorem pt_not (ha : PT X a tA) : PT X (.UnaryOp .Not a pos) (tNot tA):=by
  intro pins s σ H Q I h
  refine isTrue_not (thn (ha pins s σ H (fun c H1=>Q (!c) H1) I h) fun c s1 z=>?_)
  cases z with | mk a b c=>exact ⟨a,b,c⟩
noncomputable def zfS (tb : TE) (σ : L2.St) (Q : VK) (x : V) (H1 : Hp):=fun c=>x = .bl c∧if c=true then tb σ H1 Q else Q (.bl false) H1
noncomputable def zfT (tb : TE) (σ : L2.St) (Q : VK):=fun (x : V) (H1 : Hp)=>Exists (zfS tb σ Q x H1)
noncomputable def tAndV (ta tb : TE) : TE:=fun σ H Q=>ta σ H (zfT tb σ Q)
noncomputable def zhE (tb : TE) (σ : L2.St) (Q : VK) (x : V) (H1 : Hp):=fun c=>x = .bl c∧if c=true then Q (.bl true) H1 else tb σ H1 Q
noncomputable def zhF (tb : TE) (σ : L2.St) (Q : VK):=fun (x : V) (H1 : Hp)=>Exists (zhE tb σ Q x H1)
noncomputable def tOrV (ta tb : TE) : TE:=fun σ H Q=>ta σ H (zhF tb σ Q)
noncomputable def zfU (Q : VK) (x : V) (H1 : Hp):=fun c=>x = .bl c∧Q (.bl (!c)) H1
noncomputable def zfV (Q : VK):=fun (x : V) (H1 : Hp)=>Exists (zfU Q x H1)
noncomputable def tNotV (ta : TE) : TE:=fun σ H Q=>ta σ H (zfV Q)
theorem pe_one {op} {t : TE} (h : PE X a t) : PE X (.BoolOp op [a] pos) t:=fun pins s σ H Q I hw=>BoolOp_one (h pins s σ H Q I hw)
theorem pe_and (ha : PE X a ta) (hb : PE X (.BoolOp .And (b :: rest) pos) tb) : PE X (.BoolOp .And (a :: b :: rest) pos) (tAndV ta tb):=by
  intro pins s σ H Q I h
  refine BoolOp_and (thn (ha pins s σ H _ I h) fun v s1 ⟨x,H1,I1,r1,q1⟩=>?_)
  obtain ⟨c,rfl,q1⟩:=q1
  cases r1
  refine wpAny_truthy_bool ?_
  cases c with
  | true=>exact hb pins s1 σ H1 Q I1 q1
  | false=>exact ⟨.bl false,H1,I1,rfl,q1⟩
theorem pe_or (ha : PE X a ta) (hb : PE X (.BoolOp .Or (b :: rest) pos) tb) : PE X (.BoolOp .Or (a :: b :: rest) pos) (tOrV ta tb):=by
  intro pins s σ H Q I h
  refine BoolOp_or (thn (ha pins s σ H _ I h) fun v s1 ⟨x,H1,I1,r1,q1⟩=>?_)
  obtain ⟨c,rfl,q1⟩:=q1
  cases r1
  refine wpAny_truthy_bool ?_
  cases c with
  | false=>exact hb pins s1 σ H1 Q I1 q1
  | true=>exact ⟨.bl true,H1,I1,rfl,q1⟩
theorem pe_not (ha : PE X a ta) : PE X (.UnaryOp .Not a pos) (tNotV ta):=by
  intro pins s σ H Q I h
  refine UnaryOp_ (thn (ha pins s σ H _ I h) fun v s1 ⟨x,H1,I1,r1,q1⟩=>?_)
  obtain ⟨c,rfl,q1⟩:=q1
  cases r1
  exact not_of (wpAny_truthy_bool ⟨.bl (!c),H1,I1,rfl,q1⟩)
noncomputable def ziw (ta : TE) (tb : TE) (σ : L2.St) (Q : VK):=fun (c : Bool) (H1 : Hp)=>if c=true then ta σ H1 Q else tb σ H1 Q
noncomputable def tIf (t : TT) (ta tb : TE) : TE:=fun σ H Q=>t σ H (ziw ta tb σ Q)
theorem pe_ifExp {c : Expr} (hc : PT X c tA) (ha : PE X a ta) (hb : PE X b tb) : PE X (.IfExp c a b pos) (tIf tA ta tb):=by
  intro pins s σ H Q I h
  refine wpAny_IfExp (thn (hc pins s σ H _ I h) fun d s1 ⟨H1,I1,q1⟩=>?_)
  cases d with
  | true=>exact ha pins s1 σ H1 Q I1 q1
  | false=>exact hb pins s1 σ H1 Q I1 q1
end
end L2
namespace L2
open PySem PySem.Spec PyProof.Rows
noncomputable def SqL (K : PySem.W.Frag) (H : Hp) (a : Addr) (xs : List V) : Prop :=
  Rd H a (.lst xs) ∨
    ∃ (o : Obj) (its : Array Value) (n : Nat),K.lookup a=some o∧o.cls = .type "list"∧o.dict=none∧o.data = .seq its n∧its.size≤sizeLine∧Vals xs its.toList
noncomputable def SqT (K : PySem.W.Frag) (H : Hp) (a : Addr) (xs : List V) : Prop :=
  Rd H a (.tup xs) ∨
    ∃ (o : Obj) (its : Array Value) (n : Nat),K.lookup a=some o∧o.cls = .type "tuple"∧o.data = .seq its n∧its.size≤sizeLine∧Vals xs its.toList
noncomputable def absV : Value→Option V
  | .none=>some .non
  | .bool b=>some (.bl b)
  | .int i _=>some (.int i)
  | .str x _=>some (.str x)
  | .bytes b _=>some (.byt b)
  | .float b _=>some (.flt b)
  | .ref a=>some (.ref a)
  | .type n=>some (.ty n)
  | _=>none
theorem RelV.abs {x : V} {u : Value} (r : RelV x u) : absV u=some x:=by
  cases x with
  | non=>cases r; rfl
  | bl _=>cases r; rfl
  | int _=>obtain ⟨t,rfl⟩:=r; rfl
  | str _=>obtain ⟨t,rfl⟩:=r; rfl
  | byt _=>obtain ⟨t,rfl⟩:=r; rfl
  | flt _=>obtain ⟨t,rfl⟩:=r; rfl
  | ref _=>cases r; rfl
  | ty _=>cases r; rfl
theorem RelV.inj {x y : V} {u : Value} (r : RelV x u) (q : RelV y u) : x=y:=Option.some.inj (r.abs.symm.trans q.abs)
theorem Vals.inj : ∀ {xs ys : List V} {us : List Value},Vals xs us→Vals ys us→xs=ys
  := by
  intro xs ys us h
  induction h generalizing ys with
  | nil=>intro h'; cases h'; rfl
  | cons r t ih=>intro h'; cases h' with | cons r' t'=>rw [r.inj r',ih t']
section
variable {X : Cx} {pins : List (Addr × Obj)} {σ : St} {H : Hp} {s : Shared} {a : Addr} {xs ys : List V}
theorem SqL.of {K : PySem.W.Frag} (h : H a=some (.lst xs)) : SqL K H a xs := .inl (.inl h)
theorem SqT.of {K : PySem.W.Frag} (h : H a=some (.tup xs)) : SqT K H a xs := .inl (.inl h)
theorem Inv.list (I : Inv X pins σ H s) (h : SqL X.K H a xs) : ∃ its : List Value,Vals xs its∧PlainL s.heap a its.toArray∧xs.length≤sizeLine:=by
  rcases h with h | ⟨o,its,n,hk,hc,hd,hs,hz,r⟩
  · obtain ⟨z,its,n,r,e⟩:=h.ok I.hok
    exact ⟨its,r,⟨_,n,e,rfl,rfl,rfl⟩,z⟩
  · refine ⟨its.toList,r,⟨o,n,I.kIn a o hk,hc,hd,by simpa using hs⟩,?_⟩
    have e:=r.length
    simp only [Array.length_toList] at e
    omega
theorem Inv.tuple (I : Inv X pins σ H s) (h : SqT X.K H a xs) : ∃ its : List Value,Vals xs its∧IsTup s.heap a its.toArray∧xs.length≤sizeLine:=by
  rcases h with h | ⟨o,its,n,hk,hc,hs,hz,r⟩
  · obtain ⟨z,its,r,p⟩:=h.ok I.hok
    exact ⟨its,r,p,z⟩
  · refine ⟨its.toList,r,⟨o,I.kIn a o hk,hc,n,by simpa using hs⟩,?_⟩
    have e:=r.length
    simp only [Array.length_toList] at e
    omega
theorem Inv.list_inj (I : Inv X pins σ H s) (h : SqL X.K H a xs) (h' : SqL X.K H a ys) : xs=ys:=by
  obtain ⟨its,r,⟨o,n,e,zz,zz,d⟩,zz⟩:=I.list h
  obtain ⟨its',r',⟨o',n',e',zz,zz,d'⟩,zz⟩:=I.list h'
  rw [e] at e'; cases e'
  rw [d] at d'
  injection d' with d1 _
  have : its=its':=by simpa using congrArg Array.toList d1
  subst this
  exact r.inj r'
theorem Inv.tuple_inj (I : Inv X pins σ H s) (h : SqT X.K H a xs) (h' : SqT X.K H a ys) : xs=ys:=by
  obtain ⟨its,r,⟨o,e,zz,n,d⟩,zz⟩:=I.tuple h
  obtain ⟨its',r',⟨o',e',zz,n',d'⟩,zz⟩:=I.tuple h'
  rw [e] at e'; cases e'
  rw [d] at d'
  injection d' with d1 _
  have : its=its':=by simpa using congrArg Array.toList d1
  subst this
  exact r.inj r'
end
noncomputable abbrev Cx.wish (X : Cx) (E : Value→Shared→Prop) : Cx:={ X with xe:=E }
noncomputable abbrev Cx.nox (X : Cx) : Cx:=X.wish fun zz zz=>False
theorem Cx.Ok.wish {X : Cx} (ok : X.Ok) (E : Value→Shared→Prop) : (X.wish E).Ok :=
  ⟨ok.mod,ok.kind,ok.glob,ok.blt,ok.above,ok.inj,ok.has,ok.cab,ok.hd,ok.frames,ok.stk,ok.exf,ok.bs,ok.bsz,ok.noex,ok.exfs,ok.funs,ok.frf⟩
theorem Cx.Ok.unwish {X : Cx} {E : Value→Shared→Prop} (ok : (X.wish E).Ok) : X.Ok :=
  ⟨ok.mod,ok.kind,ok.glob,ok.blt,ok.above,ok.inj,ok.has,ok.cab,ok.hd,ok.frames,ok.stk,ok.exf,ok.bs,ok.bsz,ok.noex,ok.exfs,ok.funs,ok.frf⟩
section
variable {X : Cx} {pins : List (Addr × Obj)} {σ : St} {H : Hp} {s : Shared} {E : Value→Shared→Prop}
theorem Inv.wish (I : Inv X pins σ H s) (E : Value→Shared→Prop) : Inv (X.wish E) pins σ H s:=⟨I.ok.wish E,I.os,I.bare,I.base,I.loc,I.cell,I.free,I.freeC,I.pin,I.hok,I.len⟩
theorem Inv.unwish (I : Inv (X.wish E) pins σ H s) : Inv X pins σ H s:=⟨I.ok.unwish,I.os,I.bare,I.base,I.loc,I.cell,I.free,I.freeC,I.pin,I.hok,I.len⟩
theorem SP.unwish {D : Ends} {f : Flow} {s' : Shared} (h : SP (X.wish E) pins D f s') : SP X pins D f s':=by
  cases f with
  | next=>obtain ⟨σ',H',I,q⟩:=h; exact ⟨σ',H',I.unwish,q⟩
  | brk=>obtain ⟨σ',H',I,q⟩:=h; exact ⟨σ',H',I.unwish,q⟩
  | cont=>obtain ⟨σ',H',I,q⟩:=h; exact ⟨σ',H',I.unwish,q⟩
  | ret u=>obtain ⟨v,σ',H',I,r,q⟩:=h; exact ⟨v,σ',H',I.unwish,r,q⟩
theorem PE.nox {e : Expr} {t : TE} (h : PE X.nox e t) : PE X e t:=fun pins s σ H Q I hw =>
  wpAny_mono (h pins s σ H Q (I.wish _) hw) (fun _ _ ⟨v,H',I',r,q⟩=>⟨v,H',I'.unwish,r,q⟩) fun zz zz z=>False.elim z
theorem PT.nox {e : Expr} {t : TT} (h : PT X.nox e t) : PT X e t:=fun pins s σ H Q I hw =>
  wpAny_mono (h pins s σ H Q (I.wish _) hw) (fun _ _ ⟨H',I',q⟩=>⟨H',I'.unwish,q⟩) fun zz zz z=>False.elim z
theorem PSs.nox {st : List Stmt} {t : TS} (h : PSs X.nox st t) : PSs X st t:=fun pins s σ H D I hw =>
  wpAny_mono (h pins s σ H D (I.wish _) hw) (fun zz zz q=>q.unwish) fun zz zz z=>False.elim z
end
section
variable {X : Cx} {st : Stmt} {rest : List Stmt} {t u : TS} {e : Expr} {te : TE} {pos : Pos}
noncomputable def tNext : TS:=fun D σ H=>D.nx σ H
noncomputable def Ends.thn (D : Ends) (u : TS) : Ends:={ D with nx:=u D }
noncomputable def tSeq (t u : TS) : TS:=fun D σ H=>t (D.thn u) σ H
theorem pss_nil : PSs X [] tNext:=fun zz zz σ H zz I h=>wpAny_execs_nil ⟨σ,H,I,h⟩
theorem pss_cons (h1 : PS X st t) (h2 : PSs X rest u) : PSs X (st :: rest) (tSeq t u):=by
  intro pins s σ H D I h
  refine wpAny_execs_cons (thn (h1 pins s σ H { D with nx:=u D } I h) fun f s1 q=>?_)
  cases f with
  | next =>
    obtain ⟨σ',H',I',q⟩:=q
    exact h2 pins s1 σ' H' D I' q
  | ret v=>exact q
  | brk=>exact q
  | cont=>exact q
theorem pss_one (h1 : PS X st t) : PSs X [st] t:=by
  intro pins s σ H D I h
  refine wpAny_execs_cons (thn (h1 pins s σ H D I h) fun f s1 q=>?_)
  cases f with
  | next=>exact wpAny_execs_nil q
  | ret v=>exact q
  | brk=>exact q
  | cont=>exact q
theorem Inv.quiet {pins : List (Addr × Obj)} {σ : St} {H : Hp} {s : Shared} (I : Inv X pins σ H s) : interactive X.env=false:=by simp [interactive,I.ok.kind]
noncomputable def zfW (D : Ends) (σ : L2.St):=fun (_ : V) (H1 : Hp)=>D.nx σ H1
noncomputable def tDrop (te : TE) : TS:=fun D σ H=>te σ H (zfW D σ)
theorem ps_expr (he : PE X e te) (hs : autoParam (swapsWith e none pos.line X.env=pure false) L23.a1._auto_1) : PS X (.Expr e pos) (tDrop te):=by
  intro pins s σ H D I h
  exact wpAny_Expr_any (thn (he pins s σ H _ I h) fun v s1 ⟨x,H1,I1,r1,q1⟩=>⟨σ,H1,I1,q1⟩) I.quiet hs
noncomputable def tRet (te : TE) : TS:=fun D σ H=>te σ H D.rt
theorem ps_ret (he : PE X e te) : PS X (.Return (some e) pos) (tRet te):=by
  intro pins s σ H D I h
  exact wpAny_Return_some (thn (he pins s σ H _ I h) fun v s1 ⟨x,H1,I1,r1,q1⟩=>⟨x,σ,H1,I1,r1,q1⟩)
noncomputable def tRetN : TS:=fun D zz H=>D.rt .non H
theorem ps_retN : PS X (.Return none pos) tRetN:=fun zz zz σ H zz I h=>wpAny_Return_none ⟨.non,σ,H,I,rfl,h⟩
noncomputable def zhG (t : TS) (u : TS) (D : Ends) (σ : L2.St):=fun (b : Bool) (H1 : Hp)=>if b=true then t D σ H1 else u D σ H1
noncomputable def tIfS (c : TT) (t u : TS) : TS:=fun D σ H=>c σ H (zhG t u D σ)
theorem ps_if {c : Expr} {a b : List Stmt} {tc : TT} (hc : PT X c tc) (ha : PSs X a t) (hb : PSs X b u) : PS X (.If c a b pos) (tIfS tc t u):=by
  intro pins s σ H D I h
  refine wpAny_If (thn (hc pins s σ H _ I h) fun d s1 ⟨H1,I1,q1⟩=>?_)
  cases d with
  | true=>exact ha pins s1 σ H1 D I1 q1
  | false=>exact hb pins s1 σ H1 D I1 q1
noncomputable def tNever : TS:=fun zz zz zz=>False
theorem ps_never : PS X st tNever:=fun zz zz zz zz zz zz h=>h.elim
end
noncomputable abbrev TG:=V→St→Hp→(St→Hp→Prop)→Prop
noncomputable abbrev TGs:=List V→St→Hp→(St→Hp→Prop)→Prop
noncomputable def PG (X : Cx) (target : Expr) (t : TG) : Prop :=
  ∀ (pins : List (Addr × Obj)) (s : Shared) (σ : St) (H : Hp) (v : V) (u : Value) (Q : St→Hp→Prop),Inv X pins σ H s→RelV v u→t v σ H Q →
    wpAny (model X.prog X.w) X.A (assign target X.env u) (fun zz s'=>NP X pins Q s') X.xe s
noncomputable def PGs (X : Cx) (ts : List Expr) (t : TGs) : Prop :=
  ∀ (pins : List (Addr × Obj)) (s : Shared) (σ : St) (H : Hp) (vs : List V) (us : List Value) (Q : St→Hp→Prop),Inv X pins σ H s→Vals vs us→t vs σ H Q →
    wpAny (model X.prog X.w) X.A (assignInOrder ((assignEach ts X.env).map (·.2)) us) (fun zz s'=>NP X pins Q s') X.xe s
section
variable {X : Cx} {pos : Pos}
noncomputable def gName (i : Nat) : TG:=fun v σ H Q=>Q (σ.set i (some v)) H
theorem pg_name {i : Nat} {x : Str} (hN : X.N.Nodup) (hi : X.N[i]?=some x) (hx : Loc X.env.scope x) (hf : autoParam (X.fn x=true∨X.env.scope.names.lookup x=some .local) L23.a4._auto_1) : PG X (.Name x pos) (gName i):=by
  intro pins s σ H v u Q I r h
  exact wpAny_assign_Name (store_ok I hN hi hx r (fun s' I'=>⟨_,H,I',h⟩) hf)
noncomputable def gNil : TGs:=fun vs σ H Q=>vs=[]∧Q σ H
noncomputable def zfX (u : TGs) (Q : (L2.St→Hp→Prop)) (r : List V):=fun (σ' : L2.St) (H' : Hp)=>u r σ' H' Q
inductive zbb (t : TG) (u : TGs) (vs : List V) (σ : L2.St) (H : Hp) (Q : (L2.St→Hp→Prop)) : Prop where
  | mk (v : _) (r : _) (h0 : vs=v :: r) (h1 : t v σ H (zfX u Q r)) : zbb t u vs σ H Q
noncomputable def gCons (t : TG) (u : TGs) : TGs:=zbb t u
theorem pgs_nil : PGs X [] gNil:=by
  intro pins s σ H vs us Q I r h
  obtain ⟨e,h⟩:=h
  subst e
  cases r
  exact assignInOrder_nil ⟨σ,H,I,h⟩
theorem pgs_cons {e : Expr} {es : List Expr} {t : TG} {u : TGs} (h1 : PG X e t) (h2 : PGs X es u)
    (hs : autoParam ((assignEach (e :: es) X.env).map (·.2)=assign e X.env :: (assignEach es X.env).map (·.2)) L23.a1._auto_1) : PGs X (e :: es) (gCons t u):=by
  intro pins s σ H vs us Q I r h
  obtain ⟨v,vr,e1,h⟩:=h
  subst e1
  cases r with
  | cons r rr =>
    rw [hs]
    refine assignInOrder_cons (thn (h1 pins s σ H _ _ _ I r h) fun _ s1 ⟨σ1,H1,I1,q1⟩=>?_)
    exact h2 pins s1 σ1 H1 _ _ Q I1 rr q1
noncomputable def zhH (K : PySem.W.Frag) (n : Nat) (t : TGs) (v : V) (σ : L2.St) (H : Hp) (Q : (L2.St→Hp→Prop)):=fun a xs=>L23.A4 (v = .ref a) (SqT K H a xs) (xs.length=n) (t xs σ H Q)
noncomputable def gTup (K : PySem.W.Frag) (n : Nat) (t : TGs) : TG:=fun v σ H Q=>L23.E2 (zhH K n t v σ H Q)
theorem pg_tup {es : List Expr} {k : Nat} {t : TGs} {n : Nat} (hc : X.calm=true) (h : PGs X es t)
    (hn : autoParam ((assignEach es X.env).length=n) L23.a1._auto_1) (hst : autoParam ((assignEach es X.env).findIdx? (·.1)=none) L23.a1._auto_1) : PG X (.Tuple es k pos) (gTup X.K n t):=by
  intro pins s σ H v u Q I r hw
  obtain ⟨a,xs,e1,hq,hl,hw⟩:=hw
  subst e1
  cases r
  obtain ⟨its,rv,ht,hz⟩:=I.tuple hq
  refine assign_Tuple_tuple (I.ok.hd hc) ht (by simp [hn,← hl,rv.length]) hst fun h' hx=>?_
  have I1 : Inv X pins σ H { s with heap:=h' }:=I.kept (t':=s.toks) fun b o e=>hx b o (Nat.ne_of_lt (Heap.lt_size e)) e
  exact h pins _ σ H xs _ Q I1 (by simpa using rv) hw
noncomputable def zhI (g : TG) (D : Ends) (σ : L2.St):=fun (x : V) (H1 : Hp)=>g x σ H1 D.nx
noncomputable def tAsg (te : TE) (g : TG) : TS:=fun D σ H=>te σ H (zhI g D σ)
theorem ps_set {i : Nat} {x : Str} {e : Expr} {te : TE} {pos' : Pos} (hN : X.N.Nodup) (hi : X.N[i]?=some x) (hx : Loc X.env.scope x) (he : PE X e te) (hs : autoParam (swapsWith e (some (.Name x pos')) pos.line X.env=pure false) L23.a1._auto_1) (hf : autoParam (X.fn x=true∨X.env.scope.names.lookup x=some .local) L23.a4._auto_1) :
    PS X (.Assign [.Name x pos'] e pos) (tAsg te (gName i)):=by
  intro pins s σ H D I h
  refine wpAny_Assign_Name (thn (he pins s σ H _ I h) fun v s1 ⟨y,H1,I1,r1,q1⟩=>?_) hs
  exact store_ok I1 hN hi hx r1 (fun s2 I2=>⟨_,H1,I2,q1⟩) hf
end
section
variable {X : Cx} {pos : Pos}
noncomputable def tWhile (c : TT) (tb : TS) : TS:=fun D σ H=>∃ W : Nat→St→Hp→Prop,(∃ m,W m σ H)∧∀ m σ H,W m σ H →
  c σ H fun b H1=>if b=true then ∃ N : St→Hp→Prop,(∀ σ' H',N σ' H'→∃ m',m' < m∧W m' σ' H')∧tb { D with nx:=N,ct:=N,bk:=D.nx } σ H1 else D.nx σ H1
theorem ps_while {c : Expr} {body : List Stmt} {tc : TT} {tb : TS} (hp : PassesOwn (model X.prog X.w) X.A X.env X.xe) (hc : PT X c tc) (hb : PSs X body tb) : PS X (.While c body [] pos) (tWhile tc tb):=by
  intro pins s σ H D I h
  obtain ⟨W,⟨m0,w0⟩,turn⟩:=h
  refine wpAny_While (codeAny_whileLoop (fun n s'=>∃ σ' H',Inv X pins σ' H' s'∧W n σ' H') ?_ m0 ⟨σ,H,I,w0⟩)
  rintro n s1 ⟨σ1,H1,I1,w1⟩
  refine wpAny_passesOwn hp (thn (hc pins s1 σ1 H1 _ I1 (turn n σ1 H1 w1)) fun b s2 ⟨H2,I2,q2⟩=>?_)
  cases b with
  | true =>
    obtain ⟨N,hN,q2⟩:=q2
    rw [if_pos rfl]
    refine wpAny_passesOwn hp (thn (hb pins s2 σ1 H2 _ I2 q2) fun f s3 q3=>?_)
    cases f with
    | next =>
      obtain ⟨σ3,H3,I3,n3⟩:=q3
      obtain ⟨m',hm,w3⟩:=hN σ3 H3 n3
      exact ⟨m',hm,σ3,H3,I3,w3⟩
    | cont =>
      obtain ⟨σ3,H3,I3,n3⟩:=q3
      obtain ⟨m',hm,w3⟩:=hN σ3 H3 n3
      exact ⟨m',hm,σ3,H3,I3,w3⟩
    | brk=>exact q3
    | ret v=>exact q3
  | false =>
    rw [if_neg Bool.false_ne_true]
    exact wpAny_execs_nil ⟨σ1,H2,I2,q2⟩
end
structure It where
  go : Nat→Hp→Prop
  yld : Nat→Hp→V→Hp→Prop
  stop : Nat→Hp→Prop
noncomputable def FpOk (X : Cx) (pins : List (Addr × Obj)) (H : Hp) (b : Addr) : Prop :=
  H b=none∧b≠X.env.locals∧b∉X.fs∧(b∈X.ex∨X.s₀.heap.objs.size≤b)∧(∀ x c,X.env.cells.lookup x=some c→c≠b)∧∀ p∈X.pn ++ pins,p.1≠b
theorem Inv.fpOk {X : Cx} {pins : List (Addr × Obj)} {σ : St} {H H' : Hp} {s : Shared} {b : Addr} (I : Inv X pins σ H s) (hb : s.heap.objs.size≤b) (hn : H' b=none) : FpOk X pins H' b:=by
  refine ⟨hn,Nat.ne_of_gt (Nat.lt_of_lt_of_le I.lt hb),I.nofs hb,.inr (Nat.le_trans I.sz hb),fun x c e z=>?_,fun p hp z=>?_⟩
  · obtain ⟨v,q⟩:=I.cell x c e
    exact absurd (Nat.lt_of_lt_of_le q.lt (by rw [z]; exact hb)) (Nat.lt_irrefl _)
  · exact absurd (Nat.lt_of_lt_of_le (Heap.lt_size (I.pin p hp).1) (by rw [z]; exact hb)) (Nat.lt_irrefl _)
structure Turn (P : Program) (w : World) (K : PySem.W.Frag) (tg : Expr) (J : It) (fp : List Addr) (it : Addr) (tn : Nat→Heap→Prop) : Prop where
  mem : it∈fp
  obj : ∀ i h,tn i h→∀ b∈fp,∃ o,h.get? b=some o∧∀ v,o.data ≠ .cell v
  keep : ∀ i h h',tn i h→(∀ b∈fp,∀ o,h.get? b=some o→h'.get? b=some o)→tn i h'
  item : ∀ (X : Cx),X.prog=P→X.w=w→X.K=K→X.calm=true→∀ (i : Nat) (pins : List (Addr × Obj)) (s : Shared) (σ : St) (H : Hp) (E : Value→Shared→Prop),Inv X pins σ H s→(∀ b∈fp,FpOk X pins H b)→tn i s.heap→J.go i H →
    wpAny (model P w) X.A (pyNext (.ref it)) (fun r s1=>∃ u,r=some u ∧
      wpAny (model P w) X.A (letOwnedTupleGo tg (.ref it) u) (fun zz s2=>∃ x H',Inv X pins σ H' s2∧RelV x u∧J.yld i H x H'∧tn (i + 1) s2.heap∧∀ b∈fp,H' b=none) E s1) E s
  done : ∀ (X : Cx),X.prog=P→X.w=w→X.K=K→X.calm=true→∀ (i : Nat) (pins : List (Addr × Obj)) (s : Shared) (σ : St) (H : Hp) (E : Value→Shared→Prop),Inv X pins σ H s→(∀ b∈fp,FpOk X pins H b)→tn i s.heap→J.stop i H →
    wpAny (model P w) X.A (pyNext (.ref it)) (fun r s1=>r=none∧Inv X pins σ H s1) E s
  self : ∀ (A : Around) (i : Nat) (s : Shared) (Q : Value→Shared→Prop) (E : Value→Shared→Prop),tn i s.heap→Q (.ref it) s→wpAny (model P w) A (pyIter (.ref it)) Q E s
noncomputable abbrev TI:=St→Hp→(It→Hp→Prop)→Prop
noncomputable def PIE (X : Cx) (pins : List (Addr × Obj)) (σ : St) (tg : Expr) (R : It→Hp→Prop) (itv : Value) (s2 : Shared) : Prop :=
  ∃ (it : Addr) (fp : List Addr) (tn : Nat→Heap→Prop) (J : It) (H' : Hp),itv = .ref it∧Inv X pins σ H' s2∧Turn X.prog X.w X.K tg J fp it tn∧tn 0 s2.heap∧(∀ b∈fp,FpOk X pins H' b)∧R J H'
noncomputable def PI (X : Cx) (tg iter : Expr) (wi : TI) : Prop :=
  ∀ (pins : List (Addr × Obj)) (s : Shared) (σ : St) (H : Hp) (R : It→Hp→Prop),Inv X pins σ H s→wi σ H R →
    wpAny (model X.prog X.w) X.A (eval iter X.env) (fun v s1=>wpAny (model X.prog X.w) X.A (pyIter v) (PIE X pins σ tg R) X.xe s1) X.xe s
theorem go_of {M : Model} {A : Around} {E : Value→Shared→Prop} {s : Shared} {tg : Expr} {it : Addr} {u : Value} {o : Obj} {n : String} {vs : Array Value} {Q : Unit→Shared→Prop} (ho : s.heap.get? it=some o) (hc : o.cls = .type n) (hd : o.data = .fields vs)
    (hn : ["enumerate","zip","dict_itemiterator","dict_reverseitemiterator","odict_iterator","itertools.zip_longest","itertools.pairwise"].contains n=false) (hQ : Q () s) : wpAny M A (letOwnedTupleGo tg (.ref it) u) Q E s:=by
  unfold letOwnedTupleGo
  cases tg <;> first
    | exact wpAny_pure hQ
    | (cases u <;> first
        | exact wpAny_pure hQ
        | (refine wpAny_bind (wpAny_load ho ?_)
           rw [hc,hd]
           show wpAny M A (if (["enumerate","zip","dict_itemiterator","dict_reverseitemiterator","odict_iterator","itertools.zip_longest","itertools.pairwise"].contains n && vs[0]? == some (rawInt _))=true then _ else _) Q E s
           rw [if_neg (by intro h; rw [hn,Bool.false_and] at h; cases h)]
           exact wpAny_pure hQ))
noncomputable def Itl (K : PySem.W.Frag) (a : Addr) : It :=
  ⟨fun i H=>∃ xs x,SqL K H a xs∧xs[i]?=some x,fun i H x H'=>H'=H∧∀ xs,SqL K H a xs→xs[i]?=some x,fun i H=>∃ xs,SqL K H a xs∧xs.length≤i⟩
noncomputable def Itt (K : PySem.W.Frag) (a : Addr) : It :=
  ⟨fun i H=>∃ xs x,SqT K H a xs∧xs[i]?=some x,fun i H x H'=>H'=H∧∀ xs,SqT K H a xs→xs[i]?=some x,fun i H=>∃ xs,SqT K H a xs∧xs.length≤i⟩
noncomputable def Itr (lo : Int) (n : Nat) : It:=⟨fun i zz=>i < n,fun i H x H'=>H'=H∧x = .int (lo + i),fun i zz=>n≤i⟩
theorem turn_list {P : Program} {w : World} {K : PySem.W.Frag} {tg : Expr} (a it : Addr) : Turn P w K tg (Itl K a) [it] it (fun i h=>h.IsListIter it a i) where
  mem:=by simp
  obj:=fun i h st b hb=>by
    have e : b=it:=by simpa using hb
    subst e
    obtain ⟨o,e,c,d⟩:=st
    exact ⟨o,e,fun v z=>by rw [d] at z; cases z⟩
  keep:=fun i h h' st k=>st.at fun o e=>k it (by simp) o e
  item:=by
    intro X hP hw hK hc i pins s σ H E I hf st hg
    subst hP hw hK
    obtain ⟨xs,x,hq,hx⟩:=hg
    obtain ⟨its,rv,p,hz⟩:=I.list hq
    obtain ⟨u,hu,ru⟩:=rv.get hx
    obtain ⟨f0,f1,f2,f3,f4,f5⟩:=hf it (by simp)
    refine wpAny_pyNext_list_item st p.isList (x:=u) (by simpa using hu) fun h' st' sb=>?_
    have I1 : Inv X pins σ H { s with heap:=h' }:=I.turned (t':=s.toks) (fun b o hb e=>(sb.2 b hb).trans e) f0 f1 f3 f4 f5
    obtain ⟨o,e,c,d⟩:=id st'
    exact ⟨u,rfl,go_of (s:={ s with heap:=h' }) e c d (by decide) ⟨x,H,I1,ru,⟨rfl,fun ys hy=>by rw [I.list_inj hy hq]; exact hx⟩,st',fun b hb=>(hf b hb).1⟩⟩
  done:=by
    intro X hP hw hK hc i pins s σ H E I hf st hg
    subst hP hw hK
    obtain ⟨xs,hq,hx⟩:=hg
    obtain ⟨its,rv,p,hz⟩:=I.list hq
    obtain ⟨f0,f1,f2,f3,f4,f5⟩:=hf it (by simp)
    have hl:=rv.length
    exact wpAny_pyNext_list_end (I.ok.hd hc) st p.isList (by simp; omega) fun h' eb=>⟨rfl,I.turned (t':=s.toks) (fun b o hb e=>eb b o hb e) f0 f1 f3 f4 f5⟩
  self:=fun zz zz zz zz zz st h=>wpAny_pyIter_listiter st h
theorem turn_tuple {P : Program} {w : World} {K : PySem.W.Frag} {tg : Expr} (a it : Addr) : Turn P w K tg (Itt K a) [it] it (fun i h=>h.IsTupleIter it a i) where
  mem:=by simp
  obj:=fun i h st b hb=>by
    have e : b=it:=by simpa using hb
    subst e
    obtain ⟨o,e,c,d⟩:=st
    exact ⟨o,e,fun v z=>by rw [d] at z; cases z⟩
  keep:=fun i h h' st k=>st.at fun o e=>k it (by simp) o e
  item:=by
    intro X hP hw hK hc i pins s σ H E I hf st hg
    subst hP hw hK
    obtain ⟨xs,x,hq,hx⟩:=hg
    obtain ⟨its,rv,p,hz⟩:=I.tuple hq
    obtain ⟨u,hu,ru⟩:=rv.get hx
    obtain ⟨f0,f1,f2,f3,f4,f5⟩:=hf it (by simp)
    refine wpAny_pyNext_tuple_item st (show s.heap.IsTuple a its.toArray from p) (x:=u) (by simpa using hu) fun h' st' sb=>?_
    have I1 : Inv X pins σ H { s with heap:=h' }:=I.turned (t':=s.toks) (fun b o hb e=>(sb.2 b hb).trans e) f0 f1 f3 f4 f5
    obtain ⟨o,e,c,d⟩:=id st'
    exact ⟨u,rfl,go_of (s:={ s with heap:=h' }) e c d (by decide) ⟨x,H,I1,ru,⟨rfl,fun ys hy=>by rw [I.tuple_inj hy hq]; exact hx⟩,st',fun b hb=>(hf b hb).1⟩⟩
  done:=by
    intro X hP hw hK hc i pins s σ H E I hf st hg
    subst hP hw hK
    obtain ⟨xs,hq,hx⟩:=hg
    obtain ⟨its,rv,p,hz⟩:=I.tuple hq
    obtain ⟨f0,f1,f2,f3,f4,f5⟩:=hf it (by simp)
    have hl:=rv.length
    exact wpAny_pyNext_tuple_end (I.ok.hd hc) st (show s.heap.IsTuple a its.toArray from p) (by simp; omega) fun h' eb=>⟨rfl,I.turned (t':=s.toks) (fun b o hb e=>eb b o hb e) f0 f1 f3 f4 f5⟩
  self:=fun zz zz zz zz zz st h=>wpAny_pyIter_tupleiter st h
theorem turn_range {P : Program} {w : World} {K : PySem.W.Frag} {tg : Expr} (it : Addr) (lo : Int) (n : Nat) : Turn P w K tg (Itr lo n) [it] it (fun i h=>IsRangeIter h it (lo + (i : Nat) * 1) ((n : Int) - (i : Nat)) 1) where
  mem:=by simp
  obj:=fun i h st b hb=>by
    have e : b=it:=by simpa using hb
    subst e
    exact ⟨_,st,fun v z=>by
      have z' : Data.fields _=Data.cell v:=z
      cases z'⟩
  keep:=fun i h h' st k=>k it (by simp) _ st
  item:=by
    intro X hP hw hK hc i pins s σ H E I hf st hg
    subst hP hw hK
    obtain ⟨f0,f1,f2,f3,f4,f5⟩:=hf it (by simp)
    have W:=Walks.range (prog:=X.prog) (w:=X.w) (I.ok.hd hc) it lo 1 n
    refine W.item i s _ _ hg st fun v h' tk hv st' kk=>?_
    obtain ⟨t,rfl⟩:=hv
    have I1 : Inv X pins σ H { s with heap:=h',toks:=tk }:=I.turned (fun b o hb e=>kk b o (by simpa using hb) e) f0 f1 f3 f4 f5
    refine ⟨_,rfl,go_of (s:={ s with heap:=h',toks:=tk }) (n:="range_iterator") st' rfl rfl (by decide) ⟨.int (lo + i),H,I1,⟨t,?_⟩,⟨rfl,rfl⟩,st',fun b hb=>(hf b hb).1⟩⟩
    rw [Int.mul_one]
  done:=by
    intro X hP hw hK hc i pins s σ H E I hf st hg
    subst hP hw hK
    obtain ⟨f0,f1,f2,f3,f4,f5⟩:=hf it (by simp)
    exact wpAny_pyNext_range_end (I.ok.hd hc) st (by have : n≤i:=hg; omega) fun h' eb=>⟨rfl,I.turned (t':=s.toks) (fun b o hb e=>eb b o hb e) f0 f1 f3 f4 f5⟩
  self:=fun zz zz zz zz zz st h=>wpAny_pyIter_rangeiter st h
end L2
namespace L2
open PySem PySem.Spec PyProof.Rows
section
variable {X : Cx} {tg : Expr}
inductive zbc (K : PySem.W.Frag) (R : (It→Hp→Prop)) (x : V) (H1 : Hp) : Prop where
  | mk (a : _) (h0 : x = .ref a) (h1 : (∃ xs,SqL K H1 a xs)) (h2 : R (Itl K a) H1) : zbc K R x H1
noncomputable def iList (K : PySem.W.Frag) (tl : TE) : TI:=fun σ H R=>tl σ H (zbc K R)
noncomputable def zhJ (K : PySem.W.Frag) (R : (It→Hp→Prop)) (x : V) (H1 : Hp):=fun a=>L23.A3 (x = .ref a) ((∃ xs,SqT K H1 a xs)) (R (Itt K a) H1)
noncomputable def zhK (K : PySem.W.Frag) (R : (It→Hp→Prop)):=fun (x : V) (H1 : Hp)=>Exists (zhJ K R x H1)
noncomputable def iTup (K : PySem.W.Frag) (tl : TE) : TI:=fun σ H R=>tl σ H (zhK K R)
theorem pi_list {l : Expr} {tl : TE} (hl : PE X l tl) : PI X tg l (iList X.K tl):=by
  intro pins s σ H R I h
  refine thn (hl pins s σ H _ I h) fun v s1 ⟨x,H1,I1,r1,q1⟩=>?_
  obtain ⟨a,e,⟨xs,hq⟩,q⟩:=q1
  subst e
  cases r1
  obtain ⟨its,rv,p,hz⟩:=I1.list hq
  refine wpAny_pyIter_list p.isList ?_
  refine ⟨s1.heap.objs.size,[s1.heap.objs.size],_,_,H1,rfl,I1.kept (t':=s1.toks) fun b o e=>Heap.get?_push_of_some _ e,turn_list a _,⟨_,Heap.get?_push_size _ rfl,rfl,rfl⟩,fun b hb=>?_,q⟩
  have e : b=s1.heap.objs.size:=by simpa using hb
  subst e
  exact I1.fpOk (Nat.le_refl _) (I1.hok.fresh (Nat.le_refl _))
theorem pi_tup {l : Expr} {tl : TE} (hl : PE X l tl) : PI X tg l (iTup X.K tl):=by
  intro pins s σ H R I h
  refine thn (hl pins s σ H _ I h) fun v s1 ⟨x,H1,I1,r1,q1⟩=>?_
  obtain ⟨a,e,⟨xs,hq⟩,q⟩:=q1
  subst e
  cases r1
  obtain ⟨its,rv,p,hz⟩:=I1.tuple hq
  refine wpAny_pyIter_tuple (show s1.heap.IsTuple a its.toArray from p) ?_
  refine ⟨s1.heap.objs.size,[s1.heap.objs.size],_,_,H1,rfl,I1.kept (t':=s1.toks) fun b o e=>Heap.get?_push_of_some _ e,turn_tuple a _,⟨_,Heap.get?_push_size _ rfl,rfl,rfl⟩,fun b hb=>?_,q⟩
  have e : b=s1.heap.objs.size:=by simpa using hb
  subst e
  exact I1.fpOk (Nat.le_refl _) (I1.hok.fresh (Nat.le_refl _))
theorem range_it {pins : List (Addr × Obj)} {σ : St} {H : Hp} {s : Shared} {R : It→Hp→Prop} {E : Value→Shared→Prop} {lo hi : Int} {t u v : Tok} {tk : Nat} (I : Inv X pins σ H s) (h1 : -(2 ^ 62)≤lo) (h2 : lo < 2 ^ 62) (h3 : -(2 ^ 62)≤hi) (h4 : hi < 2 ^ 62)
    (q : R (Itr lo (hi - lo).toNat) H) : wpAny (model X.prog X.w) X.A (pyIter (.ref s.heap.objs.size)) (PIE X pins σ tg R) E { s with heap:=s.heap.push { cls := .type "range",data := .fields #[.int lo t,.int hi u,.int 1 v] },toks:=tk }:=by
  refine wpAny_pyIter_range (IsRange.new ..) (small_one h1 h2 h3 h4) ?_
  have I1 : Inv X pins σ H { s with heap:=s.heap.push { cls := .type "range",data := .fields #[.int lo t,.int hi u,.int 1 v] },toks:=tk }:=I.kept fun b o e=>Heap.get?_push_of_some _ e
  refine ⟨(s.heap.push { cls := .type "range",data := .fields #[.int lo t,.int hi u,.int 1 v] }).objs.size,[(s.heap.push { cls := .type "range",data := .fields #[.int lo t,.int hi u,.int 1 v] }).objs.size],_,_,H,rfl,
    I1.kept (t':=tk) fun b o e=>Heap.get?_push_of_some _ e,turn_range _ lo (hi - lo).toNat,?_,fun b hb=>?_,q⟩
  · have e1 : lo + ((0 : Nat) : Int) * 1=lo:=by simp
    have e2 : (((hi - lo).toNat : Nat) : Int) - ((0 : Nat) : Int)=Builtin.Range.rangeSize lo hi 1:=by rw [rangeSize_one]; split <;> omega
    show IsRangeIter _ _ (lo + ((0 : Nat) : Int) * 1) ((((hi - lo).toNat : Nat) : Int) - ((0 : Nat) : Int)) 1
    rw [e1,e2]
    exact Heap.get?_push_size _ rfl
  · have e : b=(s.heap.push { cls := .type "range",data := .fields #[.int lo t,.int hi u,.int 1 v] }).objs.size:=by simpa using hb
    subst e
    exact I1.fpOk (Nat.le_refl _) (I1.hok.fresh (Nat.le_refl _))
noncomputable def zfY (R : (It→Hp→Prop)) (vs : List V) (H1 : Hp):=fun (j : Int)=>L23.A4 (vs=[.int j]) (-(2 ^ 62)≤j) (j < 2 ^ 62) (R (Itr 0 j.toNat) H1)
noncomputable def zfZ (R : (It→Hp→Prop)):=fun (vs : List V) (H1 : Hp)=>Exists (zfY R vs H1)
noncomputable def iRng1 (ta : TA) : TI:=fun σ H R=>ta σ H (zfZ R)
theorem pi_range1 {a : Expr} {ta : TA} {p pos : Pos} (hg : Gl X "range") (hm : X.mg "range"=none) (ha : PA X [a] ta) (hs : autoParam (starEach [a] X.env=[(false,eval a X.env)]) L23.a1._auto_1) : PI X tg (.Call (.Name "range" p) [a] [] pos) (iRng1 ta):=by
  intro pins s σ H R I h
  refine Call_ (ld_blt I hg hm boot_range (PyProof.Rows.callWith_type1 (thn (ha pos pins s σ H _ I h) fun us s1 ⟨vs,H1,I1,r1,q1⟩=>?_) hs rfl))
  obtain ⟨j,e,q1,q2,q⟩:=q1
  subst e
  cases r1 with
  | cons r rr =>
    cases rr
    obtain ⟨t,rfl⟩:=r
    exact call_range_1 (range_it I1 (by omega) (by omega) q1 q2 (by simpa using q))
noncomputable def zhL (g : TG) (tb : TS) (D : Ends) (σ : L2.St) (H : Hp):=fun (J : It) (H1 : Hp)=>∃ W : Nat→Nat→St→Hp→Prop,(∃ m,W 0 m σ H1)∧∀ i m σ H,W i m σ H →
    (J.stop i H∧D.nx σ H)∨(J.go i H∧∃ N : St→Hp→Prop,(∀ σ' H',N σ' H'→∃ m',m' < m∧W (i + 1) m' σ' H')∧∀ x H',J.yld i H x H'→g x σ H' fun σ2 H2=>tb { D with nx:=N,ct:=N,bk:=D.nx } σ2 H2)
noncomputable def tFor (wi : TI) (g : TG) (tb : TS) : TS:=fun D σ H=>wi σ H (zhL g tb D σ H)
noncomputable def pinsAt (fp : List Addr) (h : Heap) : List (Addr × Obj):=fp.filterMap fun b=>(h.get? b).map fun o=>(b,o)
theorem mem_pinsAt {fp : List Addr} {h : Heap} {b : Addr} {o : Obj} (hb : b∈fp) (e : h.get? b=some o) : (b,o)∈pinsAt fp h:=List.mem_filterMap.mpr ⟨b,hb,by rw [e]; rfl⟩
theorem of_pinsAt {fp : List Addr} {h : Heap} {p : Addr × Obj} (hp : p∈pinsAt fp h) : p.1∈fp∧h.get? p.1=some p.2:=by
  obtain ⟨b,hb,e⟩:=List.mem_filterMap.mp hp
  cases q : h.get? b with
  | none=>rw [q] at e; cases e
  | some o =>
    rw [q] at e
    have e' : (b,o)=p:=Option.some.inj e
    subst e'
    exact ⟨hb,q⟩
theorem Inv.pinned {pins : List (Addr × Obj)} {σ : St} {H : Hp} {s : Shared} {fp : List Addr} (I : Inv X pins σ H s) (hf : ∀ b∈fp,FpOk X pins H b) (ho : ∀ b∈fp,∃ o,s.heap.get? b=some o∧∀ v,o.data ≠ .cell v) : Inv X (pins ++ pinsAt fp s.heap) σ H s :=
  I.pins_of fun p hp=>(List.mem_append.mp hp).elim (fun z=>I.pin p (List.mem_append_right _ z)) fun z=>by
    obtain ⟨hb,e⟩:=of_pinsAt z
    obtain ⟨f0,f1,f2,zz⟩:=hf p.1 hb
    obtain ⟨o,e',d⟩:=ho p.1 hb
    rw [e] at e'; cases e'
    exact ⟨e,f0,f1,f2,d⟩
theorem Inv.unpinned {pins pl : List (Addr × Obj)} {σ : St} {H : Hp} {s : Shared} (I : Inv X (pins ++ pl) σ H s) : Inv X pins σ H s:=I.pins_of fun p hp=>I.pin p (List.mem_append_right _ (List.mem_append_left _ hp))
theorem ps_for {iter : Expr} {body : List Stmt} {wi : TI} {g : TG} {tb : TS} {pos : Pos} (hp : PassesOwn (model X.prog X.w) X.A X.env X.xe) (hc : X.calm=true) (hi : PI X tg iter wi) (hg : PG X tg g) (hb : PSs X body tb)
    (hs : autoParam (∀ x,foldedSetIterable iter X.env x=pure x) L23.a3._auto_1) : PS X (.For tg iter body [] pos) (tFor wi g tb):=by
  intro pins s σ H D I h
  refine wpAny_For (thn (hi pins s σ H _ I h) fun v s1 h1=>thn h1 fun itv s2 h2=>?_) hs
  obtain ⟨it,fp,tn,J,H2,e,I2,T,st2,f2,W,⟨m0,w0⟩,turn⟩:=h2
  subst e
  have stat : ∀ {H' : Hp},(∀ b∈fp,H' b=none)→∀ b∈fp,FpOk X pins H' b:=fun hn b hb=>⟨hn b hb,(f2 b hb).2⟩
  refine codeAny_forLoop_any (fun n s'=>∃ i σ' H',Inv X pins σ' H' s'∧tn i s'.heap∧(∀ b∈fp,H' b=none)∧W i n σ' H') ?_ m0 ⟨0,σ,H2,I2,st2,fun b hb=>(f2 b hb).1,w0⟩
  rintro n s3 ⟨i,σ3,H3,I3,st3,fr3,w3⟩
  rcases turn i n σ3 H3 w3 with ⟨stop,qn⟩ | ⟨go,N,hN,step⟩
  · refine wpAny_passesOwn hp (thn (T.done X rfl rfl rfl hc i pins s3 σ3 H3 X.xe I3 (stat fr3) st3 stop) fun r s4 ⟨hr,I4⟩=>?_)
    subst hr
    exact wpAny_execs_nil ⟨σ3,H3,I4,qn⟩
  · refine wpAny_passesOwn hp (thn (T.item X rfl rfl rfl hc i pins s3 σ3 H3 X.xe I3 (stat fr3) st3 go) fun r s4 ⟨u,hr,h4⟩=>?_)
    subst hr
    refine wpAny_passesOwn hp (thn h4 fun _ s5 ⟨x,H5,I5,r5,y5,st5,fr5⟩=>?_)
    have I5':=I5.pinned (stat fr5) (T.obj _ _ st5)
    refine wpAny_passesOwn hp (thn (hg _ s5 σ3 H5 x u _ I5' r5 (step x H5 y5)) fun _ s6 ⟨σ6,H6,I6,q6⟩=>?_)
    refine wpAny_passesOwn hp (thn (hb _ s6 σ6 H6 _ I6 q6) fun f s7 q7=>?_)
    have again : ∀ {σ7 : St} {H7 : Hp},Inv X (pins ++ pinsAt fp s5.heap) σ7 H7 s7→N σ7 H7→∃ m,m < n∧∃ i σ' H',Inv X pins σ' H' s7∧tn i s7.heap∧(∀ b∈fp,H' b=none)∧W i m σ' H':=fun {σ7 H7} I7 n7=>by
      obtain ⟨m',hm,w7⟩:=hN σ7 H7 n7
      refine ⟨m',hm,i + 1,σ7,H7,I7.unpinned,T.keep _ _ _ st5 fun b hb o e=>(I7.pin (b,o) (List.mem_append_right _ (List.mem_append_right _ (mem_pinsAt hb e)))).1,fun b hb=>?_,w7⟩
      obtain ⟨o,e,d⟩:=T.obj _ _ st5 b hb
      exact (I7.pin (b,o) (List.mem_append_right _ (List.mem_append_right _ (mem_pinsAt hb e)))).2.1
    cases f with
    | next=>obtain ⟨σ7,H7,I7,n7⟩:=q7; exact again I7 n7
    | cont=>obtain ⟨σ7,H7,I7,n7⟩:=q7; exact again I7 n7
    | brk=>obtain ⟨σ7,H7,I7,q7⟩:=q7; exact ⟨σ7,H7,I7.unpinned,q7⟩
    | ret v=>obtain ⟨x7,σ7,H7,I7,r7,q7⟩:=q7; exact ⟨x7,σ7,H7,I7.unpinned,r7,q7⟩
end
theorem for_list {K : PySem.W.Frag} {a : Addr} {xs : List V} {g : TG} {tb : TS} {D : Ends} {σ : St} {H : Hp} (Pv : Nat→St→Hp→Prop) (h0 : Pv 0 σ H) (hl : ∀ i σ H,i≤xs.length→Pv i σ H→SqL K H a xs)
    (hs : ∀ i x σ H,xs[i]?=some x→Pv i σ H→g x σ H fun σ2 H2=>tb { D with nx:=Pv (i + 1),ct:=Pv (i + 1),bk:=D.nx } σ2 H2) (hd : ∀ σ H,Pv xs.length σ H→D.nx σ H) :
    ∃ W : Nat→Nat→St→Hp→Prop,(∃ m,W 0 m σ H)∧∀ i m σ H,W i m σ H →
      ((Itl K a).stop i H∧D.nx σ H)∨((Itl K a).go i H∧∃ N : St→Hp→Prop,(∀ σ' H',N σ' H'→∃ m',m' < m∧W (i + 1) m' σ' H')∧∀ x H',(Itl K a).yld i H x H'→g x σ H' fun σ2 H2=>tb { D with nx:=N,ct:=N,bk:=D.nx } σ2 H2):=by
  refine ⟨fun i m σ H=>m=xs.length - i∧i≤xs.length∧Pv i σ H,⟨xs.length,by simp,Nat.zero_le _,h0⟩,?_⟩
  rintro i m σ H ⟨rfl,hi,p⟩
  have q:=hl i σ H hi p
  by_cases hlt : i < xs.length
  · refine .inr ⟨⟨xs,xs[i],q,by simp [hlt]⟩,Pv (i + 1),fun σ' H' p'=>⟨xs.length - (i + 1),by omega,rfl,hlt,p'⟩,fun x H' y=>?_⟩
    obtain ⟨e,y⟩:=y
    subst e
    exact hs i x σ _ (y xs q) p
  · have e : i=xs.length:=by omega
    subst e
    exact .inl ⟨⟨xs,q,Nat.le_refl _⟩,hd σ H p⟩
theorem for_tup {K : PySem.W.Frag} {a : Addr} {xs : List V} {g : TG} {tb : TS} {D : Ends} {σ : St} {H : Hp} (Pv : Nat→St→Hp→Prop) (h0 : Pv 0 σ H) (hl : ∀ i σ H,i≤xs.length→Pv i σ H→SqT K H a xs)
    (hs : ∀ i x σ H,xs[i]?=some x→Pv i σ H→g x σ H fun σ2 H2=>tb { D with nx:=Pv (i + 1),ct:=Pv (i + 1),bk:=D.nx } σ2 H2) (hd : ∀ σ H,Pv xs.length σ H→D.nx σ H) :
    ∃ W : Nat→Nat→St→Hp→Prop,(∃ m,W 0 m σ H)∧∀ i m σ H,W i m σ H →
      ((Itt K a).stop i H∧D.nx σ H)∨((Itt K a).go i H∧∃ N : St→Hp→Prop,(∀ σ' H',N σ' H'→∃ m',m' < m∧W (i + 1) m' σ' H')∧∀ x H',(Itt K a).yld i H x H'→g x σ H' fun σ2 H2=>tb { D with nx:=N,ct:=N,bk:=D.nx } σ2 H2):=by
  refine ⟨fun i m σ H=>m=xs.length - i∧i≤xs.length∧Pv i σ H,⟨xs.length,by simp,Nat.zero_le _,h0⟩,?_⟩
  rintro i m σ H ⟨rfl,hi,p⟩
  have q:=hl i σ H hi p
  by_cases hlt : i < xs.length
  · refine .inr ⟨⟨xs,xs[i],q,by simp [hlt]⟩,Pv (i + 1),fun σ' H' p'=>⟨xs.length - (i + 1),by omega,rfl,hlt,p'⟩,fun x H' y=>?_⟩
    obtain ⟨e,y⟩:=y
    subst e
    exact hs i x σ _ (y xs q) p
  · have e : i=xs.length:=by omega
    subst e
    exact .inl ⟨⟨xs,q,Nat.le_refl _⟩,hd σ H p⟩
theorem for_range {lo : Int} {n : Nat} {g : TG} {tb : TS} {D : Ends} {σ : St} {H : Hp} (Pv : Nat→St→Hp→Prop) (h0 : Pv 0 σ H)
    (hs : ∀ i σ H,i < n→Pv i σ H→g (.int (lo + i)) σ H fun σ2 H2=>tb { D with nx:=Pv (i + 1),ct:=Pv (i + 1),bk:=D.nx } σ2 H2) (hd : ∀ σ H,Pv n σ H→D.nx σ H) :
    ∃ W : Nat→Nat→St→Hp→Prop,(∃ m,W 0 m σ H)∧∀ i m σ H,W i m σ H →
      ((Itr lo n).stop i H∧D.nx σ H)∨((Itr lo n).go i H∧∃ N : St→Hp→Prop,(∀ σ' H',N σ' H'→∃ m',m' < m∧W (i + 1) m' σ' H')∧∀ x H',(Itr lo n).yld i H x H'→g x σ H' fun σ2 H2=>tb { D with nx:=N,ct:=N,bk:=D.nx } σ2 H2):=by
  refine ⟨fun i m σ H=>m=n - i∧i≤n∧Pv i σ H,⟨n,by simp,Nat.zero_le _,h0⟩,?_⟩
  rintro i m σ H ⟨rfl,hi,p⟩
  by_cases hlt : i < n
  · refine .inr ⟨hlt,Pv (i + 1),fun σ' H' p'=>⟨n - (i + 1),by omega,rfl,hlt,p'⟩,fun x H' y=>?_⟩
    obtain ⟨e,y⟩:=y
    subst e y
    exact hs i σ _ hlt p
  · have e : i=n:=by omega
    subst e
    exact .inl ⟨Nat.le_refl _,hd σ H p⟩
end L2
namespace L2
open PySem PySem.Spec PyProof.Rows
noncomputable abbrev R2:=V→V→Hp→VK→Prop
noncomputable def OpR (X : Cx) (f : Value→Value→Sem Value) (r : R2) : Prop :=
  ∀ (pins : List (Addr × Obj)) (s : Shared) (σ : St) (H : Hp) (x y : V) (v u : Value) (Q : VK),Inv X pins σ H s→RelV x v→RelV y u→r x y H Q →
    wpAny (model X.prog X.w) X.A (f v u) (EP X pins σ Q) X.xe s
noncomputable def UnR (X : Cx) (f : Value→Sem Value) (r : V→Hp→VK→Prop) : Prop :=
  ∀ (pins : List (Addr × Obj)) (s : Shared) (σ : St) (H : Hp) (x : V) (v : Value) (Q : VK),Inv X pins σ H s→RelV x v→r x H Q →
    wpAny (model X.prog X.w) X.A (f v) (EP X pins σ Q) X.xe s
noncomputable def CallR (X : Cx) (f : Value) (r : List V→Hp→VK→Prop) : Prop :=
  ∀ (pins : List (Addr × Obj)) (s : Shared) (σ : St) (H : Hp) (xs : List V) (us : List Value) (Q : VK),Inv X pins σ H s→Vals xs us→r xs H Q →
    wpAny (model X.prog X.w) X.A (call f us) (EP X pins σ Q) X.xe s
noncomputable def zix (r : R2) (Q : VK) (x : V):=fun (y : V) (H2 : Hp)=>r x y H2 Q
noncomputable def ziy (r : R2) (tb : TE) (σ : L2.St) (Q : VK):=fun (x : V) (H1 : Hp)=>tb σ H1 (zix r Q x)
noncomputable def tOp (r : R2) (ta tb : TE) : TE:=fun σ H Q=>ta σ H (ziy r tb σ Q)
noncomputable def ziz (r : V→Hp→VK→Prop) (Q : VK):=fun (x : V) (H1 : Hp)=>r x H1 Q
noncomputable def tUn (r : V→Hp→VK→Prop) (ta : TE) : TE:=fun σ H Q=>ta σ H (ziz r Q)
inductive zhc (C : Int→Int→Prop) (g : Int→Int→V) (x : V) (y : V) (H : Hp) (Q : VK) : Prop where
  | mk (i : _) (j : _) (h0 : x = .int i) (h1 : y = .int j) (h2 : C i j) (h3 : Q (g i j) H) : zhc C g x y H Q
noncomputable def rI (C : Int→Int→Prop) (g : Int→Int→V) : R2:=zhc C g
inductive zeK (g : Int→Int→V) (x : V) (y : V) (H : Hp) (Q : VK) : Prop where
  | mk (i : _) (j : _) (h0 : x = .int i) (h1 : y = .int j) (h2 : Q (g i j) H) : zeK g x y H Q
noncomputable def rI0 (g : Int→Int→V) : R2:=zeK g
inductive zhd (g : Int→V) (x : V) (H : Hp) (Q : VK) : Prop where
  | mk (i : _) (h0 : x = .int i) (h1 : Q (g i) H) : zhd g x H Q
noncomputable def rU (g : Int→V) : V→Hp→VK→Prop:=zhd g
section
variable {X : Cx} {a b c : Expr} {ta tb tc : TE} {pos : Pos}
theorem binT (ha : PE X a ta) (hb : PE X b tb) {pins : List (Addr × Obj)} {s : Shared} {σ : St} {H : Hp} {R : V→V→Hp→Prop} (I : Inv X pins σ H s)
    (h : ta σ H fun x H1=>tb σ H1 fun y H2=>R x y H2) {Q : Value→Shared→Prop} {f : Value→Value→Sem Value}
    (hf : ∀ v u s2 x y H2,Inv X pins σ H2 s2→RelV x v→RelV y u→R x y H2→wpAny (model X.prog X.w) X.A (f v u) Q X.xe s2) :
    wpAny (model X.prog X.w) X.A (eval a X.env) (fun v s₁=>wpAny (model X.prog X.w) X.A (eval b X.env) (fun u s₂=>wpAny (model X.prog X.w) X.A (f v u) Q X.xe s₂) X.xe s₁) X.xe s:=by
  refine thn (ha pins s σ H _ I h) fun v s1 ⟨x,H1,I1,r1,q1⟩=>?_
  refine thn (hb pins s1 σ H1 _ I1 q1) fun u s2 ⟨y,H2,I2,r2,q2⟩=>?_
  exact hf v u s2 x y H2 I2 r1 r2 q2
theorem pe_op {op : Operator} {r : R2} (ho : OpR X (binaryOp op) r) (ha : PE X a ta) (hb : PE X b tb) : PE X (.BinOp a op b pos) (tOp r ta tb):=by
  intro pins s σ H Q I h
  exact wpAny_BinOp (binT ha hb I h fun v u s2 x y H2 I2 rx ry q=>ho pins s2 σ H2 x y v u Q I2 rx ry q)
theorem pe_un {op : UnaryOp} {r : V→Hp→VK→Prop} (ho : UnR X (unaryOp op) r) (ha : PE X a ta) : PE X (.UnaryOp op a pos) (tUn r ta):=by
  intro pins s σ H Q I h
  exact UnaryOp_ (thn (ha pins s σ H _ I h) fun v s1 ⟨x,H1,I1,r1,q1⟩=>ho pins s1 σ H1 x v Q I1 r1 q1)
theorem opI {f : Value→Value→Sem Value} {C : Int→Int→Prop} {g : Int→Int→Int}
    (rule : ∀ (i j : Int) (t u : Tok) (s : Shared) (Q : Value→Shared→Prop) (E : Value→Shared→Prop),C i j→Q (.int (g i j) s.toks) { s with toks:=s.toks + 1 }→wpAny (model X.prog X.w) X.A (f (.int i t) (.int j u)) Q E s) :
    OpR X f (rI C fun i j => .int (g i j)):=by
  intro pins s σ H x y v u Q I rx ry h
  obtain ⟨i,j,rfl,rfl,hc,q⟩:=h
  obtain ⟨t,rfl⟩:=rx
  obtain ⟨t',rfl⟩:=ry
  exact rule i j t t' s _ _ hc ⟨.int (g i j),H,I.tok _,⟨_,rfl⟩,q⟩
theorem opI0 {f : Value→Value→Sem Value} {g : Int→Int→Int}
    (rule : ∀ (i j : Int) (t u : Tok) (s : Shared) (Q : Value→Shared→Prop) (E : Value→Shared→Prop),Q (.int (g i j) s.toks) { s with toks:=s.toks + 1 }→wpAny (model X.prog X.w) X.A (f (.int i t) (.int j u)) Q E s) :
    OpR X f (rI0 fun i j => .int (g i j)):=by
  intro pins s σ H x y v u Q I rx ry h
  obtain ⟨i,j,rfl,rfl,q⟩:=h
  obtain ⟨t,rfl⟩:=rx
  obtain ⟨t',rfl⟩:=ry
  exact rule i j t t' s _ _ ⟨.int (g i j),H,I.tok _,⟨_,rfl⟩,q⟩
theorem opB0 {f : Value→Value→Sem Value} {g : Int→Int→Bool}
    (rule : ∀ (i j : Int) (t u : Tok) (s : Shared) (Q : Value→Shared→Prop) (E : Value→Shared→Prop),Q (.bool (g i j)) s→wpAny (model X.prog X.w) X.A (f (.int i t) (.int j u)) Q E s) :
    OpR X f (rI0 fun i j => .bl (g i j)):=by
  intro pins s σ H x y v u Q I rx ry h
  obtain ⟨i,j,rfl,rfl,q⟩:=h
  obtain ⟨t,rfl⟩:=rx
  obtain ⟨t',rfl⟩:=ry
  exact rule i j t t' s _ _ ⟨.bl (g i j),H,I,rfl,q⟩
noncomputable def CDiv (i j : Int) : Prop:=0 < j∧j < 1073741824
noncomputable def CPow (i j : Int) : Prop:=0≤j∧j≤1000000∧i.natAbs < 2 ^ 64
noncomputable def CMul (i j : Int) : Prop:=(-(2 ^ 64) < i∧i < 2 ^ 64)∨(-(2 ^ 64) < j∧j < 2 ^ 64)
theorem CMul.ok {i j : Int} (h : CMul i j) : IntMulOk i j:=by
  rcases h with ⟨h1,h2⟩ | ⟨h1,h2⟩
  · exact .of_left (intBits_le_64 h1 h2)
  · exact .of_right (intBits_le_64 h1 h2)
theorem op_add : OpR X (binaryOp .Add) (rI0 fun i j => .int (i + j)):=opI0 fun zz zz zz zz zz zz zz q=>add_int q
theorem op_sub : OpR X (binaryOp .Sub) (rI0 fun i j => .int (i - j)):=opI0 fun zz zz zz zz zz zz zz q=>sub_int q
theorem op_mul : OpR X (binaryOp .Mult) (rI CMul fun i j => .int (i * j)):=opI fun zz zz zz zz zz zz zz hc q=>mul_int q hc.ok
theorem op_fdiv : OpR X (binaryOp .FloorDiv) (rI CDiv fun i j => .int (i / j)):=opI fun i j zz zz zz zz zz hc q=>by
  have h1 : (0 : Int) < j:=hc.1
  have h2 : j < 1073741824:=hc.2
  exact floordiv_int (by omega) (by rw [Int.fdiv_eq_ediv_of_nonneg i (by omega)]; exact q) (.inl (PyProof.noPylong_small (by omega)))
theorem op_mod : OpR X (binaryOp .Mod) (rI (fun zz j=>0 < j) fun i j => .int (i % j)):=opI fun i j zz zz zz zz zz hc q=>by
  have h1 : (0 : Int) < j:=hc
  exact mod_int' (by omega) (by rw [Int.fmod_eq_emod_of_nonneg i (by omega)]; exact q)
theorem op_pow : OpR X (binaryOp .Pow) (rI CPow fun i j => .int (i ^ j.toNat)):=opI fun zz zz zz zz zz zz zz hc q=>pow_int_small hc.1 hc.2.1 hc.2.2 q
theorem unI {f : Value→Sem Value} {g : Int→Int}
    (rule : ∀ (i : Int) (t : Tok) (s : Shared) (Q : Value→Shared→Prop) (E : Value→Shared→Prop),Q (.int (g i) s.toks) { s with toks:=s.toks + 1 }→wpAny (model X.prog X.w) X.A (f (.int i t)) Q E s) :
    UnR X f (rU fun i => .int (g i)):=by
  intro pins s σ H x v Q I rx h
  obtain ⟨i,rfl,q⟩:=h
  obtain ⟨t,rfl⟩:=rx
  exact rule i t s _ _ ⟨.int (g i),H,I.tok _,⟨_,rfl⟩,q⟩
theorem un_neg : UnR X (unaryOp .USub) (rU fun i => .int (-i)):=unI fun zz zz zz zz zz q=>neg_int q
end
noncomputable def scal : V→V→Bool
  | .non,.non=>true | .non,.int _=>true | .int _,.non=>true | .non,.bl _=>true | .bl _,.non=>true | .non,.str _=>true | .str _,.non=>true
  | .int _,.int _=>true | .bl _,.bl _=>true | .str _,.str _=>true | .byt _,.byt _=>true
  | .int _,.str _=>true | .str _,.int _=>true | .bl _,.str _=>true | .str _,.bl _=>true
  | _,_=>false
noncomputable def rEq : R2:=fun x y H Q=>scal x y=true∧Q (.bl (decide (x=y))) H
noncomputable def rNe : R2:=fun x y H Q=>scal x y=true∧Q (.bl (!decide (x=y))) H
theorem dec_int {i j : Int} : decide (V.int i=V.int j)=(i == j):=by
  rw [Bool.eq_iff_iff]
  simp
theorem dec_bl {i j : Bool} : decide (V.bl i=V.bl j)=(i == j):=by
  rw [Bool.eq_iff_iff]
  simp
theorem dec_str {i j : Str} : decide (V.str i=V.str j)=(i == j):=by
  rw [Bool.eq_iff_iff]
  simp
theorem dec_byt {i j : Array UInt8} : decide (V.byt i=V.byt j)=(i.toList == j.toList):=by
  rw [Bool.eq_iff_iff]
  cases i
  cases j
  simp
section
variable {X : Cx} {a b c : Expr} {ta tb tc : TE} {pos : Pos}
theorem fin_bl {pins : List (Addr × Obj)} {σ : St} {H : Hp} {s : Shared} {Q : VK} {k k' : Bool} (I : Inv X pins σ H s) (q : Q (.bl k) H) (e : k=k') : EP X pins σ Q (.bool k') s:=by
  subst e
  exact ⟨.bl k,H,I,rfl,q⟩
theorem op_eq : OpR X (compareOp .Eq) rEq:=by
  intro pins s σ H x y v u Q I rx ry h
  obtain ⟨hs,q⟩:=h
  cases x with
  | non =>
    cases rx
    cases y with
    | non=>cases ry; exact PySem.EqNone.eq_none_none (fin_bl I q (by simp))
    | bl j=>cases ry; exact PySem.EqNone.eq_none_bool (fin_bl I q (by simp))
    | int j=>obtain ⟨t',rfl⟩:=ry; exact PySem.EqNone.eq_none_int (fin_bl I q (by simp))
    | str j=>obtain ⟨t',rfl⟩:=ry; exact PySem.EqNone.eq_none_str (fin_bl I q (by simp))
    | _=>exact absurd (show false=true from hs) Bool.false_ne_true
  | bl i =>
    cases rx
    cases y with
    | non=>cases ry; exact PySem.EqNone.eq_bool_none (fin_bl I q (by simp))
    | bl j=>cases ry; exact eq_bool (fin_bl I q dec_bl)
    | str j=>obtain ⟨t',rfl⟩:=ry; exact PySem.EqMixed.eq_bool_str (fin_bl I q (by simp))
    | _=>exact absurd (show false=true from hs) Bool.false_ne_true
  | int i =>
    obtain ⟨t,rfl⟩:=rx
    cases y with
    | non=>cases ry; exact PySem.EqNone.eq_int_none (fin_bl I q (by simp))
    | int j=>obtain ⟨t',rfl⟩:=ry; exact eq_int (fin_bl I q dec_int)
    | str j=>obtain ⟨t',rfl⟩:=ry; exact PySem.EqMixed.eq_int_str (fin_bl I q (by simp))
    | _=>exact absurd (show false=true from hs) Bool.false_ne_true
  | str i =>
    obtain ⟨t,rfl⟩:=rx
    cases y with
    | non=>cases ry; exact PySem.EqNone.eq_str_none (fin_bl I q (by simp))
    | bl j=>cases ry; exact PySem.EqMixed.eq_str_bool (fin_bl I q (by simp))
    | int j=>obtain ⟨t',rfl⟩:=ry; exact PySem.EqMixed.eq_str_int (fin_bl I q (by simp))
    | str j=>obtain ⟨t',rfl⟩:=ry; exact eq_str (fin_bl I q dec_str)
    | _=>exact absurd (show false=true from hs) Bool.false_ne_true
  | byt i =>
    obtain ⟨t,rfl⟩:=rx
    cases y with
    | byt j=>obtain ⟨t',rfl⟩:=ry; exact PySem.W.eq_bytes (fin_bl I q dec_byt)
    | _=>exact absurd (show false=true from hs) Bool.false_ne_true
  | _=>cases y <;> exact absurd (show false=true from hs) Bool.false_ne_true
theorem op_ne : OpR X (compareOp .NotEq) rNe:=by
  intro pins s σ H x y v u Q I rx ry h
  obtain ⟨hs,q⟩:=h
  cases x with
  | non =>
    cases rx
    cases y with
    | non=>cases ry; exact PySem.EqNone.ne_none_none (fin_bl I q (by simp))
    | bl j=>cases ry; exact PySem.EqNone.ne_none_bool (fin_bl I q (by simp))
    | int j=>obtain ⟨t',rfl⟩:=ry; exact PySem.EqNone.ne_none_int (fin_bl I q (by simp))
    | str j=>obtain ⟨t',rfl⟩:=ry; exact PySem.EqNone.ne_none_str (fin_bl I q (by simp))
    | _=>exact absurd (show false=true from hs) Bool.false_ne_true
  | bl i =>
    cases rx
    cases y with
    | non=>cases ry; exact PySem.EqNone.ne_bool_none (fin_bl I q (by simp))
    | bl j=>cases ry; exact ne_bool (fin_bl I q (congrArg not dec_bl))
    | str j=>obtain ⟨t',rfl⟩:=ry; exact PySem.EqMixed.ne_bool_str (fin_bl I q (by simp))
    | _=>exact absurd (show false=true from hs) Bool.false_ne_true
  | int i =>
    obtain ⟨t,rfl⟩:=rx
    cases y with
    | non=>cases ry; exact PySem.EqNone.ne_int_none (fin_bl I q (by simp))
    | int j=>obtain ⟨t',rfl⟩:=ry; exact ne_int (fin_bl I q (congrArg not dec_int))
    | str j=>obtain ⟨t',rfl⟩:=ry; exact PySem.EqMixed.ne_int_str (fin_bl I q (by simp))
    | _=>exact absurd (show false=true from hs) Bool.false_ne_true
  | str i =>
    obtain ⟨t,rfl⟩:=rx
    cases y with
    | non=>cases ry; exact PySem.EqNone.ne_str_none (fin_bl I q (by simp))
    | bl j=>cases ry; exact PySem.EqMixed.ne_str_bool (fin_bl I q (by simp))
    | int j=>obtain ⟨t',rfl⟩:=ry; exact PySem.EqMixed.ne_str_int (fin_bl I q (by simp))
    | str j=>obtain ⟨t',rfl⟩:=ry; exact ne_str (fin_bl I q (congrArg not dec_str))
    | _=>exact absurd (show false=true from hs) Bool.false_ne_true
  | byt i =>
    obtain ⟨t,rfl⟩:=rx
    cases y with
    | byt j=>obtain ⟨t',rfl⟩:=ry; exact PySem.W.ne_bytes (fin_bl I q (congrArg not dec_byt))
    | _=>exact absurd (show false=true from hs) Bool.false_ne_true
  | _=>cases y <;> exact absurd (show false=true from hs) Bool.false_ne_true
theorem op_lt : OpR X (compareOp .Lt) (rI0 fun i j => .bl (decide (i < j))):=opB0 fun zz zz zz zz zz zz zz q=>lt_int q
theorem op_gt : OpR X (compareOp .Gt) (rI0 fun i j => .bl (decide (j < i))):=opB0 fun zz zz zz zz zz zz zz q=>gt_int q
inductive XF (x : V) (y : V) (H : Hp) (Q : VK) : Prop where
  | mk (i : _) (j : _) (h0 : x = .str i) (h1 : y = .str j) (h2 : Q (.bl (!(Builtin.Str.occurrences j i 0 j.length 1).isEmpty)) H) : XF x y H Q
noncomputable def zcE : R2:=XF
theorem op_in_str : OpR X (compareOp .In) zcE:=by
  intro pins s σ H x y v u Q I rx ry h
  obtain ⟨i,j,rfl,rfl,q⟩:=h
  obtain ⟨t,rfl⟩:=rx
  obtain ⟨t',rfl⟩:=ry
  exact in_str (fin_bl I q rfl)
noncomputable def zf0 : R2:=fun x y H Q=>y = .non∧Q (.bl (decide (x = .non))) H
theorem op_isN : OpR X (compareOp .Is) zf0:=by
  intro pins s σ H x y v u Q I rx ry h
  obtain ⟨rfl,q⟩:=h
  cases ry
  refine is_none_gen (fin_bl I q ?_)
  cases x <;> first
    | (cases rx; rfl)
    | (obtain ⟨t,rfl⟩:=rx; rfl)
theorem op_notN : OpR X (compareOp .IsNot) (fun x y H Q=>y = .non∧Q (.bl (!decide (x = .non))) H):=by
  intro pins s σ H x y v u Q I rx ry h
  obtain ⟨rfl,q⟩:=h
  cases ry
  refine isnot_none_gen (fin_bl I q ?_)
  cases x <;> first
    | (cases rx; rfl)
    | (obtain ⟨t,rfl⟩:=rx; rfl)
theorem nomark (b : Expr) {op : CmpOp} (h : autoParam (op ≠ .In) L23.a2._auto_1) (h2 : autoParam (op ≠ .NotIn) L23.a2._auto_1) : behindInMarks op b=false:=by
  have e1 : (op == CmpOp.In)=false:=by cases op <;> first | rfl | exact absurd rfl h
  have e2 : (op == CmpOp.NotIn)=false:=by cases op <;> first | rfl | exact absurd rfl h2
  cases b <;> simp [behindInMarks,e1,e2]
theorem pe_cmpR {op : CmpOp} {r : R2} (ho : OpR X (compareOp op) r) (ha : PE X a ta) (hb : PE X b tb) (hm : behindInMarks op b=false) : PE X (.Compare a [op] [b] pos) (tOp r ta tb):=by
  intro pins s σ H Q I h
  exact wpAny_Compare1 (binT ha hb I h fun v u s2 x y H2 I2 rx ry q=>ho pins s2 σ H2 x y v u Q I2 rx ry q) hm
inductive zbd (Q : (Bool→Hp→Prop)) (x : V) (H' : Hp) : Prop where
  | mk (k : _) (h0 : x = .bl k) (h1 : Q k H') : zbd Q x H'
noncomputable def tTest (t : TE) : TT:=fun σ H Q=>t σ H (zbd Q)
theorem pt_cmpR {op : CmpOp} {r : R2} (ho : OpR X (compareOp op) r) (ha : PE X a ta) (hb : PE X b tb) (hm : behindInMarks op b=false) : PT X (.Compare a [op] [b] pos) (tTest (tOp r ta tb)):=by
  intro pins s σ H Q I h
  refine wpAny_isTrue_Compare1 (thn (ha pins s σ H _ I h) fun v s1 ⟨x,H1,I1,r1,q1⟩=>thn (hb pins s1 σ H1 _ I1 q1) fun u s2 ⟨y,H2,I2,r2,q2⟩ =>
    thn (ho pins s2 σ H2 x y v u _ I2 r1 r2 q2) fun c s3 ⟨z,H3,I3,r3,k,e,q3⟩=>?_) hm
  subst e
  cases r3
  exact wpAny_truthy_bool ⟨H3,I3,q3⟩
theorem line63 : (sizeLine : Nat) < 2 ^ 63:=by rw [sizeLine_eq]; decide
inductive Xv (x : V) (y : V) (H : Hp) (Q : VK) : Prop where
  | mk (i : _) (j : _) (h0 : x = .str i) (h1 : y = .str j) (h2 : i.length + j.length≤sizeLine) (h3 : Q (.str (i ++ j)) H) : Xv x y H Q
noncomputable def zbe : R2:=Xv
theorem op_add_str : OpR X (binaryOp .Add) zbe:=by
  intro pins s σ H x y v u Q I rx ry h
  obtain ⟨i,j,rfl,rfl,hz,q⟩:=h
  obtain ⟨t,rfl⟩:=rx
  obtain ⟨t',rfl⟩:=ry
  exact add_str (fun t' tk=>⟨.str (i ++ j),H,I.tok _,⟨_,rfl⟩,q⟩) hz
theorem vals1 {x : V} {us : List Value} (r : Vals [x] us) : ∃ u,us=[u]∧RelV x u:=by
  cases r with
  | cons r1 r2=>cases r2; exact ⟨_,rfl,r1⟩
theorem vals2 {x y : V} {us : List Value} (r : Vals [x,y] us) : ∃ u w',us=[u,w']∧RelV x u∧RelV y w':=by
  cases r with
  | cons r1 r2 =>
    cases r2 with
    | cons r3 r4=>cases r4; exact ⟨_,_,rfl,r1,r3⟩
inductive ZY (xs : List V) (H : Hp) (Q : VK) : Prop where
  | mk (i : _) (h0 : xs=[.int i]) (h1 : i.natAbs.log2 < 1920) (h2 : Q (.str (toString i)) H) : ZY xs H Q
noncomputable def Jo : List V→Hp→VK→Prop:=ZY
theorem call_str_int : CallR X (.type "str") Jo:=by
  intro pins s σ H xs us Q I r h
  obtain ⟨i,rfl,hz,q⟩:=h
  obtain ⟨u,rfl,t,rfl⟩:=vals1 r
  exact PySem.P.str_of_int hz ⟨.str _,H,I.tok _,⟨_,rfl⟩,q⟩
noncomputable def LenV (K : PySem.W.Frag) (x : V) (H : Hp) (n : Nat) : Prop :=
  match x with
  | .str y=>y.length≤sizeLine∧n=y.length
  | .byt y=>y.size≤sizeLine∧n=y.size
  | .ref p=>(∃ xs,SqL K H p xs∧n=xs.length)∨∃ xs,SqT K H p xs∧n=xs.length
  | _=>False
inductive WQ (K : PySem.W.Frag) (xs : List V) (H : Hp) (Q : VK) : Prop where
  | mk (x : _) (n : _) (h0 : xs=[x]) (h1 : LenV K x H n) (h2 : Q (.int n) H) : WQ K xs H Q
noncomputable def zdc (K : PySem.W.Frag) : List V→Hp→VK→Prop:=WQ K
theorem call_len : CallR X (.builtin "len") (zdc X.K):=by
  intro pins s σ H xs us Q I r h
  obtain ⟨x,n,rfl,e,q⟩:=h
  obtain ⟨u,rfl,rx⟩:=vals1 r
  have hl:=line63
  have hs : sizeLine=16777216:=sizeLine_eq
  cases x with
  | str y =>
    obtain ⟨t,rfl⟩:=rx
    obtain ⟨hy,e'⟩ : y.length≤sizeLine∧n=y.length:=e
    subst e'
    exact len_str (by omega) ⟨.int _,H,I.tok _,⟨_,rfl⟩,q⟩
  | byt y =>
    obtain ⟨t,rfl⟩:=rx
    obtain ⟨hy,e'⟩ : y.size≤sizeLine∧n=y.size:=e
    subst e'
    exact PySem.W.len_bytes (by omega) ⟨.int _,H,I.tok _,⟨_,rfl⟩,q⟩
  | ref p =>
    cases rx
    have e' : (∃ xs,SqL X.K H p xs∧n=xs.length)∨∃ xs,SqT X.K H p xs∧n=xs.length:=e
    rcases e' with ⟨xs,hx,e'⟩ | ⟨xs,hx,e'⟩
    · subst e'
      obtain ⟨its,r',pl,hz⟩:=I.list hx
      have hlen:=r'.length
      exact Calls.call_len_list pl.isList (by simp only [List.size_toArray]; omega) ⟨.int xs.length,H,I.tok _,⟨_,by simp only [List.size_toArray]; rw [hlen]⟩,q⟩
    · subst e'
      obtain ⟨its,r',pl,hz⟩:=I.tuple hx
      have hlen:=r'.length
      exact len_tuple pl (by simp only [List.size_toArray]; omega) ⟨.int xs.length,H,I.tok _,⟨_,by simp only [List.size_toArray]; rw [hlen]⟩,q⟩
  | _=>exact (show False from e).elim
end
end L2
namespace L2
open PySem PySem.Spec PyProof.Rows
structure ObjM (h : Heap) (x dx C : Addr) (mA : Str→Option Value) : Prop where
  obj : h.get? x=some (PySem.W.instObj C dx)
  ns : h.Ns1 dx mA
  ne : dx≠x
theorem lookIn_ns {h : Heap} {dx : Addr} {mA : Str→Option Value} (n : h.Ns1 dx mA) : ∃ od,h.get? dx=some od∧∀ name,PySem.W.lookIn name od=some (mA name):=by
  obtain ⟨o,es,ep,ho,hd,hk,zz,hm⟩:=n
  refine ⟨o,ho,fun name=>?_⟩
  have e:=hm name
  unfold nsFind findBy at e
  rw [← Array.find?_toList] at e
  unfold PySem.W.lookIn
  rw [hd]
  dsimp only
  split
  · rename_i y q
    rw [q] at e
    exact congrArg some e
  · rename_i q
    rw [q] at e
    have a : es.toList.any (·.refKey)=false:=by
      rw [List.any_eq_false]
      intro y hy
      obtain ⟨z,t,hkey⟩:=hk y (Array.mem_toList_iff.mp hy)
      simp [DictEntry.refKey,hkey]
    have a' : ¬ es.toList.any (·.refKey)=true:=by rw [a]; exact Bool.false_ne_true
    rw [if_neg a']
    exact congrArg some e
theorem ObjM.look {h : Heap} {x dx C : Addr} {mA : Str→Option Value} (I : ObjM h x dx C mA) : ∃ od,PySem.W.InstAt h x (PySem.W.instObj C dx) C (some od)∧∀ name,PySem.W.lookIn name od=some (mA name) :=
  let ⟨od,ho,hl⟩:=lookIn_ns I.ns
  ⟨od,⟨I.obj,rfl,rfl,ho⟩,hl⟩
section
variable {prog : Program} {w : World} {A : Around} {E : Value→Shared→Prop} {s : Shared} {K : PySem.W.Frag} {x dx C f : Addr} {mA : Str→Option Value} {name : Str} {v : Value}
theorem get_map {expr : Bool} {Q : Value→Shared→Prop} (X : K.In s.heap) (I : ObjM s.heap x dx C mA) (hg : PySem.W.plainGet K C name=true) (hh : PySem.W.hasDictIn K C=true)
    (ha : PySem.W.findIn K (.ref C) name=some none) (hv : mA name=some v) (hv' : PySem.W.handedIn v=true) (h : Q v { s with toks:=s.toks + 1 }) :
    wpAny (model prog w) A (getAttr (.ref x) name expr) Q E s:=by
  obtain ⟨od,J,hl⟩:=I.look
  exact PySem.W.get_value X J (PySem.W.plainGet_of hg).1 (PySem.W.findObj_own hh ha rfl (by rw [hl,hv])) hv' h
theorem get_meth {pl : Sem Bool} {Q : Value × List Value→Shared→Prop} (X : K.In s.heap) (I : ObjM s.heap x dx C mA) (hg : PySem.W.plainGet K C name=true)
    (hf : PySem.W.findIn K (.ref C) name=some (some (.ref f))) (ht : PySem.W.isFn K (.ref f)=true) (hv : mA name=none) (h : Q (.ref f,[.ref x]) s) :
    wpAny (model prog w) A (getMethod (.ref x) name pl) Q E s:=by
  obtain ⟨od,J,hl⟩:=I.look
  exact PySem.W.method_fn X J (PySem.W.plainGet_of hg).1 (PySem.W.plainGet_of hg).2 hf (beq_iff_eq.mp ht) (by show (PySem.W.lookIn name od).map (·.isSome)=some false; rw [hl,hv]; rfl) h
theorem set_map {ns : List Str} {Q : Unit→Shared→Prop} (X : K.In s.heap) (I : ObjM s.heap x dx C mA)
    (hs : PySem.W.findIn K (.ref C) "__setattr__"=some (some (.builtin "object.__setattr__"))) (hp : PySem.W.plainOver K C=true) (ht : PySem.W.takerIn K C name=some none) (hh : PySem.W.hasDictIn K C=true)
    (hw : PySem.Within mA ns) (hsz : ns.length≤sizeLine)
    (h : ∀ h',ObjM h' x dx C (fun y=>if y=name then some v else mA y)→Heap.SameBut dx s.heap h'→Q () { s with heap:=h',toks:=s.toks + 2 }) :
    wpAny (model prog w) A (setAttr (.ref x) name v) Q E s:=by
  obtain ⟨od,J,hl⟩:=I.look
  refine PySem.W.set_plain X J hs (PySem.W.osa_open (s:={ s with toks:=s.toks + 1 }) (r:=none) X J hp ht fun b=>?_)
  obtain ⟨cd,hc,hd'⟩:=PySem.W.any_some hh
  have hx : s.heap.get? x=some ⟨.ref C,some dx,.plain,#[]⟩:=I.obj
  refine wpAny_bind (wpAny_pure (wpAny_bind (wpAny_bind (wpAny_loadPart hx (wpAny_bind (PySem.W.Looks.here (s:={ s with toks:=s.toks + 1 }) (PySem.W.looks_clsIn X hc) ?_))))))
  rw [hd']
  refine wpAny_pure (a:=some dx) (wpAny_bind (wpAny_pure (wpAny_bind ?_)))
  refine wpAny_nsSet1 (s:={ s with toks:=s.toks + 1 }) I.ns fun h' hn2 hs2=>?_
  obtain ⟨oD,esD,epD,hoD,hdD,hcD⟩:=hn2.count (PySem.Within.cons name v hw)
  refine wpAny_bind (wpAny_lookBehind hoD (by rw [hdD]; exact pastItsLine_dict (Nat.le_trans hcD (by rw [List.length_cons]; omega))) ?_)
  exact wpAny_pure (h _ ⟨(hs2.2 _ (Ne.symm I.ne)).trans I.obj,hn2,I.ne⟩ hs2)
theorem make_map {R : Result→Shared→Prop} {vs : List Value} {kw : List (Str × Value)} (X : K.In s.heap) (hm : PySem.W.makesIn K C=true)
    (hi : PySem.W.findIn K (.ref C) "__init__"=some (some (.ref f))) (hf : PySem.W.typeIn K (.ref f)=some (.type "function"))
    (h : codeAny (model prog w) (A.under (.builtin "type.__call__" ⟨.ref C :: vs,kw⟩)) (.call (.ref f) ⟨.ref (s.heap.objs.size + 1) :: vs,kw⟩) (PySem.W.InitBack (s.heap.objs.size + 1) R)
      { s with heap:=(s.heap.push PySem.W.emptyDict).push (PySem.W.instObj C s.heap.objs.size) }) :
    codeAny (model prog w) A (.call (.ref C) ⟨vs,kw⟩) R s:=by
  obtain ⟨hh,g,d,t,os⟩:=s
  exact PySem.W.make_core (PySem.W.makes_of X hm) (PySem.W.looks_findIn X hi) (fun self=>PySem.W.bind_fn X self hf) (.inl rfl) h
end
noncomputable def putF (f : Str) (v : V) : List (Str × V)→List (Str × V)
  | []=>[(f,v)]
  | (g,x) :: r=>if g=f then (g,v) :: r else (g,x) :: putF f v r
theorem lookup_putF (f g : Str) (v : V) : ∀ fs : List (Str × V),(putF f v fs).lookup g=if g=f then some v else fs.lookup g
  | []=>by
    show List.lookup g [(f,v)]=_
    by_cases h : g=f
    · have hb : (g == f)=true:=beq_iff_eq.mpr h
      simp only [List.lookup,hb,if_pos h]
    · have hb : (g == f)=false:=beq_eq_false_iff_ne.mpr h
      simp only [List.lookup,hb,if_neg h]
  | (k,x) :: r=>by
    have ih:=lookup_putF f g v r
    rw [show putF f v ((k,x) :: r)=(if k=f then (k,v) :: r else (k,x) :: putF f v r) from rfl]
    by_cases hk : k=f
    · rw [if_pos hk]
      by_cases h : g=k
      · have hb : (g == k)=true:=beq_iff_eq.mpr h
        simp only [List.lookup,hb,if_pos (h.trans hk)]
      · have hb : (g == k)=false:=beq_eq_false_iff_ne.mpr h
        simp only [List.lookup,hb,if_neg (fun e : g=f=>h (e.trans hk.symm))]
    · rw [if_neg hk]
      by_cases h : g=k
      · have hb : (g == k)=true:=beq_iff_eq.mpr h
        simp only [List.lookup,hb,if_neg (fun e : g=f=>hk (h.symm.trans e))]
      · have hb : (g == k)=false:=beq_eq_false_iff_ne.mpr h
        simp only [List.lookup,hb]
        exact ih
theorem keys_putF (f : Str) (v : V) : ∀ fs : List (Str × V),f∈(putF f v fs).map (·.1)∧∀ g,g∈fs.map (·.1)→g∈(putF f v fs).map (·.1)
  := by
  intro fs
  induction fs with
  | nil=>exact ⟨by simp [putF],fun g h=>by simp at h⟩
  | cons kx r ih =>
    obtain ⟨k,x⟩:=kx
    obtain ⟨i1,i2⟩:=ih
    rw [show putF f v ((k,x) :: r)=(if k=f then (k,v) :: r else (k,x) :: putF f v r) from rfl]
    by_cases hk : k=f
    · rw [if_pos hk]
      subst hk
      exact ⟨by simp,fun g h=>by simpa using h⟩
    · rw [if_neg hk]
      refine ⟨?_,fun g h=>?_⟩
      · rw [List.map_cons]
        exact List.mem_cons_of_mem _ i1
      · rw [List.map_cons] at h ⊢
        rcases List.mem_cons.mp h with e | e
        · exact List.mem_cons.mpr (.inl e)
        · exact List.mem_cons_of_mem _ (i2 g e)
theorem length_putF (f : Str) (v : V) : ∀ fs : List (Str × V),(putF f v fs).length≤fs.length + 1
  | []=>by simp [putF]
  | (k,x) :: r=>by
    have ih:=length_putF f v r
    rw [show putF f v ((k,x) :: r)=(if k=f then (k,v) :: r else (k,x) :: putF f v r) from rfl]
    by_cases hk : k=f
    · rw [if_pos hk,List.length_cons,List.length_cons]; omega
    · rw [if_neg hk,List.length_cons,List.length_cons]; omega
theorem RelO.some_of {v : V} {o : Option Value} (r : RelO (some v) o) : ∃ u,o=some u∧RelV v u:=by
  cases o with
  | none=>exact (show False from r).elim
  | some u=>exact ⟨u,rfl,r⟩
theorem RelO.none_of {o : Option Value} (r : RelO none o) : o=none:=by
  cases o with
  | none=>rfl
  | some u=>exact (show False from r).elim
theorem handed_of {v : V} {u : Value} (r : RelV v u) : PySem.W.handedIn u=true:=by
  cases v with
  | non=>cases (show u=Value.none from r); rfl
  | bl b=>cases (show u=Value.bool b from r); rfl
  | int i=>obtain ⟨t,e⟩:=(show ∃ t,u=Value.int i t from r); cases e; rfl
  | str x=>obtain ⟨t,e⟩:=(show ∃ t,u=Value.str x t from r); cases e; rfl
  | byt b=>obtain ⟨t,e⟩:=(show ∃ t,u=Value.bytes b t from r); cases e; rfl
  | flt b=>obtain ⟨t,e⟩:=(show ∃ t,u=Value.float b t from r); cases e; rfl
  | ref a=>cases (show u=Value.ref a from r); rfl
  | ty n=>cases (show u=Value.type n from r); rfl
section
variable {P : Program} {w : World} {H H' : Hp} {h h' : Heap} {a C dx : Addr} {fs fs' : List (Str × V)}
theorem ins_get (hok : HOk P w H h) (e : H a=some (.ins C dx fs)) : ∃ mA,ObjM h a dx C mA∧(∀ f,RelO (fs.lookup f) (mA f))∧PySem.Within mA (fs.map (·.1))∧fs.length≤1000∧H dx=some (.own a):=by
  obtain ⟨d,z,ne,ob,mA,n,r,q⟩:=(show ObjOk P w H h a (.ins C dx fs) from hok a _ e)
  exact ⟨mA,⟨ob,n,ne⟩,r,q,z,d⟩
end
structure Cls (K : PySem.W.Frag) (C : Addr) : Prop where
  pg : PySem.W.plainGet K C Str.empty=true
  hd : PySem.W.hasDictIn K C=true
  po : PySem.W.plainOver K C=true
  sa : PySem.W.findIn K (.ref C) "__setattr__"=some (some (.builtin "object.__setattr__"))
theorem Cls.get {K : PySem.W.Frag} {C : Addr} (c : Cls K C) (f : Str) : PySem.W.plainGet K C f=true:=c.pg
noncomputable def NoAttr (K : PySem.W.Frag) (C : Addr) (f : Str) : Prop:=PySem.W.findIn K (.ref C) f=some none
theorem NoAttr.taker {K : PySem.W.Frag} {C : Addr} {f : Str} (n : NoAttr K C f) : PySem.W.takerIn K C f=some none:=by
  unfold PySem.W.takerIn
  rw [show PySem.W.findIn K (.ref C) f=some none from n]
  rfl
structure Con (K : PySem.W.Frag) (C : Addr) (f : Str) (v : V) (u : Value) : Prop where
  at_ : PySem.W.findIn K (.ref C) f=some (some u)
  rel : RelV v u
  get : PySem.W.specialIn K u "__get__"=some none
  cp : PySem.W.copiedNames.contains f=false
structure Meth (K : PySem.W.Frag) (C : Addr) (m : Str) (f : Addr) : Prop where
  at_ : PySem.W.findIn K (.ref C) m=some (some (.ref f))
  fn : PySem.W.isFn K (.ref f)=true
  kp : PySem.W.keepIn K (.ref f)=true
section
variable {X : Cx} {pins : List (Addr × Obj)} {σ : St} {H : Hp} {s : Shared} {a C dx : Addr} {fs : List (Str × V)} {f : Str} {v : V} {A : Around} {E : Value→Shared→Prop}
theorem getattr_ok {b : Bool} {Q : Value→Shared→Prop} (I : Inv X pins σ H s) (e : H a=some (.ins C dx fs)) (c : Cls X.K C) (n : NoAttr X.K C f) (l : fs.lookup f=some v)
    (h : ∀ u s',Inv X pins σ H s'→RelV v u→Q u s') : wpAny (model X.prog X.w) A (getAttr (.ref a) f b) Q E s:=by
  obtain ⟨mA,O,r,zz,zz,zz⟩:=ins_get I.hok e
  obtain ⟨u,hu,ru⟩:=RelO.some_of (v:=v) (o:=mA f) (by rw [← l]; exact r f)
  exact get_map I.kIn O (c.get f) c.hd n hu (handed_of ru) (h u _ (I.tok _) ru)
theorem getmeth_ok {m : Str} {g : Addr} {pl : Sem Bool} {Q : Value × List Value→Shared→Prop} (I : Inv X pins σ H s) (e : H a=some (.ins C dx fs)) (c : Cls X.K C) (k : Meth X.K C m g) (l : fs.lookup m=none)
    (h : Q (.ref g,[.ref a]) s) : wpAny (model X.prog X.w) A (getMethod (.ref a) m pl) Q E s:=by
  obtain ⟨mA,O,r,zz,zz,zz⟩:=ins_get I.hok e
  have hn : mA m=none:=RelO.none_of (by rw [← l]; exact r m)
  exact get_meth I.kIn O (c.get m) k.at_ k.fn hn h
theorem setattr_ok {y : V} {u : Value} {Q : Unit→Shared→Prop} (I : Inv X pins σ H s) (e : H a=some (.ins C dx fs)) (c : Cls X.K C) (n : NoAttr X.K C f) (hl : fs.length < 1000) (ry : RelV y u)
    (h : ∀ s',Inv X pins σ (upd H a (.ins C dx (putF f y fs))) s'→Q () s') : wpAny (model X.prog X.w) A (setAttr (.ref a) f u) Q E s:=by
  obtain ⟨mA,O,r,wi,zz,ho⟩:=ins_get I.hok e
  have hz : (fs.map (·.1)).length≤sizeLine:=by rw [List.length_map,sizeLine_eq]; omega
  refine set_map I.kIn O c.sa c.po n.taker c.hd wi hz fun h' O' sb=>h _ ?_
  have hd : ∃ o,h'.get? dx=some o:=let ⟨o,_,_,e',_⟩:=O'.ns; ⟨o,e'⟩
  refine I.write (x:=a) (e:=dx) (by rw [e]; exact True.intro) (.inr ho) (fun b q hb z=>(sb.2 b hb).trans z) hd ?_
  refine ⟨by rw [upd_ne O.ne]; exact ho,?_,O.ne,O'.obj,_,O'.ns,fun g=>?_,fun g hg=>?_⟩
  · have:=length_putF f y fs; omega
  · show RelO ((putF f y fs).lookup g) (if g=f then some u else mA g)
    rw [lookup_putF]
    by_cases q : g=f
    · rw [if_pos q,if_pos q]; exact ry
    · rw [if_neg q,if_neg q]; exact r g
  · by_cases q : g=f
    · rw [q]; exact (keys_putF f y fs).1
    · refine (keys_putF f y fs).2 g (wi g fun z=>hg ?_)
      show (if g=f then some u else mA g)=none
      rw [if_neg q]; exact z
theorem Inv.made (I : Inv X pins σ H s) : Inv X pins σ (upd (upd H s.heap.objs.size (.own (s.heap.objs.size + 1))) (s.heap.objs.size + 1) (.ins C s.heap.objs.size []))
    { s with heap:=(s.heap.push PySem.W.emptyDict).push (PySem.W.instObj C s.heap.objs.size) }:=by
  have e1 : (s.heap.push PySem.W.emptyDict).get? s.heap.objs.size=some PySem.W.emptyDict:=Heap.get?_push_size s.heap rfl
  have e2 : ((s.heap.push PySem.W.emptyDict).push (PySem.W.instObj C s.heap.objs.size)).get? (s.heap.objs.size + 1)=some (PySem.W.instObj C s.heap.objs.size):=by
    have:=Heap.get?_push_size (s.heap.push PySem.W.emptyDict) (o:=PySem.W.instObj C s.heap.objs.size) rfl
    rwa [Heap.size_push] at this
  have e3 : (s.heap.push PySem.W.emptyDict).Ns s.heap.objs.size (fun zz=>none):=⟨PySem.W.emptyDict,#[],_,e1,rfl,(fun e he=>absurd he (by simp)),fun zz=>rfl⟩
  have I1:=I.laid (a:=s.heap.objs.size) (o := .own (s.heap.objs.size + 1)) (h':=s.heap.push PySem.W.emptyDict) (t':=s.toks) (fun b u q=>Heap.get?_push_of_some _ q) (Nat.le_refl _) ⟨_,e1⟩
  refine I1.laid (a:=s.heap.objs.size + 1) (o := .ins C s.heap.objs.size []) (t':=s.toks) (fun b u q=>Heap.get?_push_of_some _ q) (Nat.le_of_eq (Heap.size_push _ _)) ?_
  have ne : s.heap.objs.size≠s.heap.objs.size + 1:=Nat.ne_of_lt (Nat.lt_succ_self _)
  refine ⟨by rw [upd_ne ne,upd_same],Nat.zero_le _,ne,e2,fun zz=>none,(Heap.Ns1.of_empty e3).at fun o q=>Heap.get?_push_of_some _ q,fun zz=>True.intro,fun y hy=>absurd rfl hy⟩
theorem attr_of {prog : Program} {w : World} {env : Env} {e : Expr} {f : Str} {pos : Pos} {s : Shared} {Q : Value→Shared→Prop} (hb : attributeBase e f env (eval e env)=eval e env)
    (h : wpAny (model prog w) A (eval e env) (fun o s₁=>wpAny (model prog w) A (getAttr o f true) Q E s₁) E s) : wpAny (model prog w) A (eval (.Attribute e f pos) env) Q E s :=
  Attribute_any_ h (by rw [arm_eval_Attribute,hb])
end
inductive zcR (K : PySem.W.Frag) (f : Str) (Q : VK) (x : V) (H1 : Hp) : Prop where
  | mk (a : _) (C : _) (dx : _) (fs : _) (v : _) (h0 : x = .ref a) (h1 : H1 a=some (.ins C dx fs)) (h2 : Cls K C) (h3 : NoAttr K C f) (h4 : fs.lookup f=some v) (h5 : Q v H1) : zcR K f Q x H1
noncomputable def tFld (K : PySem.W.Frag) (ta : TE) (f : Str) : TE:=fun σ H Q=>ta σ H (zcR K f Q)
inductive zcS (K : PySem.W.Frag) (f : Str) (D : Ends) (σ : L2.St) (y : V) (x : V) (H2 : Hp) : Prop where
  | mk (a : _) (C : _) (dx : _) (fs : _) (h0 : x = .ref a) (h1 : H2 a=some (.ins C dx fs)) (h2 : Cls K C) (h3 : NoAttr K C f) (h4 : fs.length < 1000) (h5 : D.nx σ (upd H2 a (.ins C dx (putF f y fs)))) : zcS K f D σ y x H2
noncomputable def zhM (K : PySem.W.Frag) (ta : TE) (f : Str) (D : Ends) (σ : L2.St):=fun (y : V) (H1 : Hp)=>ta σ H1 (zcS K f D σ y)
noncomputable def sFld (K : PySem.W.Frag) (ta tv : TE) (f : Str) : TS:=fun D σ H=>tv σ H (zhM K ta f D σ)
section
variable {X : Cx} {o e value : Expr} {f : Str} {pos pos' tpos : Pos} {ta tv : TE}
theorem pe_fld (he : PE X e ta) (hb : attributeBase e f X.env (eval e X.env)=eval e X.env) : PE X (.Attribute e f pos) (tFld X.K ta f):=by
  intro pins s σ H Q I h
  refine attr_of hb (thn (he pins s σ H _ I h) fun u s1 ⟨x,H1,I1,rx,a,C,dx,fs,v,ex,ea,c,n,l,q⟩=>?_)
  subst ex
  obtain rfl : u=Value.ref a:=rx
  exact getattr_ok I1 ea c n l fun u' s2 I2 ru=>⟨v,H1,I2,ru,q⟩
theorem ps_fld (ha : PE X o ta) (hv : PE X value tv) (hs : swapsWith value (some (.Attribute o f pos')) pos.line X.env=pure false) : PS X (.Assign [.Attribute o f pos'] value pos) (sFld X.K ta tv f):=by
  intro pins s σ H D I h
  refine plainObj_wpAny_Assign_Attribute (thn (hv pins s σ H _ I h) fun u s1 ⟨y,H1,I1,ry,q⟩=>thn (ha pins s1 σ H1 _ I1 q) fun ov s2 ⟨x,H2,I2,rx,a,C,dx,fs,ex,ea,c,n,l,q2⟩=>?_) hs
  subst ex
  obtain rfl : ov=Value.ref a:=rx
  exact setattr_ok I2 ea c n l ry fun s3 I3=>⟨σ,_,I3,q2⟩
end
section
variable {X : Cx} {pins : List (Addr × Obj)} {σ : St} {H : Hp} {s : Shared} {A : Around} {E : Value→Shared→Prop} {Q : Value→Shared→Prop} {c : Value} {b : Bool}
inductive TyOf (K : PySem.W.Frag) (H : Hp) : V→Value→Prop where
  | non : TyOf K H .non (.type "NoneType")
  | bl (x : Bool) : TyOf K H (.bl x) (.type "bool")
  | int (i : Int) : TyOf K H (.int i) (.type "int")
  | str (x : Str) : TyOf K H (.str x) (.type "str")
  | flt (x : UInt64) : TyOf K H (.flt x) (.type "float")
  | lst {a : Addr} {xs : List V} (e : H a=some (.lst xs)) : TyOf K H (.ref a) (.type "list")
  | frz {a : Addr} {o : Obj} {xs : List V} (e : H a=some (.frz o (.lst xs))) : TyOf K H (.ref a) (.type "list")
  | tup {a : Addr} {xs : List V} (e : H a=some (.tup xs)) : TyOf K H (.ref a) (.type "tuple")
  | dK {a : Addr} {kvs : List (Key × V)} (e : H a=some (.dK kvs)) : TyOf K H (.ref a) (.type "dict")
  | dT {a : Addr} {kvs : List (List Key × V)} (e : H a=some (.dT kvs)) : TyOf K H (.ref a) (.type "dict")
  | ins {a C dx : Addr} {fs : List (Str × V)} (e : H a=some (.ins C dx fs)) (cl : Cls K C) (ha : PySem.W.findIn K (.ref C) "__class__"=some (some (.builtin "object.__class__")))
      (hn : PySem.W.specialIn K (.builtin "object.__class__") "__get__"=some (some (.builtin "getset_descriptor.__get__"))) (htk : PySem.W.takesIn K (.builtin "object.__class__")=some true)
      (hm : PySem.W.mroIn K C (.type "object")=some true) : TyOf K H (.ref a) (.ref C)
theorem isinst_ok {x : V} {u t : Value} (I : Inv X pins σ H s) (rx : RelV x u) (ty : TyOf X.K H x t) (e : PySem.W.kitOne X.K t c=some b) (h : ∀ tk,Q (.bool b) { s with toks:=tk }) :
    wpAny (model X.prog X.w) A (call (.builtin "isinstance") [u,c]) Q E s:=by
  cases ty with
  | non=>cases (show u=Value.none from rx); exact PySem.W.kia_one PySem.W.kitx_none I.kIn True.intro e (fun z=>nomatch z) h
  | bl y=>cases (show u=Value.bool y from rx); exact PySem.W.kia_one PySem.W.kitx_bool I.kIn True.intro e (fun z=>nomatch z) h
  | int i=>obtain ⟨t,q⟩:=(show ∃ t,u=Value.int i t from rx); cases q; exact PySem.W.kia_one PySem.W.kitx_int I.kIn True.intro e (fun z=>nomatch z) h
  | str y=>obtain ⟨t,q⟩:=(show ∃ t,u=Value.str y t from rx); cases q; exact PySem.W.kia_one PySem.W.kitx_str I.kIn True.intro e (fun z=>nomatch z) h
  | flt y=>obtain ⟨t,q⟩:=(show ∃ t,u=Value.float y t from rx); cases q; exact PySem.W.kia_one PySem.W.kitx_float I.kIn True.intro e (fun z=>nomatch z) h
  | @lst a xs ea =>
    cases (show u=Value.ref a from rx)
    obtain ⟨zz,zz,n,zz,h1⟩:=(show ObjOk X.prog X.w H s.heap a (.lst xs) from I.hok a _ ea)
    exact PySem.W.kia_one PySem.W.kitx_list I.kIn ⟨_,h1,rfl⟩ e (fun z=>nomatch z) h
  | @frz a ob xs ea =>
    cases (show u=Value.ref a from rx)
    obtain ⟨zz,zz,zz,n,zz,h1⟩:=(show ObjOk X.prog X.w H s.heap a (.frz ob (.lst xs)) from I.hok a _ ea)
    exact PySem.W.kia_one PySem.W.kitx_list I.kIn ⟨_,h1,rfl⟩ e (fun z=>nomatch z) h
  | @tup a xs ea =>
    cases (show u=Value.ref a from rx)
    obtain ⟨zz,zz,zz,p⟩:=(show ObjOk X.prog X.w H s.heap a (.tup xs) from I.hok a _ ea)
    obtain ⟨o,h1,h2,zz⟩:=p
    exact PySem.W.kia_one PySem.W.kitx_tuple I.kIn ⟨o,h1,h2⟩ e (fun z=>nomatch z) h
  | @dK a kvs ea =>
    cases (show u=Value.ref a from rx)
    obtain ⟨zz,zz,vs,zz,p⟩:=(show ObjOk X.prog X.w H s.heap a (.dK kvs) from I.hok a _ ea)
    obtain ⟨o,es,ep,h1,h2,zz⟩:=p
    exact PySem.W.kia_one PySem.W.kitx_dict I.kIn ⟨o,h1,h2.1⟩ e (fun z=>nomatch z) h
  | @dT a kvs ea =>
    cases (show u=Value.ref a from rx)
    obtain ⟨zz,zz,xs,zz,o,es,ep,h1,h2,zz⟩:=(show ObjOk X.prog X.w H s.heap a (.dT kvs) from I.hok a _ ea)
    exact PySem.W.kia_one PySem.W.kitx_dict I.kIn ⟨o,h1,h2.1⟩ e (fun z=>nomatch z) h
  | @ins a C dx fs ea cl ha hn htk hm =>
    cases (show u=Value.ref a from rx)
    obtain ⟨mA,O,zz⟩:=ins_get I.hok ea
    obtain ⟨od,J,zz⟩:=O.look
    exact PySem.W.kia_one (PySem.W.kitx_own (cl.get _) cl.hd ha hn htk hm) I.kIn J e (fun z=>nomatch z) h
end
end L2
namespace L2
open PySem PySem.Spec PyProof.Rows
structure Room (k : Nat) (A : Around) : Prop where
  hd : A.handled=none
  dp : A.depth + 3 * k + 5 < recursionLimit
  un : A.units + 16 * k + 200 < cLine
theorem Room.mono {j k : Nat} {A : Around} (r : Room k A) (h : j≤k) : Room j A:=⟨r.hd,by have:=r.dp; omega,by have:=r.un; omega⟩
theorem Room.deeper {k : Nat} {A : Around} (r : Room (k + 1) A) (env : Env) : Room k (A.deeper env) :=
  ⟨r.hd,by have:=r.dp; show A.depth + 1 + 3 * k + 5 < _; omega,by have:=r.un; show A.units + 3 + 16 * k + 200 < _; omega⟩
theorem Room.in1 {k : Nat} {A : Around} (r : Room (k + 1) A) : Room k A.in1 :=
  ⟨r.hd,by have:=r.dp; show A.depth + 3 * k + 5 < _; omega,by have:=r.un; show A.units + 1 + 16 * k + 200 < _; omega⟩
theorem make_depth {A : Around} {C : Addr} {us : List Value} {kw : List (Str × Value)} : (A.under (.builtin "type.__call__" ⟨.ref C :: us,kw⟩)).depth=A.depth + 1:=by
  first | rfl | simp [Around.under,Code.weight,Code.isCreation,Code.isGuard,Code.isCaller,Code.frames,Code.isFrame,guardIds]
theorem make_units {A : Around} {C : Addr} {us : List Value} {kw : List (Str × Value)} : (A.under (.builtin "type.__call__" ⟨.ref C :: us,kw⟩)).units=A.units + 1:=by
  first | rfl | simp [Around.under,Code.cUnits,Code.frames,Code.isFrame]
theorem Room.make {k : Nat} {A : Around} (r : Room (k + 1) A) (C : Addr) (us : List Value) (kw : List (Str × Value)) : Room k (A.under (.builtin "type.__call__" ⟨.ref C :: us,kw⟩)) :=
  ⟨r.hd,by have:=r.dp; rw [make_depth]; omega,by have:=r.un; rw [make_units]; omega⟩
theorem Room.depth {k : Nat} {A : Around} (r : Room k A) : A.depth < recursionLimit:=by have:=r.dp; omega
theorem Room.units {k : Nat} {A : Around} (r : Room k A) : A.units + 64 < cLine:=by have:=r.un; omega
noncomputable def tNil : TA:=fun zz H Q=>Q [] H
noncomputable def zf1 (Q : (List V→Hp→Prop)) (x : V):=fun (xs : List V) (H2 : Hp)=>Q (x :: xs) H2
noncomputable def zf2 (tr : TA) (σ : L2.St) (Q : (List V→Hp→Prop)):=fun (x : V) (H1 : Hp)=>tr σ H1 (zf1 Q x)
noncomputable def tCons (ta : TE) (tr : TA) : TA:=fun σ H Q=>ta σ H (zf2 tr σ Q)
section
variable {X : Cx} {e : Expr} {es : List Expr} {te : TE} {t : TA} {pos : Pos}
theorem pa_nil : PA X [] tNil:=fun zz zz zz zz H Q I h=>Calls.spliced_nil ⟨[],H,I,.nil,h⟩
theorem pa_cons (ha : PE X e te) (hr : PA X es t) (hs : autoParam (starEach (e :: es) X.env=(false,eval e X.env) :: starEach es X.env) L23.a1._auto_1) : PA X (e :: es) (tCons te t):=by
  intro pos pins s σ H Q I h
  rw [hs]
  show wpAny _ _ (spliced ((false,eval e X.env) :: backTo pos (starEach es X.env))) _ _ s
  refine Calls.spliced_cons (thn (ha pins s σ H _ I h) fun u s1 ⟨x,H1,I1,r1,q1⟩=>?_)
  exact thn (hr pos pins s1 σ H1 _ I1 q1) fun us s2 ⟨xs,H2,I2,r2,q2⟩=>⟨x :: xs,H2,I2,.cons r1 r2,q2⟩
noncomputable def zhN (Q : VK):=fun (xs : List V) (H1 : Hp)=>xs.length≤sizeLine∧∀ p,H1 p=none→Q (.ref p) (upd H1 p (.tup xs))
noncomputable def tTup (t : TA) : TE:=fun σ H Q=>t σ H (zhN Q)
noncomputable def zhO (Q : VK):=fun (xs : List V) (H1 : Hp)=>xs.length≤sizeLine∧∀ p,H1 p=none→Q (.ref p) (upd H1 p (.lst xs))
noncomputable def tLst (t : TA) : TE:=fun σ H Q=>t σ H (zhO Q)
theorem pe_tup {x1} (h : PA X es t) : PE X (.Tuple es x1 pos) (tTup t):=by
  intro pins s σ H Q I hq
  refine wpAny_Tuple_spliced (thn (h pos pins s σ H _ I hq) fun us s1 ⟨xs,H1,I1,r,z,q⟩=>⟨by rw [← r.length]; exact z,?_⟩)
  have hf : H1 s1.heap.objs.size=none:=I1.hok.fresh (Nat.le_refl _)
  refine ⟨.ref s1.heap.objs.size,upd H1 s1.heap.objs.size (.tup xs),I1.laid (t':=s1.toks) (fun b u e=>Heap.get?_push_of_some _ e) (Nat.le_refl _) ?_,rfl,q _ hf⟩
  exact ⟨z,us,r,⟨_,Heap.get?_push_size _ rfl,rfl,_,rfl⟩⟩
theorem pe_lst (h : PA X es t) : PE X (.List es pos) (tLst t):=by
  intro pins s σ H Q I hq
  refine wpAny_List_spliced (thn (h pos pins s σ H _ I hq) fun us s1 ⟨xs,H1,I1,r,z,q⟩=>⟨by rw [← r.length]; exact z,?_⟩)
  have hf : H1 s1.heap.objs.size=none:=I1.hok.fresh (Nat.le_refl _)
  refine ⟨.ref s1.heap.objs.size,upd H1 s1.heap.objs.size (.lst xs),I1.laid (t':=s1.toks) (fun b u e=>Heap.get?_push_of_some _ e) (Nat.le_refl _) ?_,rfl,q _ hf⟩
  exact ⟨z,us,0,r,Heap.get?_push_size _ rfl⟩
end
noncomputable abbrev Sp:=List V→Hp→VK→XK→Prop
noncomputable abbrev CXT:=List Env→Hp→Shared→XK→Value→Shared→Prop
structure Env0 (P : Program) (w : World) (K : PySem.W.Frag) (mg : Str→Option Value) (base : Heap) (A : Around) (outer : List Env) (s : Shared) (H : Hp) : Prop where
  frames : A.frames=some outer
  mod : Mod K mg base
  bs : ∀ b o,base.get? b=some o→s.heap.get? b=some o∧H b=none
  bsz : base.objs.size≤s.heap.objs.size
  funs : s.heap.FunFrames base outer
  frf : ∀ b∈frs outer,H b=none
  hok : HOk P w H s.heap
  bare : AllBare s.gens
noncomputable def CE (outer : List Env) (P : Program) (w : World) (H : Hp) (s : Shared) (Q : VK) (u : Value) (s' : Shared) : Prop :=
  ∃ v H',s'.os=s.os∧AllBare s'.gens∧Un (frs outer) [] H H' s.heap s'.heap∧HOk P w H' s'.heap∧RelV v u∧Q v H'
noncomputable def CR (CX : CXT) (outer : List Env) (P : Program) (w : World) (H : Hp) (s : Shared) (Q : VK) (E : XK) (r : Result) (s' : Shared) : Prop :=
  match r with
  | .ok (.ret u)=>CE outer P w H s Q u s'
  | .ok _=>False
  | .error e=>CX outer H s E e s'
structure FnOk (P : Program) (w : World) (K : PySem.W.Frag) (mg : Str→Option Value) (base : Heap) (CX : CXT) (k : Nat) (f : Addr) (fd : FuncData) (ps : List Str) (sp : Sp) : Prop where
  len : ∀ vs H Q E,sp vs H Q E→vs.length=ps.length
  run : ∀ (A : Around) (outer : List Env) (s : Shared) (H : Hp) (args : Args) (us : List Value) (vs : List V) (Q : VK) (E : XK),Room k A→Env0 P w K mg base A outer s H→BindsTo s fd args (ps.zip us)→Vals vs us→sp vs H Q E →
    codeAny (model P w) A (.call (.ref f) args) (CR CX outer P w H s Q E) s
theorem Env0.make {P : Program} {w : World} {K : PySem.W.Frag} {mg : Str→Option Value} {base : Heap} {A : Around} {outer : List Env} {s : Shared} {H : Hp} (e : Env0 P w K mg base A outer s H) (C : Addr) (us : List Value) (kw : List (Str × Value)) :
    Env0 P w K mg base (A.under (.builtin "type.__call__" ⟨.ref C :: us,kw⟩)) outer s H:=⟨by first | exact e.frames | (simpa [Around.under,Code.envs,Code.isFrame,pushEnvs] using e.frames),e.mod,e.bs,e.bsz,e.funs,e.frf,e.hok,e.bare⟩
theorem Env0.in1 {P : Program} {w : World} {K : PySem.W.Frag} {mg : Str→Option Value} {base : Heap} {A : Around} {outer : List Env} {s : Shared} {H : Hp} (e : Env0 P w K mg base A outer s H) :
    Env0 P w K mg base A.in1 outer s H:=⟨e.frames,e.mod,e.bs,e.bsz,e.funs,e.frf,e.hok,e.bare⟩
section
variable {X : Cx} {pins : List (Addr × Obj)} {σ : St} {H : Hp} {s s' : Shared}
theorem Inv.env0 (I : Inv X pins σ H s) : Env0 X.prog X.w X.K X.mg X.base X.A X.stack s H :=
  ⟨I.ok.frames,I.ok.mod,I.bs,Nat.le_trans I.ok.bsz I.sz,I.stack,I.stkFree,I.hok,I.bare⟩
theorem Inv.after {Q : VK} {u : Value} (I : Inv X pins σ H s) (h : CE X.stack X.prog X.w H s Q u s') : EP X pins σ Q u s':=by
  obtain ⟨v,H',os,bare,un,hok,r,q⟩:=h
  obtain ⟨hh,g,d,t,os'⟩:=s'
  obtain rfl : os'=s.os:=os
  exact ⟨v,H',I.call (h':=hh) (g':=g) (d':=d) (t':=t) (ch:=[]) un hok bare (fun b z=>absurd z (by simp)),r,q⟩
end
noncomputable def zf3 (sp : Sp) (dvs : List V) (E : XK) (Q : VK):=fun (vs : List V) (H1 : Hp)=>sp (vs ++ dvs) H1 Q E
noncomputable def tCall (sp : Sp) (dvs : List V) (E : XK) (t : TA) : TE:=fun σ H Q=>t σ H (zf3 sp dvs E Q)
noncomputable def zf4 (sp : Sp) (dvs : List V) (E : XK) (Q : VK) (x : V):=fun (vs : List V) (H2 : Hp)=>sp (x :: (vs ++ dvs)) H2 Q E
inductive zbf (C : Addr) (m : Str) (sp : Sp) (dvs : List V) (E : XK) (t : TA) (σ : L2.St) (Q : VK) (x : V) (H1 : Hp) : Prop where
  | mk (a : _) (dx : _) (fs : _) (h0 : x = .ref a) (h1 : H1 a=some (.ins C dx fs)) (h2 : fs.lookup m=none) (h3 : t σ H1 (zf4 sp dvs E Q x)) : zbf C m sp dvs E t σ Q x H1
noncomputable def tMeth (C : Addr) (m : Str) (sp : Sp) (dvs : List V) (E : XK) (ta : TE) (t : TA) : TE:=fun σ H Q=>ta σ H (zbf C m sp dvs E t σ Q)
noncomputable def zf5 (Q : VK) (x : Addr):=fun (v : V) (H2 : Hp)=>v = .non∧Q (.ref x) H2
noncomputable def zf6 (C : Addr) (sp : Sp) (dvs : List V) (E : XK) (Q : VK):=fun (vs : List V) (H1 : Hp)=>∀ x dx,H1 x=none→H1 dx=none→dx≠x →
    sp (.ref x :: (vs ++ dvs)) (upd (upd H1 dx (.own x)) x (.ins C dx [])) ((zf5 Q x)) E
noncomputable def tMake (C : Addr) (sp : Sp) (dvs : List V) (E : XK) (t : TA) : TE:=fun σ H Q=>t σ H (zf6 C sp dvs E Q)
noncomputable def Binds (K : PySem.W.Frag) (fd : FuncData) (ps : List Str) (ds : List Value) : Prop :=
  ∀ (s : Shared) (us : List Value),K.In s.heap→(us ++ ds).length=ps.length→BindsTo s fd ⟨us,[]⟩ (ps.zip (us ++ ds))
theorem Binds.all {K : PySem.W.Frag} {fd : FuncData} {ps : List Str} (h : ∀ us : List Value,us.length=ps.length→bindArgs fd ⟨us,[]⟩=pure (ps.zip us)) : Binds K fd ps []:=fun s us zz hl=>by
  rw [List.append_nil] at hl ⊢
  exact .of_eq (h us hl)
noncomputable def Passes (CX : CXT) (X : Cx) (E : XK) : Prop:=∀ (pins : List (Addr × Obj)) (σ : St) (H : Hp) (s : Shared) (e : Value) (s' : Shared),Inv X pins σ H s→CX X.stack H s E e s'→X.xe e s'
section
variable {X : Cx} {CX : CXT} {k : Nat} {f C : Addr} {fd : FuncData} {ps : List Str} {sp : Sp} {dvs : List V} {ds : List Value} {E : XK} {x m : Str} {p pos apos : Pos} {e o : Expr} {es : List Expr} {ta : TE} {t : TA}
theorem run_fn {pins : List (Addr × Obj)} {σ : St} {H : Hp} {s : Shared} {Q : VK} {us : List Value} {vs : List V} (F : FnOk X.prog X.w X.K X.mg X.base CX k f fd ps sp) (hr : Room k X.A) (hb : Binds X.K fd ps ds) (hd : Vals dvs ds) (hx : Passes CX X E)
    (I : Inv X pins σ H s) (r : Vals vs us) (h : sp (vs ++ dvs) H Q E) : wpAny (model X.prog X.w) X.A (call (.ref f) us) (EP X pins σ Q) X.xe s:=by
  have r2 : Vals (vs ++ dvs) (us ++ ds):=r.append hd
  have hl : (us ++ ds).length=ps.length:=by rw [← r2.length]; exact F.len _ _ _ _ h
  refine wpAny_call (codeAny_mono (F.run X.A X.stack s H ⟨us,[]⟩ (us ++ ds) (vs ++ dvs) Q E hr I.env0 (hb s us I.kIn hl) r2 h) fun r s' hq=>?_)
  cases r with
  | error e=>exact hx pins σ H s e s' I hq
  | ok fl =>
    cases fl with
    | ret u=>exact I.after hq
    | next=>exact False.elim hq
    | brk=>exact False.elim hq
    | cont=>exact False.elim hq
theorem pe_call (F : FnOk X.prog X.w X.K X.mg X.base CX k f fd ps sp) (hr : Room k X.A) (hg : Gl X x) (hm : X.mg x=some (.ref f)) (hk : PySem.W.keepIn X.K (.ref f)=true) (hb : Binds X.K fd ps ds) (hd : Vals dvs ds) (hx : Passes CX X E)
    (ha : PA X (e :: es) t) (hdb : autoParam ((x == ("__debug__" : Str))=false) L23.a2._auto_1) (he : autoParam (starEach (e :: es) X.env=(false,eval e X.env) :: starEach es X.env) L23.a1._auto_1) (hpl : autoParam ((backTo pos (starEach es X.env)).any (·.1)=false) L23.a1._auto_1) :
    PE X (.Call (.Name x p) (e :: es) [] pos) (tCall sp dvs E t):=by
  intro pins s σ H Q I h
  refine wpAny_Call_Name_kw (ld_glob I hg hm ?_ hdb)
  refine PySem.W.callWith_K (h₀:=X.base) I.ok.mod.kin hk (thn (ha pos pins s σ H _ I h) fun us s1 ⟨vs,H1,I1,r,q⟩=>⟨I1.kIn,?_⟩) he hpl
  exact run_fn F hr hb hd hx I1 r q
theorem pe_meth {pl : Sem Bool} (he : PE X o ta) (c : Cls X.K C) (hm : Meth X.K C m f) (F : FnOk X.prog X.w X.K X.mg X.base CX k f fd ps sp) (hr : Room k X.A) (hb : Binds X.K fd ps ds) (hd : Vals dvs ds) (hx : Passes CX X E) (ha : PA X (e :: es) t)
    (hst : autoParam (starEach (e :: es) X.env=(false,eval e X.env) :: starEach es X.env) L23.a1._auto_1) (hpl : autoParam ((backTo pos (starEach es X.env)).any (·.1)=false) L23.a1._auto_1)
    (ht : autoParam (eval (.Call (.Attribute o m apos) (e :: es) [] pos) X.env=(do
      let ov ← eval o X.env
      standAt apos.atName
      let (f,first) ← holding [ov] (getMethod ov m pl)
      callWith pos f first (backTo pos (starEach (e :: es) X.env)) (backToKw pos (keywordEach [] X.env)))) L23.a1._auto_1) :
    PE X (.Call (.Attribute o m apos) (e :: es) [] pos) (tMeth C m sp dvs E ta t):=by
  intro pins s σ H Q I h
  refine PySem.W.methodCall_KW (pl:=pl) (thn (he pins s σ H _ I h) fun u s1 ⟨x,H1,I1,rx,a,dx,fs,ex,ea,l,q⟩=>?_) ht
  subst ex
  obtain rfl : u=Value.ref a:=rx
  refine getmeth_ok I1 ea c hm l ?_
  refine PySem.W.callWith_K (first:=[.ref a]) (h₀:=X.base) I.ok.mod.kin hm.kp (thn (ha pos pins s1 σ H1 _ I1 q) fun us s2 ⟨vs,H2,I2,r,q2⟩=>⟨I2.kIn,?_⟩) hst hpl
  exact run_fn (us := .ref a :: us) (vs := .ref a :: vs) F hr hb hd hx I2 (.cons rfl r) q2
theorem pe_meth0 {pl : Sem Bool} (he : PE X o ta) (c : Cls X.K C) (hm : Meth X.K C m f) (F : FnOk X.prog X.w X.K X.mg X.base CX k f fd ps sp) (hr : Room k X.A) (hb : Binds X.K fd ps ds) (hd : Vals dvs ds) (hx : Passes CX X E)
    (ht : autoParam (eval (.Call (.Attribute o m apos) [] [] pos) X.env=(do
      let ov ← eval o X.env
      standAt apos.atName
      let (f,first) ← holding [ov] (getMethod ov m pl)
      callWith pos f first (backTo pos (starEach [] X.env)) (backToKw pos (keywordEach [] X.env)))) L23.a1._auto_1) :
    PE X (.Call (.Attribute o m apos) [] [] pos) (tMeth C m sp dvs E ta tNil):=by
  intro pins s σ H Q I h
  refine PySem.W.methodCall_KW (pl:=pl) (thn (he pins s σ H _ I h) fun u s1 ⟨x,H1,I1,rx,a,dx,fs,ex,ea,l,q⟩=>?_) ht
  subst ex
  obtain rfl : u=Value.ref a:=rx
  refine getmeth_ok I1 ea c hm l ?_
  exact PySem.W.callWith_K0 (first:=[.ref a]) I1.kIn hm.kp (run_fn (us:=[.ref a]) (vs:=[.ref a]) F hr hb hd hx I1 (.cons rfl .nil) q)
structure Mk (K : PySem.W.Frag) (C f : Addr) : Prop where
  makes : PySem.W.makesIn K C=true
  init : PySem.W.findIn K (.ref C) "__init__"=some (some (.ref f))
  fn : PySem.W.isFn K (.ref f)=true
  kp : PySem.W.keepIn K (.ref C)=true
theorem run_make {pins : List (Addr × Obj)} {σ : St} {H : Hp} {s : Shared} {Q : VK} {us : List Value} {vs : List V} (M : Mk X.K C f) (F : FnOk X.prog X.w X.K X.mg X.base CX k f fd ps sp) (hr : Room (k + 1) X.A) (hb : Binds X.K fd ps ds) (hd : Vals dvs ds)
    (hx : Passes CX X E) (I : Inv X pins σ H s) (r : Vals vs us)
    (h : ∀ x dx,H x=none→H dx=none→dx≠x→sp (.ref x :: (vs ++ dvs)) (upd (upd H dx (.own x)) x (.ins C dx [])) (fun v H2=>v = .non∧Q (.ref x) H2) E) :
    wpAny (model X.prog X.w) X.A (call (.ref C) us) (EP X pins σ Q) X.xe s:=by
  have hq:=h (s.heap.objs.size + 1) s.heap.objs.size (I.hok.fresh (Nat.le_succ _)) (I.hok.fresh (Nat.le_refl _)) (Nat.ne_of_lt (Nat.lt_succ_self _))
  have I2:=Inv.made (C:=C) I
  have r2 : Vals (V.ref (s.heap.objs.size + 1) :: (vs ++ dvs)) (Value.ref (s.heap.objs.size + 1) :: (us ++ ds)) := .cons rfl (r.append hd)
  have hl : (Value.ref (s.heap.objs.size + 1) :: us ++ ds).length=ps.length:=by
    have e:=r2.length
    rw [F.len _ _ _ _ hq] at e
    exact e.symm
  refine wpAny_call (make_map (f:=f) I.kIn M.makes M.init (beq_iff_eq.mp M.fn) (codeAny_mono (F.run _ X.stack _ _ ⟨Value.ref (s.heap.objs.size + 1) :: us,[]⟩ (Value.ref (s.heap.objs.size + 1) :: (us ++ ds)) _ _ E (hr.make C us [])
    (I2.env0.make C us []) (hb _ (Value.ref (s.heap.objs.size + 1) :: us) I2.kIn hl) r2 hq) fun r s' hq'=>?_))
  cases r with
  | error e=>exact hx pins σ _ _ e s' I2 hq'
  | ok fl =>
    cases fl with
    | ret u =>
      obtain ⟨v,H',I3,rv,ev,q3⟩:=I2.after hq'
      subst ev
      exact ⟨rv,⟨V.ref (s.heap.objs.size + 1),H',I3,rfl,q3⟩⟩
    | next=>exact False.elim hq'
    | brk=>exact False.elim hq'
    | cont=>exact False.elim hq'
theorem pe_make0 (M : Mk X.K C f) (F : FnOk X.prog X.w X.K X.mg X.base CX k f fd ps sp) (hr : Room (k + 1) X.A) (hg : Gl X x) (hm : X.mg x=some (.ref C)) (hb : Binds X.K fd ps ds) (hd : Vals dvs ds) (hx : Passes CX X E)
    (hdb : autoParam ((x == ("__debug__" : Str))=false) L23.a2._auto_1) : PE X (.Call (.Name x p) [] [] pos) (tMake C sp dvs E tNil):=by
  intro pins s σ H Q I h
  refine wpAny_Call_Name_kw (ld_glob I hg hm ?_ hdb)
  exact PySem.W.callWith_K0 I.kIn M.kp (run_make (us:=[]) M F hr hb hd hx I .nil h)
end
noncomputable def PK (X : Cx) (kws : List Keyword) (t : TA) : Prop :=
  ∀ (pos : Pos) (pins : List (Addr × Obj)) (s : Shared) (σ : St) (H : Hp) (Q : List V→Hp→Prop),Inv X pins σ H s→t σ H Q→wpAny (model X.prog X.w) X.A (evalAll ((backToKw pos (keywordEach kws X.env)).map (·.2))) (AP X pins σ Q) X.xe s
section
variable {X : Cx} {CX : CXT} {k : Nat} {f C : Addr} {fd : FuncData} {ps ks : List Str} {sp : Sp} {E : XK} {x m : Str} {p pos apos kpos : Pos} {e o : Expr} {es : List Expr} {kws : List Keyword} {te ta : TE} {t tk : TA} {nm : Option Str}
theorem pk_nil : PK X [] tNil:=fun zz zz zz zz H Q I h=>wpAny_evalAll_nil ⟨[],H,I,.nil,h⟩
theorem pk_cons (ha : PE X e te) (hr : PK X kws t) : PK X (⟨nm,e,kpos⟩ :: kws) (tCons te t):=by
  intro pos pins s σ H Q I h
  show wpAny _ _ (evalAll ((do let v ← eval e X.env; standAt pos; pure v) :: (backToKw pos (keywordEach kws X.env)).map (·.2))) _ _ s
  refine wpAny_evalAll_cons (wpAny_bind (thn (ha pins s σ H _ I h) fun u s1 ⟨x,H1,I1,r1,q1⟩=>wpAny_bind (wpAny_standAt (wpAny_pure ?_))))
  exact thn (hr pos pins s1 σ H1 _ I1 q1) fun us s2 ⟨xs,H2,I2,r2,q2⟩=>⟨x :: xs,H2,I2,.cons r1 r2,q2⟩
structure KBinds (K : PySem.W.Frag) (fd : FuncData) (ps ks : List Str) (g : List Value→List Value→List Value) (gV : List V→List V→List V) : Prop where
  to : ∀ (s : Shared) (us ws : List Value),K.In s.heap→(g us ws).length=ps.length→BindsTo s fd ⟨us,ks.zip ws⟩ (ps.zip (g us ws))
  rel : ∀ {vs : List V} {us : List Value} {zs : List V} {ws : List Value},Vals vs us→Vals zs ws→Vals (gV vs zs) (g us ws)
variable {g : List Value→List Value→List Value} {gV : List V→List V→List V}
end
structure FnScope (N P : List Str) (sc : Scope) : Prop where
  kind : sc.kind = .function
  co : sc.isCoroutine=false
  gen : sc.isGenerator=false
  nd : N.Nodup
  pre : N.take P.length=P
  par : ∀ x∈P,sc.names.lookup x=some .local∨sc.names.lookup x=some .cell
  nofree : ∀ y∈sc.names,y.2 ≠ .free
theorem bindL_out {kindOf : Str→Option NameKind} {x : Str} : ∀ {binds : List (Str × Value)} {m : Str→Option Value},(∀ v,(x,v)∉binds)→bindL kindOf binds m x=m x
  | [],_,_=>rfl
  | (n,v) :: r,m,h=>by
    unfold bindL
    rw [bindL_out fun w hw=>h w (List.mem_cons_of_mem _ hw)]
    split
    · have : x≠n:=by rintro rfl; exact h v List.mem_cons_self
      simp [this]
    · rfl
theorem bindC_out {kindOf : Str→Option NameKind} {x : Str} : ∀ {binds : List (Str × Value)} {m : Str→Option Value},(∀ v,(x,v)∉binds)→bindC kindOf binds m x=m x
  | [],_,_=>rfl
  | (n,v) :: r,m,h=>by
    unfold bindC
    rw [bindC_out fun w hw=>h w (List.mem_cons_of_mem _ hw)]
    split
    · rfl
    · have : x≠n:=by rintro rfl; exact h v List.mem_cons_self
      simp [this]
theorem bindL_get {kindOf : Str→Option NameKind} {x : Str} {v : Value} : ∀ {P : List Str} {vs : List Value} {i : Nat} {m : Str→Option Value},P.Nodup→P[i]?=some x→vs[i]?=some v→kindOf x=some .local →
    bindL kindOf (P.zip vs) m x=some v
  | [],_,_,_,_,h,_,_=>by simp at h
  | _ :: _,[],_,_,_,_,h,_=>by simp at h
  | p :: P,w :: vs,0,m,nd,h1,h2,hk=>by
    simp at h1 h2; subst h1; subst h2
    show bindL kindOf ((p,w) :: P.zip vs) m p=_
    unfold bindL
    rw [bindL_out fun v hv=>(List.nodup_cons.mp nd).1 (List.of_mem_zip hv).1,if_pos hk]
    simp
  | p :: P,w :: vs,i + 1,m,nd,h1,h2,hk=>by
    show bindL kindOf ((p,w) :: P.zip vs) m x=_
    unfold bindL
    exact bindL_get (i:=i) (List.nodup_cons.mp nd).2 (by simpa using h1) (by simpa using h2) hk
theorem bindC_get {kindOf : Str→Option NameKind} {x : Str} {v : Value} : ∀ {P : List Str} {vs : List Value} {i : Nat} {m : Str→Option Value},P.Nodup→P[i]?=some x→vs[i]?=some v→kindOf x≠some .local →
    bindC kindOf (P.zip vs) m x=some v
  := by
  intro P
  induction P with
  | nil=>intro _ _ _ _ h _ _; simp at h
  | cons p P ih =>
   intro vs i m nd h1 h2 hk
   cases vs with
   | nil=>simp at h2
   | cons w vs =>
   cases i with
   | zero =>
    simp at h1 h2; subst h1; subst h2
    show bindC kindOf ((p,w) :: P.zip vs) m p=_
    unfold bindC
    rw [bindC_out fun v hv=>(List.nodup_cons.mp nd).1 (List.of_mem_zip hv).1,if_neg hk]
    simp
   | succ i =>
    show bindC kindOf ((p,w) :: P.zip vs) m x=_
    unfold bindC
    exact ih (i:=i) (List.nodup_cons.mp nd).2 (by simpa using h1) (by simpa using h2) hk
noncomputable def start (N : List Str) (vs : List V) : St:=vs.map some ++ List.replicate (N.length - vs.length) none
noncomputable def cxOf (CX : CXT) (P : Program) (w : World) (K : PySem.W.Frag) (mg : Str→Option Value) (base : Heap) (N : List Str) (qual : Str) (scope : Scope) (f : Addr) (cd : Value) (A : Around) (outer : List Env) (s : Shared) (H : Hp) (E : XK) : Cx where
  prog:=P
  w:=w
  K:=K
  mg:=mg
  base:=base
  A:=A.deeper (envOfC qual scope s.heap.objs.size f cd)
  N:=N
  s₀:=s
  H₀:=H
  env:=envOfC qual scope s.heap.objs.size f cd
  outer:=outer
  stack:=envOfC qual scope s.heap.objs.size f cd :: outer
  ex:=[]
  calm:=true
  fn:=fun zz=>true
  pn:=[]
  xe:=fun e s'=>wpAny (model P w) (A.deeper (envOfC qual scope s.heap.objs.size f cd)) (leaving (envOfC qual scope s.heap.objs.size f cd) e) (fun zz s''=>CX outer H s E e s'') (fun e' s''=>CX outer H s E e' s'') s'
theorem cell_has {sc : Scope} {n : Nat} {x : Str} (h : sc.names.lookup x=some .cell) : ∃ c,(cellsFrom n sc.names []).lookup x=some c:=by
  have q:=PySem.W.cellsFrom_some sc.names n [] (.inl h)
  exact Option.isSome_iff_exists.mp q
theorem inv_start {CX : CXT} {P : Program} {w : World} {K : PySem.W.Frag} {mg : Str→Option Value} {base : Heap} {N ps : List Str} {qual : Str} {scope : Scope} {f : Addr} {cd : Value} {A : Around} {outer : List Env} {s s1 : Shared} {H : Hp} {E : XK} {us : List Value} {vs : List V}
    (S : FnScope N ps scope) (hd : A.handled=none) (e0 : Env0 P w K mg base A outer s H) (hl : vs.length=ps.length) (r : Vals vs us)
    (x : InCallC s s.heap.objs.size (bindL (envOfC qual scope s.heap.objs.size f cd).kindOf (ps.zip us) fun zz=>none) (cellsFrom (s.heap.objs.size + 1) scope.names []) (bindC (envOfC qual scope s.heap.objs.size f cd).kindOf (ps.zip us) fun zz=>none) s1) :
    Inv (cxOf CX P w K mg base N qual scope f cd A outer s H E) [] (start N vs) H s1:=by
  have hpl : ps.length≤N.length:=by have:=congrArg List.length S.pre; rw [List.length_take] at this; omega
  obtain ⟨h1,tk,rfl,hk⟩:=x.done
  have noA : ∀ b : Addr,b∉(cxOf CX P w K mg base N qual scope f cd A outer s H E).ex:=fun b z=>absurd (show b∈([] : List Addr) from z) (by simp)
  refine ⟨⟨e0.mod,S.kind,rfl,rfl,Nat.le_refl _,fun y z c h1 h2=>?_,fun y hy=>?_,fun y c zz h=>?_,fun zz=>hd,Around.frames_deeper e0.frames,.inr ⟨rfl,rfl⟩,fun b z=>absurd z (noA b),e0.bs,e0.bsz,fun b zz zz=>noA b,fun b z=>absurd z (noA b),e0.funs,e0.frf⟩,
    rfl,e0.bare,Un.kept hk,⟨_,x.toInCall.ns,fun i y v h1 h2 h3=>?_⟩,fun y c h=>⟨_,x.cell y c h⟩,e0.hok.fresh (Nat.le_refl _),fun y c h=>?_,fun p hp=>absurd (show p∈([] : List (Addr × Obj)) from hp) (by simp),e0.hok.kept hk,?_⟩
  · exact name_of_addr x.apart (PySem.mem_of_lookup h1) (PySem.mem_of_lookup h2)
  · have hy : scope.names.lookup y=some .cell∨scope.names.lookup y=some .free:=hy
    rcases hy with hy | hy
    · exact cell_has hy
    · exact absurd rfl (S.nofree _ (PySem.mem_of_lookup hy))
  · exact Nat.le_of_lt (x.above y c (PySem.mem_of_lookup h))
  · have hi : i < vs.length:=by
      unfold start at h2
      by_cases hi : i < vs.length
      · exact hi
      · rw [List.getElem?_append_right (by simpa using hi)] at h2
        rw [List.getElem?_replicate] at h2
        split at h2 <;> cases h2
    have ha : vs[i]?=some v:=by
      unfold start at h2
      rw [List.getElem?_append_left (by simpa using hi),List.getElem?_map] at h2
      cases e : vs[i]? with
      | none=>rw [e] at h2; cases h2
      | some a=>rw [e] at h2; cases h2; rfl
    obtain ⟨u,hu,rv⟩:=r.get ha
    have hp : ps[i]?=some y:=by
      rw [← S.pre,List.getElem?_take_of_lt (by omega)]; exact h1
    have ndP : ps.Nodup:=by rw [← S.pre]; exact S.nd.sublist (List.take_sublist _ _)
    refine ⟨u,rv,?_⟩
    rcases S.par y (List.mem_of_getElem? hp) with k | k
    · exact .inl ⟨k,bindL_get ndP hp hu k⟩
    · obtain ⟨c,e⟩:=cell_has (n:=s.heap.objs.size + 1) k
      refine .inr ⟨.inl k,c,e,?_⟩
      have q:=x.cell y c e
      rw [bindC_get ndP hp hu (by show scope.names.lookup y≠_; rw [k]; decide)] at q
      exact q
  · exact e0.hok.fresh (Nat.le_of_lt (x.above y c (PySem.mem_of_lookup h)))
  · unfold start
    show _=N.length
    rw [List.length_append,List.length_map,List.length_replicate]
    omega
theorem fn_of {CX : CXT} {P : Program} {w : World} {K : PySem.W.Frag} {mg : Str→Option Value} {base : Heap} {k : Nat} {f : Addr} {name qual : Str} {params : Arguments} {body : List Stmt} {scope : Scope} {dV kV doc pm cdv ct oc : Value} {an od : Option Addr}
    {osl : Array (Option Value)} {N ps : List Str} {sp : Sp} (lk : K.lookup f=some ⟨oc,od,.func (PySem.W.fnOf name qual params body scope dV kV doc pm an cdv ct),osl⟩) (hcd : PySem.W.codeIn K cdv qual=true) (S : FnScope N ps scope)
    (len : ∀ vs H Q E,sp vs H Q E→vs.length=ps.length)
    (hbody : ∀ (A : Around) (outer : List Env) (s : Shared) (H : Hp) (vs : List V) (Q : VK) (E : XK),Room k (A.deeper (envOfC qual scope s.heap.objs.size f cdv))→sp vs H Q E →
      ∃ t,PSs (cxOf CX P w K mg base N qual scope f cdv A outer s H E) body t∧t { nx:=fun zz H'=>Q .non H',rt:=Q } (start N vs) H) :
    FnOk P w K mg base CX (k + 1) f (PySem.W.fnOf name qual params body scope dV kV doc pm an cdv ct) ps sp:=by
  refine ⟨len,fun A outer s H args us vs Q E hr e0 hb r hsp=>?_⟩
  have hl:=len _ _ _ _ hsp
  have KX : K.In s.heap:=e0.mod.kin.keeps fun b o e=>(e0.bs b o e).1
  have lim : s.heap.NoLimit:=e0.mod.nolimit.keeps fun b o e=>(e0.bs b o e).1
  have hkind : ∀ y∈ps.zip us,scope.names.lookup y.1=some .local∨(scope.names.lookup y.1=some .cell∧((cellsFrom (s.heap.objs.size + 1) scope.names []).lookup y.1).isSome=true):=fun ⟨n,v⟩ hy=>by
    rcases S.par n (List.of_mem_zip hy).1 with q | q
    · exact .inl q
    · exact .inr ⟨q,PySem.W.cellsFrom_some _ _ _ (.inl q)⟩
  refine codeAny_call_function hr.depth (KX _ _ lk) rfl S.co S.gen rfl (PySem.W.codeRec_of KX hcd) (hb _ _ _ _ ?_)
  refine wpAny_newFunctionEnv_cells S.kind hkind fun env he s1 x=>?_
  subst he
  refine ⟨lim.keeps x.toInCall.keep,codeAny_func ?_⟩
  obtain ⟨t,ht,hq⟩:=hbody A outer s H vs Q E (hr.deeper _) hsp
  have I : Inv (cxOf CX P w K mg base N qual scope f cdv A outer s H E) [] (start N vs) H s1:=inv_start S hr.hd e0 hl r x
  refine wpAny_mono (ht [] s1 (start N vs) H _ I hq) (fun fl s' hs=>?_) fun e s' hs=>hs
  have fin : ∀ {σ' : St} {H' : Hp} {v : V} {u : Value},Inv (cxOf CX P w K mg base N qual scope f cdv A outer s H E) [] σ' H' s'→RelV v u→Q v H'→CE outer P w H s Q u s' :=
    fun {σ' H' v u} J rv q=>⟨v,H',J.os,J.bare,J.base,J.hok,rv,q⟩
  cases fl with
  | ret u =>
    obtain ⟨v,σ',H',J,rv,q⟩:=hs
    exact fin J rv q
  | next =>
    obtain ⟨σ',H',J,q⟩:=hs
    exact fin (v:=V.non) (u:=Value.none) J rfl q
  | brk =>
    obtain ⟨zz,zz,zz,q⟩:=hs
    exact False.elim q
  | cont =>
    obtain ⟨zz,zz,zz,q⟩:=hs
    exact False.elim q
end L2
namespace L2
open PySem PySem.Spec PyProof.Rows
section
variable {X : Cx} {x : Str} {p pos : Pos} {e : Expr} {es : List Expr} {t : TA} {id T : String} {r : List V→Hp→VK→Prop}
noncomputable def ziA (r : List V→Hp→VK→Prop) (Q : VK):=fun (vs : List V) (H1 : Hp)=>r vs H1 Q
noncomputable def tCB (r : List V→Hp→VK→Prop) (t : TA) : TE:=fun σ H Q=>t σ H (ziA r Q)
theorem pe_callB (hc : CallR X (.builtin id) r) (hg : Gl X x) (hm : X.mg x=none) (hv : bootBuiltins x=some (.builtin id)) (ha : PA X (e :: es) t) (hn : autoParam (x≠"__name__") L23.a2._auto_1) (hdb : autoParam ((x == ("__debug__" : Str))=false) L23.a2._auto_1)
    (he : autoParam (starEach (e :: es) X.env=(false,eval e X.env) :: starEach es X.env) L23.a1._auto_1) (hpl : autoParam ((backTo pos (starEach es X.env)).any (·.1)=false) L23.a1._auto_1) : PE X (.Call (.Name x p) (e :: es) [] pos) (tCB r t):=by
  intro pins s σ H Q I h
  refine wpAny_Call_Name_kw (ld_blt I hg hm hv ?_ hn hdb)
  exact PyProof.Rows.callWith_builtin1 (thn (ha pos pins s σ H _ I h) fun us s1 ⟨vs,H1,I1,r1,q1⟩=>hc pins s1 σ H1 vs us Q I1 r1 q1) he hpl
theorem pe_callTy (hc : CallR X (.type T) r) (hg : Gl X x) (hm : X.mg x=none) (hv : bootBuiltins x=some (.type T)) (ha : PA X (e :: es) t) (hn : autoParam (x≠"__name__") L23.a2._auto_1) (hdb : autoParam ((x == ("__debug__" : Str))=false) L23.a2._auto_1)
    (he : autoParam (starEach (e :: es) X.env=(false,eval e X.env) :: starEach es X.env) L23.a1._auto_1) (hpl : autoParam ((backTo pos (starEach es X.env)).any (·.1)=false) L23.a1._auto_1) : PE X (.Call (.Name x p) (e :: es) [] pos) (tCB r t):=by
  intro pins s σ H Q I h
  refine wpAny_Call_Name_kw (ld_blt I hg hm hv ?_ hn hdb)
  exact PyProof.Rows.callWith_type1 (thn (ha pos pins s σ H _ I h) fun us s1 ⟨vs,H1,I1,r1,q1⟩=>hc pins s1 σ H1 vs us Q I1 r1 q1) he hpl
end
end L2
namespace HT
open PySem PyProof.Rows
section
open PySem.SeqAt
open PySem.AutoSeq1 (wpAny_loadPart')
open PySem.MeetsSeq PySem.MeetsSeq2 PySem.MeetsSeq3
end
section
variable {prog : Program} {w : World} {A : Around} {E : Value→Shared→Prop} {s : Shared}
theorem cat_tup {t b : Addr} {vs ws : List Value} {Q : Value→Shared→Prop} (ht : IsTup s.heap t vs.toArray) (hb : IsTup s.heap b ws.toArray) (hv : vs≠[])
    (h1 : ws=[]→Q (.ref t) s) (h2 : ws≠[]→Q (.ref s.heap.objs.size) { s with heap:=s.heap.push { cls := .type "tuple",data := .seq (vs ++ ws).toArray } })
    (hsz : vs.length + ws.length≤sizeLine) : wpAny (model prog w) A (binaryOp .Add (.ref t) (.ref b)) Q E s:=by
  obtain ⟨⟨cls,dd,data,sl⟩,ho,hc,n,hd⟩:=id ht
  obtain ⟨⟨cls2,dd2,data2,sl2⟩,ho2,hc2,n2,hd2⟩:=id hb
  simp only at hc hd hc2 hd2
  subst hc hd hc2 hd2
  have e : vs.toArray ++ ws.toArray=(vs ++ ws).toArray:=by simp
  by_cases hw : ws=[]
  · exact concat_meets ⟨_,ho,rfl⟩ ⟨_,ho2,rfl⟩ noFill_tuple_add seq_tuple_add PySem.F.slot_tuple_add PySem.F.entry_tuple_add (PySem.F.args_tuple_add_2 _ _)
      (tuple_addW1 t b vs.toArray ws.toArray n n2 dd dd2 sl sl2 (by simpa using hv) (by simp [hw])) ⟨ho,ho2,h1 hw⟩
  · refine concat_meets ⟨_,ho,rfl⟩ ⟨_,ho2,rfl⟩ noFill_tuple_add seq_tuple_add PySem.F.slot_tuple_add PySem.F.entry_tuple_add (PySem.F.args_tuple_add_2 _ _)
      (tuple_addW2 t b vs.toArray ws.toArray n n2 dd dd2 sl sl2 (by simpa using hv) (by simpa using hw) (by rw [List.size_toArray,List.size_toArray]; exact hsz)) ⟨ho,ho2,?_⟩
    rw [e]
    exact h2 hw
noncomputable def sIx (n d : Nat) : Option Int→Nat
  | none=>d
  | some v=>if v < 0 then (v + (n : Int)).toNat else min v.toNat n
theorem sIx_none (n d : Nat) : sIx n d none=d:=rfl
theorem sIx_nat (n d k : Nat) : sIx n d (some (k : Int))=min k n:=by
  show (if (k : Int) < 0 then ((k : Int) + (n : Int)).toNat else min (k : Int).toNat n)=min k n
  rw [if_neg (by omega),Int.toNat_natCast]
theorem sIx_le (n d : Nat) (hd : d≤n) (o : Option Int) : sIx n d o≤n:=by
  cases o with
  | none=>exact hd
  | some v =>
    show (if v < 0 then (v + (n : Int)).toNat else min v.toNat n)≤n
    by_cases hv : v < 0
    · rw [if_pos hv]; omega
    · rw [if_neg hv]; exact Nat.min_le_right _ _
theorem clip_eq (v : Int) (n d : Nat) : (if v < 0 then max (v + (n : Int)) 0 else min v (n : Int))=((sIx n d (some v) : Nat) : Int):=by
  show (if v < 0 then max (v + (n : Int)) 0 else min v (n : Int))=(((if v < 0 then (v + (n : Int)).toNat else min v.toNat n) : Nat) : Int)
  by_cases hv : v < 0
  · rw [if_pos hv,if_pos hv,Int.toNat_eq_max]
  · rw [if_neg hv,if_neg hv]
    obtain ⟨k,rfl⟩:=Int.eq_ofNat_of_zero_le (Int.not_lt.mp hv)
    rcases Nat.le_total k n with q | q
    · rw [Int.toNat_natCast,Nat.min_eq_left q,Int.min_eq_left (Int.ofNat_le.mpr q)]
    · rw [Int.toNat_natCast,Nat.min_eq_right q,Int.min_eq_right (Int.ofNat_le.mpr q)]
theorem zhe (i : Int) (n d : Nat) : max 0 (min (if i < 0 then i + (n : Int) else i) n)=((sIx n d (some i) : Nat) : Int):=by
  rw [← clip_eq i n d]
  by_cases h : i < 0
  · rw [if_pos h,if_pos h,Int.max_comm,Int.min_eq_left (Int.le_trans (Int.add_le_add_right (Int.le_of_lt h) _) (Int.le_of_eq (Int.zero_add _)))]
  · rw [if_neg h,if_neg h]
    exact Int.max_eq_right (Int.le_min.mpr ⟨Int.not_lt.mp h,Int.natCast_nonneg n⟩)
theorem adjust_gen (lo hi : Option Int) (n : Nat) : Builtin.Slice.sliceAdjust lo hi 1 (n : Int)=(((sIx n 0 lo : Nat) : Int),((sIx n n hi : Nat) : Int)):=by
  have h1 : ¬ ((1 : Int) < 0):=by omega
  unfold Builtin.Slice.sliceAdjust
  simp only [h1,if_false]
  refine Prod.ext ?_ ?_
  · cases lo with
    | none=>rfl
    | some v=>exact clip_eq v n 0
  · cases hi with
    | none=>rfl
    | some v=>exact clip_eq v n n
theorem places_gen (i j : Nat) : Builtin.Slice.slicePlaces (i : Int) (j : Int) 1=j - i:=by
  unfold Builtin.Slice.slicePlaces
  have h1 : (1 : Int) > 0:=by omega
  simp only [h1,if_true,Int.ediv_one]
  split <;> omega
theorem slicePart_ {v : Value} {o : Option Int} {Q : Option Int→Shared→Prop} (p : IsPart v o) (h : Q o s) : wpAny (model prog w) A (Builtin.Slice.slicePartIndex v) Q E s:=by
  cases p with
  | none=>exact slicePart_none h
  | int i t=>exact slicePart_int h
theorem sliceApplied_gen {sl : Addr} {vl vu : Value} {lo hi : Option Int} {n : Nat} {Q : Int × Int × Nat→Shared→Prop} (hs : s.heap.IsSliceOf sl vl vu .none) (pl : IsPart vl lo) (pu : IsPart vu hi)
    (h : Q (((sIx n 0 lo : Nat) : Int),1,sIx n n hi - sIx n 0 lo) s) : wpAny (model prog w) A (Builtin.Slice.sliceApplied (.ref sl) (pure (n : Int))) Q E s:=by
  obtain ⟨os,hos,hcs,hds⟩:=id hs
  unfold Builtin.Slice.sliceApplied Builtin.Slice.sliceFields
  refine wpAny_bind (wpAny_bind (wpAny_field hos hds (x:=vl) rfl (wpAny_bind (wpAny_field hos hds (x:=vu) rfl (wpAny_bind (wpAny_field hos hds (x := .none) rfl (wpAny_pure ?_)))))))
  refine wpAny_bind (slicePart_none ?_)
  show wpAny _ _ (if ((1 : Int) == 0)=true then _ else _) _ _ s
  rw [if_neg (by decide)]
  refine wpAny_bind (slicePart_ pl (wpAny_bind (slicePart_ pu (wpAny_bind (wpAny_pure ?_)))))
  show wpAny _ _ (match Builtin.Slice.sliceAdjust lo hi 1 (n : Int) with | (lo,hi)=>pure (lo,(1 : Int),Builtin.Slice.slicePlaces lo hi 1)) _ _ s
  rw [adjust_gen lo hi n]
  show wpAny _ _ (pure (((sIx n 0 lo : Nat) : Int),(1 : Int),Builtin.Slice.slicePlaces ((sIx n 0 lo : Nat) : Int) ((sIx n n hi : Nat) : Int) 1)) _ _ s
  rw [places_gen]
  exact wpAny_pure h
theorem pick_gen (xs : Array Value) (i k : Nat) : ((List.range k).filterMap fun (m : Nat)=>xs[((i : Int) + (m : Int) * 1).toNat]?).toArray=((xs.toList.drop i).take k).toArray:=by
  have e : (fun (m : Nat)=>xs[((i : Int) + (m : Int) * 1).toNat]?)=fun m=>xs[i + m]?:=by
    funext m
    have : ((i : Int) + (m : Int) * 1).toNat=i + m:=by omega
    rw [this]
  rw [e]
  have:=pick_run xs i k
  rw [List.filterMap_map] at this
  have e2 : ((fun x=>xs[x]?) ∘ fun x=>i + x)=fun m=>xs[i + m]?:=rfl
  rw [e2] at this
  rw [this]
theorem getItem_tuple_cut {t sl : Addr} {items : Array Value} {vl vu : Value} {lo hi : Option Int} {Q : Value→Shared→Prop} (ht : IsTup s.heap t items) (hs : s.heap.IsSliceOf sl vl vu .none) (pl : IsPart vl lo) (pu : IsPart vu hi)
    (hw : ¬ (sIx items.size 0 lo=0∧sIx items.size items.size hi=items.size))
    (h : Q (.ref s.heap.objs.size) { s with heap:=s.heap.push { cls := .type "tuple",data := .seq ((items.toList.drop (sIx items.size 0 lo)).take (sIx items.size items.size hi - sIx items.size 0 lo)).toArray } })
    (hsz : items.size≤sizeLine) : wpAny (model prog w) A (getItem (.ref t) (.ref sl)) Q E s:=by
  have htake : sizeOk (.seq ((items.toList.drop (sIx items.size 0 lo)).take (sIx items.size items.size hi - sIx items.size 0 lo)).toArray):=by
    show ((items.toList.drop (sIx items.size 0 lo)).take (sIx items.size items.size hi - sIx items.size 0 lo)).toArray.size≤sizeLine
    rw [List.size_toArray,List.length_take,List.length_drop,Array.length_toList]
    exact Nat.le_trans (Nat.min_le_right _ _) (Nat.le_trans (Nat.sub_le _ _) hsz)
  have hj : sIx items.size items.size hi≤items.size:=sIx_le _ _ (Nat.le_refl _) hi
  obtain ⟨os,hos,hcs,hds⟩:=id hs
  have hTs : s.TypeIs (.ref sl) "slice":=⟨os,hos,hcs⟩
  unfold getItem
  try with_reducible refine wpAny_holding ?_
  first | refine wpAny_bind (wpAny_pure ?_) | skip
  refine wpAny_bind (wpAny_sequenceKey ht.typeIs (by decide) ?_)
  refine wpAny_bind (wpAny_callSpecial?_slot (name:=Str.ofString "__getitem__") ht.typeIs PyProof.Rows.slot_tuple_getitem
    (wpAny_call_entry PyProof.Rows.slot_tuple_getitem ht.typeIs entry_tuple_getitem ?_ (args_tuple_getitem _ _)))
  show wpAny _ _ (Builtin.Tuple.tupleItemsOf (.ref t) >>= _) _ _ s
  refine wpAny_bind (tupleItemsOf_ ht ?_)
  refine wpAny_bind (wpAny_typeOf hTs ?_)
  rw [if_pos (by decide)]
  refine wpAny_bind (sliceApplied_gen hs pl pu ?_)
  have hno : ¬ ((((sIx items.size 0 lo : Nat) : Int) == 0 && (1 : Int) == 1 && (sIx items.size items.size hi - sIx items.size 0 lo) == items.size)=true):=by
    intro q
    rw [Bool.and_eq_true,Bool.and_eq_true] at q
    have q1 : ((sIx items.size 0 lo : Nat) : Int)=0:=eq_of_beq q.1.1
    have q2 : sIx items.size items.size hi - sIx items.size 0 lo=items.size:=eq_of_beq q.2
    exact hw ⟨by omega,by omega⟩
  show wpAny _ _ (if (((sIx items.size 0 lo : Nat) : Int) == 0 && (1 : Int) == 1 && (sIx items.size items.size hi - sIx items.size 0 lo) == items.size)=true then _ else _) _ _ s
  rw [if_neg hno,pick_gen]
  first
    | exact wpAny_bind (m:=Builtin.Tuple.tupleExact _) (wpAny_newObj_type (wpAny_pure ⟨_,rfl,wpAny_pure h⟩) htake)
    | exact wpAny_bind (m:=Builtin.Tuple.tupleExact _) (wpAny_newObj_type (wpAny_bind (wpAny_pure (wpAny_pure ⟨_,rfl,wpAny_pure h⟩))) htake)
    | exact wpAny_bind (wpAny_bind (m:=Builtin.Tuple.tupleExact _) (wpAny_newObj_type (wpAny_pure (wpAny_pure ⟨_,rfl,wpAny_pure h⟩)) htake))
    | exact wpAny_bind (wpAny_bind (m:=Builtin.Tuple.tupleExact _) (wpAny_newObj_type (wpAny_pure ⟨_,rfl,wpAny_pure h⟩) htake))
end
end HT
namespace L2
open PySem PySem.Spec PyProof.Rows
noncomputable abbrev TO:=St→Hp→(Option Int→Hp→Prop)→Prop
noncomputable def PO (X : Cx) (e : Option Expr) (t : TO) : Prop :=
  ∀ (pins : List (Addr × Obj)) (s : Shared) (σ : St) (H : Hp) (Q : Option Int→Hp→Prop),Inv X pins σ H s→t σ H Q →
    wpAny (model X.prog X.w) X.A (evalPart e X.env) (fun u s'=>∃ o H',Inv X pins σ H' s'∧IsPart u o∧Q o H') X.xe s
noncomputable def tNoPart : TO:=fun zz H Q=>Q none H
inductive zbg (Q : (Option Int→Hp→Prop)) (x : V) (H1 : Hp) : Prop where
  | mk (i : _) (h0 : x = .int i) (h1 : Q (some i) H1) : zbg Q x H1
noncomputable def tPart (t : TE) : TO:=fun σ H Q=>t σ H (zbg Q)
section
variable {X : Cx} {e : Expr} {te : TE} {lo hi : Option Expr} {tl th : TO} {pos p2 : Pos}
theorem po_none : PO X none tNoPart:=by
  intro pins s σ H Q I h
  rw [evalPart_none]
  exact wpAny_pure ⟨none,H,I,.none,h⟩
theorem po_some (h : PE X e te) : PO X (some e) (tPart te):=by
  intro pins s σ H Q I hw
  rw [evalPart_some]
  refine thn (h pins s σ H _ I hw) fun u s1 ⟨x,H1,I1,r1,q1⟩=>?_
  obtain ⟨i,rfl,q⟩:=q1
  obtain ⟨t,rfl⟩:=r1
  exact ⟨some i,H1,I1,.int i t,q⟩
noncomputable def SlR (X : Cx) (r : V→Option Int→Option Int→Hp→VK→Prop) : Prop :=
  ∀ (pins : List (Addr × Obj)) (s : Shared) (σ : St) (H : Hp) (x : V) (v vl vu : Value) (lo hi : Option Int) (sl : Addr) (Q : VK),Inv X pins σ H s→RelV x v→s.heap.IsSliceOf sl vl vu .none→IsPart vl lo→IsPart vu hi→r x lo hi H Q →
    ∃ T id,typeLookup (.type T) "__getitem__"=pure (some (.builtin id))∧s.TypeIs v T∧wpAny (model X.prog X.w) X.A (getItem v (.ref sl)) (EP X pins σ Q) X.xe s
noncomputable def ziB (r : V→Option Int→Option Int→Hp→VK→Prop) (Q : VK) (x : V) (l : Option Int):=fun (u : Option Int) (H3 : Hp)=>r x l u H3 Q
noncomputable def ziC (r : V→Option Int→Option Int→Hp→VK→Prop) (th : TO) (σ : L2.St) (Q : VK) (x : V):=fun (l : Option Int) (H2 : Hp)=>th σ H2 (ziB r Q x l)
noncomputable def ziD (r : V→Option Int→Option Int→Hp→VK→Prop) (tl : TO) (th : TO) (σ : L2.St) (Q : VK):=fun (x : V) (H1 : Hp)=>tl σ H1 (ziC r th σ Q x)
noncomputable def tSl (r : V→Option Int→Option Int→Hp→VK→Prop) (te : TE) (tl th : TO) : TE:=fun σ H Q=>te σ H (ziD r tl th σ Q)
theorem pe_slice {r : V→Option Int→Option Int→Hp→VK→Prop} (hr : SlR X r) (he : PE X e te) (hl : PO X lo tl) (hu : PO X hi th) : PE X (.Subscript e (.Slice lo hi none p2) pos) (tSl r te tl th):=by
  intro pins s σ H Q I h
  refine Subscript_ (thn (he pins s σ H _ I h) fun v s1 ⟨x,H1,I1,r1,q1⟩=>?_)
  refine wpAny_Slice (thn (hl pins s1 σ H1 _ I1 q1) fun vl s2 ⟨l,H2,I2,pl,q2⟩=>thn (hu pins s2 σ H2 _ I2 q2) fun vu s3 ⟨u,H3,I3,pu,q3⟩=>?_)
  rw [evalPart_none]
  refine wpAny_pure ?_
  have I4 : Inv X pins σ H3 { s3 with heap:=s3.heap.push { cls := .type "slice",data := .fields #[vl,vu,.none] } }:=I3.kept (t':=s3.toks) fun b ob q=>Heap.get?_push_of_some _ q
  obtain ⟨T,id,hT,ht,hg⟩:=hr pins { s3 with heap:=s3.heap.push { cls := .type "slice",data := .fields #[vl,vu,.none] } } σ H3 x v vl vu l u s3.heap.objs.size Q I4 r1 (Heap.IsSliceOf.new ..) pl pu q3
  show wpAny (model X.prog X.w) X.A (subscriptTail e (.Slice lo hi none p2) v (.ref s3.heap.objs.size)) (EP X pins σ Q) X.xe { s3 with heap:=s3.heap.push { cls := .type "slice",data := .fields #[vl,vu,.none] } }
  exact tail_any (ops:=[.ref s3.heap.objs.size,v]) ht hT hg (by with_unfolding_all rfl)
noncomputable def cutV (xs : List V) (lo hi : Option Int) : List V:=(xs.drop (HT.sIx xs.length 0 lo)).take (HT.sIx xs.length xs.length hi - HT.sIx xs.length 0 lo)
theorem cutV_length (xs : List V) (lo hi : Option Int) : (cutV xs lo hi).length≤xs.length:=by
  unfold cutV
  rw [List.length_take,List.length_drop]
  exact Nat.le_trans (Nat.min_le_right _ _) (Nat.sub_le _ _)
noncomputable def zhP (K : PySem.W.Frag) (x : V) (lo : Option Int) (hi : Option Int) (H : Hp) (Q : VK):=fun a xs=>L23.A4 (x = .ref a) (SqT K H a xs) (¬ (HT.sIx xs.length 0 lo=0∧HT.sIx xs.length xs.length hi=xs.length)) (∀ p,H p=none→Q (.ref p) (upd H p (.tup (cutV xs lo hi))))
noncomputable def rSlT (K : PySem.W.Frag) : V→Option Int→Option Int→Hp→VK→Prop:=fun x lo hi H Q=>L23.E2 (zhP K x lo hi H Q)
theorem sl_tup : SlR X (rSlT X.K):=by
  intro pins s σ H x v vl vu lo hi sl Q I rx hs pl pu h
  obtain ⟨a,xs,rfl,hx,hw,q⟩:=h
  cases rx
  obtain ⟨its,r,ht,hz⟩:=I.tuple hx
  have hlen : its.toArray.size=xs.length:=by rw [List.size_toArray]; exact r.length.symm
  refine ⟨"tuple",_,PyProof.Rows.slot_tuple_getitem.lookup,ht.typeIs,?_⟩
  refine HT.getItem_tuple_cut ht hs pl pu (by rw [hlen]; exact hw) ?_ (by rw [hlen]; exact hz)
  rw [hlen]
  refine ⟨.ref s.heap.objs.size,_,I.laid (t':=s.toks) (o := .tup (cutV xs lo hi)) (fun b ob q=>Heap.get?_push_of_some _ q) (Nat.le_refl _) ?_,rfl,q _ (I.hok.fresh (Nat.le_refl _))⟩
  exact ⟨Nat.le_trans (cutV_length xs lo hi) hz,_,(r.drop (HT.sIx xs.length 0 lo)).take (HT.sIx xs.length xs.length hi - HT.sIx xs.length 0 lo),IsTup.new _ _⟩
noncomputable def zf7 (K : PySem.W.Frag) (x : V) (y : V) (H : Hp) (Q : VK):=fun a b xs ys=>L23.A8 (x = .ref a) (y = .ref b) (SqT K H a xs) (SqT K H b ys) (xs≠[]) (xs.length + ys.length≤sizeLine) ((ys=[]→Q (.ref a) H)) ((ys≠[]→∀ p,H p=none→Q (.ref p) (upd H p (.tup (xs ++ ys)))))
noncomputable def rCatT (K : PySem.W.Frag) : R2:=fun x y H Q=>L23.E4 (zf7 K x y H Q)
theorem Vals.nil_iff {xs : List V} {us : List Value} (r : Vals xs us) : us=[]↔xs=[]:=by
  cases r with
  | nil=>simp
  | cons _ _=>simp
theorem op_catT : OpR X (binaryOp .Add) (rCatT X.K):=by
  intro pins s σ H x y v u Q I rx ry h
  obtain ⟨a,b,xs,ys,rfl,rfl,ha,hb,hx,hz,q1,q2⟩:=h
  cases rx
  cases ry
  obtain ⟨its,r1,p1,zz⟩:=I.tuple ha
  obtain ⟨its2,r2,p2,zz⟩:=I.tuple hb
  refine HT.cat_tup p1 p2 (fun z=>hx (r1.nil_iff.mp z)) (fun z=>⟨.ref a,H,I,rfl,q1 (r2.nil_iff.mp z)⟩) (fun z=>?_) (by rw [← r1.length,← r2.length]; exact hz)
  refine ⟨.ref s.heap.objs.size,_,I.laid (t':=s.toks) (o := .tup (xs ++ ys)) (fun b ob q=>Heap.get?_push_of_some _ q) (Nat.le_refl _) ?_,rfl,q2 (fun w=>z (r2.nil_iff.mpr w)) _ (I.hok.fresh (Nat.le_refl _))⟩
  exact ⟨by rw [List.length_append]; exact hz,_,r1.append r2,IsTup.new _ _⟩
end
end L2
namespace L2
open PySem PySem.Spec PyProof.Rows
noncomputable def ixN (n : Nat) (i : Int) : Option Nat:=if 0≤i then (if i < n then some i.toNat else none) else if -(n : Int)≤i then some (i + n).toNat else none
noncomputable def atI {α : Type} (xs : List α) (i : Int) : Option α:=(ixN xs.length i).bind fun j=>xs[j]?
theorem ixN_seq {n : Nat} {i : Int} {j : Nat} (h : ixN n i=some j) : seqIndex? i n=some j∧j < n ∧ -(n : Int)≤i∧i < n:=by
  unfold ixN at h
  by_cases h0 : 0≤i
  · rw [if_pos h0] at h
    by_cases h1 : i < n
    · rw [if_pos h1] at h
      have e : i.toNat=j:=Option.some.inj h
      exact ⟨by rw [seqIndex_of h0 h1,e],by omega,by omega,h1⟩
    · rw [if_neg h1] at h; cases h
  · rw [if_neg h0] at h
    by_cases h1 : -(n : Int)≤i
    · rw [if_pos h1] at h
      have e : (i + n).toNat=j:=Option.some.inj h
      exact ⟨by rw [seqIndex_neg (by omega) h1,e],by omega,h1,by omega⟩
    · rw [if_neg h1] at h; cases h
theorem atI_get {α : Type} {xs : List α} {i : Int} {v : α} (h : atI xs i=some v) : ∃ j,seqIndex? i xs.length=some j∧xs[j]?=some v∧j < xs.length ∧ -(xs.length : Int)≤i∧i < xs.length:=by
  unfold atI at h
  cases e : ixN xs.length i with
  | none=>rw [e] at h; cases h
  | some j =>
    rw [e] at h
    obtain ⟨h1,h2,h3,h4⟩:=ixN_seq e
    exact ⟨j,h1,h,h2,h3,h4⟩
theorem atI_nat {α : Type} {xs : List α} {j : Nat} {v : α} (h : xs[j]?=some v) : atI xs (j : Int)=some v:=by
  have hj : j < xs.length:=(List.getElem?_eq_some_iff.mp h).1
  have e : ixN xs.length (j : Int)=some j:=by
    unfold ixN
    rw [if_pos (by omega),if_pos (by omega)]; simp
  unfold atI; rw [e]; exact h
theorem atI_last {α : Type} (xs : List α) (v : α) : atI (xs ++ [v]) (-1)=some v:=by
  have hl : (xs ++ [v]).length=xs.length + 1:=by simp
  have e : ixN (xs ++ [v]).length (-1)=some xs.length:=by
    unfold ixN
    rw [hl,if_neg (by decide),if_pos (by omega)]
    congr 1
    omega
  unfold atI
  rw [e]
  show (xs ++ [v])[xs.length]?=some v
  simp
noncomputable def PlainIx (b : Expr) : Prop:=∀ o i,subscripted b false o i=operate [o,i] (getItem o i)
noncomputable def IxR (X : Cx) (r : R2) : Prop :=
  ∀ (value slice : Expr) (pins : List (Addr × Obj)) (s : Shared) (σ : St) (H : Hp) (x y : V) (v u : Value) (Q : VK),Inv X pins σ H s→RelV x v→RelV y u→r x y H Q →
    subscripted slice false v u=operate [v,u] (getItem v u)→wpAny (model X.prog X.w) X.A (subscriptTail value slice v u) (EP X pins σ Q) X.xe s
noncomputable def MtR (X : Cx) (id : String) (r : V→List V→Hp→VK→Prop) : Prop :=
  ∀ (pins : List (Addr × Obj)) (s : Shared) (σ : St) (H : Hp) (x : V) (xs : List V) (v : Value) (us : List Value) (Q : VK),Inv X pins σ H s→RelV x v→Vals xs us→r x xs H Q →
    wpAny (model X.prog X.w) X.A (call (.builtin id) (v :: us)) (EP X pins σ Q) X.xe s
section
variable {X : Cx} {a b : Expr} {ta tb : TE} {pos : Pos}
theorem IxR.or {r r' : R2} (h : IxR X r) (h' : IxR X r') : IxR X (fun x y H Q=>r x y H Q∨r' x y H Q):=by
  intro value slice pins s σ H x y v u Q I rx ry q hs
  rcases q with q | q
  · exact h value slice pins s σ H x y v u Q I rx ry q hs
  · exact h' value slice pins s σ H x y v u Q I rx ry q hs
theorem pe_ix {r : R2} (hr : IxR X r) (ha : PE X a ta) (hb : PE X b tb) (hs : PlainIx b) : PE X (.Subscript a b pos) (tOp r ta tb):=by
  intro pins s σ H Q I h
  exact Subscript_ (binT ha hb I h fun v u s2 x y H2 I2 rx ry q=>hr a b pins s2 σ H2 x y v u Q I2 rx ry q (hs _ _))
inductive zcT (K : PySem.W.Frag) (x : V) (y : V) (H : Hp) (Q : VK) : Prop where
  | mk (p : _) (xs : _) (i : _) (v : _) (h0 : x = .ref p) (h1 : y = .int i) (h2 : SqL K H p xs) (h3 : atI xs i=some v) (h4 : Q v H) : zcT K x y H Q
noncomputable def rIxL (K : PySem.W.Frag) : R2:=zcT K
inductive zcU (K : PySem.W.Frag) (x : V) (y : V) (H : Hp) (Q : VK) : Prop where
  | mk (p : _) (xs : _) (i : _) (v : _) (h0 : x = .ref p) (h1 : y = .int i) (h2 : SqT K H p xs) (h3 : atI xs i=some v) (h4 : Q v H) : zcU K x y H Q
noncomputable def rIxT (K : PySem.W.Frag) : R2:=zcU K
noncomputable def zhQ (x : V) (y : V) (H : Hp) (Q : VK):=fun z i c=>L23.A5 (x = .str z) (y = .int i) (z.length≤sizeLine) (atI z.cps.toList i=some c) (Q (.str ⟨#[c]⟩) H)
noncomputable def rIxS : R2:=fun x y H Q=>L23.E3 (zhQ x y H Q)
theorem ix_list : IxR X (rIxL X.K):=by
  intro value slice pins s σ H x y v u Q I rx ry h hs
  obtain ⟨p,xs,i,z,rfl,rfl,hq,he,q⟩:=h
  cases rx
  obtain ⟨t,rfl⟩:=ry
  obtain ⟨its,r,pl,hz⟩:=I.list hq
  obtain ⟨j,h1,h2,h3,h4,h5⟩:=atI_get he
  obtain ⟨w,ew,rw'⟩:=r.get h2
  have hl:=r.length
  have hn:=line63
  have fin : EP X pins σ Q w s:=⟨z,H,I,rw',q⟩
  by_cases h0 : 0≤i
  · have hj : i.toNat=j:=by
      rw [seqIndex_of h0 h5] at h1
      exact Option.some.inj h1
    exact item_listR pl.isList h0 (by omega) (by rw [hj]; simpa using ew) fin hs
  · have hj : (i + (its.toArray.size : Int)).toNat=j:=by
      rw [seqIndex_neg (by omega) h4] at h1
      rw [List.size_toArray,← hl]
      exact Option.some.inj h1
    exact subscriptTail_builtinR (x:=w) pl.isList.typeIs slot_list_getitem.lookup
      (wpAny_getItem_list_neg (Q:=fun r s'=>r=w∧EP X pins σ Q r s') pl.isList (by omega) (by rw [List.size_toArray] <;> omega) (by omega) (by rw [hj]; simpa using ew) ⟨rfl,fin⟩) hs
theorem ix_tup : IxR X (rIxT X.K):=by
  intro value slice pins s σ H x y v u Q I rx ry h hs
  obtain ⟨p,xs,i,z,rfl,rfl,hq,he,q⟩:=h
  cases rx
  obtain ⟨t,rfl⟩:=ry
  obtain ⟨its,r,pl,hz⟩:=I.tuple hq
  obtain ⟨j,h1,h2,h3,h4,h5⟩:=atI_get he
  obtain ⟨w,ew,rw'⟩:=r.get h2
  have hl:=r.length
  have hn:=line63
  have fin : EP X pins σ Q w s:=⟨z,H,I,rw',q⟩
  exact subscriptTail_builtinR (x:=w) pl.typeIs slot_tuple_getitem.lookup
    (getItem_tuple (j:=j) (Q:=fun r s'=>r=w∧EP X pins σ Q r s') pl (by omega) (by omega) (by rw [List.size_toArray,← hl]; exact h1) (by simpa using ew) ⟨rfl,fin⟩) hs
theorem ix_str : IxR X rIxS:=by
  intro value slice pins s σ H x y v u Q I rx ry h hs
  obtain ⟨z,i,c,rfl,rfl,hz,he,q⟩:=h
  obtain ⟨t,rfl⟩:=rx
  obtain ⟨t',rfl⟩:=ry
  obtain ⟨j,h1,h2,h3,h4,h5⟩:=atI_get he
  have hl : z.cps.toList.length=z.length:=by simp [Str.length]
  rw [hl] at h1 h4 h5
  have hn:=line63
  exact tail_any (typeIs_str s z t) slot_str_getitem.lookup (getItem_str (c:=c) (by
    have e1 : decide (i < -(2 ^ 63 : Int))=false:=decide_eq_false (by omega)
    have e2 : decide (i ≥ 2 ^ 63)=false:=decide_eq_false (by omega)
    rw [e1,e2,Bool.or_false]) (by rw [h1]; simpa using h2) ⟨.str ⟨#[c]⟩,H,I.tok _,⟨_,rfl⟩,q⟩) hs
noncomputable def rIx (K : PySem.W.Frag) : R2:=fun x y H Q=>rIxL K x y H Q∨rIxT K x y H Q∨rIxS x y H Q
theorem ix_seq : IxR X (rIx X.K):=ix_list.or (ix_tup.or ix_str)
theorem slice_bounds (lo hi : Option Int) (n : Nat) : (sliceBounds lo hi none n).1=((HT.sIx n 0 lo : Nat) : Int)∧(sliceBounds lo hi none n).2.1=((HT.sIx n n hi : Nat) : Int)∧(sliceBounds lo hi none n).2.2=1:=by
  refine ⟨?_,?_,rfl⟩
  · cases lo with
    | none=>rfl
    | some i=>exact HT.zhe i n 0
  · cases hi with
    | none=>rfl
    | some i=>exact HT.zhe i n n
theorem slicePick_cut (its : List Value) (lo hi : Option Int) : slicePick its.toArray lo hi none=((its.drop (HT.sIx its.length 0 lo)).take (HT.sIx its.length its.length hi - HT.sIx its.length 0 lo)).toArray:=by
  obtain ⟨h1,h2,h3⟩:=slice_bounds lo hi its.toArray.size
  unfold slicePick
  rw [h1,h2,h3]
  simp only [sliceRange_one,pick_run,List.size_toArray] <;> rfl
noncomputable def zhR (K : PySem.W.Frag) (x : V) (lo : Option Int) (hi : Option Int) (H : Hp) (Q : VK):=fun a xs=>L23.A3 (x = .ref a) (SqL K H a xs) (∀ p,H p=none→Q (.ref p) (upd H p (.lst (cutV xs lo hi))))
noncomputable def rSlL (K : PySem.W.Frag) : V→Option Int→Option Int→Hp→VK→Prop:=fun x lo hi H Q=>L23.E2 (zhR K x lo hi H Q)
theorem sl_list : SlR X (rSlL X.K):=by
  intro pins s σ H x v vl vu lo hi sl Q I rx hs pl pu h
  obtain ⟨a,xs,rfl,hx,q⟩:=h
  cases rx
  obtain ⟨its,r,ht,hz⟩:=I.list hx
  have hlen:=r.length
  refine ⟨"list",_,slot_list_getitem.lookup,ht.isList.typeIs,?_⟩
  refine wpAny_getItem_list_slice ht.isList hs pl pu .none (by simp) ?_ (by rw [List.size_toArray] <;> omega)
  rw [slicePick_cut,← hlen]
  refine ⟨.ref s.heap.objs.size,_,I.laid (t':=s.toks) (o := .lst (cutV xs lo hi)) (fun b ob q=>Heap.get?_push_of_some _ q) (Nat.le_refl _) ?_,rfl,q _ (I.hok.fresh (Nat.le_refl _))⟩
  exact ⟨Nat.le_trans (cutV_length xs lo hi) hz,_,0,(r.drop (HT.sIx xs.length 0 lo)).take (HT.sIx xs.length xs.length hi - HT.sIx xs.length 0 lo),Heap.get?_push_size _ rfl⟩
noncomputable def flatV : V→Bool
  | .non=>true
  | .bl _=>true
  | .int _=>true
  | .str _=>true
  | _=>false
noncomputable def eqV : V→V→Bool
  | .non,.non=>true
  | .bl a,.bl b=>a == b
  | .bl a,.int b=>(if a then 1 else 0) == b
  | .int a,.bl b=>a == (if b then 1 else 0)
  | .int a,.int b=>a == b
  | .str a,.str b=>a == b
  | _,_=>false
theorem eqAt_V {A : Around} {s : Shared} {y x : V} {u v : Value} (ry : RelV y u) (rx : RelV x v) (fy : flatV y=true) (fx : flatV x=true) : SeqAt.EqAt A s u v (eqV y x):=by
  cases y with
  | non =>
    cases ry
    cases x with
    | non=>cases rx; exact SeqAt.EqAt.same _
    | bl b=>cases rx; exact SeqAt.EqAt.none_bool b
    | int b=>obtain ⟨t,rfl⟩:=rx; exact SeqAt.EqAt.none_int b t
    | str b=>obtain ⟨t,rfl⟩:=rx; exact SeqAt.EqAt.none_str b t
    | _=>exact absurd (show false=true from fx) Bool.false_ne_true
  | bl a =>
    cases ry
    cases x with
    | non=>cases rx; exact SeqAt.EqAt.bool_none a
    | bl b=>cases rx; exact SeqAt.EqAt.bool_bool a b
    | int b=>obtain ⟨t,rfl⟩:=rx; exact SeqAt.EqAt.bool_int a b t
    | str b=>obtain ⟨t,rfl⟩:=rx; exact SeqAt.EqAt.bool_str a b t
    | _=>exact absurd (show false=true from fx) Bool.false_ne_true
  | int a =>
    obtain ⟨t',rfl⟩:=ry
    cases x with
    | non=>cases rx; exact SeqAt.EqAt.int_none a t'
    | bl b=>cases rx; exact SeqAt.EqAt.int_bool a t' b
    | int b=>obtain ⟨t,rfl⟩:=rx; exact SeqAt.EqAt.int_int a t' b t
    | str b=>obtain ⟨t,rfl⟩:=rx; exact SeqAt.EqAt.int_str a t' b t
    | _=>exact absurd (show false=true from fx) Bool.false_ne_true
  | str a =>
    obtain ⟨t',rfl⟩:=ry
    cases x with
    | non=>cases rx; exact SeqAt.EqAt.str_none a t'
    | bl b=>cases rx; exact SeqAt.EqAt.str_bool a t' b
    | int b=>obtain ⟨t,rfl⟩:=rx; exact SeqAt.EqAt.str_int a t' b t
    | str b=>obtain ⟨t,rfl⟩:=rx; exact SeqAt.EqAt.str_str a t' b t
    | _=>exact absurd (show false=true from fx) Bool.false_ne_true
  | _=>exact absurd (show false=true from fy) Bool.false_ne_true
noncomputable def eqU (x : V) (u : Value) : Bool:=match u with
  | .none=>eqV .non x
  | .bool b=>eqV (.bl b) x
  | .int i _=>eqV (.int i) x
  | .str z _=>eqV (.str z) x
  | _=>false
theorem eqU_of {x y : V} {u : Value} (r : RelV y u) (f : flatV y=true) : eqU x u=eqV y x:=by
  cases y with
  | non=>cases r; rfl
  | bl b=>cases r; rfl
  | int i=>obtain ⟨t,rfl⟩:=r; rfl
  | str z=>obtain ⟨t,rfl⟩:=r; rfl
  | _=>exact absurd (show false=true from f) Bool.false_ne_true
theorem any_eqU {x : V} : ∀ {xs : List V} {us : List Value},Vals xs us→xs.all flatV=true→us.any (eqU x)=xs.any fun y=>eqV y x
  := by
  intro xs us h
  induction h with
  | nil=>intro _; rfl
  | cons r t ih =>
    intro f
    rw [List.all_cons,Bool.and_eq_true] at f
    rw [List.any_cons,List.any_cons,eqU_of r f.1,ih f.2]
theorem mem_eqAt {A : Around} {s : Shared} {x : V} {v : Value} (rx : RelV x v) (fx : flatV x=true) : ∀ {xs : List V} {us : List Value},Vals xs us→xs.all flatV=true→∀ u∈us,SeqAt.EqAt A s u v (eqU x u)
  := by
  intro xs us h
  induction h with
  | nil=>intro _ u hu; cases hu
  | cons r t ih =>
    intro f u' hu
    rw [List.all_cons,Bool.and_eq_true] at f
    rcases List.mem_cons.mp hu with rfl | hu
    · rw [eqU_of r f.1]; exact eqAt_V r rx f.1 fx
    · exact ih f.2 u' hu
noncomputable def inV (x : V) (xs : List V) : Bool:=xs.any fun y=>eqV y x
inductive zeL (K : PySem.W.Frag) (neg : Bool) (x : V) (y : V) (H : Hp) (Q : VK) : Prop where
  | mk (p : _) (xs : _) (h0 : y = .ref p) (h1 : (SqL K H p xs∨SqT K H p xs)) (h2 : flatV x=true) (h3 : xs.all flatV=true) (h4 : Q (.bl (if neg then !inV x xs else inV x xs)) H) : zeL K neg x y H Q
noncomputable def rIn (K : PySem.W.Frag) (neg : Bool) : R2:=zeL K neg
theorem op_in_seq : OpR X (compareOp .In) (rIn X.K false):=by
  intro pins s σ H x y v u Q I rx ry h
  obtain ⟨p,xs,rfl,hq,fx,fs,q⟩:=h
  cases ry
  rcases hq with hq | hq
  · obtain ⟨its,r,pl,hz⟩:=I.list hq
    refine SeqAt.in_listAt (eqU x) pl.isList (fun w hw=>mem_eqAt rx fx r fs w (by simpa using hw)) ⟨.bl _,H,I,rfl,?_⟩
    rw [show its.toArray.any (eqU x)=its.any (eqU x) by simp,any_eqU r fs]
    exact q
  · obtain ⟨its,r,pl,hz⟩:=I.tuple hq
    refine SeqAt.in_tupleAt (eqU x) pl (fun w hw=>mem_eqAt rx fx r fs w (by simpa using hw)) ⟨.bl _,H,I,rfl,?_⟩
    rw [show its.toArray.any (eqU x)=its.any (eqU x) by simp,any_eqU r fs]
    exact q
theorem op_notIn_seq : OpR X (compareOp .NotIn) (rIn X.K true):=by
  intro pins s σ H x y v u Q I rx ry h
  obtain ⟨p,xs,rfl,hq,fx,fs,q⟩:=h
  cases ry
  rcases hq with hq | hq
  · obtain ⟨its,r,pl,hz⟩:=I.list hq
    refine SeqAt.notIn_listAt (eqU x) pl.isList (fun w hw=>mem_eqAt rx fx r fs w (by simpa using hw)) ⟨.bl _,H,I,rfl,?_⟩
    rw [show its.toArray.any (eqU x)=its.any (eqU x) by simp,any_eqU r fs]
    exact q
  · obtain ⟨its,r,pl,hz⟩:=I.tuple hq
    refine SeqAt.notIn_tupleAt (eqU x) pl (fun w hw=>mem_eqAt rx fx r fs w (by simpa using hw)) ⟨.bl _,H,I,rfl,?_⟩
    rw [show its.toArray.any (eqU x)=its.any (eqU x) by simp,any_eqU r fs]
    exact q
theorem call_tuple_of : CallR X (.type "tuple") (fun xs H Q=>L23.E2 fun p ys=>xs=[.ref p]∧((SqL X.K H p ys∧∀ l,H l=none→Q (.ref l) (upd H l (.tup ys)))∨(SqT X.K H p ys∧Q (.ref p) H))):=by
  intro pins s σ H xs us Q I r h
  obtain ⟨p,ys,rfl,h⟩:=h
  obtain ⟨u,rfl,rx⟩:=vals1 r
  cases rx
  rcases h with ⟨hq,q⟩ | ⟨hq,q⟩
  · obtain ⟨its,r',pl,hz⟩:=I.list hq
    have hlen:=r'.length
    refine call_tuple_list pl.isList (fun h' kp=>?_) (by simp only [List.size_toArray] <;> omega)
    have I1 : Inv X pins σ H { s with heap:=h' }:=I.kept (t':=s.toks) kp
    have I2 : Inv X pins σ (upd H h'.objs.size (.tup ys)) { s with heap:=h'.push { cls := .type "tuple",data := .seq its.toArray } } :=
      I1.laid (t':=s.toks) (fun b o e=>Heap.get?_push_of_some _ e) (Nat.le_refl _) (show ObjOk X.prog X.w _ _ _ (.tup ys) from ⟨hz,its,r',IsTup.new _ _⟩)
    exact ⟨.ref h'.objs.size,_,I2,rfl,q _ (I1.hok.fresh (Nat.le_refl _))⟩
  · obtain ⟨its,r',pl,hz⟩:=I.tuple hq
    exact call_tuple_same pl ⟨.ref p,H,I,rfl,q⟩
noncomputable def tyV (K : PySem.W.Frag) (T : String) (x : V) (H : Hp) : Prop:=match x with
  | .str _=>T="str"
  | .int _=>T="int"
  | .ref p=>(T="list"∧∃ xs,SqL K H p xs)∨(T="tuple"∧∃ o,K.lookup p=some o∧o.cls = .type "tuple"∧o.dict=none) ∨
      (T="dict"∧((∃ kvs,H p=some (.dK kvs))∨∃ kvs,H p=some (.dT kvs)))∨(T="set"∧∃ S n,H p=some (.set S n))
  | _=>False
theorem tyV_is {pins : List (Addr × Obj)} {σ : St} {H : Hp} {s : Shared} {T : String} {x : V} {v : Value} (I : Inv X pins σ H s) (r : RelV x v) (ty : tyV X.K T x H) :
    s.TypeIs v T∧∀ a,v = .ref a→∃ ob,s.heap.get? a=some ob∧ob.dict=none:=by
  cases x with
  | str z =>
    obtain ⟨t,rfl⟩:=r
    cases (show T="str" from ty)
    exact ⟨typeIs_str s z t,fun zz e=>nomatch e⟩
  | int i =>
    obtain ⟨t,rfl⟩:=r
    cases (show T="int" from ty)
    exact ⟨typeIs_int s i t,fun zz e=>nomatch e⟩
  | ref p =>
    cases r
    rcases ty with ⟨rfl,xs,hq⟩ | ⟨rfl,o,hk,hc,hd⟩ | ⟨rfl,hk⟩ | ⟨rfl,S,n,hk⟩
    · obtain ⟨its,zz,pl,zz⟩:=I.list hq
      refine ⟨pl.isList.typeIs,fun a e=>?_⟩
      cases e
      obtain ⟨o,n,e,c,hd,zz⟩:=pl
      exact ⟨o,e,hd⟩
    · refine ⟨⟨o,I.kIn p o hk,hc⟩,fun a e=>?_⟩
      cases e
      exact ⟨o,I.kIn _ o hk,hd⟩
    · have z : ∃ o,s.heap.get? p=some o∧o.ExactDict:=by
        rcases hk with ⟨kvs,hk⟩ | ⟨kvs,hk⟩
        · obtain ⟨zz,zz,zz,zz,o,zz,zz,e,ex,zz⟩:=I.hok p _ hk
          exact ⟨o,e,ex⟩
        · obtain ⟨zz,zz,zz,zz,o,zz,zz,e,ex,zz⟩:=I.hok p _ hk
          exact ⟨o,e,ex⟩
      obtain ⟨o,e,ex⟩:=z
      refine ⟨⟨o,e,ex.1⟩,fun a e2=>?_⟩
      cases e2
      exact ⟨o,e,ex.2.1⟩
    · obtain ⟨o,zz,zz,zz,e,ex,zz⟩:=I.hok p _ hk
      refine ⟨⟨o,e,ex.1⟩,fun a e2=>?_⟩
      cases e2
      exact ⟨o,e,ex.2.1⟩
  | _=>exact False.elim ty
noncomputable def zhS (K : PySem.W.Frag) (T : String) (r : V→List V→Hp→VK→Prop) (Q : VK):=fun (x : V) (H1 : Hp)=>tyV K T x H1∧r x [] H1 Q
noncomputable def tBM0 (K : PySem.W.Frag) (T : String) (r : V→List V→Hp→VK→Prop) (to : TE) : TE:=fun σ H Q=>to σ H (zhS K T r Q)
noncomputable def ziE (r : V→List V→Hp→VK→Prop) (Q : VK) (x : V):=fun (xs : List V) (H2 : Hp)=>r x xs H2 Q
noncomputable def ziF (K : PySem.W.Frag) (T : String) (r : V→List V→Hp→VK→Prop) (t : TA) (σ : L2.St) (Q : VK):=fun (x : V) (H1 : Hp)=>tyV K T x H1∧t σ H1 (ziE r Q x)
noncomputable def tBM (K : PySem.W.Frag) (T : String) (r : V→List V→Hp→VK→Prop) (to : TE) (t : TA) : TE:=fun σ H Q=>to σ H (ziF K T r t σ Q)
variable {o e : Expr} {es : List Expr} {to : TE} {t : TA} {name : Str} {apos cpos : Pos} {T id : String} {r : V→List V→Hp→VK→Prop}
theorem pe_bm0 (pa : PlainAttrs T) (slot : Slot T name id) (hty : typeOf (.builtin id)=pure (.type "method_descriptor")) (hm : MtR X id r) (ho : PE X o to)
    (hbase : autoParam (attributeBase o name X.env (eval o X.env)=eval o X.env) L23.a1._auto_1) (hline : autoParam ((apos.endLine == cpos.line)=true) L23.a1._auto_1) : PE X (.Call (.Attribute o name apos) [] [] cpos) (tBM0 X.K T r to):=by
  intro pins s σ H Q I h
  refine wpAny_Call_method0_late hbase hline (thn (ho pins s σ H _ I h) fun v s1 ⟨x,H1,I1,r1,ty,q1⟩=>?_)
  obtain ⟨h1,h2⟩:=tyV_is I1 r1 ty
  exact ⟨T,id,pa,slot,hty,h1,h2,Calls.callWith_builtin rfl (PySem.evalArgs_none (hm pins s1 σ H1 x [] v [] Q I1 r1 .nil q1))⟩
theorem pe_bm (pa : PlainAttrs T) (slot : Slot T name id) (hty : typeOf (.builtin id)=pure (.type "method_descriptor")) (hm : MtR X id r) (ho : PE X o to) (ha : PA X (e :: es) t)
    (hbase : autoParam (attributeBase o name X.env (eval o X.env)=eval o X.env) L23.a1._auto_1)
    (hfew : autoParam (((backTo cpos (starEach (e :: es) X.env)).all (fun x=>!x.1) && (backToKw cpos (keywordEach [] X.env)).all (fun x=>x.1.isSome)
      && decide ((e :: es).length + ([] : List Keyword).length + (if ([] : List Keyword).isEmpty then 0 else 1) < 30))=true) L23.a1._auto_1)
    (hline : autoParam ((apos.endLine == cpos.line)=true) L23.a1._auto_1) (hs : autoParam (starEach (e :: es) X.env=(false,eval e X.env) :: starEach es X.env) L23.a1._auto_1) (hplain : autoParam ((backTo cpos (starEach es X.env)).any (·.1)=false) L23.a1._auto_1) :
    PE X (.Call (.Attribute o name apos) (e :: es) [] cpos) (tBM X.K T r to t):=by
  intro pins s σ H Q I h
  refine wpAny_Call_method_late hbase hfew hline rfl (thn (ho pins s σ H _ I h) fun v s1 ⟨x,H1,I1,r1,ty,q1⟩=>?_)
  obtain ⟨h1,h2⟩:=tyV_is I1 r1 ty
  refine ⟨T,id,pa,slot,hty,h1,h2,?_⟩
  have hA:=ha cpos pins s1 σ H1 _ I1 q1
  rw [hs] at hA ⊢
  refine Calls.callWith_builtin (by show (false || (backTo cpos (starEach es X.env)).any (·.1))=false; rw [hplain] <;> rfl) (Calls.evalArgs_plain ?_)
  exact thn hA fun us s2 ⟨vs,H2,I2,r2,q2⟩=>hm pins s2 σ H2 x vs v us Q I2 r1 r2 q2
end
end L2
namespace L2
open PySem PySem.Spec PyProof.Rows
noncomputable def MtM (X : Cx) (id : String) (r : V→List V→Hp→VK→Prop) : Prop :=
  ∀ (pins : List (Addr × Obj)) (s : Shared) (σ : St) (H : Hp) (x : V) (xs : List V) (v : Value) (us : List Value) (Q : VK),Inv X pins σ H s→RelV x v→Vals xs us→r x xs H Q →
    wpAny (model X.prog X.w) X.A (call (.builtin id) (v :: us)) (EP X pins σ Q) X.xe s
theorem Vals.one : ∀ {x : V} {us : List Value},Vals [x] us→∃ u,us=[u]∧RelV x u
  := by intro _ _ h; cases h with | cons r t=>cases t; exact ⟨_,rfl,r⟩
theorem Vals.zero : ∀ {us : List Value},Vals [] us→us=[]
  | _,.nil=>rfl
theorem Vals.dropLast {xs : List V} {us : List Value} (h : Vals xs us) : Vals xs.dropLast us.dropLast:=by
  induction h with
  | nil=>exact .nil
  | cons r t ih =>
    cases t with
    | nil=>exact .nil
    | cons q t'=>exact .cons r ih
theorem Vals.eraseIdx : ∀ {xs : List V} {us : List Value} (i : Nat),Vals xs us→Vals (xs.eraseIdx i) (us.eraseIdx i)
  | _,_,_,.nil => .nil
  | _,_,0,.cons _ t=>t
  | _,_,i + 1,.cons r t => .cons r (Vals.eraseIdx i t)
theorem erase_last {α : Type} (l : List α) : l.eraseIdx (l.length - 1)=l.dropLast:=by
  induction l with
  | nil=>rfl
  | cons a r ih =>
    cases r with
    | nil=>rfl
    | cons b r =>
      have e : (a :: b :: r).length - 1=((b :: r).length - 1) + 1:=rfl
      rw [e,List.eraseIdx_cons_succ,ih]
      all_goals rfl
section
variable {X : Cx} {pins : List (Addr × Obj)} {σ : St} {H : Hp} {s : Shared} {l b : Addr} {xs ys zs : List V}
theorem Inv.lset {its its' : List Value} {n : Nat} {f : Array Value→Array Value} {t' : Nat} (I : Inv X pins σ H s) (hH : H l=some (.lst xs))
    (e : s.heap.get? l=some { cls := .type "list",data := .seq its.toArray n }) (hf : f its.toArray=its'.toArray) (hv : Vals ys its') (hz : ys.length≤sizeLine) :
    Inv X pins σ (upd H l (.lst ys)) { s with heap:=s.heap.update l (Obj.mapSeq f),toks:=t' }:=by
  have q:=PySem.IsL.update e f
  rw [hf] at q
  refine I.write (x:=l) (e:=l) (by rw [hH]; exact trivial) (.inl rfl) (fun b' u hb hu=>(Heap.get?_update_other s.heap (Obj.mapSeq f) (Ne.symm hb)).trans hu) ⟨_,q⟩ ?_
  exact ⟨hz,its',_,hv,q⟩
theorem Inv.lnew {its : List Value} {t' : Nat} (I : Inv X pins σ H s) (hv : Vals ys its) (hz : ys.length≤sizeLine) :
    Inv X pins σ (upd H s.heap.objs.size (.lst ys)) { s with heap:=s.heap.push { cls := .type "list",data := .seq its.toArray },toks:=t' } :=
  I.laid (fun zz zz q=>Heap.get?_push_of_some _ q) (Nat.le_refl _) ⟨hz,its,0,hv,Heap.get?_push_size _ rfl⟩
theorem Inv.fresh (I : Inv X pins σ H s) : H s.heap.objs.size=none:=I.hok.fresh (Nat.le_refl _)
theorem Inv.lstM (I : Inv X pins σ H s) (hH : H l=some (.lst xs)) : xs.length≤sizeLine∧∃ (its : List Value) (n : Nat),Vals xs its∧xs.length=its.length∧s.heap.get? l=some { cls := .type "list",data := .seq its.toArray n }:=by
  obtain ⟨z,its,n,r,e⟩:=I.hok l _ hH
  exact ⟨z,its,n,r,r.length,e⟩
theorem notLongL {n : Nat} (h : n≤sizeLine) : Builtin.List.listTooLong n=false:=by
  unfold Builtin.List.listTooLong
  exact decide_eq_false (by omega)
end
section
variable {X : Cx}
inductive Vk (x : V) (vs : List V) (H : Hp) (Q : VK) : Prop where
  | mk (l : _) (xs : _) (y : _) (h0 : x = .ref l) (h1 : vs=[y]) (h2 : H l=some (.lst xs)) (h3 : xs.length < sizeLine) (h4 : Q .non (upd H l (.lst (xs ++ [y])))) : Vk x vs H Q
noncomputable def rAppend : V→List V→Hp→VK→Prop:=Vk
theorem mt_append : MtM X "list.append" rAppend:=by
  intro pins s σ H x vs v us Q I rx rv h
  obtain ⟨l,xs,y,rfl,rfl,hH,hz,q⟩:=h
  cases rx
  obtain ⟨u,rfl,ru⟩:=rv.one
  obtain ⟨z,its,n,r,hl,e⟩:=I.lstM hH
  refine call_meets F.slot_list_append ⟨_,e,rfl⟩ F.entry_list_append (F.args_list_append_2 _ _) (PySem.list_append l its.toArray n u (by rw [List.size_toArray]; omega)) ⟨e,?_⟩
  refine ⟨.non,_,I.lset (its':=its ++ [u]) hH e (by simp) (r.append (.cons ru .nil)) ?_,rfl,q⟩
  rw [List.length_append,List.length_singleton]
  omega
noncomputable def zdd (x : V) (vs : List V) (H : Hp) (Q : VK):=fun l b xs zs=>L23.A6 (x = .ref l) (vs=[.ref b]) (H l=some (.lst xs)) (H b=some (.lst zs)) (xs.length + zs.length≤sizeLine) (Q .non (upd H l (.lst (xs ++ zs))))
noncomputable def rExtend : V→List V→Hp→VK→Prop:=fun x vs H Q=>L23.E4 (zdd x vs H Q)
theorem mt_extend : MtM X "list.extend" rExtend:=by
  intro pins s σ H x vs v us Q I rx rv h
  obtain ⟨l,b,xs,zs,rfl,rfl,hH,hB,hz,q⟩:=h
  cases rx
  obtain ⟨u,rfl,ru⟩:=rv.one
  cases ru
  obtain ⟨z,its,n,r,hl,e⟩:=I.lstM hH
  obtain ⟨z2,its2,n2,r2,hl2,e2⟩:=I.lstM hB
  have hsz : its.toArray.size + its2.toArray.size≤sizeLine:=by rw [List.size_toArray,List.size_toArray]; omega
  have hlong : ¬ (!its.toArray.isEmpty && Builtin.List.listTooLong (its.toArray.size + its2.toArray.size))=true:=by
    rw [notLongL hsz,Bool.and_false]
    exact Bool.false_ne_true
  refine call_meets F.slot_list_extend ⟨_,e,rfl⟩ F.entry_list_extend (F.args_list_extend_2 _ _)
    (AutoSeq1.list_extend_list_list_0 l its.toArray n b its2.toArray n2 hlong (by rw [List.size_toArray]; omega) (by omega)) ⟨e,e2,?_⟩
  refine ⟨.non,_,I.lset (its':=its ++ its2) hH e (by simp) (r.append r2) ?_,rfl,q⟩
  rw [List.length_append]
  omega
noncomputable def zhT (x : V) (vs : List V) (H : Hp) (Q : VK):=fun l xs y=>L23.A5 (x = .ref l) (vs=[]) (H l=some (.lst xs)) (xs[xs.length - 1]?=some y) (Q y (upd H l (.lst xs.dropLast)))
noncomputable def rPop : V→List V→Hp→VK→Prop:=fun x vs H Q=>L23.E3 (zhT x vs H Q)
theorem mt_pop : MtM X "list.pop" rPop:=by
  intro pins s σ H x vs v us Q I rx rv h
  obtain ⟨l,xs,y,rfl,rfl,hH,hy,q⟩:=h
  cases rx
  have hus:=rv.zero
  subst hus
  obtain ⟨z,its,n,r,hl,e⟩:=I.lstM hH
  obtain ⟨u,hu,ru⟩:=r.get hy
  have hy' : its.toArray[its.toArray.size - 1]?=some u:=by
    show its.toArray[its.length - 1]?=some u
    rw [← Array.getElem?_toList,← hl]
    exact hu
  refine call_meets F.slot_list_pop ⟨_,e,rfl⟩ F.entry_list_pop (F.args_list_pop_1 _) (MeetsSeq.list_pop_last l its.toArray n u hy' (by rw [List.size_toArray]; omega)) ⟨e,?_⟩
  refine ⟨y,_,I.lset (its':=its.dropLast) hH e ?_ r.dropLast ?_,ru,q⟩
  · show its.toArray.eraseIdxIfInBounds (its.toArray.size - 1)=its.dropLast.toArray
    rw [List.size_toArray,List.eraseIdxIfInBounds_toArray,erase_last]
  · rw [List.length_dropLast]
    omega
noncomputable def zeM (x : V) (vs : List V) (H : Hp) (Q : VK):=fun l xs=>L23.A4 (x = .ref l) (vs=[]) (H l=some (.lst xs)) (Q .non (upd H l (.lst [])))
noncomputable def rClear : V→List V→Hp→VK→Prop:=fun x vs H Q=>L23.E2 (zeM x vs H Q)
theorem mt_clear : MtM X "list.clear" rClear:=by
  intro pins s σ H x vs v us Q I rx rv h
  obtain ⟨l,xs,rfl,rfl,hH,q⟩:=h
  cases rx
  have hus:=rv.zero
  subst hus
  obtain ⟨z,its,n,r,hl,e⟩:=I.lstM hH
  refine call_meets F.slot_list_clear ⟨_,e,rfl⟩ F.entry_list_clear (F.args_list_clear_1 _) (AutoSeq1.list_clear_list_0 l its.toArray n (by rw [List.size_toArray]; omega)) ⟨e,?_⟩
  exact ⟨.non,_,I.lset (its':=[]) (ys:=[]) hH e rfl .nil (Nat.zero_le _),rfl,q⟩
noncomputable def zhU (x : V) (y : V) (H : Hp) (Q : VK):=fun l b xs zs=>L23.A6 (x = .ref l) (y = .ref b) (H l=some (.lst xs)) (H b=some (.lst zs)) (xs.length + zs.length≤sizeLine) (∀ p,H p=none→Q (.ref p) (upd H p (.lst (xs ++ zs))))
noncomputable def rCat : R2:=fun x y H Q=>L23.E4 (zhU x y H Q)
theorem op_cat : OpR X (binaryOp .Add) rCat:=by
  intro pins s σ H x y v u Q I rx ry h
  obtain ⟨l,b,xs,zs,rfl,rfl,hH,hB,hz,q⟩:=h
  cases rx
  cases ry
  obtain ⟨z,its,n,r,hl,e⟩:=I.lstM hH
  obtain ⟨z2,its2,n2,r2,hl2,e2⟩:=I.lstM hB
  refine PySem.P.add_list e e2 ?_ (by rw [List.size_toArray,List.size_toArray]; omega)
  have ea : its.toArray ++ its2.toArray=(its ++ its2).toArray:=by simp
  rw [ea]
  exact ⟨.ref _,_,I.lnew (t':=s.toks) (r.append r2) (by rw [List.length_append]; omega),rfl,q _ I.fresh⟩
end
section
variable {prog : Program} {w : World} {A : Around} {E : Value→Shared→Prop} {s : Shared}
end
section
variable {X : Cx}
end
end L2
namespace L2
open PySem PySem.Spec PyProof.Rows
section
variable {κ : Type} [DecidableEq κ]
noncomputable def valV (kvs : List (κ × V)) (k : κ) : Option V:=(kvs.find? fun kv=>decide (kv.1=k)).map (·.2)
noncomputable def putK (kvs : List (κ × V)) (k : κ) (v : V) : List (κ × V) :=
  if (kvs.any fun kv=>decide (kv.1=k))=true then kvs.map (fun kv=>if kv.1=k then (kv.1,v) else kv) else kvs ++ [(k,v)]
theorem valV_pos {p : κ × V} {r : List (κ × V)} {k : κ} (e : p.1=k) : valV (p :: r) k=some p.2:=by simp [valV,List.find?_cons,e]
theorem valV_neg {p : κ × V} {r : List (κ × V)} {k : κ} (e : ¬ p.1=k) : valV (p :: r) k=valV r k:=by simp [valV,List.find?_cons,e]
theorem RelO.getD {o : Option V} {u : Option Value} {d : V} {d' : Value} (r : RelO o u) (rd : RelV d d') : RelV (o.getD d) (u.getD d'):=by
  cases o with
  | none=>cases u with
    | none=>exact rd
    | some _=>exact (show False from r).elim
  | some _=>cases u with
    | none=>exact (show False from r).elim
    | some _=>exact r
theorem KV.val {kvs : List (κ × V)} {vs : List (κ × Value)} (r : KV kvs vs) (k : κ) : RelO (valV kvs k) (valueAt vs k):=by
  unfold KV at r
  induction r with
  | nil=>exact True.intro
  | @cons p q ps qs h t ih =>
    obtain ⟨h1,h2⟩:=h
    by_cases e : p.1=k
    · have e' : q.1=k:=h1.symm.trans e
      have b : valueAt (q :: qs) k=some q.2:=by simp [valueAt,List.find?_cons,e']
      rw [valV_pos e,b]; exact h2
    · have e' : ¬ q.1=k:=fun z=>e (h1.trans z)
      have b : valueAt (q :: qs) k=valueAt qs k:=by simp [valueAt,List.find?_cons,e']
      rw [valV_neg e,b]; exact ih
end
noncomputable abbrev KT (H : Hp) : List (List Key × V)→List (List Key × Addr × Value)→Prop:=Paired fun p q=>p.1=q.1∧H q.2.1=some (.tup (p.1.map kV))∧RelV p.2 q.2.2
theorem KT.val {H : Hp} {kvs : List (List Key × V)} {xs : List (List Key × Addr × Value)} (r : KT H kvs xs) (k : List Key) : RelO (valV kvs k) ((atKey xs k).map (·.2)):=by
  induction r with
  | nil=>exact True.intro
  | @cons p q ps qs h t ih =>
    obtain ⟨h1,zz,h2⟩:=h
    by_cases e : p.1=k
    · have e' : q.1=k:=h1.symm.trans e
      have b : atKey (q :: qs) k=some q.2:=by simp [atKey,List.find?_cons,e']
      rw [valV_pos e,b]; exact h2
    · have e' : ¬ q.1=k:=fun z=>e (h1.trans z)
      have b : atKey (q :: qs) k=atKey qs k:=by simp [atKey,List.find?_cons,e']
      rw [valV_neg e,b]; exact ih
theorem KT.keeps {H H' : Hp} {kvs : List (List Key × V)} {xs : List (List Key × Addr × Value)} (r : KT H kvs xs) (ht : ∀ b ys,H b=some (.tup ys)→H' b=some (.tup ys)) : KT H' kvs xs :=
  Paired.mapP r fun zz zz z=>⟨z.1,ht _ _ z.2.1,z.2.2⟩
section
variable {P : Program} {w : World} {H : Hp} {h : Heap} {a : Addr}
end
noncomputable def DGet (H : Hp) (a : Addr) (y : V) (r : Option V) : Prop :=
  (∃ kvs k,Rd H a (.dK kvs)∧y=kV k∧r=valV kvs k)∨∃ kvs k b,Rd H a (.dT kvs)∧y = .ref b∧H b=some (.tup (k.map kV))∧r=valV kvs k
noncomputable def DPut (H : Hp) (a : Addr) (y v : V) (H' : Hp) : Prop :=
  (∃ kvs k,H a=some (.dK kvs)∧y=kV k∧kvs.length < sizeLine∧H'=upd H a (.dK (putK kvs k v))) ∨
  ∃ kvs k b,H a=some (.dT kvs)∧y = .ref b∧H b=some (.tup (k.map kV))∧kvs.length < sizeLine∧H'=upd H a (.dT (putK kvs k v))
theorem DGet.t {H : Hp} {a b : Addr} {kvs : List (List Key × V)} {k : List Key} (e : H a=some (.dT kvs)) (eb : H b=some (.tup (k.map kV))) : DGet H a (.ref b) (valV kvs k) := .inr ⟨kvs,k,b,.inl e,rfl,eb,rfl⟩
theorem DPut.t {H : Hp} {a b : Addr} {kvs : List (List Key × V)} {k : List Key} {v : V} (e : H a=some (.dT kvs)) (eb : H b=some (.tup (k.map kV))) (hl : kvs.length < sizeLine) :
    DPut H a (.ref b) v (upd H a (.dT (putK kvs k v))) := .inr ⟨kvs,k,b,e,rfl,eb,hl,rfl⟩
section
variable {X : Cx} {pins : List (Addr × Obj)} {σ : St} {H : Hp} {s : Shared} {a : Addr} {y v : V} {u r : Value} {o : Option V} {A : Around} {E : Value→Shared→Prop}
end
section
variable {X : Cx} {pins : List (Addr × Obj)} {σ : St} {H : Hp} {s : Shared} {a : Addr} {kvs : List (Key × V)} {k : Key} {u : Value} {A : Around} {E : Value→Shared→Prop}
end
noncomputable def NoSl (i : Expr) : Prop:=∀ ov iv,subscripted i false ov iv=operate [ov,iv] (getItem ov iv)
theorem subD_of {prog : Program} {w : World} {A : Around} {E : Value→Shared→Prop} {s : Shared} {env : Env} {value slice : Expr} {pos : Pos} {T id : String} {Q : Value→Shared→Prop}
    (hl : typeLookup (.type T) "__getitem__"=pure (some (.builtin id))) (hs : NoSl slice)
    (h : wpAny (model prog w) A (eval value env) (fun o s₁=>wpAny (model prog w) A (eval slice env) (fun i s₂=>s₂.TypeIs o T∧wpAny (model prog w) A (getItem o i) Q E s₂) E s₁) E s) :
    wpAny (model prog w) A (eval (.Subscript value slice pos) env) Q E s:=by
  refine Subscript_ (wpAny_mono h (fun o s₁ h₁=>wpAny_mono h₁ (fun i s₂ h₂=>?_) fun zz zz x=>x) fun zz zz x=>x)
  obtain ⟨hT,h₂⟩:=h₂
  unfold subscriptTail
  refine wpAny_bind ?_
  rw [getitemInPython_of_ne hT.not_modules]
  refine wpAny_bind (wpAny_specialOf hT hl ?_)
  have fin : wpAny (model prog w) A (subscripted slice false o i) (fun r s₃=>wpAny (model prog w) A (letTemporaryGo value o r >>= fun zz=>pure r) Q E s₃) E s₂:=by
    rw [hs o i]
    exact wpAny_operating (wpAny_mono h₂ (fun r s₃ h₃=>wpAny_bind (wpAny_letTemporaryGo (wpAny_pure h₃))) fun zz zz x=>x)
  first
    | exact wpAny_pure (wpAny_bind fin)
    | exact wpAny_bind (wpAny_pure (wpAny_bind fin))
    | exact wpAny_bind fin
section
variable {X : Cx} {o i e value : Expr} {pos pos' tpos : Pos} {td ty tv : TE}
end
section
variable {X : Cx} {pos : Pos}
end
structure M1 (X : Cx) (o : Expr) (m : Str) (apos : Pos) (e : Expr) (cpos : Pos) : Prop where
  base : attributeBase o m X.env (eval o X.env)=eval o X.env
  few : ((backTo cpos (starEach [e] X.env)).all (fun x=>!x.1) && (backToKw cpos (keywordEach [] X.env)).all (fun x=>x.1.isSome)
    && decide (([e] : List Expr).length + ([] : List Keyword).length + (if ([] : List Keyword).isEmpty then 0 else 1) < 30))=true
  line : (apos.endLine == cpos.line)=true
  trees : backTo cpos (starEach [e] X.env)=[(false,eval e X.env)]
structure M2 (X : Cx) (o : Expr) (m : Str) (apos : Pos) (e f : Expr) (cpos : Pos) : Prop where
  base : attributeBase o m X.env (eval o X.env)=eval o X.env
  few : ((backTo cpos (starEach [e,f] X.env)).all (fun x=>!x.1) && (backToKw cpos (keywordEach [] X.env)).all (fun x=>x.1.isSome)
    && decide (([e,f] : List Expr).length + ([] : List Keyword).length + (if ([] : List Keyword).isEmpty then 0 else 1) < 30))=true
  line : (apos.endLine == cpos.line)=true
  trees : backTo cpos (starEach [e,f] X.env)=[(false,eval e X.env),(false,eval f X.env)]
section
variable {X : Cx} {pins : List (Addr × Obj)} {σ : St} {H : Hp} {s : Shared} {a : Addr} {y d : V} {u r : Value} {o : Option V} {A : Around} {E : Value→Shared→Prop}
end
section
variable {X : Cx} {o e f : Expr} {apos cpos : Pos} {td ty tx : TE}
end
section
variable {X : Cx} {pins : List (Addr × Obj)} {σ : St} {H : Hp} {s : Shared} {a : Addr} {kvs : List (Key × V)} {A : Around} {E : Value→Shared→Prop}
end
section
variable {X : Cx} {pins : List (Addr × Obj)} {σ : St} {H : Hp} {s : Shared} {a : Addr} {y : V} {u : Value} {A : Around} {E : Value→Shared→Prop}
end
end L2
namespace Att
open PySem PySem.W PySem.Calls PyProof.Rows
theorem ints_of_wellAll {P : Params} {h : Heap} : ∀ (ns : List Int) (vs : List Value),WellAll P h vs (ns.map WData.int)→IntsAre vs ns:=by
  intro ns
  induction ns with
  | nil =>
    intro vs w
    rw [List.map_nil] at w
    cases w
    exact .nil
  | cons n ns ih =>
    intro vs w
    rw [List.map_cons] at w
    cases w with
    | cons a b =>
      cases a
      exact .cons _ _ (ih _ b)
theorem script_of {l : OpenLaw} {n : Nat} (hn : l.most=some n) {P : Params} {h : Heap} {args : List WData} {vals : List Value}
    (hpre : l.row.toRowW.claim.pre args=true) (hwl : WellAll P h vals args) :
    ∃ a vs ns,vals=[Value.ref a]∧args=[WData.list (ns.map WData.int)]∧h.get? a=some { cls := .type "list",data := .seq vs.toArray }∧IntsAre vs ns∧ns.length≤n:=by
  have hsh : WShape.hasAll [] args [.list .int]=true:=(pre_splitW hpre).1
  have hc : l.pre.holds [] { args:=args }=true:=(pre_splitW hpre).2
  obtain ⟨d,r,rfl,h1,h2⟩:=hasAllW_cons hsh
  obtain rfl:=hasAllW_nil h2
  obtain ⟨xs,rfl,h3⟩:=hasW_list h1
  obtain ⟨ns,rfl⟩:=items_int h3
  have hlen : ns.length≤n:=by
    unfold OpenLaw.pre at hc
    have h4 : (WTm.not (.lt (.lit (.int (n : Int))) (.len (.arg 0)))).holds [] { args:=[.list (ns.map .int)] }=true:=by
      have h4:=(holds_andW hc).1
      rw [hn] at h4
      exact h4
    have h5:=condW_of h4 (w_not (w_lt w_lit (w_len_list (w_arg rfl))))
    rw [List.length_map] at h5
    refine Nat.le_of_not_lt fun q=>?_
    have q' : (n : Int) < ((ns.length : Nat) : Int):=by omega
    first
      | (rw [decide_eq_true q'] at h5; exact absurd h5 (by decide))
      | (simp at h5; omega)
  cases hwl with
  | cons w1 w2 =>
    cases w2
    cases w1 with
    | list ho hall=>exact ⟨_,_,ns,rfl,rfl,ho,ints_of_wellAll ns _ hall,hlen⟩
theorem post_true (l : OpenLaw) (args : List WData) : l.row.toRowW.claim.post args (.bool true) args=true :=
  postW_of (r:=l.row.toRowW) (X:=(true == true))
    (show WShape.has [] (.bool true) .bool=true by first | rfl | decide | simp [WShape.has,WShape.arms,WShape.armsAll])
    (show (WTm.eq .res (.lit (.bool true))).value [] { args:=args,res:=some (.bool true),after:=args }=some (.bool (true == true)) from w_eq_bool (w_res rfl) w_lit) rfl
theorem attach_call {l : OpenLaw} {n : Nat} {q : Program} {loose : List Str} {XP : (Str→Option Value)→Heap→Prop} {YP : World→Heap→Prop} {d : DefRec}
    (hn : l.most=some n) (hdf : d.params.defaults=[])
    (call : ∀ (w : World) (s₀ s₁ : Shared) (mg mb : Str→Option Value) (fa : Addr) (o : Obj) (pm cd doc : Value) (a : Addr) (vs : List Value) (ns : List Int),
      Ground q loose [] XP w s₀ mg mb s₁.heap→YP w s₁.heap →
      s₁.heap.get? fa=some o→o.data = .func (docDef d.name d.params d.body d.scope pm cd doc)→s₁.heap.CodeRec cd d.name→mg d.name=some (.ref fa) →
      s₁.heap.get? a=some { cls := .type "list",data := .seq vs.toArray }→IntsAre vs ns→ns.length≤n→s₁.gens=#[] →
      codeAny (model l.prog w) callerA (.call (.ref fa) ⟨[.ref a],[]⟩) (fun r s'=>r = .ok (.ret (.bool true))∧OldK s₁.heap s'.heap∧s'.os=s₁.os∧AllBare s'.gens) s₁) :
    WalkO q loose XP YP l.row.toRowW d [] (fun f vs=>PySem.call f vs):=by
  intro w s₀ s₁ mg mb G Y fa o pm cd doc dV kV ho hd hcd hD hmg hg args vals as hpre hlay hrd hwl hlo
  obtain rfl : dV = .none:=Dflts.none hD hdf
  obtain rfl : kV = .none:=Dflts.noKw hD
  obtain ⟨a,vs,ns,rfl,rfl,hobj,hints,hlen⟩:=script_of hn hpre hwl
  refine enter_call (codeAny_mono (call w s₀ s₁ mg mb fa o pm cd doc a vs ns G Y ho (fd_plain hd) hcd hmg hobj hints hlen hg) fun r s' hq=>?_)
  obtain ⟨rfl,h2,h3,h4⟩:=hq
  exact ⟨.inl ⟨.bool true,.bool true,[],rfl,fun zz=>rfl,.bool true,post_true l _,fun zz=>⟨List.Pairwise.nil,fun zz hm=>(nomatch hm)⟩⟩,h2,h3,h4⟩
section
variable {prog : Program} {w : World} {A : Around} {E : Value→Shared→Prop} {s : Shared} {K : Frag}
noncomputable def ledger (h : Heap) (L d : Addr) : List (Addr × Obj):=(List.range h.objs.size).filterMap fun a=>if a=L∨a=d then none else (h.get? a).map fun o=>(a,o)
end
end Att
namespace L2
open PySem PySem.Spec PyProof.Rows
theorem vals_ints : ∀ {vs : List Value} {ns : List Int},IntsAre vs ns→Vals (ns.map V.int) vs
  := by
  intro vs ns h
  induction h with
  | nil=>exact .nil
  | cons n t h ih=>exact .cons ⟨t,rfl⟩ ih
noncomputable def Only (H : Hp) : Prop:=∀ b,H b=none∨∃ o xs,H b=some (.frz o (.lst xs))
theorem law_call {P : Program} {w : World} {K : PySem.W.Frag} {mg mb : Str→Option Value} {CX : CXT} {k : Nat} {fa a : Addr} {fd : FuncData} {x : Str} {sp : Sp} {s₁ : Shared} {vs : List Value} {ns : List Int}
    (KX : K.In s₁.heap) (hns : s₁.heap.Ns mainGlobals mg) (hb : s₁.heap.Ns builtinsNs mb) (hbb : ∀ x : Str,x≠"__name__"→mb x=bootBuiltins x) (hlim : s₁.heap.NoLimit) (hg : s₁.gens=#[])
    (ha : s₁.heap.get? a=some { cls := .type "list",data := .seq vs.toArray }) (hi : IntsAre vs ns) (hl : ns.length≤sizeLine) (hr : Room k callerA)
    (F : ∀ base : Heap,K.In base→base.Ns mainGlobals mg→FnOk P w K mg base CX k fa fd [x] sp) (hbind : ∀ (s : Shared) (u : Value),BindsTo s fd ⟨[u],[]⟩ [(x,u)])
    (hsp : ∀ H : Hp,Only H→SqL K H a (ns.map V.int)→sp [.ref a] H (fun v zz=>v = .bl true) fun zz zz zz=>False)
    (hCX : ∀ H e s',CX [] H s₁ (fun zz zz zz=>False) e s'→False) :
    codeAny (model P w) callerA (.call (.ref fa) ⟨[.ref a],[]⟩) (fun r s'=>r = .ok (.ret (.bool true))∧OldK s₁.heap s'.heap∧s'.os=s₁.os∧AllBare s'.gens) s₁:=by
  have rv:=vals_ints hi
  have lenV:=hi.length
  have core : ∀ H : Hp,Only H→SqL K H a (ns.map V.int)→HOk P w H s₁.heap→(∀ b,H b≠none→b=a)→(H a≠none→K.lookup a=none) →
      codeAny (model P w) callerA (.call (.ref fa) ⟨[.ref a],[]⟩) (fun r s'=>r = .ok (.ret (.bool true))∧OldK s₁.heap s'.heap∧s'.os=s₁.os∧AllBare s'.gens) s₁:=by
    intro H hO hS hok hA hK
    have base_of : ∀ {b : Addr} {o : Obj},s₁.heap.get? b=some o→H b=none→(hidT s₁.heap H).get? b=some o:=fun e n=>hidT_get e n
    have noA : ∀ {b : Addr} {o : Obj} {es : Array DictEntry} {ep : Nat},s₁.heap.get? b=some o→o.data = .dict es ep→H b=none:=fun {b o es ep} e d=>by
      cases q : H b with
      | none=>rfl
      | some u =>
        have e' : b=a:=hA b (by rw [q]; simp)
        subst e'
        rw [ha] at e; cases e
        have d' : Data.seq vs.toArray _=Data.dict es ep:=d
        cases d'
    have nsK : ∀ {b : Addr} {m : Str→Option Value},s₁.heap.Ns b m→(hidT s₁.heap H).Ns b m:=fun {b m} ⟨o,es,ep,e,d,r⟩=>⟨o,es,ep,base_of e (noA e d),d,r⟩
    have hKb : K.In (hidT s₁.heap H):=fun b o e=>base_of (KX b o e) (by
      cases q : H b with
      | none=>rfl
      | some u =>
        have e' : b=a:=hA b (by rw [q]; simp)
        subst e'
        rw [hK (by rw [q]; simp)] at e; cases e)
    have hM : Mod K mg (hidT s₁.heap H):=⟨hKb,nsK hns,⟨mb,nsK hb,hbb⟩,let ⟨mc,h1,h2⟩:=hlim; ⟨mc,nsK h1,h2⟩⟩
    have e0 : Env0 P w K mg (hidT s₁.heap H) callerA [] s₁ H:=⟨rfl,hM,fun b o e=>of_hidT e,Nat.le_of_eq (hidT_size _ _),trivial,fun b hb=>absurd (show b∈([] : List Addr) from hb) (by simp),hok,.of_eq hg⟩
    refine codeAny_mono ((F _ hKb (nsK hns)).run callerA [] s₁ H ⟨[.ref a],[]⟩ [.ref a] [.ref a] _ _ hr e0 (hbind s₁ (.ref a)) (.cons rfl .nil) (hsp H hO hS)) fun r s' h=>?_
    cases r with
    | error e=>exact (hCX H e s' h).elim
    | ok fl =>
      cases fl with
      | next=>exact False.elim h
      | brk=>exact False.elim h
      | cont=>exact False.elim h
      | ret u =>
        obtain ⟨v,H',os,bare,un,hok',r',q⟩:=h
        have q' : v = .bl true:=q
        subst q'
        obtain rfl : u=Value.bool true:=r'
        refine ⟨rfl,OldK.of_keep fun b o e=>?_,os,bare⟩
        cases q : H b with
        | none=>exact un.keep b o e q (by intro z; exact absurd (show b∈([] : List Addr) from z) (by simp)) (by simp)
        | some u =>
          rcases hO b with z | ⟨ob,xs,z⟩
          · rw [q] at z; cases z
          · have z2:=un.frzs b ob _ z
            obtain ⟨e1,zz⟩:=hok b _ z
            obtain ⟨e2,zz⟩:=hok' b _ z2
            rw [e] at e1; cases e1
            exact e2
  cases hk : K.lookup a with
  | some o =>
    have e:=KX a o hk
    rw [ha] at e
    cases e
    refine core (fun zz=>none) (fun zz => .inl rfl) (.inr ⟨_,vs.toArray,_,hk,rfl,rfl,rfl,by rw [List.size_toArray,lenV]; exact hl,by simpa using rv⟩) (fun b u z=>by have z' : (none : Option HO)=some u:=z; cases z') (fun b z=>absurd rfl z) fun z=>absurd rfl z
  | none =>
    refine core (fun b=>if b=a then some (.frz { cls := .type "list",data := .seq vs.toArray } (.lst (ns.map V.int))) else none) (fun b=>?_) (.inl (.inr ⟨{ cls := .type "list",data := .seq vs.toArray },if_pos rfl⟩)) (fun b u z=>?_) (fun b z=>?_) fun zz=>hk
    · by_cases hb : b=a
      · exact .inr ⟨_,_,if_pos hb⟩
      · exact .inl (if_neg hb)
    · by_cases hb : b=a
      · have z':=(if_pos hb).symm.trans z
        cases z'
        subst hb
        exact ⟨ha,by rw [List.length_map]; exact hl,vs,_,rv,ha⟩
      · have z':=(if_neg hb).symm.trans z
        cases z'
    · by_cases hb : b=a
      · exact hb
      · exact absurd (if_neg hb) z
end L2
namespace L2
open PySem PySem.Spec PyProof.Rows
theorem walk_of {l : PySem.W.OpenLaw} {n k : Nat} {q : Program} {loose : List Str} {XP : (Str→Option Value)→Heap→Prop} {YP : World→Heap→Prop} {d : DefRec} {K : Params→PySem.W.Frag} {CX : World→CXT} {sp : World→Sp} {x : Str}
    (hn : l.most=some n) (hn2 : n≤sizeLine) (hdf : d.params.defaults=[]) (hr : Room k callerA)
    (hY : ∀ (w : World) (h : Heap),YP w h→(K w.params).In h)
    (F : ∀ (w : World) (mg : Str→Option Value) (fa : Addr) (h : Heap),(K w.params).In h→h.Ns mainGlobals mg→mg d.name=some (.ref fa) →
      ∃ fd : FuncData,(∀ (s : Shared) (u : Value),BindsTo s fd ⟨[u],[]⟩ [(x,u)]) ∧
        ∀ base : Heap,(K w.params).In base→base.Ns mainGlobals mg→FnOk l.prog w (K w.params) mg base (CX w) k fa fd [x] (sp w))
    (hsp : ∀ (w : World) (H : Hp) (a : Addr) (ns : List Int),ns.length≤n→Only H→SqL (K w.params) H a (ns.map V.int)→sp w [.ref a] H (fun v zz=>v = .bl true) fun zz zz zz=>False)
    (hCX : ∀ (w : World) (H : Hp) (s : Shared) (e : Value) (s' : Shared),CX w [] H s (fun zz zz zz=>False) e s'→False) :
    PySem.W.WalkO q loose XP YP l.row.toRowW d [] (fun f vs=>PySem.call f vs):=by
  refine Att.attach_call hn hdf fun w s₀ s₁ mg mb fa o pm cd doc a vs ns G Y ho hd hcd hmg hobj hints hlen hg=>?_
  have KX:=hY w _ Y
  obtain ⟨fd,hb,hF⟩:=F w mg fa _ KX G.T.g hmg
  exact law_call KX G.T.g G.T.b G.T.builtins G.T.nolimit hg hobj hints (Nat.le_trans hlen hn2) hr hF hb (fun H hO hS=>hsp w H a ns hlen hO hS) fun H e s'=>hCX w H s₁ e s'
end L2
namespace L2
open PySem PySem.Spec PyProof.Rows
noncomputable def inClass (s : Stmt) (j : Nat) : Stmt:=match s with
  | .ClassDef _ _ _ body _ _ _ _ _ _ _=>body.getD j (.Pass ⟨0,0,0,0⟩)
  | _ => .Pass ⟨0,0,0,0⟩
noncomputable def defArgs (s : Stmt) : Arguments:=match s with
  | .FunctionDef _ a _ _ _ _ _ _ _ _=>a
  | _=>{ posonlyargs:=[],args:=[],vararg:=none,kwonlyargs:=[],kw_defaults:=[],kwarg:=none,defaults:=[] }
noncomputable def defBody (s : Stmt) : List Stmt:=match s with
  | .FunctionDef _ _ b _ _ _ _ _ _ _=>b
  | _=>[]
noncomputable def defScope (s : Stmt) : Scope:=match s with
  | .FunctionDef _ _ _ _ _ _ sc _ _ _=>sc
  | _=>{ kind := .function,names:=[],isGenerator:=false,isCoroutine:=false }
noncomputable abbrev CX0 : CXT:=fun zz zz zz zz zz zz=>False
noncomputable abbrev E0 : XK:=fun zz zz zz=>False
theorem pass0 {X : Cx} : Passes CX0 X E0:=fun zz zz zz zz zz zz zz h=>h.elim
structure Fun (K : PySem.W.Frag) (x qual : Str) (st : Stmt) (f : Addr) (fd : FuncData) : Prop where
  ex : ∃ (oc : Value) (od : Option Addr) (kV doc pm : Value) (an : Option Addr) (cdv ct : Value) (osl : Array (Option Value)),
    fd=PySem.W.fnOf x qual (defArgs st) (defBody st) (defScope st) .none kV doc pm an cdv ct∧K.lookup f=some ⟨oc,od,.func fd,osl⟩∧PySem.W.codeIn K cdv qual=true
  kp : PySem.W.keepIn K (.ref f)=true
section
variable {P : Program} {w : World} {K : PySem.W.Frag} {mg : Str→Option Value} {base : Heap}
theorem Fun.ok {x qual : Str} {st : Stmt} {f : Addr} {fd : FuncData} {N ps : List Str} {k : Nat} {sp : Sp} (F : Fun K x qual st f fd) (S : FnScope N ps (defScope st)) (len : ∀ vs H Q E,sp vs H Q E→vs.length=ps.length)
    (hbody : ∀ (cdv : Value) (A : Around) (outer : List Env) (s : Shared) (H : Hp) (vs : List V) (Q : VK) (E : XK),Room k (A.deeper (envOfC qual (defScope st) s.heap.objs.size f cdv))→sp vs H Q E →
      ∃ t,PSs (cxOf CX0 P w K mg base N qual (defScope st) f cdv A outer s H E).nox (defBody st) t∧t { nx:=fun zz H'=>Q .non H',rt:=Q } (start N vs) H) : FnOk P w K mg base CX0 (k + 1) f fd ps sp:=by
  obtain ⟨oc,od,kV,doc,pm,an,cdv,ct,osl,rfl,lk,hcd⟩:=F.ex
  refine fn_of lk hcd S len fun A outer s H vs Q E hr hsp=>?_
  obtain ⟨t,h,q⟩:=hbody cdv A outer s H vs Q E hr hsp
  exact ⟨t,h.nox,q⟩
theorem Fun.binds {x qual : Str} {st : Stmt} {f : Addr} {fd : FuncData} {ps : List Str} (F : Fun K x qual st f fd)
    (h : ∀ (kV doc pm : Value) (an : Option Addr) (cdv ct : Value) (us : List Value),us.length=ps.length→bindArgs (PySem.W.fnOf x qual (defArgs st) (defBody st) (defScope st) .none kV doc pm an cdv ct) ⟨us,[]⟩=pure (ps.zip us)) : Binds K fd ps []:=by
  obtain ⟨oc,od,kV,doc,pm,an,cdv,ct,osl,rfl,lk,hcd⟩:=F.ex
  exact .all (h kV doc pm an cdv ct)
theorem fun_mk {x qual : Str} {st : Stmt} {f : Addr} {oc : Value} {od an : Option Addr} {osl : Array (Option Value)} {kV doc pm cdv ct : Value} (l : K.lookup f=some ⟨oc,od,.func (PySem.W.fnOf x qual (defArgs st) (defBody st) (defScope st) .none kV doc pm an cdv ct),osl⟩)
    (c : PySem.W.codeIn K cdv qual=true) (k : PySem.W.keepIn K (.ref f)=true) : Fun K x qual st f (PySem.W.fnOf x qual (defArgs st) (defBody st) (defScope st) .none kV doc pm an cdv ct):=⟨⟨oc,od,kV,doc,pm,an,cdv,ct,osl,rfl,l,c⟩,k⟩
end
section
variable {X : Cx}
theorem pv (i : Nat) {x : Str} {pos : Pos} (hN : autoParam (X.N[i]?=some x) L23.a1._auto_1) (hv : autoParam (Vis X.env.scope x) L23.a7._auto_1) (hd : autoParam ((x == ("__debug__" : Str))=false) L23.a2._auto_1)
    (hcd : autoParam ((x == ("__classdict__" : Str))=false) L23.a2._auto_1) : PE X (.Name x pos) (tVar i):=pe_var hN hv hd hcd
end
theorem iteF {A B : Prop} (h : B) : if false=true then A else B:=by
  rw [if_neg Bool.false_ne_true]
  exact h
theorem iteT {A B : Prop} (h : A) : if true=true then A else B:=by
  rw [if_pos rfl]
  exact h
theorem ite2 {c A B : Prop} [Decidable c] (h1 : c→A) (h2 : ¬ c→B) : if c then A else B:=by
  by_cases h : c
  · rw [if_pos h]
    exact h1 h
  · rw [if_neg h]
    exact h2 h
noncomputable def Same (H H' : Hp) : Prop:=∀ b o,H b=some o→H' b=some o
theorem Same.refl (H : Hp) : Same H H:=fun zz zz h=>h
theorem Same.trans {H H1 H2 : Hp} (a : Same H H1) (b : Same H1 H2) : Same H H2:=fun c o h=>b c o (a c o h)
theorem Same.free {H H' : Hp} (e : Same H H') {l : Addr} (h : H' l=Option.none) : H l=Option.none:=by
  cases q : H l with
  | none=>rfl
  | some o =>
    rw [e l o q] at h
    cases h
theorem Same.seq {K : PySem.W.Frag} {H H' : Hp} {a : Addr} {xs : List V} (e : Same H H') (h : SqL K H a xs) : SqL K H' a xs:=by
  rcases h with (h | ⟨o,h⟩) | h
  · exact .inl (.inl (e _ _ h))
  · exact .inl (.inr ⟨o,e _ _ h⟩)
  · exact .inr h
section
variable {X : Cx}
end
section
variable {κ : Type} [DecidableEq κ]
end
end L2
namespace L3
open PySem PySem.Spec PyProof.Rows L2
noncomputable def vP (env : Env) : List (Str × NameKind)→List (Str × Addr)→List (Str × Addr)
  | [],cs=>cs
  | (n,k) :: r,cs=>vP env r (if k == .free then match env.cells.lookup n with | some c=>(n,c) :: cs | none=>cs else cs)
noncomputable def w9 (scope : Scope) (env : Env) : List (Str × Addr):=vP env scope.names []
theorem zaf {scope : Scope} {env : Env} (h : ∀ p∈scope.names,p.2 = .free→∃ c,env.cells.lookup p.1=some c) : closureFor scope env=pure (w9 scope env):=by
  unfold closureFor w9
  have go : ∀ (l : List (Str × NameKind)) (cs : List (Str × Addr)),(∀ p∈l,p.2 = .free→∃ c,env.cells.lookup p.1=some c) →
      (forIn l cs fun (p : Str × NameKind) (r : List (Str × Addr))=>(do
        if p.2 == NameKind.free then
          let c ← cellOf env p.1
          pure (ForInStep.yield ((p.1,c) :: r))
        else pure (ForInStep.yield r) : Sem (ForInStep (List (Str × Addr)))))=(pure (vP env l cs) : Sem (List (Str × Addr))):=by
    intro l
    induction l with
    | nil=>intro cs _; rfl
    | cons p l ih =>
      intro cs hl
      obtain ⟨n,k⟩:=p
      rw [List.forIn_cons]
      by_cases hk : k = .free
      · subst hk
        obtain ⟨c,hc⟩:=hl (n,.free) List.mem_cons_self rfl
        have e : cellOf env n=pure c:=by
          unfold cellOf
          have hc' : env.cells.lookup n=some c:=hc
          rw [hc']
        simp only [beq_self_eq_true,if_true,e,pure_bind]
        rw [ih _ fun p hp=>hl p (List.mem_cons_of_mem _ hp)]
        have hc' : env.cells.lookup n=some c:=hc
        simp only [vP,beq_self_eq_true,if_true,hc']
      · have hb : (k == NameKind.free)=false:=by simpa using hk
        simp only [hb,Bool.false_eq_true,if_false,pure_bind]
        rw [ih _ fun p hp=>hl p (List.mem_cons_of_mem _ hp)]
        simp only [vP,hb,Bool.false_eq_true,if_false]
  have:=go scope.names [] h
  simp only [bind_pure] at this ⊢
  exact this
theorem zcF {env : Env} : ∀ {l : List (Str × NameKind)} {cs : List (Str × Addr)} {n : Str} {c : Addr},(n,c)∈vP env l cs→(n,c)∈cs∨((n,NameKind.free)∈l∧env.cells.lookup n=some c):=by
  intro l
  induction l with
  | nil=>intro _ _ _ h; exact .inl h
  | cons mk r ih0 =>
    obtain ⟨m,k⟩:=mk
    intro cs n c h
    rcases ih0 h with h | ⟨h1,h2⟩
    · by_cases hk : k = .free
      · subst hk
        simp only [beq_self_eq_true,if_true] at h
        cases e : env.cells.lookup m with
        | none=>rw [e] at h; exact .inl h
        | some d =>
          rw [e] at h
          rcases List.mem_cons.mp h with q | q
          · cases q
            exact .inr ⟨List.mem_cons_self,e⟩
          · exact .inl q
      · have hb : (k == NameKind.free)=false:=by simpa using hk
        simp only [hb,Bool.false_eq_true,if_false] at h
        exact .inl h
    · exact .inr ⟨List.mem_cons_of_mem _ h1,h2⟩
theorem XG {env : Env} : ∀ {l : List (Str × NameKind)} {cs : List (Str × Addr)} {p : Str × Addr},p∈cs→p∈vP env l cs
  | [],_,_,h=>h
  | (m,k) :: r,cs,p,h=>by
    refine XG (l:=r) ?_
    by_cases hk : k = .free
    · subst hk
      simp only [beq_self_eq_true,if_true]
      cases e : env.cells.lookup m with
      | none=>exact h
      | some d=>exact List.mem_cons_of_mem _ h
    · have hb : (k == NameKind.free)=false:=by simpa using hk
      simp only [hb,Bool.false_eq_true,if_false]
      exact h
theorem zde {env : Env} {n : Str} {c : Addr} (e : env.cells.lookup n=some c) : ∀ {l : List (Str × NameKind)} {cs : List (Str × Addr)},(n,NameKind.free)∈l→(n,c)∈vP env l cs:=by
  intro l
  induction l with
  | nil=>intro cs h; cases h
  | cons mk r ih0 =>
    obtain ⟨m,k⟩:=mk
    intro cs h
    rcases List.mem_cons.mp h with q | q
    · cases q
      refine XG (l:=r) ?_
      simp only [beq_self_eq_true,if_true,e]
      exact List.mem_cons_self
    · exact ih0 q
theorem zag {α : Type} {n : Str} {c : α} : ∀ {l : List (Str × α)},(n,c)∈l→∃ d,l.lookup n=some d:=by
  intro l
  induction l with
  | nil=>intro h; cases h
  | cons md r ih =>
    obtain ⟨m,d⟩:=md
    intro h
    by_cases e : n=m
    · subst e
      exact ⟨d,by simp⟩
    · have hb : (n == m)=false:=beq_eq_false_iff_ne.mpr e
      rcases List.mem_cons.mp h with q | q
      · cases q; exact absurd rfl e
      · obtain ⟨d',hd⟩:=ih q
        exact ⟨d',by simp only [List.lookup,hb]; exact hd⟩
theorem Xw {scope : Scope} {env : Env} {x : Str} : ∀ {names : List (Str × NameKind)} {k : NameKind},
    (names.map fun (n,k)=>if (k == NameKind.free && env.scope.kind == .function && env.kindOf n == some .cell) then (n,NameKind.cell) else (n,k)).lookup x=some k →
    names.lookup x=some k∨(names.lookup x=some .free∧k = .cell):=by
  intro names
  induction names with
  | nil=>intro k h; simp at h
  | cons nj r ih0 =>
    obtain ⟨n,j⟩:=nj
    intro k h
    have ih:=@ih0 k
    rw [List.map_cons] at h
    dsimp only at h
    cases hx : x == n with
    | true =>
      simp only [List.lookup_cons,hx]
      by_cases hc : (j == NameKind.free && env.scope.kind == .function && env.kindOf n == some .cell)=true
      · rw [if_pos hc] at h
        simp only [List.lookup_cons,hx] at h
        have hj : j = .free:=by
          have:=(Bool.and_eq_true_iff.mp (Bool.and_eq_true_iff.mp hc).1).1
          simpa using this
        cases h
        exact .inr ⟨by rw [hj],rfl⟩
      · rw [if_neg hc] at h
        simp only [List.lookup_cons,hx] at h
        exact .inl h
    | false =>
      simp only [List.lookup_cons,hx]
      by_cases hc : (j == NameKind.free && env.scope.kind == .function && env.kindOf n == some .cell)=true
      · rw [if_pos hc] at h; simp only [List.lookup_cons,hx] at h; exact ih h
      · rw [if_neg hc] at h; simp only [List.lookup_cons,hx] at h; exact ih h
theorem zbh {env : Env} {x : Str} : ∀ {names : List (Str × NameKind)},names.lookup x=some .free →
    (names.map fun (n,k)=>if (k == NameKind.free && env.scope.kind == .function && env.kindOf n == some .cell) then (n,NameKind.cell) else (n,k)).lookup x=some .cell ∨
    (names.map fun (n,k)=>if (k == NameKind.free && env.scope.kind == .function && env.kindOf n == some .cell) then (n,NameKind.cell) else (n,k)).lookup x=some .free:=by
  intro names
  induction names with
  | nil=>intro h; simp at h
  | cons nj r ih =>
    obtain ⟨n,j⟩:=nj
    intro h
    rw [List.map_cons]
    dsimp only
    cases hx : x == n with
    | true =>
      simp only [List.lookup_cons,hx] at h
      cases h
      by_cases hc : (NameKind.free == NameKind.free && env.scope.kind == .function && env.kindOf n == some .cell)=true
      · rw [if_pos hc]; exact .inl (by simp only [List.lookup_cons,hx])
      · rw [if_neg hc]; exact .inr (by simp only [List.lookup_cons,hx])
    | false =>
      simp only [List.lookup_cons,hx] at h
      by_cases hc : (j == NameKind.free && env.scope.kind == .function && env.kindOf n == some .cell)=true
      · rw [if_pos hc]; simp only [List.lookup_cons,hx]; exact ih h
      · rw [if_neg hc]; simp only [List.lookup_cons,hx]; exact ih h
noncomputable def z6 (X : Cx) (N : List Str) (scope : Scope) (fp : List Addr) (s : Shared) (H : Hp) : Cx where
  prog:=X.prog
  w:=X.w
  K:=X.K
  mg:=X.mg
  base:=X.base
  A:=X.A
  N:=N
  s₀:=s
  H₀:=H
  env:=compEnvC scope (w9 scope X.env) s.heap.objs.size X.env
  outer:=X.stack
  stack:=X.stack
  ex:=fp
  fn:=fun zz=>false
  calm:=X.calm
  pn:=[]
  xe:=fun zz zz=>False
structure jV (X : Cx) (scope : Scope) (N : List Str) (own : Nat) (js : List Nat) : Prop where
  kind : scope.kind = .function
  cells : ∀ p∈scope.names,p.2 ≠ .cell
  locs : ∀ p∈scope.names,p.2 = .local→scope.names.lookup p.1=some .local
  frees : ∀ p∈scope.names,p.2 = .free→scope.names.lookup p.1=some .free∧(X.env.scope.names.lookup p.1=some .cell∨X.env.scope.names.lookup p.1=some .free)
  len : N.length=own + js.length
  at_ : ∀ (k i : Nat) (x : Str),js[k]?=some i→N[own + k]?=some x→X.N[i]?=some x∧scope.names.lookup x=some .free
noncomputable def zcV (scope sc : Scope) (N M : List Str) (own : Nat) (js : List Nat) : Bool :=
  decide (scope.kind = .function) && scope.names.all (fun p=>p.2 != .cell) && scope.names.all (fun p=>p.2 != .local || scope.names.lookup p.1 == some .local) &&
  scope.names.all (fun p=>p.2 != .free || (scope.names.lookup p.1 == some .free && (sc.names.lookup p.1 == some .cell || sc.names.lookup p.1 == some .free))) &&
  decide (N.length=own + js.length) && (js.zip (N.drop own)).all fun q=>M[q.1]? == some q.2 && scope.names.lookup q.2 == some .free
theorem jW {X : Cx} {scope : Scope} {N : List Str} {own : Nat} {js : List Nat} (sc : Scope) (M : List Str) (h1 : X.env.scope=sc) (h2 : X.N=M) (h : zcV scope sc N M own js=true) : jV X scope N own js:=by
  unfold zcV at h
  simp only [Bool.and_eq_true,decide_eq_true_eq,List.all_eq_true] at h
  obtain ⟨⟨⟨⟨⟨a1,a2⟩,a3⟩,a4⟩,a5⟩,a6⟩:=h
  refine ⟨a1,fun p hp=>by simpa using a2 p hp,fun p hp hk=>?_,fun p hp hk=>?_,a5,fun k i x e1 e2=>?_⟩
  · have:=a3 p hp
    rw [hk] at this
    simpa using this
  · have:=a4 p hp
    rw [hk] at this
    rw [h1]
    simpa using this
  · have hm : (i,x)∈js.zip (N.drop own):=by
      refine List.mem_of_getElem? (i:=k) ?_
      rw [List.getElem?_zip_eq_some]
      exact ⟨e1,by rw [List.getElem?_drop]; exact e2⟩
    have:=a6 _ hm
    rw [h2]
    simpa using this
noncomputable def Zz (own : Nat) (js : List Nat) (σ : L2.St) : L2.St:=List.replicate own none ++ js.map fun i=>(σ[i]?).join
section
variable {X : Cx} {pins : List (Addr × Obj)} {σ : L2.St} {H : Hp} {s : Shared} {scope : Scope} {N : List Str} {own : Nat} {js : List Nat} {fp : List Addr}
theorem xV (I : Inv X pins σ H s) {x : Str} {c : Addr} (e : (w9 scope X.env).lookup x=some c) : X.env.cells.lookup x=some c:=by
  rcases zcF (PySem.mem_of_lookup e) with h | ⟨_,h⟩
  · cases h
  · exact h
theorem WR (C : jV X scope N own js) (I : Inv X pins σ H s) {x : Str} (h : scope.names.lookup x=some .free) : ∃ c,(w9 scope X.env).lookup x=some c∧X.env.cells.lookup x=some c:=by
  have hm:=PySem.mem_of_lookup h
  obtain ⟨c,hc⟩:=I.ok.has x (C.frees _ hm rfl).2
  obtain ⟨d,hd⟩:=zag (zde (cs:=[]) hc hm)
  exact ⟨d,hd,xV I hd⟩
theorem Xx (C : jV X scope N own js) (I : Inv X pins σ H s) : closureFor scope X.env=pure (w9 scope X.env) :=
  zaf fun p hp hk=>I.ok.has p.1 (C.frees p hp hk).2
theorem zdf (C : jV X scope N own js) (I : Inv X pins σ H s) (hf : ∀ b∈fp,FpOk X pins H b) (ho : ∀ b∈fp,∃ o,s.heap.get? b=some o∧∀ v,o.data ≠ .cell v) {h₁ : Heap} {t₁ : Nat} {m : Str→Option Value}
    (hn : h₁.Ns s.heap.objs.size m) (hk : ∀ b o,s.heap.get? b=some o→h₁.get? b=some o) : Inv (z6 X N scope fp s H) [] (Zz own js σ) H { s with heap:=h₁,toks:=t₁ }:=by
  have hlt : ∀ b∈fp,b < s.heap.objs.size:=fun b hb=>by
    obtain ⟨o,e,zz⟩:=ho b hb
    exact Heap.lt_size e
  refine ⟨⟨I.ok.mod,C.kind,I.ok.glob,I.ok.blt,Nat.le_refl _,fun x y c h1 h2=>?_,fun x hx=>?_,fun x c hx zz=>?_,I.ok.hd,I.ok.frames,.inl rfl,fun b hb=>⟨Nat.ne_of_lt (hlt b hb),fun x c e=>?_⟩,I.bs,Nat.le_trans I.ok.bsz I.sz,fun b o e hb=>?_,fun b hb z=>?_,I.stack,I.stkFree⟩,
    rfl,I.bare,Un.kept hk,⟨m,hn,fun i x v h1 h2 h3=>?_⟩,fun x c e=>?_,I.hok.fresh (Nat.le_refl _),fun x c e=>I.freeC x c (xV I e),fun p hp=>?_,I.hok.kept hk,?_⟩
  · exact I.ok.inj x y c (xV I h1) (xV I h2)
  · have hx' : (relabel scope X.env).names.lookup x=some .cell∨(relabel scope X.env).names.lookup x=some .free:=hx
    have hfree : scope.names.lookup x=some .free:=by
      rcases hx' with hx' | hx'
      · rcases Xw (scope:=scope) hx' with q | ⟨q,_⟩
        · exact absurd rfl (C.cells _ (PySem.mem_of_lookup q))
        · exact q
      · rcases Xw (scope:=scope) hx' with q | ⟨q,_⟩
        · exact q
        · exact q
    obtain ⟨c,hc,zz⟩:=WR C I hfree
    exact ⟨c,hc⟩
  · exact absurd hx Bool.false_ne_true
  · exact (hf b hb).2.2.2.2.1 x c (xV I e)
  · rcases (hf b hb).2.2.2.1 with z | z
    · exact I.ok.noex b o e z
    · exact absurd (Nat.lt_of_lt_of_le (Heap.lt_size e) (Nat.le_trans I.ok.bsz z)) (Nat.lt_irrefl _)
  · rcases List.mem_cons.mp (I.stkSub b z) with q | q
    · exact (hf b hb).2.1 q
    · exact (hf b hb).2.2.1 q
  · -- a name of the block that has a value
    have hN : N[i]?=some x:=h1
    have hi : own≤i:=by
      refine Nat.le_of_not_lt fun hlt'=>?_
      unfold Zz at h2
      rw [List.getElem?_append_left (by simpa using hlt'),List.getElem?_replicate] at h2
      split at h2 <;> cases h2
    obtain ⟨k,rfl⟩:=Nat.exists_eq_add_of_le hi
    unfold Zz at h2
    rw [List.getElem?_append_right (by simp),List.length_replicate,Nat.add_sub_cancel_left,List.getElem?_map] at h2
    cases ej : js[k]? with
    | none=>rw [ej] at h2; cases h2
    | some j =>
      rw [ej] at h2
      have h2' : (σ[j]?).join=some v:=Option.some.inj h2
      have hσ : σ[j]?=some (some v):=by
        cases eσ : σ[j]? with
        | none=>rw [eσ] at h2'; cases h2'
        | some ov =>
          rw [eσ] at h2'
          have : ov=some v:=h2'
          rw [this]
      obtain ⟨hXN,hfree⟩:=C.at_ k j x ej hN
      have hkind:=(C.frees _ (PySem.mem_of_lookup hfree) rfl).2
      obtain ⟨m0,hn0,hl⟩:=I.loc
      obtain ⟨u,r,l⟩:=hl j x v hXN hσ (by rcases hkind with q | q; exact .inr (.inl q); exact .inr (.inr q))
      refine ⟨u,r,.inr ⟨zbh hfree,?_⟩⟩
      obtain ⟨c,hc,hc'⟩:=WR C I hfree
      refine ⟨c,hc,?_⟩
      rcases l with ⟨l1,_⟩ | ⟨_,c',e',z⟩
      · have l1' : X.env.scope.names.lookup x=some .local:=l1
        rcases hkind with q | q
        · rw [q] at l1'; cases l1'
        · rw [q] at l1'; cases l1'
      · rw [hc'] at e'
        cases e'
        obtain ⟨o,ho',hd'⟩:=z
        exact ⟨o,hk _ _ ho',hd'⟩
  · obtain ⟨v,o,ho',hd'⟩:=I.cell x c (xV I e)
    exact ⟨v,o,hk _ _ ho',hd'⟩
  · exact absurd (show p∈([] : List (Addr × Obj)) from hp) (by simp)
  · unfold Zz
    show _=N.length
    rw [List.length_append,List.length_replicate,List.length_map,C.len]
theorem zf8 {σ' : L2.St} {H' : Hp} {s' : Shared} (I : Inv X pins σ H s) (hf : ∀ b∈fp,FpOk X pins H b) (J : Inv (z6 X N scope fp s H) [] σ' H' s') : Inv X pins σ H' s' :=
  I.call' (ch:=fp) J.os J.base J.hok J.bare fun b hb=>⟨(hf b hb).2.2.2.1,(hf b hb).2.1,(hf b hb).2.2.2.2.1,(hf b hb).2.2.2.2.2⟩
end
noncomputable def Jp (X : Cx) (ifs : List Expr) (t : TT) : Prop :=
  ∀ (pins : List (Addr × Obj)) (s : Shared) (σ : L2.St) (H : Hp) (Q : Bool→Hp→Prop),Inv X pins σ H s→t σ H Q →
    wpAny (model X.prog X.w) X.A (forIn ifs true fun c r=>if r=true then do let ok ← isTrue c X.env (eval c X.env); pure (ForInStep.yield ok) else pure (ForInStep.yield r)) (TP X pins σ Q) X.xe s
noncomputable def zkw : TT:=fun zz H Q=>Q true H
theorem vc {X : Cx} : Jp X [] zkw:=fun zz zz zz H zz I h=>wpAny_tests_nil ⟨H,I,h⟩
noncomputable def Vl (D : Addr) (J : It) (g : TG) (tc : TT) (te : TE) (Q : Hp→Prop) (W : Nat→Nat→List V→L2.St→Hp→Prop) : Prop :=
  ∀ i m ys σ H,W i m ys σ H→H D=some (.lst ys)∧ys.length < sizeLine ∧
    ((J.stop i H∧Q H)∨(J.go i H∧∃ (N1 : V→L2.St→Hp→Prop) (N0 : L2.St→Hp→Prop),
      (∀ y σ2 H4,N1 y σ2 H4→H4 D=some (.lst ys)∧∃ m',m' < m∧W (i + 1) m' (ys ++ [y]) σ2 (upd H4 D (.lst (ys ++ [y]))))∧(∀ σ2 H3,N0 σ2 H3→∃ m',m' < m∧W (i + 1) m' ys σ2 H3) ∧
      ∀ x H1,J.yld i H x H1→g x σ H1 fun σ2 H2=>tc σ2 H2 fun b H3=>if b=true then te σ2 H3 fun y H4=>N1 y σ2 H4 else N0 σ2 H3))
noncomputable def zhf (own : Nat) (js : List Nat) (wi : TI) (g : TG) (tc : TT) (te : TE) : TE:=fun σ H Q=>wi σ H fun J H1=>∀ D,H1 D=none →
  ∃ W : Nat→Nat→List V→L2.St→Hp→Prop,(∃ m,W 0 m [] (Zz own js σ) (upd H1 D (.lst [])))∧Vl D J g tc te (fun H'=>Q (.ref D) H') W
section
variable {X : Cx} {elt tg iter : Expr} {ifs : List Expr} {scope : Scope} {pos : Pos} {N : List Str} {own : Nat} {js : List Nat} {wi : TI} {g : TG} {tc : TT} {te : TE}
theorem Vm {pins : List (Addr × Obj)} {σ : L2.St} {H : Hp} {s : Shared} {it : Addr} {fp : List Addr} {tn : Nat→Heap→Prop} {J : It} {E : Value→Shared→Prop} {Q : V→Hp→Prop} {R : Value→Addr→Result→Shared→Prop}
    (hc : X.calm=true) (C : jV X scope N own js) (hg : ∀ fp s H,PG (z6 X N scope fp s H) tg g) (ht : ∀ fp s H,Jp (z6 X N scope fp s H) ifs tc) (he : ∀ fp s H,PE (z6 X N scope fp s H) elt te)
    (I : Inv X pins σ H s) (T : Turn X.prog X.w X.K tg J fp it tn) (st : tn 0 s.heap) (hf : ∀ b∈fp,FpOk X pins H b)
    (h : ∀ D,H D=none→∃ W : Nat→Nat→List V→L2.St→Hp→Prop,(∃ m,W 0 m [] (Zz own js σ) (upd H D (.lst [])))∧Vl D J g tc te (fun H'=>Q (.ref D) H') W)
    (hR : ∀ (D L : Addr) (H' : Hp) (s' : Shared),Inv X pins σ H' s'→(∃ m,s'.heap.Ns L m)→H' L=none→L≠X.env.locals→X.s₀.heap.objs.size≤L→(∀ x c,X.env.cells.lookup x=some c→c≠L)→(∀ p∈X.pn ++ pins,p.1≠L) →
      Q (.ref D) H'→R (.ref D) L (.ok .next) s') :
    wpAny (model X.prog X.w) X.A (newList []) (fun acc s₃=>wpAny (model X.prog X.w) X.A (newFunctionEnv scope X.env.globals (w9 scope X.env) [] X.env.qual none .none (some X.env)) (fun cenv s₄ =>
      codeAny (model X.prog X.w) X.A (.compStart (.ListComp elt [⟨tg,iter,ifs,0⟩] scope pos) 0 (.ref it) acc { cenv with scope:=relabel scope X.env }) (R acc cenv.locals) s₄) E s₃) E s:=by
  have hD : H s.heap.objs.size=none:=I.hok.fresh (Nat.le_refl _)
  obtain ⟨W,⟨m0,w0⟩,turn⟩:=h _ hD
  refine wpAny_newObj_type (wpAny_newFunctionEnv C.cells (by intro y hy; simp at hy) (fun h₁ zf9 zga=>?_) C.kind)
  have I3 : Inv X pins σ (upd H s.heap.objs.size (.lst [])) { s with heap:=s.heap.push { cls := .type "list",data := .seq ([] : List Value).toArray },toks:=s.toks }:=I.lnew (its:=[]) .nil (Nat.zero_le _)
  have hf3 : ∀ b∈fp,FpOk X pins (upd H s.heap.objs.size (.lst [])) b:=fun b hb=>by
    obtain ⟨o,e,zz⟩:=T.obj 0 _ st b hb
    exact ⟨by rw [upd_ne (Nat.ne_of_lt (Heap.lt_size e))]; exact (hf b hb).1,(hf b hb).2⟩
  have st3 : tn 0 (s.heap.push { cls := .type "list",data := .seq ([] : List Value).toArray }):=T.keep 0 _ _ st fun b hb o e=>Heap.get?_push_of_some _ e
  dsimp only at zf9 zga ⊢
  generalize hs3 : ({ s with heap:=s.heap.push { cls := .type "list",data := .seq ([] : List Value).toArray },toks:=s.toks } : Shared)=s3 at I3
  have eh : s.heap.push { cls := .type "list",dict:=none,data := .seq ([] : List Value).toArray }=s3.heap:=by rw [← hs3]
  rw [eh] at zf9 zga st3 ⊢
  have old : ∀ b o,s3.heap.get? b=some o→h₁.get? b=some o:=fun b o e=>zga.extBut b o (Nat.ne_of_lt (Heap.lt_size e)) (Heap.get?_push_of_some _ e)
  generalize hH3 : upd H s.heap.objs.size (.lst [])=H3 at I3 hf3 w0
  have J0 : Inv (z6 X N scope fp s3 H3) [] (Zz own js σ) H3 { s3 with heap:=h₁,toks:=s3.toks + ([] : List (Str × Value)).length }:=zdf C I3 hf3 (T.obj 0 _ st3) zf9 old
  have st0 : tn 0 h₁:=T.keep 0 _ _ st3 fun b hb o e=>old b o e
  have stat : ∀ {H' : Hp},(∀ b∈fp,H' b=none)→∀ b∈fp,FpOk (z6 X N scope fp s3 H3) [] H' b:=fun hn b hb=>by
    refine ⟨hn b hb,J0.ok.exf b hb |>.1,J0.ok.exfs b hb,.inl hb,(J0.ok.exf b hb).2,fun p hp=>absurd (show p∈([] : List (Addr × Obj)) from hp) (by simp)⟩
  have loop : ∀ s₄ : Shared,s₄={ s3 with heap:=h₁,toks:=s3.toks + ([] : List (Str × Value)).length } →
      codeAny (model X.prog X.w) X.A (.compLoop (.ListComp elt [⟨tg,iter,ifs,0⟩] scope pos) 0 (.ref it) (.ref s.heap.objs.size) (z6 X N scope fp s3 H3).env) (R (.ref s.heap.objs.size) s3.heap.objs.size) s₄:=by
    rintro s₄ rfl
    refine codeAny_loop rfl (fun n s'=>∃ i ys σ' H',Inv (z6 X N scope fp s3 H3) [] σ' H' s'∧tn i s'.heap∧(∀ b∈fp,H' b=none)∧W i n ys σ' H') ?_ m0 ⟨0,[],_,_,J0,st0,fun b hb=>(hf3 b hb).1,w0⟩
    rintro n s5 ⟨i,ys,σ5,H5,I5,st5,fr5,w5⟩
    show wpAny _ X.A ((compTurn (.ListComp elt [⟨tg,iter,ifs,0⟩] scope pos) 0 (.ref it) (.ref s.heap.objs.size) (z6 X N scope fp s3 H3).env).onRaise (fun x=>do noteFrame x (z6 X N scope fp s3 H3).env; theTreesLotGoes x)) _ _ s5
    refine wpAny_noted ?_
    rw [compTurn_list]
    obtain ⟨hD5,hz5,hw5⟩:=turn i n ys σ5 H5 w5
    refine wpAny_bind (wpAny_standAt (wpAny_bind ?_))
    rcases hw5 with ⟨stop,q⟩ | ⟨go,N1,N0,hN1,hN0,step⟩
    · refine wpAny_mono (T.done (z6 X N scope fp s3 H3) rfl rfl rfl hc i [] s5 σ5 H5 (fun zz zz=>False) I5 (stat fr5) st5 stop) (fun r s6 ⟨hr,I6⟩=>?_) fun zz zz z=>z.elim
      subst hr
      obtain ⟨m,hm,zz⟩:=id I6.loc
      have IX:=zf8 I3 hf3 I6
      exact wpAny_pure (hR _ s3.heap.objs.size H5 s6 IX ⟨m,hm⟩ I6.free (Nat.ne_of_gt I3.lt) I3.sz (fun x c e z=>by
        obtain ⟨v,o,ho,zz⟩:=I3.cell x c e
        rw [z] at ho
        exact absurd (Heap.lt_size ho) (Nat.lt_irrefl _)) (fun p hp z=>by
        have e:=(I3.pin p hp).1
        rw [z] at e
        exact absurd (Heap.lt_size e) (Nat.lt_irrefl _)) q)
    · refine wpAny_mono (T.item (z6 X N scope fp s3 H3) rfl rfl rfl hc i [] s5 σ5 H5 (fun zz zz=>False) I5 (stat fr5) st5 go) (fun r s6 ⟨u,hr,h6⟩=>?_) fun zz zz z=>z.elim
      subst hr
      refine wpAny_bind (wpAny_mono h6 (fun _ s7 ⟨x,H7,I7,r7,y7,st7,fr7⟩=>?_) fun zz zz z=>z.elim)
      have I7':=I7.pinned (stat fr7) (T.obj _ _ st7)
      refine wpAny_bind (wpAny_mono (hg fp s3 H3 _ s7 σ5 H7 x u _ I7' r7 (step x H7 y7)) (fun _ s8 ⟨σ8,H8,I8,q8⟩=>?_) fun zz zz z=>z.elim)
      refine wpAny_bind (wpAny_mono (ht fp s3 H3 _ s8 σ8 H8 _ I8 q8) (fun ok s9 ⟨H9,I9,q9⟩=>?_) fun zz zz z=>z.elim)
      have again : ∀ {sx : Shared} {Hx : Hp} {ys' : List V},Inv (z6 X N scope fp s3 H3) ([] ++ pinsAt fp s7.heap) σ8 Hx sx→(∃ m',m' < n∧W (i + 1) m' ys' σ8 Hx) →
          ∃ m,m < n∧∃ i ys σ' H',Inv (z6 X N scope fp s3 H3) [] σ' H' sx∧tn i sx.heap∧(∀ b∈fp,H' b=none)∧W i m ys σ' H':=fun {sx Hx ys'} Ix ⟨m',hm,wx⟩=>by
        refine ⟨m',hm,i + 1,ys',σ8,Hx,Ix.unpinned,T.keep _ _ _ st7 fun b hb o e=>(Ix.pin (b,o) (List.mem_append_right _ (List.mem_append_right _ (mem_pinsAt hb e)))).1,fun b hb=>?_,wx⟩
        obtain ⟨o,e,d⟩:=T.obj _ _ st7 b hb
        exact (Ix.pin (b,o) (List.mem_append_right _ (List.mem_append_right _ (mem_pinsAt hb e)))).2.1
      cases ok with
      | false =>
        rw [if_neg Bool.false_ne_true] at q9
        exact wpAny_pure ⟨rfl,again I9 (hN0 _ _ q9)⟩
      | true =>
        rw [if_pos rfl] at q9
        show wpAny _ X.A ((do let _ ← call (.builtin "list.append") [.ref s.heap.objs.size,← eval elt (z6 X N scope fp s3 H3).env]) >>= _) _ _ s9
        refine wpAny_bind (wpAny_bind (wpAny_mono (he fp s3 H3 _ s9 σ8 H9 _ I9 q9) (fun v s10 ⟨y,H10,I10,r10,n10⟩=>?_) fun zz zz z=>z.elim))
        obtain ⟨zlk,q10⟩:=hN1 _ _ _ n10
        refine wpAny_bind (wpAny_mono (mt_append (X:=z6 X N scope fp s3 H3) _ s10 σ8 H10 (.ref s.heap.objs.size) [y] (.ref s.heap.objs.size) [v] (fun zz H'=>H'=upd H10 s.heap.objs.size (.lst (ys ++ [y]))) I10 rfl (.cons r10 .nil)
          ⟨_,ys,y,rfl,rfl,zlk,hz5,rfl⟩) (fun _ s11 ⟨_,H11,I11,_,e11⟩=>?_) fun zz zz z=>z.elim)
        subst e11
        exact wpAny_pure (wpAny_pure ⟨rfl,again I11 q10⟩)
  have es : ({ s with heap:=h₁,toks:=s.toks + ([] : List (Str × Value)).length } : Shared)={ s3 with heap:=h₁,toks:=s3.toks + ([] : List (Str × Value)).length }:=by rw [← hs3]
  exact codeAny_compStart_list (loop _ es) (T.self _ _ _ _ _ st0 (loop _ es))
theorem ju (hc : X.calm=true) (C : jV X scope N own js) (hi : PI X tg iter wi) (hg : ∀ fp s H,PG (z6 X N scope fp s H) tg g) (ht : ∀ fp s H,Jp (z6 X N scope fp s H) ifs tc) (he : ∀ fp s H,PE (z6 X N scope fp s H) elt te)
    (hs : autoParam (∀ x,foldedSetIterable iter X.env x=pure x) L23.a3._auto_1) : PE X (.ListComp elt [⟨tg,iter,ifs,0⟩] scope pos) (zhf own js wi g tc te):=by
  intro pins s σ H Q I h
  rw [eval_ListComp]
  refine wpAny_comprehension_free (use:=none) rfl hs (Xx C I) C.kind C.locs (thn (hi pins s σ H _ I h) fun v s1 h1=>thn h1 fun itv s2 h2=>?_)
  obtain ⟨it,fp,tn,J,H2,e,I2,T,st2,f2,hW⟩:=h2
  subst e
  refine Vm (R:=fun acc L=>compPost (model X.prog X.w) X.A X.xe none (EP X pins σ Q) acc L) hc C hg ht he I2 T st2 f2 hW fun D L H' s' I' hm hL1 hL2 hL3 hL4 hL5 q=>?_
  obtain ⟨m,hm⟩:=hm
  refine ⟨m,hm,fun h' sb=>⟨.ref D,H',?_,rfl,q⟩⟩
  exact I'.turned (t':=s'.toks) (fun b o hb e=>(sb.2 b hb).trans e) hL1 hL2 (.inr hL3) hL4 hL5
noncomputable def zhg (i own : Nat) (js : List Nat) (wi : TI) (g : TG) (tc : TT) (te : TE) : TS:=fun D σ H=>zhf own js wi g tc te σ H fun v H'=>D.nx (σ.set i (some v)) H'
theorem zhV {i : Nat} {x : Str} {px : Pos} (hc : X.calm=true) (nd : X.N.Nodup) (hx : X.N[i]?=some x) (hl : X.env.kindOf x=some .local) (C : jV X scope N own js) (hi : PI X tg iter wi) (hg : ∀ fp s H,PG (z6 X N scope fp s H) tg g)
    (ht : ∀ fp s H,Jp (z6 X N scope fp s H) ifs tc) (he : ∀ fp s H,PE (z6 X N scope fp s H) elt te) {spos : Pos}
    (hsw : swapsWith (.ListComp elt [⟨tg,iter,ifs,0⟩] scope pos) (some (.Name x px)) spos.line X.env=pure true) (hs : autoParam (∀ x,foldedSetIterable iter X.env x=pure x) L23.a3._auto_1) :
    PS X (.Assign [.Name x px] (.ListComp elt [⟨tg,iter,ifs,0⟩] scope pos) spos) (zhg i own js wi g tc te):=by
  intro pins s σ H D I h
  rw [exec_Assign_Name_used _ _ _ _ hsw]
  refine wpAny_bind (wpAny_standAt (wpAny_bind ?_))
  show wpAny _ X.A (do let _ ← comprehension (.ListComp elt [⟨tg,iter,ifs,0⟩] scope pos) scope X.env _ (newList []) false (eval iter X.env) (some (assign (.Name x px) X.env))) _ _ s
  refine wpAny_bind (wpAny_mono (wpAny_comprehension_free (use:=some (assign (.Name x px) X.env)) (Q:=fun zz s'=>SP X pins D .next s') rfl hs (Xx C I) C.kind C.locs
    (thn (hi pins s σ H _ I h) fun v s1 h1=>thn h1 fun itv s2 h2=>?_)) (fun zz s' hq=>wpAny_pure (wpAny_pure hq)) fun zz zz e=>e)
  obtain ⟨it,fp,tn,J,H2,e,I2,T,st2,f2,hW⟩:=h2
  subst e
  refine Vm (Q:=fun v H'=>D.nx (σ.set i (some v)) H') (R:=fun acc L=>compPost (model X.prog X.w) X.A X.xe (some (assign (.Name x px) X.env)) (fun zz s'=>SP X pins D .next s') acc L) hc C hg ht he I2 T st2 f2 hW fun A L H' s' I' hm hL1 hL2 hL3 hL4 hL5 q=>?_
  obtain ⟨m,hm⟩:=hm
  show wpAny _ X.A (assign (.Name x px) X.env (.ref A)) _ _ _
  refine wpAny_assign_Name (store_ok2 I' nd hx (.inl hl) (v := .ref A) rfl (fun s7 I7 ⟨a,sb,ha⟩=>?_) (.inr hl))
  have hLa : L≠a:=by
    rcases ha with rfl | ha
    · exact hL2
    · exact (hL4 _ _ ha).symm
  refine ⟨m,hm.sameBut sb hLa,fun h' sb'=>⟨_,H',?_,q⟩⟩
  exact I7.turned (t':=s7.toks) (fun b o hb e=>(sb'.2 b hb).trans e) hL1 hL2 (.inr hL3) hL4 hL5
end
end L3
namespace L3
open PySem PySem.Spec PyProof.Rows L2
mutual
noncomputable def zc (K : PySem.W.Frag) (H : Hp) : V→PyData→Prop
  | v,.none=>v = .non
  | v,.bool b=>v = .bl b
  | v,.int i=>v = .int i
  | v,.str x=>v = .str x
  | v,.list ds=>∃ a xs,v = .ref a∧Rd H a (.lst xs)∧zb K H xs ds
  | v,.tuple ds=>∃ a xs,v = .ref a∧H a=some (.tup xs)∧zb K H xs ds
  | _,.dict _=>False
noncomputable def zb (K : PySem.W.Frag) (H : Hp) : List V→List PyData→Prop
  | xs,[]=>xs=[]
  | xs,d :: ds=>∃ y ys,xs=y :: ys∧zc K H y d∧zb K H ys ds
end
theorem Rd.same {H H' : Hp} {a : Addr} {u : HO} (e : Same H H') (h : Rd H a u) : Rd H' a u:=by
  rcases h with h | ⟨o,h⟩
  · exact .inl (e _ _ h)
  · exact .inr ⟨o,e _ _ h⟩
mutual
theorem zc.same {K : PySem.W.Frag} {H H' : Hp} (e : Same H H') : ∀ (d : PyData) {v : V},zc K H v d→zc K H' v d
  | .none,_,h=>by unfold zc at h ⊢; exact h
  | .bool _,_,h=>by unfold zc at h ⊢; exact h
  | .int _,_,h=>by unfold zc at h ⊢; exact h
  | .str _,_,h=>by unfold zc at h ⊢; exact h
  | .list ds,v,h=>by
    unfold zc at h ⊢
    obtain ⟨a,xs,h1,h2,h3⟩:=h
    exact ⟨a,xs,h1,Rd.same e h2,zb.same e ds h3⟩
  | .tuple ds,v,h=>by
    unfold zc at h ⊢
    obtain ⟨a,xs,h1,h2,h3⟩:=h
    exact ⟨a,xs,h1,e _ _ h2,zb.same e ds h3⟩
  | .dict _,_,h=>by unfold zc at h; exact h.elim
theorem zb.same {K : PySem.W.Frag} {H H' : Hp} (e : Same H H') : ∀ (ds : List PyData) {xs : List V},zb K H xs ds→zb K H' xs ds
  | [],_,h=>by unfold zb at h ⊢; exact h
  | d :: ds,_,h=>by
    unfold zb at h ⊢
    obtain ⟨y,ys,h1,h2,h3⟩:=h
    exact ⟨y,ys,h1,zc.same e d h2,zb.same e ds h3⟩
end
mutual
theorem zc.reads {X : Cx} {pins : List (Addr × Obj)} {σ : L2.St} {H : Hp} {s : Shared} (I : Inv X pins σ H s) : ∀ (d : PyData) {v : V} {u : Value},zc X.K H v d→RelV v u→∃ as,Reads s.heap u d as
  | .none,_,u,h,r=>by
    unfold zc at h; subst h
    cases r
    exact ⟨_,.none⟩
  | .bool b,_,u,h,r=>by
    unfold zc at h; subst h
    cases r
    exact ⟨_,.bool b⟩
  | .int i,_,u,h,r=>by
    unfold zc at h; subst h
    obtain ⟨t,rfl⟩:=r
    exact ⟨_,.int i t⟩
  | .str x,_,u,h,r=>by
    unfold zc at h; subst h
    obtain ⟨t,rfl⟩:=r
    exact ⟨_,.str x t⟩
  | .list ds,_,u,h,r=>by
    unfold zc at h
    obtain ⟨a,xs,rfl,h2,h3⟩:=h
    cases r
    obtain ⟨its,rv,⟨o,n,e,c,zz,hd⟩,zz⟩:=I.list (.inl h2)
    obtain ⟨as,q⟩:=zb.reads I ds h3 rv
    exact ⟨_,.list e c hd (by simpa using q)⟩
  | .tuple ds,_,u,h,r=>by
    unfold zc at h
    obtain ⟨a,xs,rfl,h2,h3⟩:=h
    cases r
    obtain ⟨its,rv,⟨o,e,c,n,hd⟩,zz⟩:=I.tuple (SqT.of h2)
    obtain ⟨as,q⟩:=zb.reads I ds h3 rv
    exact ⟨_,.tuple e c hd (by simpa using q)⟩
  | .dict _,_,_,h,_=>by unfold zc at h; exact h.elim
theorem zb.reads {X : Cx} {pins : List (Addr × Obj)} {σ : L2.St} {H : Hp} {s : Shared} (I : Inv X pins σ H s) : ∀ (ds : List PyData) {xs : List V} {us : List Value},zb X.K H xs ds→Vals xs us→∃ as,ReadsAll s.heap us ds as
  | [],_,us,h,r=>by
    unfold zb at h; subst h
    cases r
    exact ⟨_,.nil⟩
  | d :: ds,_,us,h,r=>by
    unfold zb at h
    obtain ⟨y,ys,rfl,h2,h3⟩:=h
    cases r with
    | cons r1 r2 =>
      obtain ⟨as,q⟩:=zc.reads I d h2 r1
      obtain ⟨bs,q'⟩:=zb.reads I ds h3 r2
      exact ⟨_,.cons q q'⟩
end
theorem zb.strs {K : PySem.W.Frag} {H : Hp} : ∀ (ns : List Str),zb K H (ns.map V.str) (ns.map PyData.str)
  | []=>by unfold zb; rfl
  | n :: ns=>by
    show zb K H (V.str n :: ns.map V.str) (PyData.str n :: ns.map PyData.str)
    unfold zb
    exact ⟨_,_,rfl,by unfold zc; rfl,zb.strs ns⟩
section
variable {X : Cx}
noncomputable def zhW (K : PySem.W.Frag) (n : Nat) (x : V) (y : V) (H : Hp) (Q : VK):=fun d e=>L23.A6 (zc K H x d) (zc K H y e) (d.canLay0=true) (e.canLay0=true) (min d.depth e.depth≤n) (Q (.bl (PyData.eqv d e)) H)
noncomputable def zll (K : PySem.W.Frag) (n : Nat) : R2:=fun x y H Q=>L23.E2 (zhW K n x y H Q)
theorem Vn {n : Nat} (hu : X.A.units + n < cLine) : OpR X (compareOp .Eq) (zll X.K n):=by
  intro pins s σ H x y v u Q I rx ry h
  obtain ⟨d,e,hd,he,l1,l2,hn,q⟩:=h
  obtain ⟨as,r1⟩:=zc.reads I d hd rx
  obtain ⟨bs,r2⟩:=zc.reads I e he ry
  exact SeqAt.compareEq_reads r1 r2 l1 l2 (by omega) ⟨.bl _,H,I,rfl,q⟩
noncomputable def tyName (K : PySem.W.Frag) (H : Hp) (x : V) (T : String) : Prop:=match x with
  | .non=>T="NoneType"
  | .bl _=>T="bool"
  | .int _=>T="int"
  | .str _=>T="str"
  | .ref a=>(T="list"∧((∃ xs,H a=some (.lst xs))∨∃ o xs,H a=some (.frz o (.lst xs))))∨(T="tuple"∧∃ xs,H a=some (.tup xs))∨(T="dict"∧∃ kvs,H a=some (.dK kvs))
  | _=>False
theorem tyName.of {K : PySem.W.Frag} {H : Hp} {x : V} {T : String} (h : tyName K H x T) : TyOf K H x (.type T):=by
  cases x with
  | non=>cases (show T="NoneType" from h); exact .non
  | bl b=>cases (show T="bool" from h); exact .bl b
  | int i=>cases (show T="int" from h); exact .int i
  | str z=>cases (show T="str" from h); exact .str z
  | ref a =>
    rcases h with ⟨rfl,⟨xs,e⟩ | ⟨o,xs,e⟩⟩ | ⟨rfl,xs,e⟩ | ⟨rfl,kvs,e⟩
    · exact .lst e
    · exact .frz e
    · exact .tup e
    · exact .dK e
  | _=>exact (show False from h).elim
inductive WS (K : PySem.W.Frag) (xs : List V) (H : Hp) (Q : VK) : Prop where
  | mk (x : _) (S : _) (T : _) (b : _) (h0 : xs=[x,.ty T]) (h1 : tyName K H x S) (h2 : PySem.W.kitOne K (.type S) (.type T)=some b) (h3 : Q (.bl b) H) : WS K xs H Q
noncomputable def zdg (K : PySem.W.Frag) : List V→Hp→VK→Prop:=WS K
theorem yO : CallR X (.builtin "isinstance") (zdg X.K):=by
  intro pins s σ H xs us Q I r h
  obtain ⟨x,S,T,b,rfl,ty,e,q⟩:=h
  obtain ⟨u,w',rfl,rx,ry⟩:=vals2 r
  cases ry
  exact isinst_ok I rx ty.of e fun tk=>⟨.bl b,H,I.tok _,rfl,q⟩
inductive XH (K : PySem.W.Frag) (xs : List V) (H : Hp) (Q : VK) : Prop where
  | mk (p : Addr) (bs : List Bool) (h0 : xs=[.ref p]) (h1 : SqL K H p (bs.map V.bl)) (h2 : Q (.bl (bs.all id)) H) : XH K xs H Q
noncomputable def zcG (K : PySem.W.Frag) : List V→Hp→VK→Prop:=XH K
theorem XI (hc : X.calm=true) : CallR X (.builtin "all") (zcG X.K):=by
  intro pins s σ H xs us Q I r h
  obtain ⟨p,bs,rfl,hq,q⟩:=h
  obtain ⟨u,rfl,rx⟩:=vals1 r
  cases rx
  obtain ⟨its,rv,pl,hz⟩:=I.list hq
  have hl:=rv.length
  rw [List.length_map] at hl
  refine call_all_walk (wpAny_pyIter_list pl.isList ?_)
  have hp : p < s.heap.objs.size:=by obtain ⟨o,n,e,zz⟩:=pl; exact Heap.lt_size e
  refine ⟨s.heap.objs.size,_,_,its.toArray.size,_,_,fun i=>bs.getD i true,rfl,Walks.list (by show X.A.handled=none; exact I.ok.hd hc) s.heap.objs.size p (Nat.ne_of_lt hp) its.toArray,
    ⟨⟨_,Heap.get?_push_size _ rfl,rfl,rfl⟩,pl.isList.push _⟩,fun i v s' Q' E' hv hQ=>?_,fun h' tk hk=>?_⟩
  · have hv' : its[i]?=some v:=by simpa using hv
    have hi : i < its.length:=(List.getElem?_eq_some_iff.mp hv').1
    obtain ⟨u',e1,r1⟩:=rv.get (x:=V.bl (bs[i]'(by omega))) (i:=i) (by rw [List.getElem?_map,List.getElem?_eq_getElem (by omega)]; rfl)
    rw [hv'] at e1
    cases e1
    cases r1
    refine wpAny_truthy_bool ?_
    have e2 : bs.getD i true=bs[i]'(by omega):=by rw [List.getD_eq_getElem?_getD,List.getElem?_eq_getElem (by omega)]; rfl
    have hQ' : Q' (bs.getD i true) s':=hQ
    rw [e2] at hQ'
    exact hQ'
  · have e : (List.range its.toArray.size).all (fun i=>bs.getD i true)=bs.all id:=by
      rw [List.size_toArray,← hl]
      clear q hq rv hl
      rw [Bool.eq_iff_iff,List.all_eq_true,List.all_eq_true]
      constructor
      · intro h1 b hb
        obtain ⟨i,hi,rfl⟩:=List.mem_iff_getElem.mp hb
        have:=h1 i (List.mem_range.mpr hi)
        rw [List.getD_eq_getElem?_getD,List.getElem?_eq_getElem hi] at this
        exact this
      · intro h1 i hi
        have hi':=List.mem_range.mp hi
        rw [List.getD_eq_getElem?_getD,List.getElem?_eq_getElem hi']
        exact h1 _ (List.getElem_mem hi')
    rw [e]
    refine ⟨.bl _,H,I.kept fun b o eb=>hk b o ?_ (Heap.get?_push_of_some _ eb),rfl,q⟩
    intro z
    have : b=s.heap.objs.size:=by simpa using z
    rw [this] at eb
    exact absurd (Heap.lt_size eb) (Nat.lt_irrefl _)
end
noncomputable def Its (x : Str) : It:=⟨fun i zz=>i < x.cps.size,fun i H v H'=>H'=H∧∃ c,x.cps[i]?=some c∧v = .str ⟨#[c]⟩,fun i zz=>i=x.cps.size⟩
theorem Vo {P : Program} {w : World} {K : PySem.W.Frag} {tx : Str} {px : Pos} {J : It} {it : Addr} {n : Nat} {Pv : Nat→Value→Prop} {Sq : Nat→Heap→Prop}
    (W : ∀ A : Around,A.handled=none→Walks P w A it [it] [it] n Pv Sq) (hob : ∀ i h,Sq i h→∃ o,h.get? it=some o∧∀ v,o.data ≠ .cell v)
    (hgo : ∀ i H,J.go i H→i < n) (hst : ∀ i H,J.stop i H→i=n) (hy : ∀ i H u,Pv i u→∃ x,RelV x u∧J.yld i H x H)
    (hself : ∀ (A : Around) (i : Nat) (s : Shared) (Q : Value→Shared→Prop) (E : Value→Shared→Prop),Sq i s.heap→Q (.ref it) s→wpAny (model P w) A (pyIter (.ref it)) Q E s) : Turn P w K (.Name tx px) J [it] it Sq where
  mem:=by simp
  obj:=fun i h st b hb=>by
    have e : b=it:=by simpa using hb
    subst e
    exact hob i h st
  keep:=fun i h h' st k=>(W callerA rfl).frame i h h' st k
  item:=by
    intro X hP hw hK hc i pins s σ H E I hf st hg
    subst hP hw hK
    obtain ⟨f0,f1,f2,f3,f4,f5⟩:=hf it (by simp)
    refine (W X.A (I.ok.hd hc)).item i s _ _ (hgo i H hg) st fun v h' tk hv st' kk=>?_
    obtain ⟨x,rx,yx⟩:=hy i H v hv
    refine ⟨v,rfl,wpAny_pure ⟨x,H,I.turned (t':=tk) (fun b o hb e=>kk b o (by simpa using hb) e) f0 f1 f3 f4 f5,rx,yx,st',fun b hb=>(hf b hb).1⟩⟩
  done:=by
    intro X hP hw hK hc i pins s σ H E I hf st hg
    subst hP hw hK
    obtain ⟨f0,f1,f2,f3,f4,f5⟩:=hf it (by simp)
    have e : i=n:=hst i H hg
    subst e
    exact (W X.A (I.ok.hd hc)).done s _ _ st fun h' tk kk=>⟨rfl,I.turned (t':=tk) (fun b o hb e=>kk b o (by simpa using hb) e) f0 f1 f3 f4 f5⟩
  self:=hself
theorem zbi {P : Program} {w : World} {K : PySem.W.Frag} {tx : Str} {px : Pos} (x : Str) (t : Tok) (it : Addr) : (x.cps.all (· < 128)=true→Turn P w K (.Name tx px) (Its x) [it] it (fun i h=>h.IsStrIter it "str_ascii_iterator" x t i)) ∧
    Turn P w K (.Name tx px) (Its x) [it] it (fun i h=>h.IsStrIter it "str_iterator" x t i):=by
  have hob : ∀ (ty : String) (i : Nat) (h : Heap),h.IsStrIter it ty x t i→∃ o,h.get? it=some o∧∀ v,o.data ≠ .cell v:=fun ty i h st=>by
    obtain ⟨o,e,c,d⟩:=st
    exact ⟨o,e,fun v z=>by rw [d] at z; cases z⟩
  have hy : ∀ i H u,SignAt x i u→∃ v,RelV v u∧(Its x).yld i H v H:=fun i H u ⟨c,tk,e,q⟩=>⟨.str ⟨#[c]⟩,⟨tk,q⟩,rfl,c,e,rfl⟩
  exact ⟨fun zz=>Vo (fun A hA=>Walks.strAscii hA it x t) (hob _) (fun i H h=>h) (fun i H h=>h) hy fun A i s Q E st q=>wpAny_pyIter_striter_ascii st q,
    Vo (fun A hA=>Walks.strWide hA it x t) (hob _) (fun i H h=>h) (fun i H h=>h) hy fun A i s Q E st q=>wpAny_pyIter_striter_wide st q⟩
noncomputable def zhX (R : (It→Hp→Prop)) (x : V) (H1 : Hp):=fun z=>x = .str z∧R (Its z) H1
noncomputable def zhY (R : (It→Hp→Prop)):=fun (x : V) (H1 : Hp)=>Exists (zhX R x H1)
noncomputable def zlm (tl : TE) : TI:=fun σ H R=>tl σ H (zhY R)
theorem ziG {X : Cx} {l : Expr} {tl : TE} {tx : Str} {px : Pos} (hl : PE X l tl) : PI X (.Name tx px) l (zlm tl):=by
  intro pins s σ H R I h
  refine thn (hl pins s σ H _ I h) fun v s1 ⟨x,H1,I1,r1,q1⟩=>?_
  obtain ⟨z,rfl,q⟩:=q1
  obtain ⟨t,rfl⟩:=r1
  have fp : ∀ b∈[s1.heap.objs.size],FpOk X pins H1 b:=fun b hb=>by
    have e : b=s1.heap.objs.size:=by simpa using hb
    subst e
    exact I1.fpOk (Nat.le_refl _) (I1.hok.fresh (Nat.le_refl _))
  cases ha : z.cps.all (· < 128)
  · exact wpAny_pyIter_wide ha ⟨s1.heap.objs.size,[s1.heap.objs.size],_,_,H1,rfl,I1.kept (t':=s1.toks) fun b o e=>Heap.get?_push_of_some _ e,(zbi z t _).2,⟨_,Heap.get?_push_size _ rfl,rfl,rfl⟩,fp,q⟩
  · exact wpAny_pyIter_ascii ha ⟨s1.heap.objs.size,[s1.heap.objs.size],_,_,H1,rfl,I1.kept (t':=s1.toks) fun b o e=>Heap.get?_push_of_some _ e,(zbi z t _).1 ha,⟨_,Heap.get?_push_size _ rfl,rfl,rfl⟩,fp,q⟩
structure ZA (J : It) (xs : List V) (P : Hp→Prop) : Prop where
  go : ∀ i H,P H→i < xs.length→J.go i H
  stop : ∀ H,P H→J.stop xs.length H
  yld : ∀ i H x H',P H→i < xs.length→J.yld i H x H'→H'=H∧xs[i]?=some x
theorem vv {K : PySem.W.Frag} {a : Addr} {xs : List V} : ZA (Itl K a) xs (fun H=>SqL K H a xs) where
  go:=fun i H h hi=>⟨xs,xs[i],h,by simp [hi]⟩
  stop:=fun H h=>⟨xs,h,Nat.le_refl _⟩
  yld:=fun i H x H' h zz y=>⟨y.1,y.2 xs h⟩
theorem zdh {K : PySem.W.Frag} {a : Addr} {xs : List V} : ZA (Itt K a) xs (fun H=>SqT K H a xs) where
  go:=fun i H h hi=>⟨xs,xs[i],h,by simp [hi]⟩
  stop:=fun H h=>⟨xs,h,Nat.le_refl _⟩
  yld:=fun i H x H' h zz y=>⟨y.1,y.2 xs h⟩
theorem XJ {lo : Int} {n : Nat} {P : Hp→Prop} : ZA (Itr lo n) ((List.range n).map fun i=>V.int (lo + (i : Nat))) P where
  go:=fun i H zz hi=>(by simpa using hi : i < n)
  stop:=fun H zz=>by show n≤_; simp
  yld:=fun i H x H' zz hi y=>by
    obtain ⟨e1,e2⟩:=y
    subst e2
    have hi' : i < n:=by simpa using hi
    exact ⟨e1,by rw [List.getElem?_map,List.getElem?_range hi']; rfl⟩
theorem zdi {x : Str} {P : Hp→Prop} : ZA (Its x) (x.cps.toList.map fun c=>V.str ⟨#[c]⟩) P where
  go:=fun i H zz hi=>(by simpa using hi : i < x.cps.size)
  stop:=fun H zz=>by show _=x.cps.size; simp
  yld:=fun i H v H' zz zz y=>by
    obtain ⟨e1,c,e2,e3⟩:=y
    subst e3
    exact ⟨e1,by rw [List.getElem?_map,Array.getElem?_toList,e2]; rfl⟩
theorem zbj {J : It} {xs : List V} {P : Hp→Prop} {D : Addr} {g : TG} {tc : TT} {te : TE} {Q : Hp→Prop} {σ : L2.St} {H : Hp} (Y : ZA J xs P) (Pv : Nat→List V→L2.St→Hp→Prop) (h0 : Pv 0 [] σ H)
    (hD : ∀ i ys σ H,Pv i ys σ H→P H∧H D=some (.lst ys)∧ys.length≤i) (hz : xs.length < sizeLine)
    (step : ∀ i x ys σ H,xs[i]?=some x→Pv i ys σ H→g x σ H fun σ2 H2=>tc σ2 H2 fun b H3=>if b=true then te σ2 H3 fun y H4=>H4 D=some (.lst ys)∧Pv (i + 1) (ys ++ [y]) σ2 (upd H4 D (.lst (ys ++ [y]))) else Pv (i + 1) ys σ2 H3)
    (hq : ∀ ys σ H,Pv xs.length ys σ H→Q H) : ∃ W : Nat→Nat→List V→L2.St→Hp→Prop,(∃ m,W 0 m [] σ H)∧Vl D J g tc te Q W:=by
  refine ⟨fun i m ys σ H=>m=xs.length - i∧i≤xs.length∧Pv i ys σ H,⟨xs.length,by simp,Nat.zero_le _,h0⟩,?_⟩
  rintro i m ys σ H ⟨rfl,hi,p⟩
  obtain ⟨h1,h2,h3⟩:=hD i ys σ H p
  refine ⟨h2,by omega,?_⟩
  by_cases hlt : i < xs.length
  · refine .inr ⟨Y.go i H h1 hlt,fun y σ2 H4=>H4 D=some (.lst ys)∧Pv (i + 1) (ys ++ [y]) σ2 (upd H4 D (.lst (ys ++ [y]))),fun σ2 H3=>Pv (i + 1) ys σ2 H3,fun y σ2 H4 q=>⟨q.1,xs.length - (i + 1),by omega,rfl,hlt,q.2⟩,
      fun σ2 H3 q=>⟨xs.length - (i + 1),by omega,rfl,hlt,q⟩,fun x H1 y=>?_⟩
    obtain ⟨e,y'⟩:=Y.yld i H x H1 h1 hlt y
    subst e
    exact step i x ys σ _ y' p
  · have e : i=xs.length:=by omega
    subst e
    exact .inl ⟨Y.stop H h1,hq ys σ H p⟩
end L3
namespace L3
open PySem PySem.Spec PyProof.Rows L2
theorem ZZ {J : It} {xs : List V} {P : Hp→Prop} {D : Addr} {g : TG} {tc : TT} {te : TE} {Q : Hp→Prop} {σ : L2.St} {H : Hp} (hD : H D=none) (Y : ZA J xs P) (S : L2.St→Prop) (f : V→Option V) (h0 : S σ) (hP : ∀ H',Same H H'→P H') (hz : xs.length < sizeLine)
    (step : ∀ (x : V) (ys : List V) (σ : L2.St) (H' : Hp) (R1 : L2.St→V→Hp→Prop) (R0 : L2.St→Hp→Prop),x∈xs→S σ→Same H H'→(∀ σ2 y H4,S σ2→f x=some y→Same H' H4→R1 σ2 y H4)→(∀ σ2 H3,S σ2→f x=none→Same H' H3→R0 σ2 H3) →
      g x σ H' fun σ2 H2=>tc σ2 H2 fun b H3=>if b=true then te σ2 H3 fun y H4=>R1 σ2 y H4 else R0 σ2 H3)
    (hq : ∀ H',Same H H'→H' D=some (.lst (xs.filterMap f))→Q H') : ∃ W : Nat→Nat→List V→L2.St→Hp→Prop,(∃ m,W 0 m [] σ (upd H D (.lst [])))∧Vl D J g tc te Q W:=by
  have up : ∀ {H' : Hp} {o : HO},Same H H'→Same H (upd H' D o):=fun {H' o} s b ob e=>by
    rw [upd_ne (ne_of_none e hD)]
    exact s b ob e
  refine zbj Y (fun i ys σ H'=>Same H H'∧H' D=some (.lst ys)∧ys=(xs.take i).filterMap f∧S σ) ⟨up (Same.refl H),upd_same,by simp,h0⟩ (fun i ys σ H' ⟨s,e,e2,_⟩=>⟨hP H' s,e,?_⟩) hz (fun i x ys σ H' hx ⟨s,e,e2,hS⟩=>?_) fun ys σ H' ⟨s,e,e2,_⟩=>?_
  · rw [e2]
    exact Nat.le_trans (List.length_filterMap_le _ _) (by rw [List.length_take]; omega)
  · have hi : i < xs.length:=(List.getElem?_eq_some_iff.mp hx).1
    have et : xs.take (i + 1)=xs.take i ++ [x]:=by rw [List.take_succ,hx]; rfl
    refine step x ys σ H' _ _ (List.mem_of_getElem? hx) hS s (fun σ2 y H4 h2 hf s4=>⟨s4 _ _ e,up (s.trans s4),upd_same,?_,h2⟩) fun σ2 H3 h2 hf s3=>⟨s.trans s3,s3 _ _ e,?_,h2⟩
    · rw [et,List.filterMap_append,← e2]; simp [hf]
    · rw [et,List.filterMap_append,← e2]; simp [hf]
  · refine hq H' s ?_
    rw [e,e2,List.take_length]
end L3
namespace L3
open PySem PySem.Spec PyProof.Rows L2
section
variable {X : Cx}
inductive Xy (x : V) (y : V) (H : Hp) (Q : VK) : Prop where
  | mk (z : _) (n : _) (h0 : x = .str z) (h1 : y = .int n) (h2 : n < 1073741824) (h3 : -1073741824 < n) (h4 : z.length * n.toNat≤1048576) (h5 : Q (.str (PySem.Txt.mul z n)) H) : Xy x y H Q
noncomputable def zbk : R2:=Xy
theorem Zh : OpR X (binaryOp .Mult) zbk:=by
  intro pins s σ H x y v u Q I rx ry h
  obtain ⟨z,n,rfl,rfl,h1,h2,h3,q⟩:=h
  obtain ⟨t,rfl⟩:=rx
  obtain ⟨t',rfl⟩:=ry
  refine SB.mul ⟨?_,fun hn zz hc=>?_,fun zz zz=>?_⟩ fun t'' k=>⟨.str _,H,I.tok _,⟨_,rfl⟩,q⟩
  · rw [decide_eq_false (by omega),decide_eq_false (by omega)]; rfl
  · have hn' : 0 < n:=by omega
    have e : (z.length : Int) * n≤1048576:=by
      have : ((z.length * n.toNat : Nat) : Int)≤1048576:=by omega
      rw [Int.natCast_mul,Int.toNat_of_nonneg (by omega)] at this
      exact this
    have e2 : (2 ^ 63 - 1) / n < z.length:=hc
    have e3:=Int.lt_mul_of_ediv_lt hn' e2
    omega
  · unfold Builtin.Str.tooLong
    have hsz : sizeLine=16777216:=sizeLine_eq
    exact decide_eq_false (by omega)
noncomputable def zeN (x : V) (xs : List V) (H : Hp) (Q : VK):=fun z y=>L23.A5 (x = .str z) (xs=[.str y]) (0 < y.length) (z.length≤1048576) (∀ p,H p=none→Q (.ref p) (upd H p (.lst ((PySem.Txt.split z y).map V.str))))
noncomputable def ziH : V→List V→Hp→VK→Prop:=fun x xs H Q=>L23.E2 (zeN x xs H Q)
theorem JZ : ∀ (l : List (Str × Tok)),Vals ((l.map (·.1)).map V.str) (strValues l)
  | [] => .nil
  | (x,t) :: r => .cons ⟨t,rfl⟩ (JZ r)
end
end L3
namespace L3
open PySem PySem.Spec PyProof.Rows L2
section
variable {X : Cx}
theorem split_len (z y : Str) (hy : 0 < y.length) (hz : z.length≤1048576) : (PySem.Txt.split z y).length≤sizeLine:=by
  have:=PyProof.Rows.split_weight z y hy
  rw [sizeLine_eq]
  omega
theorem zbl : MtR X "str.split" ziH:=by
  intro pins s σ H x xs v us Q I rx rv h
  obtain ⟨z,y,rfl,rfl,hy,hz,q⟩:=h
  obtain ⟨t,rfl⟩:=rx
  obtain ⟨u',rfl,u,rfl⟩:=vals1 rv
  have hl:=split_len z y hy hz
  have fin : ∀ (l : List (Str × Tok)) (k : Nat),l.map (·.1)=PySem.Txt.split z y→EP X pins σ Q (.ref s.heap.objs.size) { s with heap:=s.heap.push { cls := .type "list",data := .seq (strValues l).toArray },toks:=k }:=fun l k e =>
    ⟨.ref _,_,I.lnew (its:=strValues l) (t':=k) (by rw [← e]; exact JZ l) (by rw [List.length_map]; exact hl),rfl,q _ I.fresh⟩
  have hy0 : (y.length == 0)=false:=by
    rw [beq_eq_false_iff_ne]
    omega
  have hzl : z.length≤sizeLine:=by rw [sizeLine_eq]; omega
  cases h1 : (decide (z.length < y.length) || decide (Builtin.Str.strKind z < Builtin.Str.strKind y))
  · cases hf : (Builtin.Str.occurrences z y 0 z.length (z.length + 1)).isEmpty
    · have e : PySem.Txt.split z y=Builtin.Str.partsBetween z (Builtin.Str.occurrences z y 0 z.length (z.length + 1)) y.length:=(if_neg (ne_true_of_eq_false h1)).trans (if_neg (ne_true_of_eq_false hf))
      refine call_meets F.slot_str_split (typeIs_str _ _ _) F.entry_str_split (F.args_str_split_2 _ _) (meets_str_split_sep z y t u h1 hy0 hf hzl (by rw [← e]; exact hl)) ?_
      show wants _ _ _ { s with toks:=_,heap:=s.heap.push { cls := .type "list",data := .seq (strsFrom s.toks (Builtin.Str.partsBetween z (Builtin.Str.occurrences z y 0 z.length (z.length + 1)) y.length)).toArray } }
      rw [strsFrom_eq]
      exact fin _ _ ((numbered_texts _ _).trans e.symm)
    · exact call_meets F.slot_str_split (typeIs_str _ _ _) F.entry_str_split (F.args_str_split_2 _ _) (meets_str_split_not_found z y t u h1 hy0 hf)
        (fin [(z,t)] s.toks ((if_neg (ne_true_of_eq_false h1)).trans (if_pos hf)).symm)
  · exact call_meets F.slot_str_split (typeIs_str _ _ _) F.entry_str_split (F.args_str_split_2 _ _) (meets_str_split_cannot_occur z y t u h1) (fin [(z,t)] s.toks (if_pos h1).symm)
theorem zeO : ∀ (xs : List Str) {its : List Value},Vals (xs.map V.str) its→∃ l : List (Str × Tok),its=strValues l∧l.map (·.1)=xs:=by
  intro xs
  induction xs with
  | nil =>
    intro zz r
    cases r
    exact ⟨[],rfl,rfl⟩
  | cons x xs ih =>
    intro zz r
    cases r with
    | cons r1 r2 =>
      obtain ⟨t,rfl⟩:=r1
      obtain ⟨l,rfl,e⟩:=ih r2
      exact ⟨(x,t) :: l,rfl,by rw [List.map_cons,e]⟩
inductive zbm (K : PySem.W.Frag) (x : V) (vs : List V) (H : Hp) (Q : VK) : Prop where
  | mk (y : _) (p : _) (xs : _) (h0 : x = .str y) (h1 : vs=[.ref p]) (h2 : SqL K H p (xs.map V.str)) (h3 : JoinOk y xs=true) (h4 : Q (.str (PySem.Txt.join y xs)) H) : zbm K x vs H Q
noncomputable def rJoin (K : PySem.W.Frag) : V→List V→Hp→VK→Prop:=zbm K
theorem Yw : MtR X "str.join" (rJoin X.K):=by
  intro pins s σ H x vs v us Q I rx rv h
  obtain ⟨y,p,xs,rfl,rfl,hq,hok,q⟩:=h
  obtain ⟨t,rfl⟩:=rx
  obtain ⟨u',rfl,ru⟩:=vals1 rv
  cases ru
  obtain ⟨its,r,pl,hz⟩:=I.list hq
  obtain ⟨l,rfl,e⟩:=zeO xs r
  exact SC.join pl.isList e hok fun t' k=>⟨.str _,H,I.tok _,⟨_,rfl⟩,q⟩
noncomputable abbrev TF:=L2.St→Hp→Str→(Str→Hp→Prop)→Prop
noncomputable def PF (X : Cx) (es : List Expr) (t : TF) : Prop :=
  ∀ (pins : List (Addr × Obj)) (s : Shared) (σ : L2.St) (H : Hp) (acc : Str) (Q : Str→Hp→Prop),Inv X pins σ H s→t σ H acc Q→wpAny (model X.prog X.w) X.A (joinParts acc (evalEach es X.env)) (EP X pins σ fun v H'=>∃ z,v = .str z∧Q z H') X.xe s
noncomputable def zkx : TF:=fun zz H acc Q=>acc.length≤sizeLine∧Q acc H
noncomputable def ziI (te : TE) (t : TF) : TF:=fun σ H acc Q=>te σ H fun x H1=>∃ y,x = .str y∧(acc ++ y).length≤sizeLine∧t σ H1 (acc ++ y) Q
theorem zeP : PF X [] zkx:=fun zz zz zz H acc zz I h=>joinParts_nil ⟨.str acc,H,I.tok _,⟨_,rfl⟩,acc,rfl,h.2⟩ h.1
theorem jv {e : Expr} {es : List Expr} {te : TE} {t : TF} (he : PE X e te) (hr : PF X es t) : PF X (e :: es) (ziI te t):=by
  intro pins s σ H acc Q I h
  refine joinParts_cons (thn (he pins s σ H _ I h) fun v s1 ⟨x,H1,I1,r1,y,ex,hz,q1⟩=>?_)
  subst ex
  obtain ⟨tk,rfl⟩:=r1
  exact ⟨hz,hr pins s1 σ H1 (acc ++ y) Q I1 q1⟩
noncomputable def zgb (Q : VK):=fun z H'=>Q (.str z) H'
noncomputable def zky (t : TF) : TE:=fun σ H Q=>t σ H Str.empty (zgb Q)
theorem zcW {e e2 : Expr} {es : List Expr} {t : TF} {pos : Pos} (h : PF X (e :: e2 :: es) t) : PE X (.JoinedStr (e :: e2 :: es) pos) (zky t):=by
  intro pins s σ H Q I hq
  refine JoinedStr_many (thn (h pins s σ H Str.empty _ I hq) fun v s1 ⟨x,H1,I1,r1,z,ez,q⟩=>?_)
  subst ez
  exact ⟨.str z,H1,I1,r1,q⟩
noncomputable def zln (te : TE) : TE:=fun σ H Q=>te σ H fun x H1=>match x with
  | .str z=>z.length≤sizeLine∧Q (.str z) H1
  | .int i=>i.natAbs.log2 < 1920∧Q (.str (toString i)) H1
  | _=>False
theorem zbn {e : Expr} {te : TE} {pos : Pos} (he : PE X e te) : PE X (.FormattedValue e (-1) none pos) (zln te):=by
  intro pins s σ H Q I h
  refine FormattedValue_plain (thn (he pins s σ H _ I h) fun v s1 ⟨x,H1,I1,r1,q1⟩=>?_)
  cases x with
  | str z =>
    obtain ⟨t,rfl⟩:=r1
    exact formatField_str (fun t' tk=>⟨.str z,H1,I1.tok _,⟨_,rfl⟩,q1.2⟩) q1.1
  | int i =>
    obtain ⟨t,rfl⟩:=r1
    exact formatField_int_small q1.1 ⟨.str _,H1,I1.tok _,⟨_,rfl⟩,q1.2⟩
  | _=>exact (show False from q1).elim
inductive XM (xs : List V) (H : Hp) (Q : VK) : Prop where
  | mk (z : _) (n : _) (h0 : xs=[.str z]) (h1 : PySem.intText? z=some n) (h2 : z.length≤640) (h3 : Q (.int n) H) : XM xs H Q
noncomputable def zcH : List V→Hp→VK→Prop:=XM
theorem zeQ : CallR X (.type "int") zcH:=by
  intro pins s σ H xs us Q I r h
  obtain ⟨z,n,rfl,hn,hl,q⟩:=h
  obtain ⟨u,rfl,t,rfl⟩:=vals1 r
  exact PySem.W.KIN.call_text hn hl ⟨.int n,H,I.tok _,⟨_,rfl⟩,q⟩
end
end L3
namespace L3
open PySem PySem.Spec PyProof.Rows L2
section
variable (K : PySem.W.Frag)
theorem jO : PySem.W.kitOne K (.type "str") (.type "str")=some true:=by kernel_rfl
theorem zcI : PySem.W.kitOne K (.type "NoneType") (.type "str")=some false:=by kernel_rfl
theorem zdj : PySem.W.kitOne K (.type "bool") (.type "str")=some false:=by kernel_rfl
theorem Z9 : PySem.W.kitOne K (.type "int") (.type "str")=some false:=by kernel_rfl
theorem zbo : PySem.W.kitOne K (.type "list") (.type "str")=some false:=by kernel_rfl
theorem zah : PySem.W.kitOne K (.type "tuple") (.type "str")=some false:=by kernel_rfl
theorem zcJ : PySem.W.kitOne K (.type "int") (.type "int")=some true:=by kernel_rfl
theorem XN : PySem.W.kitOne K (.type "int") (.type "bool")=some false:=by kernel_rfl
theorem j8 : PySem.W.kitOne K (.type "list") (.type "list")=some true:=by kernel_rfl
theorem vV : PySem.W.kitOne K (.type "tuple") (.type "tuple")=some true:=by kernel_rfl
end
theorem zhZ (g : Str) (c : Nat) : (!(Builtin.Str.occurrences g ⟨#[c]⟩ 0 g.length 1).isEmpty)=g.cps.toList.contains c:=by
  have key : ∀ i,StrLaws.At g ⟨#[c]⟩ g.length i↔g.cps.toList[i]?=some c:=fun i=>by
    unfold StrLaws.At
    rw [StrLaws.subAt_eq]
    have hl : g.cps.toList.length=g.length:=by simp [Str.length]
    have h1 : (⟨#[c]⟩ : Str).length=1:=rfl
    have h2 : (⟨#[c]⟩ : Str).cps.toList=[c]:=rfl
    rw [h1,h2]
    constructor
    · rintro ⟨h3,h4⟩
      have hi : i < g.cps.toList.length:=by omega
      rw [List.drop_eq_getElem_cons hi] at h4
      simp only [List.take_succ_cons,List.take_zero] at h4
      have h5:=eq_of_beq h4
      rw [List.getElem?_eq_getElem hi]
      exact congrArg some (List.cons.inj h5).1
    · intro h3
      obtain ⟨hi,h4⟩:=List.getElem?_eq_some_iff.mp h3
      refine ⟨by omega,?_⟩
      rw [List.drop_eq_getElem_cons hi]
      simp [h4]
  rcases StrLaws.occ_head g ⟨#[c]⟩ 1 (Nat.le_refl _) with ⟨e,h⟩ | ⟨i,r,e,h,_⟩
  · rw [e]
    have : g.cps.toList.contains c=false:=by
      rw [Bool.eq_false_iff]
      intro hc
      obtain ⟨i,hi,e2⟩:=List.mem_iff_getElem.mp (List.contains_iff_mem.mp hc)
      exact h i ((key i).mpr (by rw [List.getElem?_eq_getElem hi,e2]))
    rw [this]
    rfl
  · rw [e]
    have : g.cps.toList.contains c=true:=List.contains_iff_mem.mpr (List.mem_of_getElem? ((key i).mp h))
    rw [this]
    rfl
theorem Same.upd {H H' : Hp} {a : Addr} {o : HO} (s : Same H H') (h : H a=none) : Same H (L2.upd H' a o):=fun b ob e=>by
  rw [upd_ne (ne_of_none e h)]
  exact s b ob e
theorem Same.zp {H : Hp} {a : Addr} {o : HO} (h : H a=none) : Same H (L2.upd H a o):=Same.upd (Same.refl H) h
theorem zh0 {z : Str} {i : Int} (h0 : 0≤i) (h1 : i < z.length) : ∃ c,atI z.cps.toList i=some c:=by
  have hl : z.cps.toList.length=z.length:=by simp [Str.length]
  have hk : i.toNat < z.cps.toList.length:=by omega
  have e : (i.toNat : Int)=i:=Int.toNat_of_nonneg h0
  have q:=atI_nat (xs:=z.cps.toList) (j:=i.toNat) (List.getElem?_eq_getElem hk)
  rw [e] at q
  exact ⟨_,q⟩
theorem Jq : ∀ {its : List Value} {xs : List V},its.map absV=xs.map some→Vals xs its:=by
  intro its
  induction its with
  | nil=>intro xs h; cases xs with | nil=>exact .nil | cons _ _=>cases h
  | cons u us ih =>
    intro xs h
    cases xs with
    | nil=>cases h
    | cons x xs =>
      rw [List.map_cons,List.map_cons] at h
      injection h with h1 h2
      refine .cons ?_ (ih h2)
      cases u <;> first
        | (injection h1 with h1; subst h1; first | rfl | exact ⟨_,rfl⟩)
        | cases h1
end L3
namespace L3
open PySem PySem.Spec PyProof.Rows L2
noncomputable def zgc (sc : Scope) (M : List Str) (i : Nat) (x : Str) : Bool :=
  (M[i]? == some x) && (sc.names.lookup x == some .local || sc.names.lookup x == some .cell || sc.names.lookup x == some .free) && !(x == ("__debug__" : Str)) && !(x == ("__classdict__" : Str))
noncomputable def setB (sc : Scope) (M : List Str) (i : Nat) (x : Str) : Bool:=(M[i]? == some x) && decide M.Nodup && sc.names.lookup x == some .local
noncomputable def glB (sc : Scope) (x : Str) : Bool:=(sc.names.lookup x == some .globalImplicit) && !(x == ("__debug__" : Str)) && !(x == ("__name__" : Str))
noncomputable def zD (scope sc : Scope) : Scope :=
  { scope with names:=scope.names.map fun (n,k)=>if (k == .free && sc.kind == .function && sc.names.lookup n == some .cell) then (n,.cell) else (n,k) }
section
variable {X : Cx} {i : Nat} {x : Str} {pos : Pos} {sc : Scope} {M : List Str}
theorem pvN (h1 : X.env.scope=sc) (h2 : X.N=M) (hb : zgc sc M i x=true) : PE X (.Name x pos) (tVar i):=by
  unfold zgc at hb
  simp only [Bool.and_eq_true,Bool.or_eq_true,Bool.not_eq_true',beq_iff_eq] at hb
  obtain ⟨⟨⟨a1,a2⟩,a3⟩,a4⟩:=hb
  refine pe_var (by rw [h2]; exact a1) ?_ a3 a4
  unfold Vis
  rw [h1]
  rcases a2 with (a2 | a2) | a2
  · exact .inl a2
  · exact .inr (.inl a2)
  · exact .inr (.inr a2)
theorem pvA (i : Nat) (sc : Scope) (M : List Str) (h1 : X.env.scope=sc) (h2 : X.N=M) (hb : zgc sc M i x=true:=by decide +kernel) : PE X (.Name x pos) (tVar i):=pvN h1 h2 hb
theorem pgN (h1 : X.env.scope=sc) (h2 : X.N=M) (hb : setB sc M i x=true) : PG X (.Name x pos) (gName i):=by
  unfold setB at hb
  simp only [Bool.and_eq_true,decide_eq_true_eq,beq_iff_eq] at hb
  obtain ⟨⟨a1,a2⟩,a3⟩:=hb
  have l : X.env.scope.names.lookup x=some .local:=by rw [h1]; exact a3
  exact pg_name (by rw [h2]; exact a2) (by rw [h2]; exact a1) (.inl l) (.inr l)
variable {e : Expr} {te : TE} {pos' : Pos}
theorem psN (h1 : X.env.scope=sc) (h2 : X.N=M) (hb : setB sc M i x=true) (he : PE X e te) (hs : autoParam (swapsWith e (some (.Name x pos')) pos.line X.env=pure false) L23.a1._auto_1) : PS X (.Assign [.Name x pos'] e pos) (tAsg te (gName i)):=by
  unfold setB at hb
  simp only [Bool.and_eq_true,decide_eq_true_eq,beq_iff_eq] at hb
  obtain ⟨⟨a1,a2⟩,a3⟩:=hb
  have l : X.env.scope.names.lookup x=some .local:=by rw [h1]; exact a3
  exact ps_set (by rw [h2]; exact a2) (by rw [h2]; exact a1) (.inl l) he hs (.inr l)
theorem glN (h1 : X.env.scope=sc) (hb : glB sc x=true) : Gl X x∧(x == ("__debug__" : Str))=false∧x≠"__name__":=by
  unfold glB at hb
  simp only [Bool.and_eq_true,Bool.not_eq_true',beq_iff_eq] at hb
  obtain ⟨⟨a1,a2⟩,a3⟩:=hb
  refine ⟨?_,a2,fun z=>?_⟩
  · show X.env.scope.names.lookup x=_
    rw [h1]
    exact a1
  · rw [beq_eq_false_iff_ne] at a3
    exact a3 z
end
section
variable {X : Cx} {CX : CXT} {k : Nat} {f : Addr} {fd : FuncData} {ps : List Str} {sp : Sp} {dvs : List V} {ds : List Value} {E : XK} {x : Str} {p pos : Pos} {e : Expr} {es : List Expr} {t : TA} {sc : Scope} {r : List V→Hp→VK→Prop} {id T : String}
theorem zh (F : FnOk X.prog X.w X.K X.mg X.base CX k f fd ps sp) (hr : Room k X.A) (h1 : X.env.scope=sc) (hg : glB sc x=true) (hm : X.mg x=some (.ref f)) (hk : PySem.W.keepIn X.K (.ref f)=true) (hb : Binds X.K fd ps ds) (hd : Vals dvs ds) (hx : Passes CX X E)
    (ha : PA X (e :: es) t) (he : autoParam (starEach (e :: es) X.env=(false,eval e X.env) :: starEach es X.env) L23.a1._auto_1) (hpl : autoParam ((backTo pos (starEach es X.env)).any (·.1)=false) L23.a1._auto_1) : PE X (.Call (.Name x p) (e :: es) [] pos) (tCall sp dvs E t) :=
  pe_call F hr (glN h1 hg).1 hm hk hb hd hx ha (glN h1 hg).2.1 he hpl
theorem zf (hc : CallR X (.builtin id) r) (h1 : X.env.scope=sc) (hg : glB sc x=true) (hm : X.mg x=none) (hv : bootBuiltins x=some (.builtin id)) (ha : PA X (e :: es) t)
    (he : autoParam (starEach (e :: es) X.env=(false,eval e X.env) :: starEach es X.env) L23.a1._auto_1) (hpl : autoParam ((backTo pos (starEach es X.env)).any (·.1)=false) L23.a1._auto_1) : PE X (.Call (.Name x p) (e :: es) [] pos) (tCB r t) :=
  pe_callB hc (glN h1 hg).1 hm hv ha (glN h1 hg).2.2 (glN h1 hg).2.1 he hpl
theorem yk (hc : CallR X (.type T) r) (h1 : X.env.scope=sc) (hg : glB sc x=true) (hm : X.mg x=none) (hv : bootBuiltins x=some (.type T)) (ha : PA X (e :: es) t)
    (he : autoParam (starEach (e :: es) X.env=(false,eval e X.env) :: starEach es X.env) L23.a1._auto_1) (hpl : autoParam ((backTo pos (starEach es X.env)).any (·.1)=false) L23.a1._auto_1) : PE X (.Call (.Name x p) (e :: es) [] pos) (tCB r t) :=
  pe_callTy hc (glN h1 hg).1 hm hv ha (glN h1 hg).2.2 (glN h1 hg).2.1 he hpl
theorem zN {v : V} {u : Value} (h1 : X.env.scope=sc) (hg : glB sc x=true) (hm : X.mg x=some u) (r : RelV v u) : PE X (.Name x pos) (tC v):=pe_glob (glN h1 hg).1 hm r (glN h1 hg).2.1
theorem yP {v : V} {u : Value} (h1 : X.env.scope=sc) (hg : glB sc x=true) (hm : X.mg x=none) (hv : bootBuiltins x=some u) (r : RelV v u) : PE X (.Name x pos) (tC v):=pe_bltn (glN h1 hg).1 hm hv r (glN h1 hg).2.2 (glN h1 hg).2.1
theorem glR (h1 : X.env.scope=sc) (hg : glB sc x=true) : Gl X x:=(glN h1 hg).1
end
theorem zy : bootBuiltins "len"=some (.builtin "len"):=by decide +kernel
theorem zbp : bootBuiltins "all"=some (.builtin "all"):=by decide +kernel
theorem zM : bootBuiltins "isinstance"=some (.builtin "isinstance"):=by decide +kernel
theorem xW : bootBuiltins "str"=some (.type "str"):=by decide +kernel
theorem zeR : bootBuiltins "int"=some (.type "int"):=by decide +kernel
theorem zh1 : bootBuiltins "bool"=some (.type "bool"):=by decide +kernel
theorem Wq : bootBuiltins "list"=some (.type "list"):=by decide +kernel
theorem jw : bootBuiltins "tuple"=some (.type "tuple"):=by decide +kernel
theorem ziJ : bootBuiltins "set"=some (.type "set"):=by decide +kernel
theorem zbq : bootBuiltins "enumerate"=some (.type "enumerate"):=by decide +kernel
end L3
namespace L3
open PySem PySem.Spec PyProof.Rows L2
theorem zgd {X : Cx} {elt tg iter : Expr} {ifs : List Expr} {scope : Scope} {pos : Pos} {N : List Str} {own : Nat} {js : List Nat} {wi : TI} {g : TG} {tc : TT} {te : TE} {i : Nat} {x : Str} {px : Pos} {sc : Scope} {M : List Str} (hc : X.calm=true) (h1 : X.env.scope=sc) (h2 : X.N=M) (hb : setB sc M i x=true)
    (C : jV X scope N own js) (hi : PI X tg iter wi) (hg : ∀ fp s H,PG (z6 X N scope fp s H) tg g) (ht : ∀ fp s H,Jp (z6 X N scope fp s H) ifs tc) (he : ∀ fp s H,PE (z6 X N scope fp s H) elt te) {spos : Pos}
    (hsw : swapsWith (.ListComp elt [⟨tg,iter,ifs,0⟩] scope pos) (some (.Name x px)) spos.line X.env=pure true) (hs : autoParam (∀ x,foldedSetIterable iter X.env x=pure x) L23.a3._auto_1) :
    PS X (.Assign [.Name x px] (.ListComp elt [⟨tg,iter,ifs,0⟩] scope pos) spos) (zhg i own js wi g tc te):=by
  unfold setB at hb
  simp only [Bool.and_eq_true,decide_eq_true_eq,beq_iff_eq] at hb
  obtain ⟨⟨a1,a2⟩,a3⟩:=hb
  exact zhV hc (by rw [h2]; exact a2) (by rw [h2]; exact a1) (by show X.env.scope.names.lookup x=_; rw [h1]; exact a3) C hi hg ht he hsw hs
end L3
namespace L4
open PySem PySem.Spec PyProof.Rows L2 L3
structure Gr (D H D' H' : Hp) : Prop where
  dd : Same D D'
  hh : Same H H'
  dh : Same D' H'
  nw : ∀ b o,H b=some o→D b=none→D' b=none
section
variable {D D' D'' H H' H'' : Hp} {p : Addr} {o : HO} {K : PySem.W.Frag}
theorem Gr.refl (s : Same D H) : Gr D H D H:=⟨Same.refl D,Same.refl H,s,fun zz zz zz n=>n⟩
theorem Gr.trans (a : Gr D H D' H') (b : Gr D' H' D'' H'') : Gr D H D'' H'' :=
  ⟨a.dd.trans b.dd,a.hh.trans b.hh,b.dh,fun c o e n=>b.nw c o (a.hh c o e) (a.nw c o e n)⟩
theorem Gr.heap (s : Same D H) (h : Same H H') : Gr D H D H':=⟨Same.refl D,h,s.trans h,fun zz zz zz n=>n⟩
theorem Gr.then (a : Gr D H D' H') (h : Same H' H'') : Gr D H D' H'':=a.trans (Gr.heap a.dh h)
theorem zZ (s : Same D H) (h : H p=none) : D p=none:=s.free h
theorem Gr.lay (s : Same D H) (h : H p=none) : Gr D H (upd D p o) (upd H p o):=by
  refine ⟨Same.zp (zZ s h),Same.zp h,fun b u e=>?_,fun b u e n=>?_⟩
  · by_cases hb : b=p
    · subst hb; rw [upd_same] at e ⊢; exact e
    · rw [upd_ne hb] at e ⊢; exact s b u e
  · rw [upd_ne (ne_of_none e h)]; exact n
theorem Gr.W3 (s : Same D H) (h : H p=none) : Gr D H D (upd H p o):=Gr.heap s (Same.zp h)
theorem Gr.fix (a : Gr D H D' H') (h : H p=none) (n : D' p=none) (e : H' p=some o) : Gr D H (upd D' p o) H':=by
  refine ⟨a.dd.trans (Same.zp n),a.hh,fun b u q=>?_,fun b u q z=>?_⟩
  · by_cases hb : b=p
    · subst hb; rw [upd_same] at q; rw [e]; exact q
    · rw [upd_ne hb] at q; exact a.dh b u q
  · rw [upd_ne (ne_of_none q h)]; exact a.nw b u q z
theorem Gr.set (a : Gr D H D' H') (h : H p=none) (n : D' p=none) : Gr D H D' (upd H' p o) :=
  ⟨a.dd,fun b u e=>by rw [upd_ne (ne_of_none e h)]; exact a.hh b u e,fun b u e=>by rw [upd_ne (ne_of_none e n)]; exact a.dh b u e,a.nw⟩
theorem Gr.old (a : Gr D H D' H') (e : H p=some o) (n : D p=none) : H' p=some o∧D' p=none:=⟨a.hh p o e,a.nw p o e n⟩
theorem xg (s : Same D H) (n : D p=none) : Same D (upd H p o):=fun b u e=>by
  rw [upd_ne (ne_of_none e n)]; exact s b u e
end
end L4
namespace L3
open PySem PySem.Spec PyProof.Rows L2 L4
section
variable {D D' D'' H H' H'' : Hp} {p : Addr} {o : HO} {K : PySem.W.Frag}
theorem zb.length : ∀ {ds : List PyData} {xs : List V},zb K H xs ds→xs.length=ds.length
  | [],xs,h=>by unfold zb at h; rw [h]; rfl
  | d :: ds,xs,h=>by
    unfold zb at h
    obtain ⟨y,ys,rfl,zz,h3⟩:=h
    rw [List.length_cons,List.length_cons,zb.length h3]
theorem zb.nil : zb K H [] []:=by unfold zb; rfl
theorem zb.cons {x : V} {xs : List V} {d : PyData} {ds : List PyData} (h1 : zc K H x d) (h2 : zb K H xs ds) : zb K H (x :: xs) (d :: ds):=by unfold zb; exact ⟨x,xs,rfl,h1,h2⟩
theorem zb.snoc {x : V} {d : PyData} (h1 : zc K H x d) : ∀ {ds : List PyData} {xs : List V},zb K H xs ds→zb K H (xs ++ [x]) (ds ++ [d])
  | [],xs,h=>by unfold zb at h; subst h; exact zb.cons h1 zb.nil
  | d :: ds,xs,h=>by
    unfold zb at h
    obtain ⟨y,ys,rfl,h2,h3⟩:=h
    exact zb.cons h2 (zb.snoc h1 h3)
theorem zb.at_ : ∀ {ds : List PyData} {xs : List V} {i : Nat} {d : PyData},zb K H xs ds→ds[i]?=some d→∃ x,xs[i]?=some x∧zc K H x d:=by
  intro ds
  induction ds with
  | nil=>intro _ _ _ _ e; simp at e
  | cons d ds ih =>
    intro xs i d' h e
    unfold zb at h
    obtain ⟨y,ys,rfl,h2,h3⟩:=h
    cases i with
    | zero=>simp at e; subst e; exact ⟨y,rfl,h2⟩
    | succ i =>
      obtain ⟨x,e1,e2⟩:=ih (i:=i) h3 (by simpa using e)
      exact ⟨x,by simpa using e1,e2⟩
theorem zb.back : ∀ {ds : List PyData} {xs : List V} {i : Nat} {x : V},zb K H xs ds→xs[i]?=some x→∃ d,ds[i]?=some d∧zc K H x d:=fun {ds xs i x} h e=>by
  have hl:=zb.length h
  have hi : i < xs.length:=(List.getElem?_eq_some_iff.mp e).1
  obtain ⟨y,e1,e2⟩:=zb.at_ h (List.getElem?_eq_getElem (show i < ds.length by omega))
  rw [e] at e1
  cases e1
  exact ⟨_,List.getElem?_eq_getElem (by omega),e2⟩
theorem zc.gr {v : V} {d : PyData} (h : zc K D v d) (g : Gr D H D' H') : zc K D' v d:=zc.same g.dd d h
theorem zc.up {v : V} {d : PyData} (h : zc K D v d) (s : Same D H) : zc K H v d:=zc.same s d h
theorem zb.up {v : List V} {d : List PyData} (h : zb K D v d) (s : Same D H) : zb K H v d:=zb.same s d h
theorem zc.mkL {xs : List V} {ds : List PyData} (h : zb K D xs ds) (e : H p=some (.lst xs)) (s : Same D H) : zc K H (.ref p) (.list ds):=by
  unfold zc
  exact ⟨p,xs,rfl,Rd.of e,h.up s⟩
theorem zc.mkT {xs : List V} {ds : List PyData} (h : zb K D xs ds) (e : H p=some (.tup xs)) (s : Same D H) : zc K H (.ref p) (.tuple ds):=by
  unfold zc
  exact ⟨p,xs,rfl,e,h.up s⟩
theorem zc.lst {v : V} {ds : List PyData} (h : zc K H v (.list ds)) : ∃ a xs,v = .ref a∧Rd H a (.lst xs)∧zb K H xs ds:=by unfold zc at h; exact h
theorem zc.tup {v : V} {ds : List PyData} (h : zc K H v (.tuple ds)) : ∃ a xs,v = .ref a∧H a=some (.tup xs)∧zb K H xs ds:=by unfold zc at h; exact h
theorem zc.int {v : V} {i : Int} (h : zc K H v (.int i)) : v = .int i:=by unfold zc at h; exact h
theorem zc.str {v : V} {i : Str} (h : zc K H v (.str i)) : v = .str i:=by unfold zc at h; exact h
theorem zc.bl {v : V} {i : Bool} (h : zc K H v (.bool i)) : v = .bl i:=by unfold zc at h; exact h
theorem zc.ofInt {i : Int} : zc K H (.int i) (.int i):=by unfold zc; rfl
theorem zc.ofStr {i : Str} : zc K H (.str i) (.str i):=by unfold zc; rfl
theorem zb.Zs : ∀ {ss : List Str} {xs : List V},zb K H xs (ss.map PyData.str)→xs=ss.map V.str
  | [],xs,h=>by unfold zb at h; exact h
  | z :: ss,xs,h=>by
    unfold zb at h
    obtain ⟨y,ys,rfl,h2,h3⟩:=h
    rw [zc.str h2,zb.Zs h3]; rfl
theorem zb.wC {d : PyData} {ds : List PyData} {xs : List V} (h : zb K H xs (d :: ds)) : ∃ y ys,xs=y :: ys∧zc K H y d∧zb K H ys ds:=by unfold zb at h; exact h
theorem zb.scal {d : PyData} {v : V} {ds : List PyData} {xs : List V} (hv : ∀ y,zc K H y d→y=v) (h : zb K H xs (d :: ds)) : ∃ ys,xs=v :: ys∧zb K H ys ds:=by
  obtain ⟨y,ys,e,h1,hA⟩:=zb.wC h
  exact ⟨ys,e.trans (congrArg (· :: ys) (hv y h1)),hA⟩
theorem zb.none {xs : List V} (h : zb K H xs []) : xs=[]:=by unfold zb at h; exact h
end
end L3
namespace L4
open PySem PySem.Spec PyProof.Rows L2 L3
theorem take_snoc {α : Type} {l : List α} {i : Nat} {x : α} (h : l[i]?=some x) : l.take (i + 1)=l.take i ++ [x]:=by rw [List.take_succ,h]; rfl
theorem Yx {K : PySem.W.Frag} {J : It} {xs : List V} {P : Hp→Prop} {q : Addr} {g : TG} {tc : TT} {te : TE} {Q : Hp→Prop} {σ : L2.St} {D H : Hp} (s0 : Same D H) (hq0 : H q=none) (Y : ZA J xs P) (S : L2.St→Prop) (rs : List (Option PyData))
    (hl : rs.length=xs.length) (h0 : S σ) (hP : ∀ H',Same H H'→P H') (hz : xs.length < sizeLine)
    (step : ∀ (i : Nat) (x : V) (r : Option PyData) (σ : L2.St) (D1 H1 : Hp) (R1 : L2.St→V→Hp→Prop) (R0 : L2.St→Hp→Prop),xs[i]?=some x→rs[i]?=some r→S σ→Gr D H D1 H1 →
      (∀ d σ2 y D4 H4,r=some d→S σ2→Gr D1 H1 D4 H4→zc K D4 y d→R1 σ2 y H4)→(∀ σ2 D3 H3,r=none→S σ2→Gr D1 H1 D3 H3→R0 σ2 H3) →
      g x σ H1 fun σ2 H2=>tc σ2 H2 fun b H3=>if b=true then te σ2 H3 fun y H4=>R1 σ2 y H4 else R0 σ2 H3)
    (hq : ∀ D' H' ys,Gr D H D' H'→H' q=some (.lst ys)→D' q=none→zb K D' ys (rs.filterMap id)→Q H') :
    ∃ W : Nat→Nat→List V→L2.St→Hp→Prop,(∃ m,W 0 m [] σ (upd H q (.lst [])))∧Vl q J g tc te Q W:=by
  refine zbj Y (fun i ys σ H'=>∃ D',Gr D H D' H'∧H' q=some (.lst ys)∧D' q=none∧zb K D' ys ((rs.take i).filterMap id)∧S σ) ⟨D,Gr.W3 s0 hq0,upd_same,s0.free hq0,by simp; exact zb.nil,h0⟩
    (fun i ys σ H' ⟨D',G,e,_,hA,_⟩=>⟨hP H' G.hh,e,?_⟩) hz (fun i x ys σ H' hx ⟨D',G,e,n,hA,hS⟩=>?_) fun ys σ H' ⟨D',G,e,n,hA,_⟩=>?_
  · rw [zb.length hA]
    exact Nat.le_trans (List.length_filterMap_le _ _) (by rw [List.length_take]; omega)
  · have hi : i < xs.length:=(List.getElem?_eq_some_iff.mp hx).1
    have hr : rs[i]?=some (rs[i]'(by omega)):=List.getElem?_eq_getElem (by omega)
    refine step i x _ σ D' H' _ _ hx hr hS G (fun d σ2 y D4 H4 er h2 G4 hy=>?_) fun σ2 D3 H3 er h2 G3=>?_
    · obtain ⟨e4,n4⟩:=G4.old e n
      have T:=G.trans G4
      refine ⟨e4,D4,⟨T.dd,fun b o eb=>?_,xg T.dh n4,T.nw⟩,upd_same,n4,?_,h2⟩
      · rw [upd_ne (ne_of_none eb hq0)]; exact T.hh b o eb
      · rw [take_snoc hr,List.filterMap_append,er]
        exact zb.snoc hy (hA.up G4.dd)
    · obtain ⟨e4,n4⟩:=G3.old e n
      refine ⟨D3,G.trans G3,e4,n4,?_,h2⟩
      rw [take_snoc hr,List.filterMap_append,er]
      simp only [List.filterMap_cons,id,List.filterMap_nil,List.append_nil]
      exact hA.up G3.dd
  · rw [← hl,List.take_length] at hA
    exact hq D' H' ys G e n hA
theorem filterMap_some {α : Type} (l : List α) : (l.map some).filterMap id=l:=by
  induction l with
  | nil=>rfl
  | cons a l ih=>simp
end L4
namespace L4
open PySem L2
theorem zdk {A : Around} {k : Nat} (hr : Room k A) : A.units + 60 < cLine:=Nat.lt_of_le_of_lt (Nat.add_le_add_left (by decide : 60≤64) _) hr.units
end L4
namespace L4
open PySem PySem.Spec PyProof.Rows L2 L3
theorem zh2 {c : Nat} : ∀ {a b u v : List Nat},c∉a→c∉b→a ++ c :: u=b ++ c :: v→a=b∧u=v:=by
  intro a
  induction a with
  | nil =>
    intro b u v zz hb e
    cases b with
    | nil=>exact ⟨rfl,(List.cons.inj e).2⟩
    | cons y b =>
      have:=(List.cons.inj e).1
      subst this
      exact absurd List.mem_cons_self hb
  | cons x a ih =>
    intro b u v ha hb e
    cases b with
    | nil =>
      have:=(List.cons.inj e).1
      subst this
      exact absurd List.mem_cons_self ha
    | cons y b =>
      have e1:=List.cons.inj e
      obtain ⟨h1,h2⟩:=ih (b:=b) (fun h=>ha (List.mem_cons_of_mem _ h)) (fun h=>hb (List.mem_cons_of_mem _ h)) e1.2
      exact ⟨by rw [e1.1,h1],h2⟩
noncomputable def cs (x : Str) : List Nat:=x.cps.toList
theorem zeS {x y : Str} (h : cs x=cs y) : x=y:=Str.ext' (Array.toList_inj.mp h)
theorem vz (x y : Str) : cs (x ++ y)=cs x ++ cs y:=by unfold cs; rw [Str.cps_append,Array.toList_append]
theorem XO (c : Nat) : cs ⟨#[c]⟩=[c]:=rfl
theorem XQ (x : Str) : (cs x).length=x.length:=by simp [cs,Str.length]
theorem YK (c : Nat) (x y : Str) (r : List Str) : cs (Str.join ⟨#[c]⟩ (x :: y :: r))=cs x ++ c :: cs (Str.join ⟨#[c]⟩ (y :: r)):=by
  show cs (x ++ ⟨#[c]⟩ ++ Str.join ⟨#[c]⟩ (y :: r))=_
  rw [vz,vz,XO,List.append_assoc]
  rfl
theorem zge (c : Nat) : ∀ (xs ys : List Str),xs≠[]→ys≠[]→(∀ x∈xs,c∉cs x)→(∀ y∈ys,c∉cs y)→Str.join ⟨#[c]⟩ xs=Str.join ⟨#[c]⟩ ys→xs=ys:=by
  intro xs
  induction xs with
  | nil=>intro ys h _ _ _ _; exact absurd rfl h
  | cons x xs ih =>
    intro ys zz hy0 hx hy e
    cases ys with
    | nil=>exact absurd rfl hy0
    | cons y ys =>
      cases xs with
      | nil =>
        cases ys with
        | nil =>
          have e' : x=y:=e
          rw [e']
        | cons z r =>
          have e' : cs x=_:=congrArg cs (show x=_ from e)
          rw [YK] at e'
          exact absurd (by rw [e']; exact List.mem_append_right _ List.mem_cons_self) (hx x List.mem_cons_self)
      | cons z r =>
        cases ys with
        | nil =>
          have e' : cs y=_:=congrArg cs (show y=_ from e.symm)
          rw [YK] at e'
          exact absurd (by rw [e']; exact List.mem_append_right _ List.mem_cons_self) (hy y List.mem_cons_self)
        | cons u t =>
          have e':=congrArg cs e
          rw [YK,YK] at e'
          obtain ⟨h1,h2⟩:=zh2 (hx x List.mem_cons_self) (hy y List.mem_cons_self) e'
          have:=ih (u :: t) (by simp) (by simp) (fun a ha=>hx a (List.mem_cons_of_mem _ ha)) (fun a ha=>hy a (List.mem_cons_of_mem _ ha)) (zeS h2)
          rw [zeS h1,this]
theorem zdl {c : Nat} {xs : List Str} (hne : xs≠[]) (hx : ∀ x∈xs,c∉cs x) : PySem.Txt.split (Str.join ⟨#[c]⟩ xs) ⟨#[c]⟩=xs:=by
  refine zge c _ _ ?_ hne (fun y hy=>StrLaws.split_free _ c y hy) hx (StrLaws.join_split _ _)
  intro e
  have:=split_pos (Str.join ⟨#[c]⟩ xs) ⟨#[c]⟩
  rw [e] at this
  exact absurd this (by decide)
theorem Xz {c : Nat} {z : Str} {xs : List Str} (hne : xs≠[]) (hx : ∀ x∈xs,c∉cs x) (e : z=Str.join ⟨#[c]⟩ xs) : PySem.Txt.split z ⟨#[c]⟩=xs:=by rw [e]; exact zdl hne hx
theorem jx (y : Str) (xs : List Str) : PySem.Txt.join y xs=Str.join y xs:=StrLaws.glued_eq_join y xs
theorem zhh : ("\n" : Str)=⟨#[10]⟩:=by decide +kernel
theorem zdm : (" " : Str)=⟨#[32]⟩:=by decide +kernel
theorem zdn : ∀ d : Nat,d < 10→48≤(Nat.digitChar d).toNat∧(Nat.digitChar d).toNat≤57∧(0 < d→(Nat.digitChar d).toNat≠48):=by decide
theorem zeT (m : Nat) : (∀ c∈(Nat.toDigits 10 m).map Char.toNat,48≤c∧c≤57)∧(0 < m→((Nat.toDigits 10 m).map Char.toNat).head?≠some 48)∧(Nat.toDigits 10 m).map Char.toNat≠[]:=by
  induction m using Nat.strongRecOn with
  | _ m ih =>
    by_cases h : m < 10
    · rw [Nat.toDigits_of_lt_base h]
      have e:=zdn m h
      refine ⟨fun c hc=>?_,fun h0 z=>?_,by simp⟩
      · have : c=(Nat.digitChar m).toNat:=by simpa using hc
        rw [this]; exact ⟨e.1,e.2.1⟩
      · exact e.2.2 h0 (by simpa using z)
    · have hm : m % 10 < 10:=Nat.mod_lt m (by decide)
      have t : Nat.toDigits 10 (m / 10) ++ Nat.toDigits 10 (m % 10)=Nat.toDigits 10 (10 * (m / 10) + m % 10):=Nat.toDigits_append_toDigits (by decide) (by omega) hm
      rw [Nat.div_add_mod] at t
      rw [← t,List.map_append]
      obtain ⟨i1,i2,i3⟩:=ih (m / 10) (by omega)
      obtain ⟨j1,zz,zz⟩:=ih (m % 10) (by omega)
      refine ⟨fun c hc=>(List.mem_append.mp hc).elim (i1 c) (j1 c),fun zz=>?_,fun z=>i3 (List.append_eq_nil_iff.mp z).1⟩
      have i2':=i2 (by omega)
      cases hd : (Nat.toDigits 10 (m / 10)).map Char.toNat with
      | nil=>exact absurd hd i3
      | cons a r=>rw [hd] at i2'; simpa using i2'
structure XR (n : Int) (t : Str) : Prop where
  pos : 1≤t.length
  most : t.length≤60
  zbr : ∀ c∈cs t,48≤c∧c≤57
  reads : PySem.intText? t=some n
  lead : t="0"∨(cs t).head?≠some 48
theorem XS {t : Str} (h1 : 1≤t.length) (h2 : t.length≤60) (hd : ∀ c∈cs t,48≤c∧c≤57) : PySem.intText? t=some ((PySem.NumText.digitsVal (cs t) : Nat) : Int):=by
  have hl:=XQ t
  refine PySem.intText_digits hd (fun z=>?_) (by omega)
  have z' : cs t=[]:=z
  rw [z'] at hl
  simp at hl
  omega
theorem yy {n : Int} (h0 : 0≤n) (h1 : n < 10 ^ 60) : XR n (toString n : String):=by
  obtain ⟨m,rfl⟩:=Int.eq_ofNat_of_zero_le h0
  have hl:=toString_length_le h0 (by decide) h1
  have e : cs (Str.ofString (toString ((m : Nat) : Int)))=(Nat.toDigits 10 m).map Char.toNat:=PySem.W.KIN.signs_num m
  obtain ⟨c1,c2,c3⟩:=zeT m
  have hp : 1≤(Str.ofString (toString ((m : Nat) : Int))).length:=by
    rw [← XQ,e]
    exact Nat.pos_of_ne_zero fun z=>c3 (List.eq_nil_of_length_eq_zero z)
  have hd : ∀ c∈cs (Str.ofString (toString ((m : Nat) : Int))),48≤c∧c≤57:=by rw [e]; exact c1
  refine ⟨hp,hl,hd,?_,?_⟩
  · rw [XS hp hl hd,e,PySem.W.KIN.val_back]
  · by_cases hm : m=0
    · subst hm
      exact .inl (by decide +kernel)
    · right
      rw [e]
      exact c2 (by omega)
theorem zeU {n : Int} (h0 : 0≤n) (h1 : n < 10 ^ 60) : n.natAbs.log2 < 1920:=by
  by_cases hz : n.natAbs=0
  · rw [hz]; decide
  · rw [Nat.log2_lt hz]
    have : n.natAbs < 10 ^ 60:=by omega
    exact Nat.lt_trans this (Nat.lt_of_lt_of_le (by decide : 10 ^ 60 < 2 ^ 200) (Nat.pow_le_pow_right (by decide) (by decide)))
end L4
namespace L4
open PySem L2
theorem ZC (t : Str) (ks : List Str) : inV (V.str t) (ks.map V.str)=ks.contains t:=by
  unfold inV
  rw [List.any_map,Bool.eq_iff_iff,List.any_eq_true,List.contains_iff_mem]
  constructor
  · rintro ⟨y,hy,e3⟩
    have e4 : (y == t)=true:=e3
    rw [← eq_of_beq e4]
    exact hy
  · intro hm
    exact ⟨t,hm,beq_self_eq_true t⟩
end L4
namespace L4
open PySem PySem.Spec PyProof.Rows L2 L3
section
variable {X : Cx} {K : PySem.W.Frag}
theorem kIx {r : PySem.W.Frag→R2} (h : X.K=K) (o : IxR X (r X.K)) : IxR X (r K):=h ▸ o
theorem zhi {es : List Expr} {k : Nat} {t : TGs} {n : Nat} {pos : Pos} (h : X.K=K) (o : PG X (.Tuple es k pos) (gTup X.K n t)) : PG X (.Tuple es k pos) (gTup K n t):=h ▸ o
end
end L4
namespace L4
open PySem PySem.Spec PyProof.Rows L2 L3
noncomputable def zlo (t u : TS) : TS:=fun D σ H=>∃ P : L2.St→Hp→Prop,t { D with nx:=P } σ H∧∀ σ' H',P σ' H'→u D σ' H'
theorem wJ {X : Cx} {st : Stmt} {rest : List Stmt} {t u : TS} (h1 : PS X st t) (h2 : PSs X rest u) : PSs X (st :: rest) (zlo t u):=by
  intro pins s σ H D I ⟨P,h,k⟩
  refine wpAny_execs_cons (thn (h1 pins s σ H { D with nx:=P } I h) fun f s1 q=>?_)
  cases f with
  | next=>obtain ⟨σ',H',I',q⟩:=q; exact h2 pins s1 σ' H' D I' (k σ' H' q)
  | ret v=>exact q
  | brk=>exact q
  | cont=>exact q
end L4
namespace L5
open PySem PySem.Spec PyProof.Rows L2 L3 L4
open Sem (wp)
theorem zh3 (a b : Value) : checkTypeCall "enumerate" ⟨[a],[("start",b)]⟩=pure ():=by kernel_rfl
theorem zh4 (a b : Value) : checkBuiltinCall "enumerate.__new__" ⟨[.type "enumerate",a],[("start",b)]⟩=pure ():=by kernel_rfl
theorem zh5 (o a b : Value) : argsOk "object.__init__" ⟨[o,a],[("start",b)]⟩:=by unfold argsOk; kernel_rfl
section
variable {prog : Program} {w : World} {A : Around} {E : Value→Shared→Prop} {s : Shared}
theorem zeV {l : Addr} {items : Array Value} {k : Int} {t : Tok} {P : PySem.Fin→Shared→Prop} (hL : s.heap.IsList l items) (hk : Builtin.SmallTypes.fitsIndex k=true)
    (h : ∀ h',IsEnum h' (s.heap.objs.size + 1) s.heap.objs.size k .none→h'.IsListIter s.heap.objs.size l 0→(∀ b o,s.heap.get? b=some o→h'.get? b=some o)→P (.done (.ret (.ref (s.heap.objs.size + 1)))) { s with heap:=h' }) :
    wpAny (model prog w) A (Builtin.«enumerate.__new__» ⟨[.type "enumerate",.ref l],[("start",.int k t)]⟩) P E s:=by
  have x2:=F.called_enumerate.sub
  have cls : Builtin.SmallTypes.newClass "enumerate" ⟨[.type "enumerate",.ref l],[("start",.int k t)]⟩=pure (.type "enumerate",[.ref l]):=by
    unfold Builtin.SmallTypes.newClass
    simp [isType,x2]
  unfold Builtin.«enumerate.__new__»
  refine wpAny_bind (wpAny_of_eq cls ?_)
  unfold Builtin.SmallTypes.calledThroughType
  have kk : ∀ o1 o2 b o,s.heap.get? b=some o→((s.heap.push o1).push o2).get? b=some o:=fun o1 o2 b o e=>Heap.get?_push_of_some _ (Heap.get?_push_of_some _ e)
  wp_walk
  refine wpAny_stack_any fun st=>wpAny_pure ?_
  refine wpAny_ite_split (fun zz=>wpAny_bind (wpAny_of_eq (a:=(Value.ref l,some (Value.int k t))) rfl ?_)) fun zz=>wpAny_bind (wpAny_of_eq (a:=(Value.ref l,some (Value.int k t))) rfl ?_)
  all_goals
    refine wpAny_bind (wpAny_of_eq (a:=Value.int k t) rfl (wpAny_bind (wpAny_of_eq (a:=some k) rfl ?_)))
    refine wpAny_ite_split (fun z=>absurd z (by rw [hk]; decide)) fun zz=>wpAny_bind (wpAny_pyIter_list hL ?_)
    wp_walk
    have e0:=Heap.get?_push_size s.heap (o:={ cls := .type "list_iterator",data := .fields #[.ref l,.int 0 0] }) rfl
    have e1:=Heap.get?_push_size (s.heap.push { cls := .type "list_iterator",data := .fields #[.ref l,.int 0 0] }) (o:={ cls := .type "enumerate",data := .fields #[.none,.bool false,.ref s.heap.objs.size,rawInt k,.none,.none] }) rfl
    rw [Heap.size_push] at e1
    rw [Heap.size_push]
    exact h _ e1 ⟨_,Heap.get?_push_of_some _ e0,rfl,rfl⟩ (kk _ _)
theorem zdo {o : Addr} {a b : Value} {P : PySem.Fin→Shared→Prop} (hT : s.TypeIs (.ref o) "enumerate") (h : P (.done (.ret .none)) s) : wpAny (model prog w) A (Builtin.«object.__init__» ⟨[.ref o,a],[("start",b)]⟩) P E s:=by
  have y1:=F.called_enumerate.init.lookup
  have y2:=F.called_enumerate.made
  unfold Builtin.«object.__init__»
  wp_walk
  exact h
set_option maxHeartbeats 1000000 in
theorem Vp {l : Addr} {items : Array Value} {k : Int} {t : Tok} {Q : Value→Shared→Prop} (hL : s.heap.IsList l items) (hk : Builtin.SmallTypes.fitsIndex k=true)
    (h : ∀ h',IsEnum h' (s.heap.objs.size + 1) s.heap.objs.size k .none→h'.IsListIter s.heap.objs.size l 0→(∀ b o,s.heap.get? b=some o→h'.get? b=some o)→Q (.ref (s.heap.objs.size + 1)) { s with heap:=h' }) :
    wpAny (model prog w) A (call (.type "enumerate") [.ref l] [("start",.int k t)]) Q E s:=by
  have x1:=F.called_enumerate.made
  have x2:=F.called_enumerate.sub
  have x3:=F.called_enumerate.notType
  have x4:=F.called_enumerate.canCreate
  have x5:=zh3 (.ref l) (.int k t)
  obtain ⟨c,tl,x6⟩:=F.called_enumerate.mro
  refine wpAny_call (codeAny_of_tree ?_)
  wp_walk
  refine ⟨Code.quiet_builtin _ (by decide +kernel),codeAny_builtin F.entry_type_call ?_⟩
  rw [Around.under_plain (weight_type_call_type "enumerate" [.ref l] [("start",.int k t)]) (units_type_call_type _ _ _)]
  wp_walk
  refine codeAny_call_builtin F.called_enumerate.plain F.entry_enumerate_new (wpAny_of_eq (zh4 _ _) (zeV hL hk fun h' e i kk=>?_))
  have z1:=F.called_enumerate.init.lookup
  have z2:=F.called_enumerate.init.bind (.ref (s.heap.objs.size + 1))
  have hT : Shared.TypeIs { s with heap:=h' } (.ref (s.heap.objs.size + 1)) "enumerate":=⟨_,e,rfl⟩
  refine wpAny_bind (wpAny_isInstance hT x2 (wpAny_ite_split (fun z=>nomatch z) fun zz=>?_))
  wp_walk
  refine codeAny_call_builtin F.called_enumerate.init.plain F.entry_object_init (F.called_enumerate.init.check _ _ _ _ _ _ _ _ hT (zh5 _ _ _) (zdo hT ?_))
  wp_walk
  exact h h' e i kk
end
end L5
namespace L5
open PySem PySem.Spec PyProof.Rows L2 L3 L4
open Sem (wp)
section
variable {prog : Program} {w : World} {A : Around} {E : Value→Shared→Prop} {s : Shared}
end
theorem zeW {prog : Program} {w : World} {A : Around} (hh : A.handled=none) (it l : Addr) (hne : l≠it) (items : Array Value) (lo : Nat) :
    Draws prog w A it [it,l] (lo + items.size) (fun i v=>∃ j,i=lo + j∧items[j]?=some v) (fun i h=>∃ j,i=lo + j∧h.IsListIter it l j∧h.IsList l items) where
  live:=fun _ _ ⟨_,_,st⟩=>(Draws.list (prog:=prog) (w:=w) hh it l hne items).live _ _ st
  frame:=fun _ _ _ ⟨j,e,st⟩ k=>⟨j,e,(Draws.list (prog:=prog) (w:=w) hh it l hne items).frame _ _ _ st k⟩
  item:=fun i s Q E hi ⟨j,e,st⟩ q=>(Draws.list (prog:=prog) (w:=w) hh it l hne items).item j s Q E (by omega) st fun x h' tk p st' sm=>q x h' tk ⟨j,e,p⟩ ⟨j + 1,by omega,st'⟩ sm
  done:=fun s Q E ⟨j,e,st⟩ q=>(Draws.list (prog:=prog) (w:=w) hh it l hne items).done s Q E (by rw [show items.size=j by omega]; exact st) q
theorem zeX {prog : Program} {w : World} {A : Around} (hh : A.handled=none) (it l : Addr) (items : Array Value) :
    Draws prog w A it [it,l] 0 (fun zz zz=>True) (fun zz h=>∃ i,items.size≤i∧h.IsListIter it l i∧h.IsList l items) where
  live:=fun _ _ ⟨_,_,⟨o,e,_⟩,_⟩=>⟨o,e⟩
  frame:=fun _ _ _ ⟨i,hi,a,b⟩ k=>⟨i,hi,a.at fun o e=>k it (by simp) o e,b.at fun o e=>k l (by simp) o e⟩
  item:=fun zz zz zz zz hi=>absurd hi (Nat.not_lt_zero _)
  done:=fun _ _ _ ⟨_,hi,a,b⟩ q=>wpAny_nextOf_list_end hh a b (Array.getElem?_eq_none hi) q
theorem _root_.L2.Inv.Jr {X : Cx} {pins : List (Addr × Obj)} {σ : L2.St} {H : Hp} {s : Shared} {h' : Heap} {t' : Nat} {its : List Addr} (I : Inv X pins σ H s) (k : ∀ b o,b∉its→s.heap.get? b=some o→h'.get? b=some o) (hf : ∀ b∈its,FpOk X pins H b) :
    Inv X pins σ H { s with heap:=h',toks:=t' }:=by
  have nit : ∀ b u,H b=some u→b∉its:=fun b u e z=>by rw [(hf b z).1] at e; cases e
  have hL : X.env.locals∉its:=fun z=>(hf _ z).2.1 rfl
  refine I.step (g':=s.gens) (d':=s.drawn) (ch:=its) (fun b hb=>⟨(hf b hb).2.2.2.1,(hf b hb).2.1,(hf b hb).2.2.2.2.1,(hf b hb).2.2.2.2.2⟩) (fun b o zz zz hc e zz=>k b o hc e) (fun b o zz zz hc e zz=>⟨o.slots,k b o hc e⟩) (fun zz zz zz zz n=>n)
    (fun b o hc e=>⟨o,k b o hc e⟩) (fun zz zz e=>e) (fun zz zz zz e=>e) (fun b ps e=>⟨#[],by rw [e]; simp⟩) (fun m ⟨o,es,ep,ho,r⟩=>⟨o,es,ep,k _ o hL ho,r⟩) (fun b u e=>?_) I.bare
  refine (I.hok b u e).stay (fun c v hc q=>k c v ?_ q) (fun zz q=>q) fun zz zz q=>q
  rcases hc with z | z
  · rw [z]; exact nit b u e
  · exact nit c _ z
noncomputable def Ite (K : PySem.W.Frag) (a : Addr) (lo : Int) : It :=
  ⟨fun i H=>∃ xs x,SqL K H a xs∧xs[i]?=some x,fun i H v H'=>∃ T y,v = .ref T∧H T=none∧H'=upd H T (.tup [.int (lo + i),y])∧∀ xs,SqL K H a xs→xs[i]?=some y,fun i H=>∃ xs,SqL K H a xs∧xs.length≤i⟩
theorem zgf {h : Heap} {a e it : Addr} {c : Int} {old : Value} {items : Array Value} (he : IsEnum h e it c old) (hl : h.IsList a items) : e≠a:=fun z=>by
  obtain ⟨o,eo,co,zz⟩:=hl
  rw [← z,show h.get? e=some _ from he] at eo
  rw [← Option.some.inj eo] at co
  exact absurd (show Value.type "enumerate"=Value.type "list" from co) (by decide)
theorem zgg {h : Heap} {a it : Addr} {i : Nat} {items : Array Value} (hi : h.IsListIter it a i) (hl : h.IsList a items) : a≠it:=fun z=>by
  obtain ⟨o,eo,co,zz⟩:=hl
  obtain ⟨o',eo',co',zz⟩:=hi
  rw [z,eo'] at eo
  rw [← Option.some.inj eo,co'] at co
  exact absurd co (by decide)
theorem zeY {P : Program} {w : World} {K : PySem.W.Frag} {elts : List Expr} {kt : Nat} {pt : Pos} (a e it : Addr) (lo : Nat) (hne : e≠it) :
    Turn P w K (.Tuple elts kt pt) (Ite K a lo) [e,it] e (fun i h=>(∃ old,IsEnum h e it ((lo + i : Nat) : Int) old)∧h.IsListIter it a i) where
  mem := .head _
  obj:=by
    intro i h st b hb
    obtain ⟨⟨old,he⟩,st⟩:=st
    rcases List.mem_cons.mp hb with rfl | hb
    · exact ⟨_,he,fun v z=>by cases (show Data.fields _=Data.cell v from z)⟩
    · obtain ⟨o,e',c,d⟩:=st
      rw [List.mem_singleton.mp hb]
      exact ⟨o,e',fun v z=>by rw [d] at z; cases z⟩
  keep:=by
    intro i h h' st k
    obtain ⟨⟨old,he⟩,st⟩:=st
    exact ⟨⟨old,k e (.head _) _ he⟩,st.at fun o e'=>k it (.tail _ (.head _)) o e'⟩
  item:=by
    intro X hP hw hK hc i pins s σ H E I hf st hg
    subst hP hw hK
    obtain ⟨⟨old,he⟩,st⟩:=st
    obtain ⟨xs,x,hq,hx⟩:=hg
    obtain ⟨its,rv,p,hz⟩:=I.list hq
    obtain ⟨u,hu,ru⟩:=rv.get hx
    have hil : i < its.length:=(List.getElem?_eq_some_iff.mp hu).1
    have hea:=zgf he p.isList
    have hia:=zgg st p.isList
    have ec : ((lo + i : Nat) : Int)=(lo : Int) + (i : Nat):=by omega
    refine wpAny_pyNext_enum_itemD (zeW (A:=X.A.in1) (I.ok.hd hc) it a hia its.toArray lo) he ⟨i,rfl,st,p.isList⟩ (by rw [List.size_toArray]; omega) hne (by simp [hne,hea]) fun u' h' tk ⟨j,ej,eu⟩ eo ⟨j',ej',st',_⟩ tp sz kk=>⟨_,rfl,?_⟩
    obtain rfl : j=i:=by omega
    obtain rfl : j'=j + 1:=by omega
    obtain rfl : u'=u:=by
      rw [List.getElem?_toArray,hu] at eu
      exact (Option.some.inj eu).symm
    refine wpAny_letOwnedTupleGo_enum eo fun h2 he2 sm=>?_
    have k2 : ∀ b o,b≠e→h'.get? b=some o→h2.get? b=some o:=fun b o hb q=>Heap.SameBut.extBut sm b o hb q
    have lte : e < s.heap.objs.size:=Heap.lt_size he
    have lti : it < s.heap.objs.size:=by obtain ⟨o,e',zz⟩:=id st; exact Heap.lt_size e'
    have zlp : ∀ b o,b∉[e,it]→s.heap.get? b=some o→h2.get? b=some o:=fun b o hb q=>k2 b o (fun z=>hb (z ▸ .head _)) (kk b o (fun z=>hb (z ▸ .head _)) (fun z=>hb (z ▸ .tail _ (.head _))) q)
    have ff : ∀ b∈[e,it],FpOk X pins (upd H s.heap.objs.size (.tup [.int (lo + (j : Nat)),x])) b:=fun b hb=>by
      obtain ⟨z0,z1⟩:=hf b hb
      have hb' : b≠s.heap.objs.size:=by
        rcases List.mem_cons.mp hb with rfl | hb
        · exact Nat.ne_of_lt lte
        · rw [List.mem_singleton.mp hb]; exact Nat.ne_of_lt lti
      exact ⟨by rw [upd_ne hb']; exact z0,z1⟩
    have nw : (s.heap.push { cls := .type "tuple",data := .seq #[.int ((lo + j : Nat) : Int) tk,u'] }).get? s.heap.objs.size=some { cls := .type "tuple",data := .seq #[.int ((lo + j : Nat) : Int) tk,u'] }:=Heap.get?_push_size _ rfl
    have I3 : Inv X pins σ (upd H s.heap.objs.size (.tup [.int (lo + (j : Nat)),x])) { s with heap:=s.heap.push { cls := .type "tuple",data := .seq #[.int ((lo + j : Nat) : Int) tk,u'] },toks:=s.toks } :=
      I.laid (fun b o q=>Heap.get?_push_of_some _ q) (Nat.le_refl _) ⟨by show 2≤sizeLine; decide,[.int ((lo + j : Nat) : Int) tk,u'],.cons ⟨tk,by rw [ec]⟩ (.cons ru .nil),⟨_,nw,rfl,_,rfl⟩⟩
    have I4:=I3.Jr (t':=tk + 1) (h':=h2) (its:=[e,it]) (fun b o hb q=>?_) ff
    refine ⟨.ref s.heap.objs.size,_,I4,rfl,⟨_,x,rfl,I.fresh,rfl,fun ys hy=>by rw [I.list_inj hy hq]; exact hx⟩,⟨⟨u',?_⟩,?_⟩,fun b hb=>(ff b hb).1⟩
    rotate_right
    · by_cases hT : b=s.heap.objs.size
      · subst hT
        rw [show o=_ from Option.some.inj ((show _=some o from q).symm.trans nw)]
        exact k2 _ _ (Nat.ne_of_gt lte) tp
      · exact zlp b o hb (by rw [← Heap.get?_push_ne _ _ _ hT]; exact q)
    · rw [show ((lo + (j + 1) : Nat) : Int)=((lo + j : Nat) : Int) + 1 by omega]
      exact he2
    · obtain ⟨o,eo',r⟩:=st'
      exact ⟨o,k2 it o hne.symm eo',r⟩
  done:=by
    intro X hP hw hK hc i pins s σ H E I hf st hg
    subst hP hw hK
    obtain ⟨⟨old,he⟩,st⟩:=st
    obtain ⟨xs,hq,hx⟩:=hg
    obtain ⟨its,rv,p,hz⟩:=I.list hq
    obtain ⟨g0,g1,g2,g3,g4,g5⟩:=hf it (.tail _ (.head _))
    have hl:=rv.length
    exact wpAny_pyNext_enum_endD (zeX (A:=X.A.in1) (I.ok.hd hc) it a its.toArray) he ⟨i,by rw [List.size_toArray]; omega,st,p.isList⟩ fun h' eb=>⟨rfl,I.turned (t':=s.toks) (fun b o hb e=>eb b o hb e) g0 g1 g3 g4 g5⟩
  self:=by
    intro A i s Q E st h
    obtain ⟨⟨old,he⟩,zz⟩:=st
    exact wpAny_pyIter_enum he h
section
variable {X : Cx} {a : Expr} {ta : TE} {p pos kp ip : Pos} {elts : List Expr} {kt : Nat} {pt : Pos} {j : Option Str}
noncomputable def zeZ (K : PySem.W.Frag) (R : (It→Hp→Prop)) (vs : List V) (zs : List V) (H2 : Hp):=fun l k=>L23.A5 (vs=[.ref l]) (zs=[.int k]) ((Builtin.SmallTypes.fitsIndex k && decide (0≤k))=true) ((∃ xs,SqL K H2 l xs)) (R (Ite K l k) H2)
noncomputable def ze0 (K : PySem.W.Frag) (R : (It→Hp→Prop)) (vs : List V):=fun (zs : List V) (H2 : Hp)=>L23.E2 (zeZ K R vs zs H2)
noncomputable def ze1 (K : PySem.W.Frag) (tk : TA) (σ : L2.St) (R : (It→Hp→Prop)):=fun (vs : List V) (H1 : Hp)=>tk σ H1 (ze0 K R vs)
noncomputable def ziK (K : PySem.W.Frag) (ta tk : TA) : TI:=fun σ H R=>ta σ H (ze1 K tk σ R)
theorem zh6 {pins : List (Addr × Obj)} {σ : L2.St} {H : Hp} {s : Shared} {R : It→Hp→Prop} {l : Addr} {lo : Nat} {h' : Heap} {E : Value→Shared→Prop} (I : Inv X pins σ H s) (he : IsEnum h' (s.heap.objs.size + 1) s.heap.objs.size lo .none) (hi : h'.IsListIter s.heap.objs.size l 0)
    (kk : ∀ b o,s.heap.get? b=some o→h'.get? b=some o) (q : R (Ite X.K l lo) H) (t : Nat) : wpAny (model X.prog X.w) X.A (pyIter (.ref (s.heap.objs.size + 1))) (PIE X pins σ (.Tuple elts kt pt) R) E { s with heap:=h',toks:=t }:=by
  refine wpAny_pyIter_enum he ⟨_,[s.heap.objs.size + 1,s.heap.objs.size],_,_,H,rfl,I.kept (t':=t) kk,zeY l _ _ lo (Nat.succ_ne_self _),⟨⟨.none,?_⟩,hi⟩,fun b hb=>?_,q⟩
  · rw [Nat.add_zero]; exact he
  · have hb' : s.heap.objs.size≤b:=by
      rcases List.mem_cons.mp hb with rfl | hb
      · omega
      · rw [List.mem_singleton.mp hb]; exact Nat.le_refl _
    exact I.fpOk hb' (I.hok.fresh hb')
theorem zgh {ta tk : TA} {kws : List Keyword} (h1 : Gl X "enumerate") (hm : X.mg "enumerate"=none) (ha : PA X [a] ta) (hkw : PK X kws tk) (hks : autoParam ((backToKw pos (keywordEach kws X.env)).filterMap (·.1)=[("start" : Str)]) L23.a1._auto_1) (hall : autoParam ((backToKw pos (keywordEach kws X.env)).all (·.1.isSome)=true) L23.a1._auto_1)
    (hs : autoParam (starEach [a] X.env=(false,eval a X.env) :: starEach [] X.env) L23.a1._auto_1) (hpl : autoParam (((backTo pos (starEach [a] X.env)).any (·.1) || (backToKw pos (keywordEach kws X.env)).any (·.1.isNone))=false) L23.a1._auto_1) :
    PI X (.Tuple elts kt pt) (.Call (.Name "enumerate" p) [a] kws pos) (ziK X.K ta tk):=by
  intro pins s σ H R I h
  refine wpAny_Call_Name_kw (ld_blt I h1 hm zbq (PySem.W.callWith_of (P:=fun zz=>True) hpl (fun zz zz=>⟨.machine,.inr (.inl rfl),.of_pure rfl⟩) (evalArgs_kw2 hall (thn (ha pos pins s σ H _ I h) fun us s1 ⟨vs,H1,I1,r1,q1⟩ =>
    thn (hkw pos pins s1 σ H1 _ I1 q1) fun ws s2 ⟨zs,H2,I2,rz,l,k,ex,ez,hk,⟨xs,hq⟩,q2⟩=>⟨trivial,?_⟩) hs)))
  subst ex ez
  obtain ⟨u,rfl,ru⟩:=vals1 r1
  obtain ⟨u2,rfl,t,rfl⟩:=vals1 rz
  cases ru
  obtain ⟨its,rv,pl,hz⟩:=I2.list hq
  rw [hks]
  obtain ⟨hk1,hk2⟩:=Bool.and_eq_true_iff.mp hk
  obtain ⟨n,rfl⟩:=Int.eq_ofNat_of_zero_le (of_decide_eq_true hk2)
  exact Vp pl.isList hk1 fun h' he hi kk=>zh6 I2 he hi kk q2 _
end
theorem zgi {K : PySem.W.Frag} {a : Addr} {xs : List V} {lo : Int} {g : TG} {tb : TS} {D : Ends} {σ : L2.St} {H : Hp} (Pv : Nat→L2.St→Hp→Prop) (h0 : Pv 0 σ H) (hl : ∀ i σ H,i≤xs.length→Pv i σ H→SqL K H a xs)
    (hs : ∀ i y σ H T,xs[i]?=some y→Pv i σ H→H T=none→g (.ref T) σ (upd H T (.tup [.int (lo + (i : Nat)),y])) fun σ2 H2=>tb { D with nx:=Pv (i + 1),ct:=Pv (i + 1),bk:=D.nx } σ2 H2) (hd : ∀ σ H,Pv xs.length σ H→D.nx σ H) :
    ∃ W : Nat→Nat→L2.St→Hp→Prop,(∃ m,W 0 m σ H)∧∀ i m σ H,W i m σ H →
      ((Ite K a lo).stop i H∧D.nx σ H)∨((Ite K a lo).go i H∧∃ N : L2.St→Hp→Prop,(∀ σ' H',N σ' H'→∃ m',m' < m∧W (i + 1) m' σ' H')∧∀ x H',(Ite K a lo).yld i H x H'→g x σ H' fun σ2 H2=>tb { D with nx:=N,ct:=N,bk:=D.nx } σ2 H2):=by
  refine ⟨fun i m σ H=>m=xs.length - i∧i≤xs.length∧Pv i σ H,⟨xs.length,rfl,Nat.zero_le _,h0⟩,?_⟩
  rintro i m σ H ⟨rfl,hi,p⟩
  have q:=hl i σ H hi p
  by_cases hlt : i < xs.length
  · refine .inr ⟨⟨xs,xs[i],q,by simp [hlt]⟩,Pv (i + 1),fun σ' H' p'=>⟨xs.length - (i + 1),by omega,rfl,hlt,p'⟩,fun x H' ⟨T,y,e1,e2,e3,e4⟩=>?_⟩
    subst e1 e3
    exact hs i y σ H T (e4 xs q) p e2
  · obtain rfl : i=xs.length:=by omega
    exact .inl ⟨⟨xs,q,Nat.le_refl _⟩,hd σ H p⟩
end L5
namespace L5
open PySem PySem.Spec PyProof.Rows L2 L3 L4
end L5
namespace L5
open PySem PySem.Spec PyProof.Rows L2 L3 L4
open Sem (wp)
section
variable {prog : Program} {w : World} {A : Around} {E : Value→Shared→Prop} {s : Shared}
theorem zbs {it t : Addr} {i : Nat} {its : Array Value} {x : Value} {Q : Value→Shared→Prop} (hit : IsTupIter s.heap it t i) (ht : IsTup s.heap t its) (hx : its[i]?=some x)
    (q : ∀ h',IsTupIter h' it t (i + 1)→Heap.SameBut it s.heap h'→Q x { s with heap:=h' }) : wpAny (model prog w) A (Builtin.SmallTypes.nextOf (.ref it)) Q E s:=by
  obtain ⟨⟨oc,od,ot,os⟩,e1,e2,e3⟩:=id hit
  obtain ⟨⟨tc,td,tt,ts⟩,e4,e6,nt,e5⟩:=ht
  cases e2; cases e3; cases e6; cases e5
  unfold Builtin.SmallTypes.nextOf
  refine wpAny_bind (wpAny_callSpecial?_slot hit.typeIs slot_tupleiter_next (wpAny_call_entry slot_tupleiter_next hit.typeIs entry_tupleiter_next ?_ (args_tupleiter_next _)))
  unfold Builtin.«tuple_iterator.__next__»
  wp_walk
  rw [Int.toNat_natCast,hx]
  wp_walk
  exact ⟨_,rfl,wpAny_pure (q _ ⟨_,Heap.get?_update_self _ e1 rfl,rfl,rfl⟩ (Heap.SameBut.update ..))⟩
theorem zcX {it t : Addr} {i : Nat} {its : Array Value} {Q : Value→Shared→Prop} (hh : A.handled=none) (hit : IsTupIter s.heap it t i) (ht : IsTup s.heap t its) (hx : its[i]?=none)
    (q : ∀ h' e,Heap.ExtBut it s.heap h'→(∃ o,h'.get? e=some o∧o.cls = .type "StopIteration")→E (.ref e) { s with heap:=h' }) : wpAny (model prog w) A (Builtin.SmallTypes.nextOf (.ref it)) Q E s:=by
  obtain ⟨⟨oc,od,ot,os⟩,e1,e2,e3⟩:=id hit
  obtain ⟨⟨tc,td,tt,ts⟩,e4,e6,nt,e5⟩:=ht
  have ha : A.in1.handled=none:=hh
  cases e2; cases e3; cases e6; cases e5
  unfold Builtin.SmallTypes.nextOf
  refine wpAny_bind (wpAny_callSpecial?_slot hit.typeIs slot_tupleiter_next (wpAny_call_entry slot_tupleiter_next hit.typeIs entry_tupleiter_next ?_ (args_tupleiter_next _)))
  unfold Builtin.«tuple_iterator.__next__»
  wp_walk
  rw [Int.toNat_natCast,hx]
  wp_walk
  unfold raiseNew
  wp_walk
  exact q _ _ (((Heap.SameBut.update ..).extBut.push _).push _) ⟨_,Heap.get?_push_size _ rfl,rfl⟩
noncomputable def zlq (p : Prop) : Prop:=p
theorem held {it : Addr} {Q : Value→Shared→Prop} (h : zlq (wpAny (model prog w) A (Builtin.SmallTypes.nextOf (.ref it)) Q E s)) : wpAny (model prog w) A (Builtin.SmallTypes.nextOf (.ref it)) Q E s:=h
set_option maxHeartbeats 4000000 in
theorem zcY {z TI TO i1 i2 l1 l2 : Addr} {k : Nat} {xs ys : Array Value} {c d : Value} {Q : Fin→Shared→Prop} (D : ZipApart z TI TO i1 i2 l1 l2)
    (hz : IsZip s.heap z TI TO .none) (hTI : IsPair s.heap TI (.ref i1) (.ref i2)) (hTO : IsPair s.heap TO c d) (h1 : IsTupIter s.heap i1 l1 k) (h2 : IsTupIter s.heap i2 l2 k) (t1 : IsTup s.heap l1 xs) (t2 : IsTup s.heap l2 ys)
    (q : ∀ x y,xs[k]?=some x→ys[k]?=some y→∀ h',IsZip h' z TI TO (rawInt s.heap.objs.size)→IsPair h' TO x y→IsTupIter h' i1 l1 (k + 1)→IsTupIter h' i2 l2 (k + 1)→IsPair h' s.heap.objs.size x y→(∀ b o,b≠z→b≠TO→b≠i1→b≠i2→s.heap.get? b=some o→h'.get? b=some o)→Q (.done (.ret (.ref s.heap.objs.size))) { s with heap:=h' })
    (r : xs[k]?=none∨ys[k]?=none→A.handled=none∧∀ h' e,(∀ b o,b≠z→b≠TO→b≠i1→b≠i2→s.heap.get? b=some o→h'.get? b=some o)→(∃ o,h'.get? e=some o∧o.cls = .type "StopIteration")→E (.ref e) { s with heap:=h' }) :
    wpAny (model prog w) A (Builtin.«zip.__next__» ⟨[.ref z],[]⟩) Q E s:=by
  unfold IsZip at hz
  unfold IsPair at hTI hTO
  unfold Builtin.«zip.__next__»
  wp_walk using held,wpAny_onRaise
  have kz : Heap.ExtBut z s.heap (s.heap.update z (Obj.mapFields fun x=>x.setIfInBounds 0 Value.ellipsis)):=(Heap.SameBut.update ..).extBut
  have sz : (s.heap.update z (Obj.mapFields fun x=>x.setIfInBounds 0 Value.ellipsis)).objs.size=s.heap.objs.size:=(Heap.SameBut.update ..).1
  have nz : (s.heap.update z (Obj.mapFields fun x=>x.setIfInBounds 0 Value.ellipsis)).get? z=some { cls := .type "zip",data := .fields #[.ellipsis,.bool false,.bool false,.ref TI,.ref TO] }:=Heap.get?_update_self _ hz rfl
  generalize s.heap.update z (Obj.mapFields fun x=>x.setIfInBounds 0 Value.ellipsis)=g1 at *
  cases hx : xs[k]? with
  | none =>
    refine zcX (r (.inl hx)).1 (h1.extBut kz D.i1z) (t1.extBut kz D.l1z) hx fun g2 e b2 ⟨oe,ho,hc⟩=>?_
    have nz2:=b2 _ _ D.i1z.symm nz
    wp_walk
    refine (r (.inl hx)).2 _ e (fun b o c1 zz c3 zz p=>(Heap.SameBut.update ..).extBut _ _ c1 (b2 _ _ c3 (kz _ _ c1 p))) ⟨oe,(Heap.SameBut.update ..).extBut _ _ (fun p=>?_) ho,hc⟩
    subst p; rw [nz2] at ho; cases ho; simp at hc
  | some x =>
    refine zbs (h1.extBut kz D.i1z) (t1.extBut kz D.l1z) hx fun g2 j1 b2=>?_
    have o2 : g2.get? TO=some { cls := .type "tuple",data := .seq #[c,d] }:=b2.extBut _ _ D.TOi1 (kz _ _ D.TOz hTO)
    wp_walk using held,wpAny_onRaise
    have kt : Heap.SameBut TO g2 (g2.update TO (Obj.mapSeq fun x_1=>x_1.setIfInBounds 0 x)):=Heap.SameBut.update ..
    have ot : (g2.update TO (Obj.mapSeq fun x_1=>x_1.setIfInBounds 0 x)).get? TO=some { cls := .type "tuple",data := .seq #[x,d] }:=Heap.get?_update_self _ o2 rfl
    generalize g2.update TO (Obj.mapSeq fun x_1=>x_1.setIfInBounds 0 x)=g3 at *
    have up3 : ∀ b o,b≠z→b≠TO→b≠i1→s.heap.get? b=some o→g3.get? b=some o:=fun b o c1 c2 c3 p=>kt.extBut _ _ c2 (b2.extBut _ _ c3 (kz _ _ c1 p))
    have nz3:=kt.extBut _ _ D.TOz.symm (b2.extBut _ _ D.i1z.symm nz)
    obtain ⟨o2i,e2i,r2i⟩:=h2
    obtain ⟨o2t,e2t,r2t⟩:=t2
    have h2' : IsTupIter g3 i2 l2 k:=⟨o2i,up3 _ _ D.i2z D.TOi2.symm D.i12.symm e2i,r2i⟩
    have t2' : IsTup g3 l2 ys:=⟨o2t,up3 _ _ D.l2z D.l2TO D.l2i1 e2t,r2t⟩
    cases hy : ys[k]? with
    | none =>
      refine zcX (r (.inr hy)).1 h2' t2' hy fun g4 e b4 ⟨oe,ho,hc⟩=>?_
      have nz4:=b4 _ _ D.i2z.symm nz3
      wp_walk
      refine (r (.inr hy)).2 _ e (fun b o c1 c2 c3 c4 p=>(Heap.SameBut.update ..).extBut _ _ c1 (b4 _ _ c4 (up3 b o c1 c2 c3 p))) ⟨oe,(Heap.SameBut.update ..).extBut _ _ (fun p=>?_) ho,hc⟩
      subst p; rw [nz4] at ho; cases ho; simp at hc
    | some y =>
      refine zbs h2' t2' hy fun g4 j2 b4=>?_
      have o4:=b4.extBut _ _ D.TOi2 ot
      have nz4:=b4.extBut _ _ D.i2z.symm nz3
      wp_walk using held,wpAny_onRaise
      have k5 : Heap.SameBut TO g4 (g4.update TO (Obj.mapSeq fun x=>x.setIfInBounds (0 + 1) y)):=Heap.SameBut.update ..
      have o5 : (g4.update TO (Obj.mapSeq fun x=>x.setIfInBounds (0 + 1) y)).get? TO=some { cls := .type "tuple",data := .seq #[x,y] }:=Heap.get?_update_self _ o4 rfl
      generalize g4.update TO (Obj.mapSeq fun x=>x.setIfInBounds (0 + 1) y)=g5 at *
      have n5 : g5.objs.size=s.heap.objs.size:=by rw [k5.1,b4.1,kt.1,b2.1,sz]
      have nz5:=k5.extBut _ _ D.TOz.symm nz4
      have lz:=Heap.lt_size nz5
      have up5 : ∀ b o,b≠z→b≠TO→b≠i1→b≠i2→s.heap.get? b=some o→g5.get? b=some o:=fun b o c1 c2 c3 c4 p=>k5.extBut _ _ c2 (b4.extBut _ _ c4 (up3 b o c1 c2 c3 p))
      wp_walk
      have up7 : ∀ b o,b≠z→g5.get? b=some o→((((g5.push { cls := .type "tuple",data := .seq #[x,y] }).update z (Obj.mapFields fun x=>x.setIfInBounds 0 (rawInt ↑g5.objs.size))).update z (Obj.mapFields fun x=>x.setIfInBounds 1 (Value.bool false))).get? b=some o):=fun b o c1 p=>(Heap.SameBut.update ..).extBut _ _ c1 ((Heap.SameBut.update ..).extBut _ _ c1 (Heap.get?_push_of_some _ p))
      have nz7 : IsZip (((g5.push { cls := .type "tuple",data := .seq #[x,y] }).update z (Obj.mapFields fun x=>x.setIfInBounds 0 (rawInt ↑g5.objs.size))).update z (Obj.mapFields fun x=>x.setIfInBounds 1 (Value.bool false))) z TI TO (rawInt g5.objs.size):=Heap.get?_update_self _ (Heap.get?_update_self _ (Heap.get?_push_of_some _ nz5) rfl) rfl
      have p7 : IsPair (((g5.push { cls := .type "tuple",data := .seq #[x,y] }).update z (Obj.mapFields fun x=>x.setIfInBounds 0 (rawInt ↑g5.objs.size))).update z (Obj.mapFields fun x=>x.setIfInBounds 1 (Value.bool false))) g5.objs.size x y:=(Heap.SameBut.update ..).extBut _ _ (Nat.ne_of_gt lz) ((Heap.SameBut.update ..).extBut _ _ (Nat.ne_of_gt lz) (Heap.get?_push_size _ rfl))
      change Q _ { s with heap:=((g5.push { cls := .type "tuple",data := .seq #[x,y] }).update z (Obj.mapFields fun x=>x.setIfInBounds 0 (rawInt ↑g5.objs.size))).update z (Obj.mapFields fun x=>x.setIfInBounds 1 (Value.bool false)) }
      generalize ((g5.push { cls := .type "tuple",data := .seq #[x,y] }).update z (Obj.mapFields fun x=>x.setIfInBounds 0 (rawInt ↑g5.objs.size))).update z (Obj.mapFields fun x=>x.setIfInBounds 1 (Value.bool false))=g7 at *
      rw [n5] at nz7 p7 ⊢
      obtain ⟨oa,ea,ra⟩:=((j1.extBut kt.extBut D.TOi1.symm).extBut b4.extBut D.i12).extBut k5.extBut D.TOi1.symm
      obtain ⟨ob,eb,rb⟩:=j2.extBut k5.extBut D.TOi2.symm
      exact q x y hx hy g7 nz7 (up7 _ _ D.TOz o5) ⟨oa,up7 _ _ D.i1z ea,ra⟩ ⟨ob,up7 _ _ D.i2z eb,rb⟩ p7 fun b o c1 c2 c3 c4 p=>up7 b o c1 (up5 b o c1 c2 c3 c4 p)
end
end L5
namespace L5
open PySem PySem.Spec PyProof.Rows L2 L3 L4
section
variable {prog : Program} {w : World} {A : Around} {E : Value→Shared→Prop} {s : Shared}
theorem zgj {z TI TO i1 i2 l1 l2 : Addr} {k : Nat} {xs ys : Array Value} {x y c d : Value} {Q : Option Value→Shared→Prop} (D : ZipApart z TI TO i1 i2 l1 l2)
    (hz : IsZip s.heap z TI TO .none) (hTI : IsPair s.heap TI (.ref i1) (.ref i2)) (hTO : IsPair s.heap TO c d) (h1 : IsTupIter s.heap i1 l1 k) (h2 : IsTupIter s.heap i2 l2 k) (t1 : IsTup s.heap l1 xs) (t2 : IsTup s.heap l2 ys) (hx : xs[k]?=some x) (hy : ys[k]?=some y)
    (q : ∀ h',IsZip h' z TI TO (rawInt s.heap.objs.size)→IsPair h' TO x y→IsTupIter h' i1 l1 (k + 1)→IsTupIter h' i2 l2 (k + 1)→IsPair h' s.heap.objs.size x y→(∀ b o,b≠z→b≠TO→b≠i1→b≠i2→s.heap.get? b=some o→h'.get? b=some o)→Q (some (.ref s.heap.objs.size)) { s with heap:=h' }) :
    wpAny (model prog w) A (pyNext (.ref z)) Q E s:=by
  have ty : s.TypeIs (.ref z) "zip":=⟨_,hz,rfl⟩
  unfold pyNext
  exact wpAny_bind (wpAny_attempt (wpAny_callSpecial?_slot (name:=Str.ofString "__next__") ty F.slot_zip_next (wpAny_call_entry F.slot_zip_next ty F.entry_zip_next (zcY D hz hTI hTO h1 h2 t1 t2 (fun x' y' p1 p2 h' a1 a2 a3 a4 a5 a6=>⟨_,rfl,by cases hx.symm.trans p1; cases hy.symm.trans p2; exact wpAny_pure (q h' a1 a2 a3 a4 a5 a6)⟩) fun p=>by rw [hx,hy] at p; cases p <;> contradiction) (F.args_zip_next_1 _))))
theorem zgk {z TI TO i1 i2 l1 l2 : Addr} {k : Nat} {xs ys : Array Value} {c d : Value} {Q : Option Value→Shared→Prop} (hh : A.handled=none) (D : ZipApart z TI TO i1 i2 l1 l2)
    (hz : IsZip s.heap z TI TO .none) (hTI : IsPair s.heap TI (.ref i1) (.ref i2)) (hTO : IsPair s.heap TO c d) (h1 : IsTupIter s.heap i1 l1 k) (h2 : IsTupIter s.heap i2 l2 k) (t1 : IsTup s.heap l1 xs) (t2 : IsTup s.heap l2 ys) (he : xs[k]?=none∨ys[k]?=none)
    (q : ∀ h',(∀ b o,b≠z→b≠TO→b≠i1→b≠i2→s.heap.get? b=some o→h'.get? b=some o)→Q none { s with heap:=h' }) : wpAny (model prog w) A (pyNext (.ref z)) Q E s:=by
  have ty : s.TypeIs (.ref z) "zip":=⟨_,hz,rfl⟩
  unfold pyNext
  refine wpAny_bind (wpAny_attempt (wpAny_callSpecial?_slot (name:=Str.ofString "__next__") ty F.slot_zip_next (wpAny_call_entry F.slot_zip_next ty F.entry_zip_next (zcY D hz hTI hTO h1 h2 t1 t2 (fun x y p1 p2=>by rw [p1,p2] at he; cases he <;> contradiction) fun zz=>⟨hh,fun h' e hk ⟨o,ho,hc⟩=>?_⟩) (F.args_zip_next_1 _))))
  exact wpAny_bind (wpAny_isInstance (T:="StopIteration") (b:=true) ⟨o,ho,hc⟩ isSubtype_stop (wpAny_pure (q _ hk)))
end
noncomputable def Itz (K : PySem.W.Frag) (a b : Addr) : It :=
  ⟨fun i H=>∃ xs ys x y,SqT K H a xs∧SqT K H b ys∧xs[i]?=some x∧ys[i]?=some y,
   fun i H v H'=>∃ T x y,v = .ref T∧H T=none∧H'=upd H T (.tup [x,y])∧(∀ xs,SqT K H a xs→xs[i]?=some x)∧∀ ys,SqT K H b ys→ys[i]?=some y,
   fun i H=>∃ xs ys,SqT K H a xs∧SqT K H b ys∧(xs.length≤i∨ys.length≤i)⟩
theorem vd {b x : Addr} {l : List Addr} (hb : b∉l) (hx : x∈l) : b≠x:=fun q=>hb (q ▸ hx)
inductive ZSt (z TI TO i1 i2 a b : Addr) (i : Nat) (h : Heap) : Prop where
  | mk (hz : IsZip h z TI TO .none) (hTI : IsPair h TI (.ref i1) (.ref i2)) (c d : Value) (hTO : IsPair h TO c d) (h1 : IsTupIter h i1 a i) (h2 : IsTupIter h i2 b i) : ZSt z TI TO i1 i2 a b i h
theorem ziL {p : Addr→Prop} {a b c d e : Addr} (h1 : p a) (h2 : p b) (h3 : p c) (h4 : p d) (h5 : p e) : ∀ x∈[a,b,c,d,e],p x:=by
  intro x hx
  cases hx with | head=>exact h1 | tail _ hx=>cases hx with | head=>exact h2 | tail _ hx=>cases hx with | head=>exact h3 | tail _ hx=>cases hx with | head=>exact h4 | tail _ hx=>cases hx with | head=>exact h5 | tail _ hx=>cases hx
theorem zgl {P : Program} {w : World} {K : PySem.W.Frag} {elts : List Expr} {kt : Nat} {pt : Pos} (a b z TI TO i1 i2 : Addr) (D : ZipApart z TI TO i1 i2 a b) :
    Turn P w K (.Tuple elts kt pt) (Itz K a b) [z,TI,TO,i1,i2] z (ZSt z TI TO i1 i2 a b) where
  mem := .head _
  obj:=by
    intro i h st
    obtain ⟨hz,hTI,c,d,hTO,h1,h2⟩:=st
    obtain ⟨o1,e1,zz,d1⟩:=h1
    obtain ⟨o2,e2,zz,d2⟩:=h2
    exact ziL ⟨_,hz,fun v q=>by cases (show Data.fields _=Data.cell v from q)⟩ ⟨_,hTI,fun v q=>by cases (show Data.seq _ _=Data.cell v from q)⟩ ⟨_,hTO,fun v q=>by cases (show Data.seq _ _=Data.cell v from q)⟩
      ⟨o1,e1,fun v q=>by rw [d1] at q; cases q⟩ ⟨o2,e2,fun v q=>by rw [d2] at q; cases q⟩
  keep:=by
    intro i h h' st k
    obtain ⟨hz,hTI,c,d,hTO,⟨o1,e1,r1⟩,⟨o2,e2,r2⟩⟩:=st
    exact ⟨k z (.head _) _ hz,k TI (.tail _ (.head _)) _ hTI,c,d,k TO (.tail _ (.tail _ (.head _))) _ hTO,⟨o1,k i1 (.tail _ (.tail _ (.tail _ (.head _)))) _ e1,r1⟩,⟨o2,k i2 (.tail _ (.tail _ (.tail _ (.tail _ (.head _))))) _ e2,r2⟩⟩
  item:=by
    intro X hP hw hK hc i pins s σ H E I hf st hg
    subst hP hw hK
    obtain ⟨hz,hTI,c,d,hTO,h1,h2⟩:=st
    obtain ⟨xs,ys,x,y,hq1,hq2,hx,hy⟩:=hg
    obtain ⟨ziM,rv1,p1,zz⟩:=I.tuple hq1
    obtain ⟨its2,rv2,p2,zz⟩:=I.tuple hq2
    obtain ⟨u,hu,ru⟩:=rv1.get hx
    obtain ⟨v,hv,rv⟩:=rv2.get hy
    have lt1 : z < s.heap.objs.size:=Heap.lt_size hz
    have lt2 : TI < s.heap.objs.size:=Heap.lt_size hTI
    have lt3 : TO < s.heap.objs.size:=Heap.lt_size hTO
    have lt4 : i1 < s.heap.objs.size:=by obtain ⟨o,e,zz⟩:=id h1; exact Heap.lt_size e
    have lt5 : i2 < s.heap.objs.size:=by obtain ⟨o,e,zz⟩:=id h2; exact Heap.lt_size e
    refine zgj D hz hTI hTO h1 h2 p1 p2 (x:=u) (y:=v) (by simpa using hu) (by simpa using hv) fun h' a1 a2 a3 a4 a5 kk=>⟨_,rfl,?_⟩
    refine wpAny_letOwnedTupleGo_zip a1 fun g2 z2 b2=>?_
    replace b2 : Heap.SameBut z h' g2:=b2
    obtain ⟨g1,eg1⟩ : ∃ g1,g1=s.heap.push { cls := .type "tuple",data := .seq #[u,v] }:=⟨_,rfl⟩
    have e1 : g1.get? s.heap.objs.size=some { cls := .type "tuple",data := .seq #[u,v] }:=by rw [eg1]; exact Heap.get?_push_size _ rfl
    have I1 : Inv X pins σ (upd H s.heap.objs.size (.tup [x,y])) { s with heap:=g1,toks:=s.toks } :=
      I.laid (fun b o q=>by rw [eg1]; exact Heap.get?_push_of_some _ q) (Nat.le_refl _) ⟨by show 2≤sizeLine; decide,[u,v],.cons ru (.cons rv .nil),⟨_,e1,rfl,_,rfl⟩⟩
    have lt : ∀ b∈[z,TI,TO,i1,i2],b < s.heap.objs.size:=ziL lt1 lt2 lt3 lt4 lt5
    have ff : ∀ b∈[z,TI,TO,i1,i2],FpOk X pins (upd H s.heap.objs.size (.tup [x,y])) b:=fun b hb=>by
      obtain ⟨q0,q1⟩:=hf b hb
      refine ⟨?_,q1⟩
      rw [upd_ne (Nat.ne_of_lt (lt b hb))]
      exact q0
    have I2:=I1.Jr (t':=s.toks) (h':=g2) (its:=[z,TI,TO,i1,i2]) (fun b o hb q=>?_) ff
    · refine ⟨.ref s.heap.objs.size,_,I2,rfl,⟨_,x,y,rfl,I.fresh,rfl,(fun zs hzs=>by rw [I.tuple_inj hzs hq1]; exact hx),fun zs hzs=>by rw [I.tuple_inj hzs hq2]; exact hy⟩,⟨z2,b2.extBut _ _ D.TIz (kk _ _ D.TIz D.TITO D.TIi1 D.TIi2 hTI),u,v,b2.extBut _ _ D.TOz a2,a3.extBut b2.extBut D.i1z,a4.extBut b2.extBut D.i2z⟩,fun b hb=>(ff b hb).1⟩
    · have n1 : b≠z:=vd hb (.head _)
      have n2 : b≠TO:=vd hb (.tail _ (.tail _ (.head _)))
      have n3 : b≠i1:=vd hb (.tail _ (.tail _ (.tail _ (.head _))))
      have n4 : b≠i2:=vd hb (.tail _ (.tail _ (.tail _ (.tail _ (.head _)))))
      by_cases hT : b=s.heap.objs.size
      · subst hT
        rw [show g1.get? s.heap.objs.size=some o from q] at e1
        rw [Option.some.inj e1]
        exact b2.extBut _ _ n1 a5
      · refine b2.extBut _ _ n1 (kk b o n1 n2 n3 n4 ?_)
        have q' : (s.heap.push { cls := .type "tuple",data := .seq #[u,v] }).get? b=some o:=by rw [← eg1]; exact q
        rw [Heap.get?_push_ne _ _ _ hT] at q'
        exact q'
  done:=by
    intro X hP hw hK hc i pins s σ H E I hf st hg
    subst hP hw hK
    obtain ⟨hz,hTI,c,d,hTO,h1,h2⟩:=st
    obtain ⟨xs,ys,hq1,hq2,hlen⟩:=hg
    obtain ⟨ziM,rv1,p1,zz⟩:=I.tuple hq1
    obtain ⟨its2,rv2,p2,zz⟩:=I.tuple hq2
    have l1:=rv1.length
    have l2:=rv2.length
    refine zgk (I.ok.hd hc) D hz hTI hTO h1 h2 p1 p2 (hlen.imp (fun h=>by simp; omega) fun h=>by simp; omega) fun h' kk=>⟨rfl,?_⟩
    exact I.Jr (t':=s.toks) (its:=[z,TI,TO,i1,i2]) (fun b o hb e=>kk b o (vd hb (.head _)) (vd hb (.tail _ (.tail _ (.head _)))) (vd hb (.tail _ (.tail _ (.tail _ (.head _))))) (vd hb (.tail _ (.tail _ (.tail _ (.tail _ (.head _)))))) e) hf
  self:=by
    intro A i s Q E st h
    obtain ⟨hz,zz⟩:=st
    exact wpAny_pyIter_zip hz h
noncomputable abbrev zq1 (h : Heap) (a : Addr) : Heap:=h.push { cls := .type "tuple_iterator",data := .fields #[.ref a,.int 0 0] }
noncomputable abbrev zq2 (h : Heap) (a b : Addr) : Heap:=(zq1 h a).push { cls := .type "tuple_iterator",data := .fields #[.ref b,.int 0 0] }
noncomputable abbrev zq3 (h : Heap) (a b : Addr) : Heap:=(zq2 h a b).push { cls := .type "tuple",data := .seq #[.ref h.objs.size,.ref (zq1 h a).objs.size] }
noncomputable abbrev zq4 (h : Heap) (a b : Addr) : Heap:=(zq3 h a b).push { cls := .type "tuple",data := .seq #[.none,.none] }
noncomputable abbrev zq5 (h : Heap) (a b : Addr) : Heap:=(zq4 h a b).push { cls := .type "zip",data := .fields #[.none,.bool false,.bool false,.ref (zq2 h a b).objs.size,.ref (zq3 h a b).objs.size] }
theorem zgm (a b : Addr) (xs ys : Array Value) : Meets (Builtin.«zip.__new__» ⟨[.type "zip",.ref a,.ref b],[]⟩) (fun zz R s=>IsTup s.heap a xs∧IsTup s.heap b ys∧R (.ok (.ret (.ref (zq4 s.heap a b).objs.size))) { s with heap:=zq5 s.heap a b }) :=
  .of_wp fun prog w A R s h=>by
    obtain ⟨hp,g,d,tk,os⟩:=s
    obtain ⟨t1,t2,h⟩:=h
    have hsub:=sub_zip
    have T1 : IsTup (Shared.heap ⟨hp,g,d,tk,os⟩) a xs:=t1
    have T2 : IsTup (Shared.heap ⟨hp.push { cls := .type "tuple_iterator",data := .fields #[.ref a,.int 0 0] },g,d,tk,os⟩) b ys:=IsTup.push t2 _
    wp_walk using iter_tuple T1,iter_tuple T2
    exact ⟨_,rfl,h⟩
end L5
namespace L5
open PySem PySem.Spec PyProof.Rows L2 L3 L4
theorem ziN : bootBuiltins "zip"=some (.type "zip"):=by decide +kernel
section
variable {prog : Program} {w : World} {A : Around} {E : Value→Shared→Prop} {s : Shared}
theorem zdp {a b : Addr} {xs ys : Array Value} {Q : Value→Shared→Prop} (t1 : IsTup s.heap a xs) (t2 : IsTup s.heap b ys)
    (q : ∀ h',IsZip h' (s.heap.objs.size + 4) (s.heap.objs.size + 2) (s.heap.objs.size + 3) .none→IsPair h' (s.heap.objs.size + 2) (.ref s.heap.objs.size) (.ref (s.heap.objs.size + 1))→IsPair h' (s.heap.objs.size + 3) .none .none →
      IsTupIter h' s.heap.objs.size a 0→IsTupIter h' (s.heap.objs.size + 1) b 0→(∀ c o,s.heap.get? c=some o→h'.get? c=some o)→Q (.ref (s.heap.objs.size + 4)) { s with heap:=h' }) :
    wpAny (model prog w) A (call (.type "zip") [.ref a,.ref b]) Q E s:=by
  refine callType_new F.called_zip (by decide) (F.typeCall_zip_2 _ _) (F.newCall_zip_2 _ _) (fun obj=>F.args_object_init_3 obj _ _) F.entry_zip_new (zgm a b xs ys) ⟨t1,t2,?_⟩
  have n1 : (zq1 s.heap a).objs.size=s.heap.objs.size + 1:=Heap.size_push ..
  have n2 : (zq2 s.heap a b).objs.size=s.heap.objs.size + 2:=by rw [Heap.size_push,n1]
  have n3 : (zq3 s.heap a b).objs.size=s.heap.objs.size + 3:=by rw [Heap.size_push,n2]
  have n4 : (zq4 s.heap a b).objs.size=s.heap.objs.size + 4:=by rw [Heap.size_push,n3]
  have m5 : (zq5 s.heap a b).get? (zq4 s.heap a b).objs.size=some _:=Heap.get?_push_size _ rfl
  have m4 : (zq5 s.heap a b).get? (zq3 s.heap a b).objs.size=some _:=Heap.get?_push_of_some _ (Heap.get?_push_size _ rfl)
  have m3 : (zq5 s.heap a b).get? (zq2 s.heap a b).objs.size=some _:=Heap.get?_push_of_some _ (Heap.get?_push_of_some _ (Heap.get?_push_size _ rfl))
  have m2 : (zq5 s.heap a b).get? (zq1 s.heap a).objs.size=some _:=Heap.get?_push_of_some _ (Heap.get?_push_of_some _ (Heap.get?_push_of_some _ (Heap.get?_push_size _ rfl)))
  have m1 : (zq5 s.heap a b).get? s.heap.objs.size=some _:=Heap.get?_push_of_some _ (Heap.get?_push_of_some _ (Heap.get?_push_of_some _ (Heap.get?_push_of_some _ (Heap.get?_push_size _ rfl))))
  show _∧_
  rw [n2,n3,n4] at m5
  rw [n1,n2] at m3
  rw [n3] at m4
  rw [n1] at m2
  rw [n4]
  exact ⟨⟨_,m5,rfl⟩,q _ m5 m3 m4 ⟨_,m1,rfl,rfl⟩ ⟨_,m2,rfl,rfl⟩ fun c o e=>Heap.get?_push_of_some _ (Heap.get?_push_of_some _ (Heap.get?_push_of_some _ (Heap.get?_push_of_some _ (Heap.get?_push_of_some _ e))))⟩
end
theorem ze2 {n a b : Nat} (la : a < n) (lb : b < n) : ZipApart (n + 4) (n + 2) (n + 3) n (n + 1) a b :=
  ⟨(show (n + 2)≠(n + 4) by omega),(show (n + 3)≠(n + 4) by omega),(show n≠(n + 4) by omega),(show (n + 1)≠(n + 4) by omega),(show (n + 2)≠(n + 3) by omega),(show (n + 2)≠n by omega),(show (n + 2)≠(n + 1) by omega),(show (n + 3)≠n by omega),(show (n + 3)≠(n + 1) by omega),(show n≠(n + 1) by omega),(show a≠(n + 4) by omega),(show a≠(n + 3) by omega),(show a≠n by omega),(show a≠(n + 1) by omega),(show b≠(n + 4) by omega),(show b≠(n + 3) by omega),(show b≠n by omega),(show b≠(n + 1) by omega)⟩
section
variable {X : Cx} {e1 e2 : Expr} {p pos : Pos} {elts : List Expr} {kt : Nat} {pt : Pos}
noncomputable def zh7 (K : PySem.W.Frag) (R : (It→Hp→Prop)) (vs : List V) (H1 : Hp):=fun a b=>L23.A4 (vs=[.ref a,.ref b]) ((∃ xs,SqT K H1 a xs)) ((∃ ys,SqT K H1 b ys)) (R (Itz K a b) H1)
noncomputable def zh8 (K : PySem.W.Frag) (R : (It→Hp→Prop)):=fun (vs : List V) (H1 : Hp)=>L23.E2 (zh7 K R vs H1)
noncomputable def zlr (K : PySem.W.Frag) (ta : TA) : TI:=fun σ H R=>ta σ H (zh8 K R)
theorem ziO {ta : TA} (h1 : Gl X "zip") (hm : X.mg "zip"=none) (ha : PA X [e1,e2] ta) (hs : autoParam (starEach [e1,e2] X.env=(false,eval e1 X.env) :: starEach [e2] X.env) L23.a1._auto_1) (hpl : autoParam ((backTo pos (starEach [e2] X.env)).any (·.1)=false) L23.a1._auto_1) :
    PI X (.Tuple elts kt pt) (.Call (.Name "zip" p) [e1,e2] [] pos) (zlr X.K ta):=by
  intro pins s σ H R I h
  refine wpAny_Call_Name_kw (ld_blt I h1 hm ziN (PyProof.Rows.callWith_type1 (thn (ha pos pins s σ H _ I h) fun us s1 ⟨vs,H1,I1,r1,a,b,ex,⟨xs,hq1⟩,⟨ys,hq2⟩,q1⟩=>?_) hs hpl))
  subst ex
  obtain ⟨u,u',rfl,ru,ru'⟩:=vals2 r1
  cases ru
  cases ru'
  obtain ⟨ziM,rv1,p1,zz⟩:=I1.tuple hq1
  obtain ⟨its2,rv2,p2,zz⟩:=I1.tuple hq2
  have la : a < s1.heap.objs.size:=by obtain ⟨o,e,zz⟩:=p1; exact Heap.lt_size e
  have lb : b < s1.heap.objs.size:=by obtain ⟨o,e,zz⟩:=p2; exact Heap.lt_size e
  refine zdp p1 p2 fun h' az aTI aTO j1 j2 kk=>?_
  have D:=ze2 (n:=s1.heap.objs.size) la lb
  refine wpAny_pyIter_zip az ⟨_,[s1.heap.objs.size + 4,s1.heap.objs.size + 2,s1.heap.objs.size + 3,s1.heap.objs.size,s1.heap.objs.size + 1],_,_,H1,rfl,I1.kept (t':=s1.toks) kk,zgl a b _ _ _ _ _ D,⟨az,aTI,_,_,aTO,j1,j2⟩,fun c hc=>?_,q1⟩
  have hc' : s1.heap.objs.size≤c:=by
    simp only [List.mem_cons,List.not_mem_nil,or_false] at hc
    rcases hc with rfl | rfl | rfl | rfl | rfl
    · exact Nat.le_add_right _ _
    · exact Nat.le_add_right _ _
    · exact Nat.le_add_right _ _
    · exact Nat.le_refl _
    · exact Nat.le_add_right _ _
  exact I1.fpOk hc' (I1.hok.fresh hc')
end
theorem zh9 {K : PySem.W.Frag} {a b : Addr} {xs ys : List V} {g : TG} {tb : TS} {D : Ends} {σ : L2.St} {H : Hp} (Pv : Nat→L2.St→Hp→Prop) (h0 : Pv 0 σ H) (hl : ∀ i σ H,Pv i σ H→SqT K H a xs∧SqT K H b ys) (hlen : xs.length=ys.length)
    (hs : ∀ i x y σ H T,xs[i]?=some x→ys[i]?=some y→Pv i σ H→H T=none→g (.ref T) σ (upd H T (.tup [x,y])) fun σ2 H2=>tb { D with nx:=Pv (i + 1),ct:=Pv (i + 1),bk:=D.nx } σ2 H2) (hd : ∀ σ H,Pv xs.length σ H→D.nx σ H) :
    ∃ W : Nat→Nat→L2.St→Hp→Prop,(∃ m,W 0 m σ H)∧∀ i m σ H,W i m σ H →
      ((Itz K a b).stop i H∧D.nx σ H)∨((Itz K a b).go i H∧∃ N : L2.St→Hp→Prop,(∀ σ' H',N σ' H'→∃ m',m' < m∧W (i + 1) m' σ' H')∧∀ x H',(Itz K a b).yld i H x H'→g x σ H' fun σ2 H2=>tb { D with nx:=N,ct:=N,bk:=D.nx } σ2 H2):=by
  refine ⟨fun i m σ H=>m=xs.length - i∧i≤xs.length∧Pv i σ H,⟨xs.length,rfl,Nat.zero_le _,h0⟩,?_⟩
  rintro i m σ H ⟨rfl,hi,p⟩
  obtain ⟨q1,q2⟩:=hl i σ H p
  by_cases hlt : i < xs.length
  · refine .inr ⟨⟨xs,ys,xs[i],ys[i]'(by omega),q1,q2,List.getElem?_eq_getElem hlt,List.getElem?_eq_getElem (by omega)⟩,Pv (i + 1),fun σ' H' p'=>⟨xs.length - (i + 1),by omega,rfl,hlt,p'⟩,fun v H' ⟨T,x,y,e1,e2,e3,e4,e5⟩=>?_⟩
    subst e1 e3
    exact hs i x y σ H T (e4 xs q1) (e5 ys q2) p e2
  · obtain rfl : i=xs.length:=by omega
    exact .inl ⟨⟨xs,ys,q1,q2,.inl (Nat.le_refl _)⟩,hd σ H p⟩
end L5
namespace L4
open PySem PySem.Spec PyProof.Rows L2 L3
theorem ze3 (l : List (Array Nat)) : ∀ acc : Array Nat,(l.foldl (· ++ ·) acc).toList=acc.toList ++ (l.map Array.toList).flatten:=by
  induction l with
  | nil=>intro acc; simp
  | cons a l ih=>intro acc; rw [List.foldl_cons,ih]; simp
theorem XT (c : Nat) (n : Int) : cs (PySem.Txt.mul ⟨#[c]⟩ n)=List.replicate n.toNat c:=by
  unfold PySem.Txt.mul
  split
  · rw [show n.toNat=0 by omega]; rfl
  · split
    · rename_i h1 h
      rw [Bool.or_eq_true] at h
      have h2 : (⟨#[c]⟩ : Str).length=1:=rfl
      have : n=1:=by
        rcases h with h | h
        · exact eq_of_beq h
        · rw [h2] at h; cases h
      subst this
      rfl
    · unfold cs
      rw [ze3]
      simp
theorem zbt {xs : List V} (k : Nat) (h : k≤xs.length) : cutV xs (some (k : Int)) none=xs.drop k:=by
  unfold cutV
  rw [HT.sIx_nat,HT.sIx_none,Nat.min_eq_left h]
  exact List.take_of_length_le (by rw [List.length_drop]; omega)
theorem ziP {xs : List V} (k : Nat) : cutV xs none (some (k : Int))=xs.take k:=by
  unfold cutV
  rw [HT.sIx_nat,HT.sIx_none,List.drop_zero,Nat.sub_zero]
  by_cases h : k≤xs.length
  · rw [Nat.min_eq_left h]
  · rw [Nat.min_eq_right (by omega),List.take_length,List.take_of_length_le (by omega)]
theorem zcK {t : Str} (h : ∀ c∈cs t,c < 1114112) : PyData.strOk t=true:=by
  unfold PyData.strOk
  rw [← Array.all_toList,List.all_eq_true]
  intro c hc
  exact decide_eq_true (h c hc)
end L4
namespace CW
open PySem L4
noncomputable def keys : List Str:=["often","all","some","of","from","any","or","level","mark","worth","end"]
noncomputable def jy : Str:="abcdefghijklmnopqrstuvwxyz"
noncomputable def Zt : Str:="0123456789"
noncomputable def xm (t g : Str) : Bool:=t.cps.toList.all fun c=>g.cps.toList.contains c
noncomputable def isWord (t : Str) : Bool:=decide (1≤t.length) && decide (t.length≤12) && !keys.contains t && xm t jy
noncomputable def isNum (t : Str) : Bool:=decide (1≤t.length) && decide (t.length≤60) && xm t Zt && (t == "0" || !((⟨#[t.cps.getD 0 0]⟩ : Str) == "0"))
noncomputable def valOf (t : Str) : Int:=((PySem.NumText.digitsVal (cs t) : Nat) : Int)
structure zbu where
  name : Str
  field : Str
  level : Int
  mark : Int
noncomputable def zbu.data (w : zbu) : PyData := .tuple [.str w.name,.str w.field,.int w.level,.int w.mark]
theorem zai : jy.cps.toList=List.range' 97 26:=by decide +kernel
theorem zaj : Zt.cps.toList=List.range' 48 10:=by decide +kernel
theorem Vq {t g : Str} : xm t g=true↔∀ c∈cs t,c∈g.cps.toList:=by
  unfold xm cs
  rw [List.all_eq_true]
  exact ⟨fun h c hc=>List.contains_iff_mem.mp (h c hc),fun h c hc=>List.contains_iff_mem.mpr (h c hc)⟩
theorem zbv {t : Str} : xm t jy=true↔∀ c∈cs t,97≤c∧c≤122:=by
  rw [Vq,zai]
  constructor
  · intro h c hc
    have:=List.mem_range'_1.mp (h c hc)
    omega
  · intro h c hc
    have:=h c hc
    exact List.mem_range'_1.mpr (by omega)
theorem zbw {t : Str} : xm t Zt=true↔∀ c∈cs t,48≤c∧c≤57:=by
  rw [Vq,zaj]
  constructor
  · intro h c hc
    have:=List.mem_range'_1.mp (h c hc)
    omega
  · intro h c hc
    have:=h c hc
    exact List.mem_range'_1.mpr (by omega)
theorem yl {t : Str} : isWord t=true↔1≤t.length∧t.length≤12∧t∉keys∧∀ c∈cs t,97≤c∧c≤122:=by
  unfold isWord
  rw [Bool.and_eq_true,Bool.and_eq_true,Bool.and_eq_true,zbv]
  simp only [decide_eq_true_eq,Bool.not_eq_true',List.contains_eq_mem,decide_eq_false_iff_not]
  exact ⟨fun ⟨⟨⟨a,b⟩,c⟩,d⟩=>⟨a,b,c,d⟩,fun ⟨a,b,c,d⟩=>⟨⟨⟨a,b⟩,c⟩,d⟩⟩
theorem XU {t : Str} (h : 1≤t.length) : ∃ r,cs t=t.cps.getD 0 0 :: r:=by
  unfold cs
  have hs : 0 < t.cps.size:=h
  obtain ⟨l⟩:=t
  obtain ⟨l⟩:=l
  cases l with
  | nil=>cases hs
  | cons a r=>exact ⟨r,rfl⟩
theorem zgn (c : Nat) : ((⟨#[c]⟩ : Str) == "0")=decide (c=48):=by
  have e : ("0" : Str)=⟨#[48]⟩:=by decide +kernel
  rw [e]
  by_cases h : c=48
  · subst h; decide
  · rw [decide_eq_false h,beq_eq_false_iff_ne]
    intro z
    have : cs ⟨#[c]⟩=cs ⟨#[48]⟩:=congrArg cs z
    rw [XO,XO] at this
    exact h (List.cons.inj this).1
theorem J1 {t : Str} : isNum t=true↔1≤t.length∧t.length≤60∧(∀ c∈cs t,48≤c∧c≤57)∧(t="0"∨(cs t).head?≠some 48):=by
  unfold isNum
  rw [Bool.and_eq_true,Bool.and_eq_true,Bool.and_eq_true,zbw,Bool.or_eq_true,zgn]
  simp only [decide_eq_true_eq,beq_iff_eq,Bool.not_eq_true',decide_eq_false_iff_not]
  constructor
  · rintro ⟨⟨⟨a,b⟩,c⟩,d⟩
    obtain ⟨r,e⟩:=XU a
    refine ⟨a,b,c,d.imp id fun z q=>?_⟩
    rw [e] at q
    exact z (Option.some.inj q)
  · rintro ⟨a,b,c,d⟩
    obtain ⟨r,e⟩:=XU a
    refine ⟨⟨⟨a,b⟩,c⟩,d.imp id fun z q=>?_⟩
    rw [e,q] at z
    exact z rfl
theorem XR.isNum {n : Int} {t : Str} (h : XR n t) : isNum t=true:=J1.mpr ⟨h.pos,h.most,h.zbr,h.lead⟩
theorem XR.val {n : Int} {t : Str} (h : XR n t) : valOf t=n:=by
  have e:=h.reads
  rw [XS h.pos h.most h.zbr] at e
  exact Option.some.inj e
theorem num_reads {t : Str} (h : isNum t=true) : PySem.intText? t=some (valOf t)∧t.length≤60:=by
  obtain ⟨a,b,c,zz⟩:=J1.mp h
  exact ⟨XS a b c,b⟩
structure zbu.Ok (w : zbu) : Prop where
  name : isWord w.name=true
  field : isWord w.field=true
  l0 : 0≤w.level
  l1 : w.level < 10 ^ 60
  m0 : 0≤w.mark
  m1 : w.mark < 10 ^ 60
theorem J2 {t : Str} (h : isWord t=true) {c : Nat} (hc : c < 97) : c∉cs t:=fun z=>by
  have:=(yl.mp h).2.2.2 c z
  omega
theorem ze4 {n : Int} {t : Str} (h : XR n t) {c : Nat} (hc : c < 48) : c∉cs t:=fun z=>by
  have:=h.zbr c z
  omega
end CW
namespace CW
open PySem L4
end CW
namespace L6
open PySem PySem.Spec PyProof.Rows L2 L3 L4
noncomputable def ZD (xs : Array Nat) : Prop:=∀ i k,i < k→k < xs.size→xs.getD i 0 < xs.getD k 0
theorem zgo {xs : Array Nat} {i : Nat} (h : i < xs.size) (a b : Nat) : xs.getD i a=xs.getD i b:=by simp [Array.getD,h]
theorem zia (xs : Array Nat) (j : Nat) (R : ZD xs) : ∀ (fuel lo hi : Nat),hi - lo≤fuel→lo≤hi→hi≤xs.size→(∀ i,i < lo→xs.getD i 0 < j)→(∀ i,hi≤i→i < xs.size→j≤xs.getD i 0) →
    SetTable.below.go xs j fuel lo hi≤xs.size∧(∀ i,i < SetTable.below.go xs j fuel lo hi→xs.getD i 0 < j)∧(∀ i,SetTable.below.go xs j fuel lo hi≤i→i < xs.size→j≤xs.getD i 0):=by
  intro fuel
  induction fuel with
  | zero =>
    intro lo hi hf hl hh a b
    have e : lo=hi:=Nat.le_antisymm hl (Nat.le_of_sub_eq_zero (Nat.le_zero.mp hf))
    subst e
    exact ⟨hh,a,b⟩
  | succ fuel ih =>
    intro lo hi hf hl hh a b
    unfold SetTable.below.go
    by_cases hlt : lo < hi
    · rw [if_pos hlt]
      dsimp only
      have m1 : lo≤(lo + hi) / 2:=by omega
      have m2 : (lo + hi) / 2 < hi:=by omega
      generalize (lo + hi) / 2=m at *
      have hm : m < xs.size:=Nat.lt_of_lt_of_le m2 hh
      rw [zgo hm j 0]
      by_cases hc : xs.getD m 0 < j
      · rw [if_pos hc]
        refine ih _ hi (by omega) m2 hh (fun i hi'=>?_) b
        rcases Nat.lt_or_eq_of_le (Nat.le_of_lt_succ hi') with e | e
        · exact Nat.lt_trans (R i _ e hm) hc
        · rw [e]; exact hc
      · rw [if_neg hc]
        refine ih lo _ (by omega) m1 (Nat.le_of_lt hm) a fun i h1 h2=>?_
        rcases Nat.lt_or_eq_of_le h1 with e | e
        · exact Nat.le_trans (Nat.le_of_not_lt hc) (Nat.le_of_lt (R _ i e h2))
        · rw [← e]; exact Nat.le_of_not_lt hc
    · rw [if_neg hlt]
      have e : lo=hi:=Nat.le_antisymm hl (Nat.le_of_not_lt hlt)
      subst e
      exact ⟨hh,a,b⟩
theorem Vr {xs : Array Nat} (R : ZD xs) (j : Nat) : SetTable.below xs j≤xs.size∧(∀ i,i < SetTable.below xs j→xs.getD i 0 < j)∧(∀ i,SetTable.below xs j≤i→i < xs.size→j≤xs.getD i 0) :=
  zia xs j R xs.size 0 xs.size (by omega) (Nat.zero_le _) (Nat.le_refl _) (fun i h=>absurd h (by omega)) fun i h1 h2=>absurd h1 (by omega)
theorem zbx {xs : Array Nat} {p : Nat} (hp : p≤xs.size) (x i : Nat) : (SetTable.insertAt xs p x).getD i 0=if i < p then xs.getD i 0 else if i=p then x else xs.getD (i - 1) 0:=by
  have e:=SetTable.toList_insertAt xs p x
  have hl : xs.toList.length=xs.size:=by simp
  have key : ∀ (ys : Array Nat) (k : Nat),ys.getD k 0=(ys.toList[k]?).getD 0:=fun ys k=>by simp [Array.getD_eq_getD_getElem?]
  rw [key,key,key,e]
  by_cases h1 : i < p
  · rw [if_pos h1,List.getElem?_append_left (by rw [List.length_take,hl,Nat.min_eq_left hp]; exact h1),List.getElem?_take_of_lt h1]
  · rw [if_neg h1,List.getElem?_append_right (by rw [List.length_take,hl,Nat.min_eq_left hp]; exact Nat.le_of_not_lt h1),List.length_take,Nat.min_eq_left (by rw [hl]; exact hp)]
    by_cases h2 : i=p
    · subst h2
      rw [if_pos rfl,Nat.sub_self]; rfl
    · rw [if_neg h2]
      obtain ⟨k,hk⟩ : ∃ k,i - p=k + 1:=⟨i - p - 1,by omega⟩
      rw [hk,List.getElem?_cons_succ,List.getElem?_drop]
      congr 2
      omega
theorem zgp {xs : Array Nat} {p : Nat} (hp : p≤xs.size) (x : Nat) : (SetTable.insertAt xs p x).size=xs.size + 1:=by
  have e:=congrArg List.length (SetTable.toList_insertAt xs p x)
  simp at e
  rw [Nat.min_eq_left hp,← Nat.add_assoc,Nat.add_sub_of_le hp] at e
  exact e
theorem zdq {xs : Array Nat} (R : ZD xs) {j : Nat} (hj : ∀ i,i < xs.size→xs.getD i 0≠j) : ZD (SetTable.insertAt xs (SetTable.below xs j) j):=by
  obtain ⟨b0,b1,b2⟩:=Vr R j
  generalize SetTable.below xs j=p at b0 b1 b2
  intro i k hik hk
  rw [zgp b0] at hk
  rw [zbx b0,zbx b0]
  by_cases h1 : i < p
  · rw [if_pos h1]
    by_cases h2 : k < p
    · rw [if_pos h2]; exact R i k hik (Nat.lt_of_lt_of_le h2 b0)
    · rw [if_neg h2]
      by_cases h3 : k=p
      · rw [if_pos h3]; exact b1 i h1
      · rw [if_neg h3]
        have h4 : p < k:=Nat.lt_of_le_of_ne (Nat.le_of_not_lt h2) (Ne.symm h3)
        obtain ⟨k',rfl⟩:=Nat.exists_eq_succ_of_ne_zero (Nat.ne_of_gt (Nat.lt_of_le_of_lt (Nat.zero_le _) h4))
        exact Nat.lt_of_lt_of_le (b1 i h1) (b2 k' (Nat.le_of_lt_succ h4) (Nat.lt_of_succ_lt_succ hk))
  · have h1' : p≤i:=Nat.le_of_not_lt h1
    have h4 : p < k:=Nat.lt_of_le_of_lt h1' hik
    rw [if_neg h1,if_neg (Nat.not_lt.mpr (Nat.le_of_lt h4)),if_neg (Nat.ne_of_gt h4)]
    obtain ⟨k',rfl⟩:=Nat.exists_eq_succ_of_ne_zero (Nat.ne_of_gt (Nat.lt_of_le_of_lt (Nat.zero_le _) h4))
    have hk':=Nat.lt_of_succ_lt_succ hk
    by_cases h2 : i=p
    · rw [if_pos h2]
      exact Nat.lt_of_le_of_ne (b2 k' (Nat.le_of_lt_succ h4) hk') (Ne.symm (hj k' hk'))
    · rw [if_neg h2]
      obtain ⟨i',rfl⟩:=Nat.exists_eq_succ_of_ne_zero (show i≠0 from fun z=>h2 (by subst z; exact (Nat.le_zero.mp h1').symm))
      exact R i' k' (Nat.lt_of_succ_lt_succ hik) hk'
theorem ze5 {t : SetTable} (R : ZD t.place) {j : Nat} (h : ∀ i,t.slot j ≠ .live i) : ∀ i,i < t.place.size→t.place.getD i 0≠j:=by
  intro i hi e
  obtain ⟨b0,b1,b2⟩:=Vr R j
  have hb : i=SetTable.below t.place j:=by
    rcases Nat.lt_trichotomy i (SetTable.below t.place j) with z | z | z
    · have:=b1 i z; omega
    · exact z
    · have:=b2 _ (Nat.le_refl _) (Nat.lt_trans z hi)
      have:=R _ i z hi
      omega
  refine h (SetTable.below t.place j) ?_
  unfold SetTable.slot
  dsimp only
  have : t.place[SetTable.below t.place j]?=some j:=by
    rw [← hb,← e]
    simp [Array.getD,hi]
  rw [this]
  simp
theorem zdr {t : SetTable} {hashAt : Nat→Int} {h : Int} : ∀ (fuel : Nat) (p : SetTable.Probe),(∀ d,p.dummy=some d→∀ i,t.slot d ≠ .live i)→∀ j d,SetTable.probe.go t hashAt h fuel p=some (.empty j d) →
    (∀ i,t.slot j ≠ .live i)∧∀ d',d=some d'→∀ i,t.slot d' ≠ .live i:=by
  intro fuel
  induction fuel with
  | zero=>intro p hp j d e; unfold SetTable.probe.go at e; cases e
  | succ fuel ih =>
    intro p hp j d e
    unfold SetTable.probe.go at e
    cases hs : t.slot p.j with
    | empty =>
      rw [hs] at e
      cases e
      exact ⟨fun i z=>(by rw [hs] at z; cases z),hp⟩
    | dummy =>
      rw [hs] at e
      refine ih _ (fun d' hd'=>?_) j d e
      have : (t.advance { p with dummy:=some p.j }).dummy=some p.j:=by unfold SetTable.advance; split <;> rfl
      rw [this] at hd'
      cases hd'
      exact fun i z=>by rw [hs] at z; cases z
    | live i =>
      rw [hs] at e
      dsimp only at e
      split at e
      · cases e
      · refine ih _ (fun d' hd'=>?_) j d e
        have : (t.advance p).dummy=p.dummy:=by unfold SetTable.advance; split <;> rfl
        rw [this] at hd'
        exact hp d' hd'
theorem zak {t : SetTable} {h : Int} {slot : Nat} {wd : Bool} (e : t.freeSlot h=some (slot,wd)) : ∀ i,t.slot slot ≠ .live i:=by
  unfold SetTable.freeSlot at e
  split at e
  · rename_i j d hq
    unfold SetTable.probe at hq
    obtain ⟨a,b⟩:=zdr _ _ (fun d' hd'=>by
      have : (t.probeStart h).dummy=none:=rfl
      rw [this] at hd'; cases hd') j d hq
    cases d with
    | none=>cases e; exact a
    | some d'=>cases e; exact b d' rfl
  · cases e
structure Good (t : SetTable) (n : Nat) (led : Bool) : Prop where
  fits : t.fits n=true
  led : t.led=led
  rise : t.plain=true→ZD t.place
theorem W4 {t : SetTable} {es : Array (Int × Value)} {h : Int} {x : Value} {led : Bool} (g : Good t es.size led) : Good (layNew t es h x).2.1 (layNew t es h x).1.size led:=by
  refine ⟨layNew_fits t es h x,?_,?_⟩
  · unfold layNew
    split
    · dsimp only
      unfold SetTable.orStandIn
      split
      · exact g.led
      · exact g.led
    · exact g.led
  · unfold layNew
    split
    · rename_i slot wd hs
      dsimp only
      unfold SetTable.orStandIn
      split
      · intro hp
        exact zdq (g.rise hp) (ze5 (g.rise hp) (zak hs))
      · intro z; cases z
    · intro z; cases z
theorem zcL (f : Nat→Option Nat) (n : Nat) : ZD ((((List.range n).filterMap fun j=>(f j).map (j,·)).map (·.1)).toArray):=by
  have e : (((List.range n).filterMap fun j=>(f j).map (j,·)).map (·.1))=(List.range n).filter fun j=>(f j).isSome:=by
    generalize List.range n=l
    induction l with
    | nil=>rfl
    | cons a l ih =>
      rw [List.filterMap_cons,List.filter_cons]
      cases hf : f a with
      | none=>simpa using ih
      | some b=>simpa using ih
  rw [e]
  have hp : ((List.range n).filter fun j=>(f j).isSome).Pairwise (· < ·):=List.Pairwise.filter _ List.pairwise_lt_range
  generalize (List.range n).filter (fun j=>(f j).isSome)=l at hp
  intro i k hik hk
  have hk' : k < l.length:=by simpa using hk
  have:=List.pairwise_iff_getElem.mp hp i k (by omega) hk' hik
  simpa [Array.getD,hk',show i < l.length by omega] using this
theorem YL {t : SetTable} {es : Array (Int × Value)} {n : Nat} {led : Bool} (g : Good t es.size led) : Good (relayAll t es n).2.1 (relayAll t es n).1.size led:=by
  refine ⟨relayAll_fits t es n,?_,?_⟩
  · unfold relayAll
    split
    · rename_i t' order hr
      dsimp only
      split
      · unfold SetTable.relaid SetTable.laid at hr
        simp only [Option.bind_eq_bind,Option.bind_eq_some_iff,Option.pure_def,Option.some.injEq,Prod.mk.injEq] at hr
        obtain ⟨zz,zz,rfl,zz⟩:=hr
        exact g.led
      · exact g.led
    · exact g.led
  · unfold relayAll
    split
    · rename_i t' order hr
      dsimp only
      split
      · unfold SetTable.relaid SetTable.laid at hr
        simp only [Option.bind_eq_bind,Option.bind_eq_some_iff,Option.pure_def,Option.some.injEq,Prod.mk.injEq] at hr
        obtain ⟨owner,zz,rfl,zz⟩:=hr
        intro zz
        exact zcL (fun j=>owner.getD j none) _
      · intro z; cases z
    · intro z; cases z
end L6
namespace L6
open PySem PySem.Spec PyProof.Rows L2 L3 L4
open Sem (wp)
noncomputable def Zi (w : World) : Bool:=!w.params.followText "set-order"
noncomputable def wR (P : Program) (w : World) (h : Heap) (a : Addr) (ks : List Int) : Prop :=
  ∃ o es ep t,h.get? a=some o∧o.ExactSet∧o.data = .set es ep t∧ElemsOf (intKind P w) es.toList∧(∃ ms,IntsAre (es.toList.map (·.2)) ms∧ms.Perm ks)∧ks.Nodup∧es.size < scanBound∧Good t es.size (Zi w)
theorem wR.at {P : Program} {w : World} {h h' : Heap} {a : Addr} {ks : List Int} (x : wR P w h a ks) (k : ∀ o,h.get? a=some o→h'.get? a=some o) : wR P w h' a ks :=
  let ⟨o,es,ep,t,e,r⟩:=x; ⟨o,es,ep,t,k _ e,r⟩
theorem IntsAre.snoc {n : Int} {t : Tok} : ∀ {vs : List Value} {ns : List Int},IntsAre vs ns→IntsAre (vs ++ [.int n t]) (ns ++ [n])
  | _,_,.nil => .cons n t .nil
  | _,_,.cons m u h => .cons m u (IntsAre.snoc h)
section
variable {prog : Program} {w : World} {A : Around} {E : Value→Shared→Prop} {s : Shared}
end
end L6
namespace L6
open PySem PySem.Spec PyProof.Rows L2 L3 L4
open Sem (wp)
section
variable {prog : Program} {w : World} {A : Around} {E : Value→Shared→Prop} {s : Shared}
noncomputable def vQ (w : World) : Obj:={ cls := .type "set",dict:=none,data := .set #[] 0 (.fresh 0 0 (Zi w)) }
theorem XW {R : Result→Shared→Prop} {I S : Addr} (h : wpAny (model prog w) A.in1 (pyNext (.ref I)) (fun x s'=>match x with
      | none=>R (.ok (.ret .none)) s'
      | some v=>wpAny (model prog w) A.in1 (setAdd S v) (fun zz s2=>codeAny (model prog w) A (.builtin "set.update.loop" ⟨[.ref S,.ref I],[]⟩) R s2) (fun e s2=>R (.error e) s2) s') (fun e s'=>R (.error e) s') s) :
    codeAny (model prog w) A (.builtin "set.update.loop" ⟨[.ref S,.ref I],[]⟩) R s:=by
  refine codeAny_builtin F.entry_set_update_loop ?_
  rw [Around.under_plainId F.plain_set_update_loop _]
  unfold Builtin.«set.update.loop»
  refine wpAny_bind (wpAny_mono h (fun x s' hx=>?_) fun zz zz z=>z)
  cases x with
  | none=>exact wpAny_pure hx
  | some v=>exact wpAny_bind (wpAny_holding (wpAny_mono hx (fun zz zz z=>wpAny_pure ⟨plainId_quiet F.plain_set_update_loop _,z⟩) fun zz zz z=>z))
theorem zcZ {v : Value} {R : Result→Shared→Prop} (h : R (.ok (.ret (.ref s.heap.objs.size))) { s with heap:=s.heap.push (vQ w) }) : codeAny (model prog w) A (.call (.builtin "set.__new__") ⟨[.type "set",v],[]⟩) R s:=by
  refine codeAny_call_builtin F.plain_set_new F.entry_set_new (wpAny_of_eq (F.newCall_set_1 v) ?_)
  unfold Builtin.«set.__new__» Builtin.Frozenset.newClass
  have self:=sub_set_self
  wp_walk
  refine wpAny_askSetting (wpAny_pure ?_)
  wp_walk
  exact h
end
end L6
namespace L6S
open PySem PySem.Spec PyProof.Rows L2 L3 L4
open L6 (Zi Good W4 YL)
open Sem (wp)
noncomputable def wR (P : Program) (w : World) (h : Heap) (a : Addr) (ks : List Str) : Prop :=
  ∃ o es ep t,h.get? a=some o∧o.ExactSet∧o.data = .set es ep t∧ElemsOf (PySem.strKind P w) es.toList∧(∃ ms,StrsAre (es.toList.map (·.2)) ms∧ms.Perm ks)∧ks.Nodup∧es.size < scanBound∧Good t es.size (Zi w)
theorem wR.at {P : Program} {w : World} {h h' : Heap} {a : Addr} {ks : List Str} (x : wR P w h a ks) (k : ∀ o,h.get? a=some o→h'.get? a=some o) : wR P w h' a ks :=
  let ⟨o,es,ep,t,e,r⟩:=x; ⟨o,es,ep,t,k _ e,r⟩
theorem StrsAre.zby {xs ys : List Value} (p : List.Perm xs ys) : ∀ {ns : List Str},StrsAre ys ns→∃ ms,StrsAre xs ms∧ms.Perm ns:=by
  induction p with
  | nil=>intro ns h; exact ⟨ns,h,.refl _⟩
  | cons x _ ih =>
    intro ns h
    cases h with
    | cons n t h =>
      obtain ⟨ms,a,b⟩:=ih h
      exact ⟨n :: ms,.cons n t a,b.cons n⟩
  | swap x y l =>
    intro ns h
    cases h with
    | cons n t h =>
      cases h with
      | cons m u h=>exact ⟨m :: n :: _,.cons m u (.cons n t h),.swap _ _ _⟩
  | trans _ _ ih1 ih2 =>
    intro ns h
    obtain ⟨ms,a,b⟩:=ih2 h
    obtain ⟨ls,c,d⟩:=ih1 a
    exact ⟨ls,c,d.trans b⟩
theorem StrsAre.snoc {n : Str} {t : Tok} : ∀ {vs : List Value} {ns : List Str},StrsAre vs ns→StrsAre (vs ++ [.str n t]) (ns ++ [n]):=by
  intro vs ns h
  induction h with
  | nil=>exact .cons n t .nil
  | cons m u h ih=>exact .cons m u ih
theorem StrsAre.ziQ : ∀ {vs : List Value} {ns : List Str},StrsAre vs ns→∀ (i : Nat) (v : Value),vs[i]?=some v→∃ t,v = .str (ns.getD i Str.empty) t:=by
  intro vs ns h
  induction h with
  | nil=>intro i v h; cases h
  | cons y t r ih =>
    intro i v h
    cases i with
    | zero=>exact ⟨t,(Option.some.inj h).symm⟩
    | succ i=>exact ih i v h
section
variable {prog : Program} {w : World} {A : Around} {E : Value→Shared→Prop} {s : Shared}
theorem zgq {k : Str} : ∀ {l : List (Int × Value)} {ms : List Str},StrsAre (l.map (·.2)) ms→((l.findIdx? fun e=>(PySem.strKind prog w).is k e.2).isSome=true↔k∈ms):=by
  intro l
  induction l with
  | nil=>intro _ h; cases h; simp
  | cons cv l ih0 =>
    obtain ⟨c,v⟩:=cv
    intro zz h
    cases h with
    | cons n t h =>
      have ih:=ih0 h
      rw [List.findIdx?_cons]
      have e : (PySem.strKind prog w).is k (Value.str n t)=decide (k=n):=by
        rw [KeyKind.is_eq_decide (strKind_is prog w n t) k]
      show (if (PySem.strKind prog w).is k (Value.str n t)=true then _ else _ : Option Nat).isSome=true↔_
      rw [e]
      by_cases hk : k=n
      · subst hk; simp
      · simp only [hk,decide_false,Bool.false_eq_true,if_false,Option.isSome_map,ih,List.mem_cons,false_or]
theorem ze6 (n : Str) (t : Tok) : hashByValue 8 (Value.str n t)=pure false:=by rw [hashByValue_scannable 8 rfl]; rfl
theorem Vs {a : Addr} {o : Obj} {es : Array (Int × Value)} {ep : Nat} {t : SetTable} {es' : Array (Int × Value)} {t' : SetTable} {ks : List Str} {h : Heap} (ho : h.get? a=some o) (hx : o.ExactSet) (hd : o.data = .set es ep t)
    (he : ElemsOf (PySem.strKind prog w) es'.toList) (hm : ∃ ms,StrsAre (es'.toList.map (·.2)) ms∧ms.Perm ks) (hn : ks.Nodup) (hb : es'.size < scanBound) (hg : Good t' es'.size (Zi w)) :
    (h.update a (Obj.putSet es' t')).get? a=some { o with data := .set es' (ep + 1) t' }∧wR prog w (h.update a (Obj.putSet es' t')) a ks:=by
  have q:=Heap.get?_update_self (Obj.putSet es' t') ho (by rw [putSet_of es' t' hd]; rfl)
  rw [putSet_of es' t' hd] at q
  exact ⟨q,_,es',ep + 1,t',q,hx,rfl,he,hm,hn,hb,hg⟩
theorem zgr {a : Addr} {ks : List Str} {n : Str} {tk : Tok} {Q : Bool→Shared→Prop} (S : wR prog w s.heap a ks) (hroom : ks.length + 1 < scanBound)
    (h : ∀ h' b,Heap.SameBut a s.heap h'→wR prog w h' a (if n∈ks then ks else ks ++ [n])→Q b { s with heap:=h' }) :
    wpAny (model prog w) A (setAddHashed a (.str n tk) ((PySem.strKind prog w).hash n)) Q E s:=by
  obtain ⟨o,es,ep,t,ho,hx,hd,hel,⟨ms,hi,hp⟩,hn,hb,g⟩:=S
  have hkey : (PySem.strKind prog w).is n (.str n tk)=true:=strKind_is prog w n tk
  have hsz : es.size=ks.length:=by
    rw [← hp.length_eq,← StrsAre.length hi,List.length_map,Array.length_toList]
  unfold setAddHashed setAddHashedIn
  refine wpAny_holding (wpAny_bind (wpAny_setState_of ho hd g.fits ?_))
  dsimp only
  rw [byScan_of rfl hb hel]
  simp only [↓reduceIte]
  unfold setAddByScan
  refine wpAny_bind (wpAny_bind (wpAny_rule (wpAny_bind (wpAny_setScan_of hkey ho hd g.fits hel ?_))))
  have fm:=zgq (prog:=prog) (w:=w) (k:=n) hi
  cases hr : List.findIdx? (fun e=>(PySem.strKind prog w).is n e.2) es.toList with
  | some j =>
    dsimp only
    have hin : n∈ks:=hp.mem_iff.mp (fm.mp (by rw [hr]; rfl))
    rw [if_pos hin] at h
    have es' : s={ s with heap:=s.heap }:=by cases s; rfl
    have:=h s.heap false (Heap.SameBut.refl a s.heap) ⟨o,es,ep,t,ho,hx,hd,hel,⟨ms,hi,hp⟩,hn,hb,g⟩
    rw [es']
    exact wpAny_pure (wpAny_pure this)
  | none =>
    dsimp only
    have hin : n∉ks:=fun z=>by
      have:=fm.mpr (hp.mem_iff.mpr z)
      rw [hr] at this
      cases this
    rw [if_neg hin] at h
    have Wr:=layNew_perm t es ((PySem.strKind prog w).hash n) (.str n tk)
    have hg:=W4 (h:=(PySem.strKind prog w).hash n) (x:=Value.str n tk) g
    generalize hL : layNew t es ((PySem.strKind prog w).hash n) (.str n tk)=L at Wr hg ⊢
    obtain ⟨es1,t1,wd,gave⟩:=L
    dsimp only at Wr hg ⊢
    rw [Array.toList_push] at Wr
    have hel1 : ElemsOf (PySem.strKind prog w) es1.toList:=(hel.push hkey rfl).perm Wr
    have hz1 : es1.size=ks.length + 1:=by rw [← Array.length_toList,Wr.length_eq,List.length_append,Array.length_toList,hsz]; rfl
    have hb1 : es1.size < scanBound:=by omega
    have hm1 : ∃ ms',StrsAre (es1.toList.map (·.2)) ms'∧ms'.Perm (ks ++ [n]):=by
      have hp2 : List.Perm (es1.toList.map (·.2)) (es.toList.map (·.2) ++ [.str n tk]):=by
        have:=Wr.map (·.2)
        rwa [List.map_append] at this
      obtain ⟨ms',c1,c2⟩:=StrsAre.zby hp2 (StrsAre.snoc hi)
      exact ⟨ms',c1,c2.trans (hp.append_right _)⟩
    have hn1 : (ks ++ [n]).Nodup:=List.nodup_append.mpr ⟨hn,by simp,fun x hx' y hy e=>hin (by rw [List.mem_singleton.mp hy] at e; rw [← e]; exact hx')⟩
    have gw : ∀ (b : Bool) (s₁ : Shared) (Q' : Unit→Shared→Prop),Q' () s₁→wpAny (model prog w) A (match b with | true=>rule "set.scan.the-table-gave-way" | false=>pure ()) Q' E s₁:=fun b s₁ Q' q=>by
      cases b <;> first | exact wpAny_pure q | exact wpAny_rule q
    refine wpAny_bind (gw _ _ _ ?_)
    have tail : ∀ (t2 : SetTable),Good t2 es1.size (Zi w)→wpAny (model prog w) A (do
        storeSet a es1 t2
        if (!wd && t2.tooFull)=true then do
            (match (relayAll t2 es1 (SetTable.grown es1.size)).2.2 with | true=>rule "set.scan.the-table-gave-way" | false=>pure ())
            storeSet a (relayAll t2 es1 (SetTable.grown es1.size)).1 (relayAll t2 es1 (SetTable.grown es1.size)).2.1
            pure (some true)
          else pure (some true)) (fun r s'=>wpAny (model prog w) A (match r with | some added=>pure added | none=>setAddHashedIn a (.str n tk) ((PySem.strKind prog w).hash n) 99999) Q E s') E s:=by
      intro t2 hg
      refine wpAny_bind (wpAny_storeSet_of ho hd ?_ (fits_of_scanBound hb1))
      obtain ⟨ho1,S1⟩:=Vs (prog:=prog) (w:=w) ho hx hd hel1 hm1 hn1 hb1 hg
      have sb1:=Heap.SameBut.update s.heap a (Obj.putSet es1 t2)
      split
      · have pr:=relayAll_perm t2 es1 (SetTable.grown es1.size)
        have gr:=YL (n:=SetTable.grown es1.size) hg
        generalize relayAll t2 es1 (SetTable.grown es1.size)=R at pr gr ⊢
        obtain ⟨es2,t3,gv⟩:=R
        dsimp only at pr gr ⊢
        have hz2 : es2.size=es1.size:=by rw [← Array.length_toList,pr.length_eq,Array.length_toList]
        refine wpAny_bind (gw _ _ _ (wpAny_bind (wpAny_storeSet_of ho1 rfl ?_ (fits_of_scanBound (by omega)))))
        obtain ⟨ms',c1,c2⟩:=hm1
        obtain ⟨ms2,d1,d2⟩:=StrsAre.zby (pr.map (·.2)) c1
        obtain ⟨zz,S2⟩:=Vs (prog:=prog) (w:=w) (ks:=ks ++ [n]) ho1 hx rfl (hel1.perm pr) ⟨ms2,d1,d2.trans c2⟩ hn1 (by omega) gr
        exact wpAny_pure (wpAny_pure (h _ true (sb1.trans (Heap.SameBut.update _ a _)) S2))
      · exact wpAny_pure (wpAny_pure (h _ true sb1 S1))
    rw [ze6]
    have hg2 : Good { t1 with plain:=false } es1.size (Zi w):=⟨hg.fits,hg.led,fun z=>(nomatch z)⟩
    split
    · exact wpAny_bind (wpAny_pure (tail _ hg2))
    · exact wpAny_bind (wpAny_pure (tail _ hg))
end
end L6S
namespace L6S
open PySem PySem.Spec PyProof.Rows L2 L3 L4
open L6 (Zi Good W4 YL XW vQ zcZ)
open Sem (wp)
noncomputable def vp (acc : List Str) (n : Str) : List Str:=if n∈acc then acc else acc ++ [n]
noncomputable def dedup (ns : List Str) : List Str:=ns.foldl vp []
theorem zds (ns : List Str) (n : Str) : dedup (ns ++ [n])=vp (dedup ns) n:=by unfold dedup; rw [List.foldl_append]; rfl
theorem zbz (acc : List Str) (n : Str) : (vp acc n).length≤acc.length + 1:=by unfold vp; split <;> simp
theorem J3 : ∀ ns : List Str,(dedup ns).length≤ns.length:=by
  have : ∀ (ns acc : List Str),(ns.foldl vp acc).length≤acc.length + ns.length:=by
    intro ns
    induction ns with
    | nil=>intro acc; simp
    | cons n ns ih =>
      intro acc
      have h1:=ih (vp acc n)
      have h2:=zbz acc n
      rw [List.foldl_cons,List.length_cons]
      omega
  intro ns
  have:=this ns []
  simpa [dedup] using this
theorem zal {ns : List Str} {i : Nat} (h : i < ns.length) : ns.take (i + 1)=ns.take i ++ [ns.getD i Str.empty]:=by
  rw [List.take_succ,List.getD_eq_getElem?_getD,List.getElem?_eq_getElem h]; rfl
section
variable {prog : Program} {w : World} {A : Around} {E : Value→Shared→Prop} {s : Shared}
theorem ze7 {R : Result→Shared→Prop} {I S : Addr} {fp wr : List Addr} {G : Array GenState→Array GenState→Prop} {P : Nat→Value→Prop} {St : Nat→Shared→Prop} {ns : List Str} (W : WalksS prog w A.in1 I fp wr G ns.length P St) (hS : S∉fp)
    (hv : ∀ i v,P i v→∃ t,v = .str (ns.getD i Str.empty) t) (hb : ns.length + 1 < scanBound) (hR : ∀ s',Moved (S :: wr) G s s'→wR prog w s'.heap S (dedup ns)→R (.ok (.ret .none)) s') (st0 : St 0 s) (G0 : wR prog w s.heap S []) :
    codeAny (model prog w) A (.builtin "set.update.loop" ⟨[.ref S,.ref I],[]⟩) R s:=by
  have all : ∀ (left i : Nat) (s1 : Shared),i + left=ns.length→Moved (S :: wr) G s s1→St i s1→wR prog w s1.heap S (dedup (ns.take i))→codeAny (model prog w) A (.builtin "set.update.loop" ⟨[.ref S,.ref I],[]⟩) R s1:=by
    have zhj : ∀ {u u' : Shared} {ks : List Str},Moved wr G u u'→wR prog w u.heap S ks→wR prog w u'.heap S ks:=fun mv g=>g.at fun o e=>mv.heap S o (fun z=>hS (W.sub _ z)) e
    have wide : ∀ {u u' : Shared},Moved wr G u u'→Moved (S :: wr) G u u':=fun mv=>mv.mono fun b z=>List.mem_cons_of_mem _ z
    intro left
    induction left with
    | zero =>
      intro i s1 hi mv st g
      obtain rfl : ns.length=i:=hi.symm
      refine XW (W.done s1 _ _ st fun s2 mv2=>hR s2 (mv.trans W.gtrans (wide mv2)) ?_)
      have:=zhj mv2 g
      rwa [List.take_length] at this
    | succ left ih =>
      intro i s1 hi mv st g
      have hlt : i < ns.length:=by omega
      refine XW (W.item i s1 _ _ hlt st fun v s2 p st2 mv2=>?_)
      obtain ⟨t,rfl⟩:=hv i v p
      have short:=J3 (ns.take i)
      rw [List.length_take] at short
      have next : dedup (ns.take (i + 1))=if ns.getD i Str.empty∈dedup (ns.take i) then dedup (ns.take i) else dedup (ns.take i) ++ [ns.getD i Str.empty]:=by
        rw [zal hlt,zds]
        rfl
      have g2:=zhj mv2 g
      unfold setAdd
      refine wpAny_holding (wpAny_bind ((PySem.strKind prog w).pyHash (k:=ns.getD i Str.empty) (strKind_is _ _ _ _) (zgr (s:={ s2 with toks:=s2.toks + 1 }) g2 (by omega) fun h3 b sb g3=>?_)))
      rw [← next] at g3
      have old : ∀ b o,b≠S→s2.heap.get? b=some o→h3.get? b=some o:=fun b o ne e=>(sb.2 b ne).trans e
      refine ih (i + 1) _ (by omega) (mv.trans W.gtrans ((wide mv2).then_heap (Nat.le_succ _) fun b o ne e=>old b o (fun z=>ne (z ▸ List.mem_cons_self)) e)) (W.frame _ s2 _ _ st2 (Nat.le_succ _) fun b hb o e=>old b o (fun z=>hS (z ▸ hb)) e) g3
  exact all ns.length 0 s (Nat.zero_add _) (Moved.refl W.grefl) st0 G0
theorem ze8 {S l : Addr} {items : Array Value} {ns : List Str} {P : PySem.Fin→Shared→Prop} (hh : A.handled=none) (hS : s.heap.get? S=some (vQ w)) (hl : s.heap.IsList l items) (hi : StrsAre items.toList ns) (hb : ns.length + 1 < scanBound)
    (h : ∀ (h' : Heap) (tk : Nat),wR prog w h' S (dedup ns)→(∀ b o,b≠S→s.heap.get? b=some o→h'.get? b=some o)→P (.done (.ret .none)) { s with heap:=h',toks:=tk }) : wpAny (model prog w) A (Builtin.«set.__init__» ⟨[.ref S,.ref l],[]⟩) P E s:=by
  have hn : items.size=ns.length:=by rw [← Array.length_toList]; exact StrsAre.length hi
  obtain ⟨o,eo,co,nl,dl⟩:=id hl
  have hSl : l≠S:=fun z=>by
    rw [z,hS] at eo
    rw [← Option.some.inj eo] at co
    exact absurd (show Value.type "set"=Value.type "list" from co) (by decide)
  have y1:=F.sub_list_set
  have y2:=F.sub_list_frozenset
  have ltS:=Heap.lt_size hS
  have ltl:=Heap.lt_size eo
  cases o
  cases co
  clear dl
  unfold Builtin.«set.__init__» noKeywords Builtin.Frozenset.updateFrom
  generalize hp : pyIter=it
  wp_walk
  subst hp
  refine wpAny_pyIter_list hl (wpAny_bind (wpAny_runValue ?_))
  have ne1 : l≠s.heap.objs.size:=Nat.ne_of_lt ltl
  have ne2 : S∉[s.heap.objs.size,l]:=fun z=>by
    rcases List.mem_cons.mp z with z | z
    · exact Nat.ne_of_lt ltS z
    · exact hSl (List.mem_singleton.mp z).symm
  have W:=(Walks.list (prog:=prog) (w:=w) (A:=A.in1) hh s.heap.objs.size l ne1 items).toS
  rw [hn] at W
  refine ze7 (ns:=ns) W ne2 (fun i v hv=>StrsAre.ziQ hi i v (by rw [Array.getElem?_toList]; exact hv)) hb (fun s' mv g=>?_) ⟨⟨_,Heap.get?_push_size _ rfl,rfl,rfl⟩,hl.push _⟩ ?_
  · have es' : s'={ s with heap:=s'.heap,toks:=s'.toks }:=by
      have g1:=mv.gens
      have g2:=mv.drawn
      have g3:=mv.os
      cases s'
      simp only at g1 g2 g3
      subst g1 g2 g3
      rfl
    rw [es']
    refine wpAny_pure (wpAny_pure (h _ _ g fun b o ne e=>mv.heap b o (fun z=>?_) (Heap.get?_push_of_some _ e)))
    rcases List.mem_cons.mp z with z | z
    · exact ne z
    · exact Nat.ne_of_lt (Heap.lt_size e) (List.mem_singleton.mp z)
  · exact ⟨vQ w,#[],0,.fresh 0 0 (Zi w),Heap.get?_push_of_some _ hS,⟨rfl,rfl,rfl⟩,rfl,(fun e he=>by simp at he),⟨[],.nil,.refl _⟩,List.nodup_nil,by decide,rfl,rfl,fun zz i k zz hk=>absurd hk (by show ¬ k < 0; omega)⟩
set_option maxHeartbeats 1000000 in
theorem zam {l : Addr} {items : Array Value} {ns : List Str} {Q : Value→Shared→Prop} (hh : A.handled=none) (hl : s.heap.IsList l items) (hi : StrsAre items.toList ns) (hb : ns.length + 1 < scanBound)
    (h : ∀ (h' : Heap) (tk : Nat),wR prog w h' s.heap.objs.size (dedup ns)→(∀ b o,s.heap.get? b=some o→h'.get? b=some o)→Q (.ref s.heap.objs.size) { s with heap:=h',toks:=tk }) :
    wpAny (model prog w) A (call (.type "set") [.ref l]) Q E s:=by
  have x1:=F.called_set.made
  have x2:=F.called_set.sub
  have x3:=F.called_set.notType
  have x4:=F.called_set.canCreate
  have x5:=F.typeCall_set_1 (.ref l)
  obtain ⟨c,tl,x6⟩:=F.called_set.mro
  refine wpAny_call (codeAny_of_tree ?_)
  wp_walk
  refine ⟨Code.quiet_builtin _ (by decide +kernel),codeAny_builtin F.entry_type_call ?_⟩
  rw [Around.under_plain (weight_type_call_type "set" [.ref l] []) (units_type_call_type _ _ _)]
  wp_walk
  refine zcZ ?_
  have eS : (s.heap.push (vQ w)).get? s.heap.objs.size=some (vQ w):=Heap.get?_push_size _ rfl
  have hT : Shared.TypeIs { s with heap:=s.heap.push (vQ w) } (.ref s.heap.objs.size) "set":=⟨_,eS,rfl⟩
  have z1:=F.called_set.init.lookup
  have z2:=F.called_set.init.bind (.ref s.heap.objs.size)
  refine wpAny_bind (wpAny_isInstance hT x2 (wpAny_ite_split (fun z=>nomatch z) fun zz=>?_))
  wp_walk
  refine codeAny_call_builtin F.called_set.init.plain F.entry_set_init (check_set_init_1 hT (ze8 (s:={ s with heap:=s.heap.push (vQ w) }) hh eS (hl.push _) hi hb fun h' tk g k=>?_))
  wp_walk
  exact h h' tk g fun b o e=>k b o (Nat.ne_of_lt (Heap.lt_size e)) (Heap.get?_push_of_some _ e)
end
end L6S
namespace L6S
open PySem PySem.Spec PyProof.Rows L2 L3 L4
noncomputable def zay (P : Program) (w : World) (a : Addr) (ks : List Str) : HO := .ext fun h=>wR P w h a ks
section
variable {X : Cx}
theorem Vt : ∀ {xs : List Str} {us : List Value},Vals (xs.map V.str) us→StrsAre us xs
  | [],_,.nil => .nil
  | x :: _,_,.cons r t=>by
    obtain ⟨tk,rfl⟩:=r
    exact .cons x tk (Vt t)
theorem zbA (hc : X.calm=true) : CallR X (.type "set") (fun xs H Q=>L23.E2 fun (p : Addr) (ns : List Str)=>L23.A4 (xs=[.ref p]) (SqL X.K H p (ns.map V.str)) (ns.length + 1 < scanBound) (∀ l,H l=none→Q (.ref l) (upd H l (zay X.prog X.w l (dedup ns))))):=by
  intro pins s σ H xs us Q I r h
  obtain ⟨p,ns,rfl,hq,hb,q⟩:=h
  obtain ⟨u,rfl,rx⟩:=vals1 r
  cases rx
  obtain ⟨its,rv,pl,hz⟩:=I.list hq
  refine zam (items:=its.toArray) (ns:=ns) (I.ok.hd hc) pl.isList (Vt rv) hb fun h' tk g kk=>?_
  have g0:=g
  obtain ⟨o,zz,zz,zz,e,zz⟩:=g0
  exact ⟨.ref s.heap.objs.size,_,I.laid (t':=tk) kk (Nat.le_refl _) (show ObjOk X.prog X.w _ h' _ (zay X.prog X.w s.heap.objs.size (dedup ns)) from ⟨g,⟨o,e⟩,fun h1 h2 z1 z2=>z1.at z2⟩),rfl,q _ (I.hok.fresh (Nat.le_refl _))⟩
theorem zan : CallR X (.builtin "len") (fun xs H Q=>L23.E2 fun (a : Addr) (ks : List Str)=>L23.A4 (xs=[.ref a]) (H a=some (zay X.prog X.w a ks)) (ks.length≤1000) (Q (.int ks.length) H)):=by
  intro pins s σ H xs us Q I r h
  obtain ⟨a,ks,rfl,ha,hl,q⟩:=h
  obtain ⟨u,rfl,rx⟩:=vals1 r
  cases rx
  obtain ⟨S,zz,zz⟩:=I.hok a _ ha
  obtain ⟨o,es,ep,t,ho,hx,hd,hel,⟨ms,hi,hp⟩,hn,hb,g⟩:=S
  have hsz : es.size=ks.length:=by
    rw [← hp.length_eq,← StrsAre.length hi,List.length_map,Array.length_toList]
  refine call_len_set ho hx hd g.fits (by omega) ⟨.int es.size,H,I.tok _,⟨_,rfl⟩,?_⟩
  rw [hsz]
  exact q
end
theorem zgs {ns : List Str} (h : ns.Nodup) : dedup ns=ns:=by
  have : ∀ (ns acc : List Str),(acc ++ ns).Nodup→ns.foldl vp acc=acc ++ ns:=by
    intro ns
    induction ns with
    | nil=>intro acc _; simp
    | cons n r ih =>
      intro acc hn
      have hni : n∉acc:=fun z=>(List.nodup_append.mp hn).2.2 n z n (List.mem_cons_self ..) rfl
      rw [List.foldl_cons]
      have e : vp acc n=acc ++ [n]:=by unfold vp; rw [if_neg hni]
      rw [e,ih (acc ++ [n]) (by rw [List.append_assoc]; exact hn),List.append_assoc]
      rfl
  have:=this ns [] (by simpa using h)
  simpa [dedup] using this
theorem zgt {ns : List Str} (h : ¬ ns.Nodup) : (dedup ns).length < ns.length:=by
  have key : ∀ (ns acc : List Str),acc.Nodup→¬ (acc ++ ns).Nodup→(ns.foldl vp acc).length < acc.length + ns.length:=by
    intro ns
    induction ns with
    | nil=>intro acc ha hn; exact absurd (by simpa using ha) hn
    | cons n r ih =>
      intro acc ha hn
      rw [List.foldl_cons,List.length_cons]
      by_cases hm : n∈acc
      · have e : vp acc n=acc:=by unfold vp; rw [if_pos hm]
        rw [e]
        have le : ∀ (ms as : List Str),(ms.foldl vp as).length≤as.length + ms.length:=by
          intro ms
          induction ms with
          | nil=>intro as; simp
          | cons m ms ih2 =>
            intro as
            have h1:=ih2 (vp as m)
            have h2:=zbz as m
            rw [List.foldl_cons,List.length_cons]
            omega
        have:=le r acc
        omega
      · have e : vp acc n=acc ++ [n]:=by unfold vp; rw [if_neg hm]
        rw [e]
        have ha' : (acc ++ [n]).Nodup:=List.nodup_append.mpr ⟨ha,by simp,fun x hx y hy z=>hm (by rw [List.mem_singleton.mp hy] at z; rw [← z]; exact hx)⟩
        have:=ih (acc ++ [n]) ha' (by rw [List.append_assoc]; exact hn)
        rw [List.length_append,List.length_singleton] at this
        omega
  have:=key ns [] List.nodup_nil (by simpa using h)
  simpa [dedup] using this
end L6S
namespace Att
open PySem PySem.W PySem.Calls PyProof.Rows
end Att
namespace L9
open PySem PySem.Spec PyProof.Rows L2
section
variable {X : Cx}
end
end L9
namespace L9
open PySem PySem.Spec PySem.Calls PyProof.Rows PyProof.V L2
noncomputable def jz (K : PySem.W.Frag) (a : Addr) (D : List (Str × V)) : Prop :=
  (a == sysModules)=false∧∃ (ob : Obj) (es : Array DictEntry) (ep : Nat),K.lookup a=some ob∧ob.ExactDict∧ob.data = .dict es ep∧KTD.Rows (fun (v : V) (u : Value)=>RelV v u) es.toList D
section
variable {X : Cx} {pins : List (Addr × Obj)} {σ : List (Option V)} {H : Hp} {s : Shared} {A : Around} {E : Value→Shared→Prop} {a : Addr} {D : List (Str × V)} {k : Str} {tk : Tok}
theorem jz.ty (I : Inv X pins σ H s) (T : jz X.K a D) : s.TypeIs (.ref a) "dict" :=
  let ⟨_,ob,_,_,ho,hc,_⟩:=T
  ⟨ob,I.kIn a ob ho,hc.1⟩
theorem zc0 {Q : Option Value→Shared→Prop} (I : Inv X pins σ H s) (T : jz X.K a D) (q1 : ∀ (v : V) (u : Value) (s' : Shared),KTD.datumAt k D=some v→RelV v u→Inv X pins σ H s'→Q (some u) s')
    (q0 : ∀ s' : Shared,KTD.datumAt k D=none→Inv X pins σ H s'→Q none s') : wpAny (model X.prog X.w) A (dictGet a (.str k tk)) Q E s:=by
  obtain ⟨zz,ob,es,ep,ho,hc,hd,hr⟩:=T
  have at_ : ({ s with toks:=s.toks + 1 } : Shared).heap.get? a=some ob:=I.kIn a ob ho
  have I1 : Inv X pins σ H { s with toks:=s.toks + 1 }:=I.tok _
  have zls : (es.all fun e=>isExactStrKey e.key)=true:=by
    have:=hr.exact
    obtain ⟨l⟩:=es
    simpa using this
  have hq : Q (findBy (fun k v=>v.isStr k) es k) { s with toks:=s.toks + 1 }:=by
    have hf : findBy (fun k v=>v.isStr k) es k=(es.toList.find? fun e=>e.key.isStr k).map fun e=>e.val:=by
      obtain ⟨l⟩:=es
      simp [findBy]
    rw [hf]
    cases e : KTD.datumAt k D with
    | none =>
      have z:=hr.find_none e
      rw [show (es.toList.find? fun e=>e.key.isStr k).map (fun e=>e.val)=none from z]
      exact q0 _ e I1
    | some v =>
      obtain ⟨u,z,r⟩:=hr.find_some e
      rw [show (es.toList.find? fun e=>e.key.isStr k).map (fun e=>e.val)=some u from z]
      exact q1 v u _ e r I1
  rw [findBy_of_findIdx?] at hq
  unfold dictGet
  refine wpAny_holding (wpAny_bind (wpAny_pyHash_str (wpAny_bind (KTD.kt_dictFind_strs at_ hd zls ?_))))
  cases i : es.findIdx? fun e=>e.key.isStr k with
  | none =>
    rw [i] at hq
    exact wpAny_pure hq
  | some j =>
    rw [i] at hq
    exact wpAny_bind (wpAny_dictEntries at_ hd (wpAny_pure hq))
theorem zgu {v : V} {Q : Value→Shared→Prop} (I : Inv X pins σ H s) (T : jz X.K a D) (e : KTD.datumAt k D=some v) (q : ∀ (u : Value) (s' : Shared),RelV v u→Inv X pins σ H s'→Q u s') : wpAny (model X.prog X.w) A (getItem (.ref a) (.str k tk)) Q E s:=by
  have ty:=jz.ty I T
  unfold getItem
  refine wpAny_holding (wpAny_bind (wpAny_sequenceKey ty (by decide) (wpAny_bind (wpAny_callSpecial?_slot (name:=Str.ofString "__getitem__") ty PySem.F.slot_dict_getitem (wpAny_call_entry PySem.F.slot_dict_getitem ty PySem.F.entry_dict_getitem ?_ (PySem.F.args_dict_getitem_2 _ _))))))
  show wpAny _ _ (dictGet a (.str k tk) >>= _) _ _ s
  refine wpAny_bind (zc0 I T (fun v' u s' e' r I'=>?_) fun s' z zz=>absurd (z.symm.trans e) (fun z=>nomatch z))
  obtain rfl : v'=v:=Option.some.inj (e'.symm.trans e)
  exact wpAny_pure ⟨u,rfl,wpAny_pure (q u s' r I')⟩
theorem zib {Q : Bool→Shared→Prop} (I : Inv X pins σ H s) (T : jz X.K a D) (q : ∀ s' : Shared,Inv X pins σ H s'→Q (KTD.datumAt k D).isSome s') : wpAny (model X.prog X.w) A (contains (.ref a) (.str k tk)) Q E s:=by
  have ty:=jz.ty I T
  unfold contains
  refine wpAny_holding (wpAny_bind (wpAny_specialOf ty PySem.F.slot_dict_contains.lookup ?_))
  have nb : ¬ (some (Value.builtin "dict.__contains__") == some Value.none)=true:=by rw [beq_builtin_none]; exact Bool.false_ne_true
  show wpAny _ _ (if (some (Value.builtin "dict.__contains__") == some Value.none)=true then _ else _) _ _ s
  rw [if_neg nb]
  refine wpAny_bind (wpAny_callSpecialUnlessNone?_slot (name:=Str.ofString "__contains__") ty PySem.F.slot_dict_contains (wpAny_call_entry PySem.F.slot_dict_contains ty PySem.F.entry_dict_contains ?_ (PySem.F.args_dict_contains_2 _ _)))
  show wpAny _ _ (dictGet a (.str k tk) >>= _) _ _ s
  refine wpAny_bind (zc0 I T (fun v u s' e zz I'=>?_) fun s' e I'=>?_)
  · have:=q s' I'
    rw [e] at this
    show wpAny _ _ (ret (.bool true)) _ _ _
    exact wpAny_pure ⟨_,rfl,wpAny_truthy_bool this⟩
  · have:=q s' I'
    rw [e] at this
    show wpAny _ _ (Builtin.Dict.pendingKey? a (.str k tk) >>= _) _ _ _
    exact wpAny_bind (wpAny_pendingKey_other T.1 (wpAny_pure ⟨_,rfl,wpAny_truthy_bool this⟩))
end
noncomputable def Yy (e : DictEntry) : Option (Str × V):=match e.key with
  | .str x _=>(absV e.val).map fun v=>(x,v)
  | _=>none
theorem zic {v : V} {u : Value} (h : absV u=some v) : RelV v u:=by
  cases u <;> first | (cases h; rfl) | (cases h; exact ⟨_,rfl⟩) | cases h
theorem Yb : ∀ {es : List DictEntry} {D : List (Str × V)},es.map Yy=D.map some→KTD.Rows (fun (v : V) (u : Value)=>RelV v u) es D:=by
  intro es
  induction es with
  | nil=>intro D h; cases D with | nil=>exact .nil | cons _ _=>cases h
  | cons e es ih =>
    intro D h
    cases D with
    | nil=>cases h
    | cons xv D =>
      obtain ⟨x,v⟩:=xv
      have h1 : Yy e=some (x,v):=(List.cons.inj h).1
      have h2:=(List.cons.inj h).2
      unfold Yy at h1
      split at h1
      · rename_i y t hk
        cases ha : absV e.val with
        | none=>rw [ha] at h1; cases h1
        | some z =>
          rw [ha] at h1
          cases h1
          exact .cons hk (zic ha) (ih h2)
      · cases h1
section
variable {X : Cx} {o i : Expr} {td ty : TE} {pos : Pos}
inductive zbB (K : PySem.W.Frag) (Q : VK) (x : V) (y : V) (H2 : Hp) : Prop where
  | mk (a : _) (D : _) (k : _) (v : _) (h0 : x = .ref a) (h1 : y = .str k) (h2 : jz K a D) (h3 : KTD.datumAt k D=some v) (h4 : Q v H2) : zbB K Q x y H2
noncomputable def zgv (K : PySem.W.Frag) (ty : TE) (σ : L2.St) (Q : VK):=fun (x : V) (H1 : Hp)=>ty σ H1 (zbB K Q x)
noncomputable def zkz (K : PySem.W.Frag) (td ty : TE) : TE:=fun σ H Q=>td σ H (zgv K ty σ Q)
noncomputable def zdu (K : PySem.W.Frag) (Q : VK) (y : V) (x : V) (H2 : Hp):=fun a D k=>L23.A4 (x = .ref a) (y = .str k) (jz K a D) (Q (.bl (!(KTD.datumAt k D).isSome)) H2)
noncomputable def zdv (K : PySem.W.Frag) (Q : VK) (y : V):=fun (x : V) (H2 : Hp)=>L23.E3 (zdu K Q y x H2)
noncomputable def zdw (K : PySem.W.Frag) (td : TE) (σ : L2.St) (Q : VK):=fun (y : V) (H1 : Hp)=>td σ H1 (zdv K Q y)
noncomputable def zid (K : PySem.W.Frag) (ty td : TE) : TE:=fun σ H Q=>ty σ H (zdw K td σ Q)
theorem Zu (ho : PE X o td) (hi : PE X i ty) (hs : NoSl i) : PE X (.Subscript o i pos) (zkz X.K td ty):=by
  intro pins s σ H Q I h
  refine subD_of PySem.F.slot_dict_getitem.lookup hs (thn (ho pins s σ H _ I h) fun u s1 ⟨x,H1,I1,rx,q1⟩=>thn (hi pins s1 σ H1 _ I1 q1) fun iv s2 ⟨y,H2,I2,ry,a,D,k,v,ex,ey,T,e,q2⟩=>?_)
  subst ex ey
  obtain rfl : u=Value.ref a:=rx
  obtain ⟨t,rfl⟩:=ry
  exact ⟨jz.ty I2 T,zgu I2 T e fun u s' r I'=>⟨v,H2,I',r,q2⟩⟩
theorem ze9 (hi : PE X i ty) (ho : PE X o td) : PC X .NotIn i o (zid X.K ty td):=by
  intro pins s σ H Q I h
  refine thn (hi pins s σ H _ I h) fun iv s1 ⟨y,H1,I1,ry,q1⟩=>thn (ho pins s1 σ H1 _ I1 q1) fun u s2 ⟨x,H2,I2,rx,a,D,k,ex,ey,T,q2⟩=>?_
  subst ex ey
  obtain rfl : u=Value.ref a:=rx
  obtain ⟨t,rfl⟩:=ry
  show wpAny _ _ ((do return Value.bool (!(← contains (.ref a) (.str k t)))) : Sem Value) _ _ _
  exact wpAny_bind (zib I2 T fun s' I'=>wpAny_pure ⟨.bl _,H2,I',rfl,q2⟩)
end
end L9
namespace L9
open PySem PySem.Spec PyProof.Rows L2 L3
section
variable {X : Cx}
theorem zc1 : ∀ {Ts : List String} {us : List Value},Vals (Ts.map V.ty) us→us=Ts.map Value.type
  | [],_,.nil=>rfl
  | T :: Ts,_,.cons r t=>by
    cases r
    rw [zc1 t]
    rfl
inductive XX (K : PySem.W.Frag) (xs : List V) (H : Hp) (Q : VK) : Prop where
  | mk (x : V) (S : String) (tp : Addr) (Ts : List String) (b : Bool) (h0 : xs=[x,.ref tp]) (h1 : tyName K H x S) (h2 : H tp=some (.tup (Ts.map V.ty))) (h3 : PySem.W.kitAny K (.type S) (Ts.map Value.type)=some b) (h4 : Q (.bl b) H) : XX K xs H Q
noncomputable def zcM (K : PySem.W.Frag) : List V→Hp→VK→Prop:=XX K
theorem zfa : CallR X (.builtin "isinstance") (zcM X.K):=by
  intro pins s σ H xs us Q I r h
  obtain ⟨x,S,tp,Ts,b,rfl,ty,ht,e,q⟩:=h
  obtain ⟨u,w',rfl,rx,ry⟩:=vals2 r
  cases ry
  obtain ⟨zz,its,rv,p⟩:=(show ObjOk X.prog X.w H s.heap tp (.tup (Ts.map V.ty)) from I.hok tp _ ht)
  obtain ⟨⟨oc,od,odt,osl⟩,h1,h2,n,h3⟩:=p
  replace h2 : oc = .type "tuple":=h2
  replace h3 : odt = .seq its.toArray n:=h3
  subst h2 h3
  rw [zc1 rv] at h1
  have fin : ∀ tk,EP X pins σ Q (.bool b) { s with toks:=tk }:=fun tk=>⟨.bl b,H,I.tok _,rfl,q⟩
  cases x with
  | non=>cases (show S="NoneType" from ty); cases (show u=Value.none from rx); exact PySem.W.kia_tup PySem.W.kitx_none I.kIn True.intro h1 e (fun z=>nomatch z) fin
  | bl y=>cases (show S="bool" from ty); cases (show u=Value.bool y from rx); exact PySem.W.kia_tup PySem.W.kitx_bool I.kIn True.intro h1 e (fun z=>nomatch z) fin
  | int i=>cases (show S="int" from ty); obtain ⟨t,rfl⟩:=rx; exact PySem.W.kia_tup PySem.W.kitx_int I.kIn True.intro h1 e (fun z=>nomatch z) fin
  | str y=>cases (show S="str" from ty); obtain ⟨t,rfl⟩:=rx; exact PySem.W.kia_tup PySem.W.kitx_str I.kIn True.intro h1 e (fun z=>nomatch z) fin
  | ref a =>
    cases (show u=Value.ref a from rx)
    rcases ty with ⟨rfl,⟨zs,ea⟩ | ⟨o,zs,ea⟩⟩ | ⟨rfl,zs,ea⟩ | ⟨rfl,kvs,ea⟩
    · obtain ⟨zz,zz,m,zz,g1⟩:=(show ObjOk X.prog X.w H s.heap a (.lst zs) from I.hok a _ ea)
      exact PySem.W.kia_tup PySem.W.kitx_list I.kIn ⟨_,g1,rfl⟩ h1 e (fun z=>nomatch z) fin
    · obtain ⟨zz,zz,zz,m,zz,g1⟩:=(show ObjOk X.prog X.w H s.heap a (.frz o (.lst zs)) from I.hok a _ ea)
      exact PySem.W.kia_tup PySem.W.kitx_list I.kIn ⟨_,g1,rfl⟩ h1 e (fun z=>nomatch z) fin
    · obtain ⟨zz,zz,zz,p⟩:=(show ObjOk X.prog X.w H s.heap a (.tup zs) from I.hok a _ ea)
      obtain ⟨o,g1,g2,zz⟩:=p
      exact PySem.W.kia_tup PySem.W.kitx_tuple I.kIn ⟨o,g1,g2⟩ h1 e (fun z=>nomatch z) fin
    · obtain ⟨zz,zz,vs,zz,p⟩:=(show ObjOk X.prog X.w H s.heap a (.dK kvs) from I.hok a _ ea)
      obtain ⟨o,es,ep,g1,g2,zz⟩:=p
      exact PySem.W.kia_tup PySem.W.kitx_dict I.kIn ⟨o,g1,g2.1⟩ h1 e (fun z=>nomatch z) fin
  | _=>exact (show False from ty).elim
end
end L9
namespace CF
open PySem L2 L3 L4 CW
inductive ze where
  | frm (want : Int) (words : List Str) (level mark worth : Int)
  | off (want : Int) (words : List Str) (mark worth : Int)
noncomputable def ze.words : ze→List Str
  | .frm _ ws _ _ _=>ws
  | .off _ ws _ _=>ws
noncomputable def ze.data : ze→PyData
  | .frm n ws a b c => .tuple [.str "from",.int n,.list (ws.map .str),.int a,.int b,.int c]
  | .off n ws b c => .tuple [.str "of",.int n,.list (ws.map .str),.int b,.int c]
noncomputable def ze.items : ze→V→List V
  | .frm n _ a b c,v=>[.str "from",.int n,v,.int a,.int b,.int c]
  | .off n _ b c,v=>[.str "of",.int n,v,.int b,.int c]
noncomputable def ze.fits : ze→zbu→Bool
  | .frm _ ws a b _,w=>(decide (ws=[]) || ws.contains w.field) && (decide (a≤w.level) && decide (b≤w.mark))
  | .off _ ws b _,w=>ws.contains w.name && decide (b≤w.mark)
noncomputable def Tx (m : Nat) (t : Str) : Prop:=(∀ c∈cs t,c < 1114112)∧t.length≤m
theorem Tx.mono {m n : Nat} {t : Str} (h : Tx m t) (hn : m≤n) : Tx n t:=⟨h.1,Nat.le_trans h.2 hn⟩
theorem Tx.mul {c : Nat} (hc : c < 1114112) {n : Int} {m : Nat} (h : n≤m) : Tx m (PySem.Txt.mul ⟨#[c]⟩ n):=⟨fun x hx=>by
  rw [XT] at hx
  rw [(List.mem_replicate.mp hx).2]
  exact hc,by rw [← XQ,XT,List.length_replicate]; omega⟩
theorem Tx.word {t : Str} (h : isWord t=true) : Tx 12 t:=⟨fun c hc=>by have:=(yl.mp h).2.2.2 c hc; omega,(yl.mp h).2.1⟩
theorem z7 {α : Type} {x : α} {xs : List α} : atI (x :: xs) 0=some x:=atI_nat (j:=0) rfl
theorem ze.tup {K : PySem.W.Frag} {D : Hp} {x : V} {l : ze} (h : zc K D x l.data) : ∃ t p,x = .ref t∧D t=some (.tup (l.items (.ref p)))∧Rd D p (.lst (l.words.map V.str)):=by
  cases l with
  | frm n ws a b c =>
    obtain ⟨t,xs,ex,e,hA⟩:=zc.tup h
    obtain ⟨r1,e1,hA⟩:=zb.scal (fun zz=>zc.str) hA
    obtain ⟨r2,e2,hA⟩:=zb.scal (fun zz=>zc.int) hA
    obtain ⟨y,r3,e3,h3,hA⟩:=zb.wC hA
    obtain ⟨r4,e4,hA⟩:=zb.scal (fun zz=>zc.int) hA
    obtain ⟨r5,e5,hA⟩:=zb.scal (fun zz=>zc.int) hA
    obtain ⟨r6,e6,hA⟩:=zb.scal (fun zz=>zc.int) hA
    obtain ⟨p,zs,ep,hp,hz⟩:=zc.lst h3
    rw [e1,e2,e3,e4,e5,e6,zb.none hA,ep] at e
    exact ⟨t,p,ex,e,zb.Zs hz ▸ hp⟩
  | off n ws b c =>
    obtain ⟨t,xs,ex,e,hA⟩:=zc.tup h
    obtain ⟨r1,e1,hA⟩:=zb.scal (fun zz=>zc.str) hA
    obtain ⟨r2,e2,hA⟩:=zb.scal (fun zz=>zc.int) hA
    obtain ⟨y,r3,e3,h3,hA⟩:=zb.wC hA
    obtain ⟨r4,e4,hA⟩:=zb.scal (fun zz=>zc.int) hA
    obtain ⟨r5,e5,hA⟩:=zb.scal (fun zz=>zc.int) hA
    obtain ⟨p,zs,ep,hp,hz⟩:=zc.lst h3
    rw [e1,e2,e3,e4,e5,zb.none hA,ep] at e
    exact ⟨t,p,ex,e,zb.Zs hz ▸ hp⟩
theorem ze.at_ {K : PySem.W.Frag} {D : Hp} {t p : Addr} {l : ze} (e : D t=some (.tup (l.items (.ref p)))) (hp : Rd D p (.lst (l.words.map V.str))) : zc K D (.ref t) l.data:=by
  have hw : zc K D (.ref p) (.list (l.words.map .str)):=by unfold zc; exact ⟨p,_,rfl,hp,zb.strs _⟩
  cases l with
  | frm n ws a b c=>exact zc.mkT (zb.cons zc.ofStr (zb.cons zc.ofInt (zb.cons hw (zb.cons zc.ofInt (zb.cons zc.ofInt (zb.cons zc.ofInt zb.nil)))))) e (Same.refl _)
  | off n ws b c=>exact zc.mkT (zb.cons zc.ofStr (zb.cons zc.ofInt (zb.cons hw (zb.cons zc.ofInt (zb.cons zc.ofInt zb.nil))))) e (Same.refl _)
theorem XY : ∀ ss : List Str,(ss.map V.str).all flatV=true
  | []=>rfl
  | _ :: r=>by rw [List.map_cons,List.all_cons,XY r]; rfl
theorem jA {m : Nat} {t : Str} (h : Tx m t) : (PyData.str t).canLay0=true:=zcK h.1
theorem wK : ∀ {ds : List PyData},(∀ d∈ds,d.canLay0=true)→PyData.canLayAll0 ds=true
  | [],_=>rfl
  | d :: r,h=>by
    show (PyData.canLay0 d && PyData.canLayAll0 r)=true
    rw [h d (List.mem_cons_self ..),wK fun x hx=>h x (List.mem_cons_of_mem _ hx)]
    rfl
theorem jB {ss : List Str} (h : ∀ t∈ss,Tx 24 t) : PyData.canLayAll0 (ss.map .str)=true:=wK fun d hd=>by
  obtain ⟨t,ht,rfl⟩:=List.mem_map.mp hd
  exact jA (h t ht)
noncomputable def ze.Lay (l : ze) : Prop:=∀ t∈l.words,Tx 24 t
theorem zie : Tx 24 "from":=⟨by decide +kernel,by decide +kernel⟩
theorem zkA : Tx 24 "of":=⟨by decide +kernel,by decide +kernel⟩
theorem ze.canLay {l : ze} (h : l.Lay) : l.data.canLay0=true:=by
  cases l with
  | frm n ws a b c =>
    refine wK (ds:=[.str "from",.int n,.list (ws.map .str),.int a,.int b,.int c]) fun d hd=>?_
    simp only [List.mem_cons,List.not_mem_nil,or_false] at hd
    rcases hd with rfl | rfl | rfl | rfl | rfl | rfl
    · exact jA zie
    · rfl
    · exact jB h
    · rfl
    · rfl
    · rfl
  | off n ws b c =>
    refine wK (ds:=[.str "of",.int n,.list (ws.map .str),.int b,.int c]) fun d hd=>?_
    simp only [List.mem_cons,List.not_mem_nil,or_false] at hd
    rcases hd with rfl | rfl | rfl | rfl | rfl
    · exact jA zkA
    · rfl
    · exact jB h
    · rfl
    · rfl
theorem vh : ∀ ss : List Str,PyData.depthAll (ss.map .str)=0
  | []=>rfl
  | _ :: r=>by
    show max 0 (PyData.depthAll (r.map .str))=0
    rw [vh r]
    rfl
theorem ze.depth (l : ze) : l.data.depth≤2:=by
  cases l with
  | frm n ws a b c =>
    show max 0 (max 0 (max (PyData.depthAll (ws.map .str) + 1) _)) + 1≤2
    rw [vh]
    exact Nat.le_refl 2
  | off n ws b c =>
    show max 0 (max 0 (max (PyData.depthAll (ws.map .str) + 1) _)) + 1≤2
    rw [vh]
    exact Nat.le_refl 2
noncomputable def ze.hd : ze→List V
  | .frm n _ _ _ _=>[.str "from",.int n]
  | .off n _ _ _=>[.str "of",.int n]
noncomputable def ze.tl : ze→List V
  | .frm _ _ a b c=>[.int a,.int b,.int c]
  | .off _ _ b c=>[.int b,.int c]
theorem ze.zlt (l : ze) (v : V) : cutV (l.items v) (some 3) none=l.tl:=by cases l <;> rfl
theorem ze.nw3 (l : ze) (v : V) : ¬ (HT.sIx (l.items v).length 0 (some 3)=0∧HT.sIx (l.items v).length (l.items v).length none=(l.items v).length):=by cases l <;> exact fun z=>absurd z.1 (by show ¬ (3=0); decide)
end CF
namespace CF
open PySem L2 L3 L4 CW
inductive za where
  | leaf (l : ze)
  | z8 (rs : List za)
  | z9 (n : Int) (rs : List za)
mutual
noncomputable def za.data : za→PyData
  | .leaf l=>l.data
  | .z8 rs => .tuple [.str "all",.list (za.zQ rs)]
  | .z9 n rs => .tuple [.str "some",.int n,.list (za.zQ rs)]
noncomputable def za.zQ : List za→List PyData
  | []=>[]
  | r :: rs=>r.data :: za.zQ rs
end
theorem za.zX : ∀ rs : List za,za.zQ rs=rs.map za.data
  | []=>by unfold za.zQ; rfl
  | r :: rs=>by unfold za.zQ; rw [za.zX rs]; rfl
mutual
noncomputable def za.depth : za→Nat
  | .leaf _=>0
  | .z8 rs=>za.zC rs + 1
  | .z9 _ rs=>za.zC rs + 1
noncomputable def za.zC : List za→Nat
  | []=>0
  | r :: rs=>max r.depth (za.zC rs)
end
theorem za.vW {r : za} : ∀ {rs : List za},r∈rs→r.depth≤za.zC rs
  | x :: rs,h=>by
    unfold za.zC
    rcases List.mem_cons.mp h with rfl | h
    · exact Nat.le_max_left _ _
    · exact Nat.le_trans (za.vW h) (Nat.le_max_right _ _)
theorem za.J4 {n : Nat} : ∀ {rs : List za},(∀ r∈rs,r.depth≤n)→za.zC rs≤n
  | [],_=>by unfold za.zC; exact Nat.zero_le _
  | r :: rs,h=>by
    unfold za.zC
    exact Nat.max_le.mpr ⟨h r (List.mem_cons_self ..),za.J4 fun x hx=>h x (List.mem_cons_of_mem _ hx)⟩
mutual
noncomputable def za.leaves : za→List ze
  | .leaf l=>[l]
  | .z8 rs=>za.zo rs
  | .z9 _ rs=>za.zo rs
noncomputable def za.zo : List za→List ze
  | []=>[]
  | r :: rs=>r.leaves ++ za.zo rs
end
theorem za.Yc : za.zo []=[]:=by simp only [za.zo]
theorem za.ve (r : za) (rs : List za) : za.zo (r :: rs)=r.leaves ++ za.zo rs:=by simp only [za.zo]
theorem za.Yd : ∀ rs ss : List za,za.zo (rs ++ ss)=za.zo rs ++ za.zo ss
  | [],ss=>by rw [List.nil_append,za.Yc,List.nil_append]
  | r :: rs,ss=>by rw [List.cons_append,za.ve,za.Yd rs ss,za.ve,List.append_assoc]
theorem za.Ye (r : za) : za.zo [r]=r.leaves:=by rw [za.ve,za.Yc,List.append_nil]
noncomputable def za.rules : za→List za
  | .leaf _=>[]
  | .z8 rs=>rs
  | .z9 _ rs=>rs
noncomputable def za.head : za→List V
  | .leaf _=>[]
  | .z8 _=>[.str "all"]
  | .z9 n _=>[.str "some",.int n]
noncomputable def za.yU : za→Bool
  | .leaf _=>true
  | _=>false
noncomputable def Zv (ws : List Str) : Prop:=(∀ t∈ws,isWord t=true)∧ws.Nodup∧ws.length≤8
noncomputable def ze.Good : ze→Prop
  | .frm n ws a b c=>Zv ws∧(0≤n∧n≤60)∧(0≤a∧a < 10 ^ 60)∧(0≤b∧b < 10 ^ 60)∧1≤c∧c≤9
  | .off n ws b c=>Zv ws∧ws≠[]∧(0≤n∧n≤60)∧(0≤b∧b < 10 ^ 60)∧1≤c∧c≤9
mutual
noncomputable def za.Good : za→Prop
  | .leaf l=>l.Good
  | .z8 rs=>rs≠[]∧rs.length≤16∧za.yh rs
  | .z9 n rs=>(1≤n∧n≤rs.length)∧rs.length≤16∧za.yh rs
noncomputable def za.yh : List za→Prop
  | []=>True
  | r :: rs=>r.Good∧za.yh rs
end
theorem za.vR : ∀ {rs : List za},za.yh rs↔∀ r∈rs,r.Good
  | []=>by unfold za.yh; exact ⟨fun zz r h=>(nomatch h),fun zz=>trivial⟩
  | r :: rs=>by
    unfold za.yh
    rw [za.vR (rs:=rs)]
    exact ⟨fun h x hx=>(List.mem_cons.mp hx).elim (fun e=>e ▸ h.1) (h.2 x),fun h=>⟨h r (List.mem_cons_self ..),fun x hx=>h x (List.mem_cons_of_mem _ hx)⟩⟩
theorem ze.Good.lay {l : ze} (h : l.Good) : l.Lay:=by
  cases l with
  | frm n ws a b c=>exact fun t ht=>(Tx.word (h.1.1 t ht)).mono (by decide)
  | off n ws b c=>exact fun t ht=>(Tx.word (h.1.1 t ht)).mono (by decide)
theorem zbC : Tx 24 "all":=⟨by decide +kernel,by decide +kernel⟩
theorem zif : Tx 24 "some":=⟨by decide +kernel,by decide +kernel⟩
mutual
theorem za.canLay : ∀ {r : za},r.Good→r.data.canLay0=true
  | .leaf l,h=>by unfold za.data; unfold za.Good at h; exact ze.canLay h.lay
  | .z8 rs,h=>by
    unfold za.data
    unfold za.Good at h
    have e:=za.Js h.2.2
    refine wK (ds:=[.str "all",.list (za.zQ rs)]) fun d hd=>?_
    simp only [List.mem_cons,List.not_mem_nil,or_false] at hd
    rcases hd with rfl | rfl
    · exact jA zbC
    · exact e
  | .z9 n rs,h=>by
    unfold za.data
    unfold za.Good at h
    have e:=za.Js h.2.2
    refine wK (ds:=[.str "some",.int n,.list (za.zQ rs)]) fun d hd=>?_
    simp only [List.mem_cons,List.not_mem_nil,or_false] at hd
    rcases hd with rfl | rfl | rfl
    · exact jA zif
    · rfl
    · exact e
theorem za.Js : ∀ {rs : List za},za.yh rs→PyData.canLayAll0 (za.zQ rs)=true
  | [],_=>by unfold za.zQ; rfl
  | r :: rs,h=>by
    unfold za.zQ
    unfold za.yh at h
    show (PyData.canLay0 r.data && PyData.canLayAll0 (za.zQ rs))=true
    rw [za.canLay h.1,za.Js h.2]
    rfl
end
mutual
theorem za.Vu : ∀ r : za,r.data.depth≤2 * r.depth + 2
  | .leaf l=>by unfold za.data; have:=ze.depth l; omega
  | .z8 rs=>by
    unfold za.data za.depth
    have:=za.Yg rs
    show max 0 (max (PyData.depthAll (za.zQ rs) + 1) 0) + 1≤_
    omega
  | .z9 n rs=>by
    unfold za.data za.depth
    have:=za.Yg rs
    show max 0 (max 0 (max (PyData.depthAll (za.zQ rs) + 1) 0)) + 1≤_
    omega
theorem za.Yg : ∀ rs : List za,PyData.depthAll (za.zQ rs)≤2 * za.zC rs + 2
  | []=>by unfold za.zQ; exact Nat.zero_le _
  | r :: rs=>by
    unfold za.zQ za.zC
    have h1:=za.Vu r
    have h2:=za.Yg rs
    show max r.data.depth (PyData.depthAll (za.zQ rs))≤_
    omega
end
theorem za.Z0 : ∀ {r : za},r.Good→r.leaves≠[]
  | .leaf l,_=>by unfold za.leaves; exact fun z=>nomatch z
  | .z8 (r :: rs),h=>by
    unfold za.Good at h
    unfold za.leaves za.zo
    have h3:=h.2.2
    unfold za.yh at h3
    exact fun z=>za.Z0 h3.1 (List.append_eq_nil_iff.mp z).1
  | .z8 [],h=>by unfold za.Good at h; exact absurd rfl h.1
  | .z9 n (r :: rs),h=>by
    unfold za.Good at h
    unfold za.leaves za.zo
    have h3:=h.2.2
    unfold za.yh at h3
    exact fun z=>za.Z0 h3.1 (List.append_eq_nil_iff.mp z).1
  | .z9 n [],h=>by unfold za.Good at h; have:=h.1; simp only [List.length_nil] at this; omega
theorem za.grp {K : PySem.W.Frag} {D : Hp} {x : V} {r : za} (h : zc K D x r.data) (hr : r.yU=false) : ∃ t p xs,x = .ref t∧D t=some (.tup (r.head ++ [.ref p]))∧Rd D p (.lst xs)∧zb K D xs (za.zQ r.rules):=by
  cases r with
  | leaf l=>cases hr
  | z8 rs =>
    unfold za.data at h
    obtain ⟨t,xs,rfl,e,hA⟩:=zc.tup h
    obtain ⟨y1,r1,rfl,h1,hA⟩:=zb.wC hA
    obtain ⟨y2,r2,rfl,h2,hA⟩:=zb.wC hA
    rw [zc.str h1,zb.none hA] at e
    obtain ⟨p,zs,rfl,hp,hz⟩:=zc.lst h2
    exact ⟨t,p,zs,rfl,e,hp,hz⟩
  | z9 n rs =>
    unfold za.data at h
    obtain ⟨t,xs,rfl,e,hA⟩:=zc.tup h
    obtain ⟨y1,r1,rfl,h1,hA⟩:=zb.wC hA
    obtain ⟨y2,r2,rfl,h2,hA⟩:=zb.wC hA
    obtain ⟨y3,r3,rfl,h3,hA⟩:=zb.wC hA
    rw [zc.str h1,zc.int h2,zb.none hA] at e
    obtain ⟨p,zs,rfl,hp,hz⟩:=zc.lst h3
    exact ⟨t,p,zs,rfl,e,hp,hz⟩
theorem za.zdx {K : PySem.W.Frag} {D : Hp} {t p : Addr} {xs : List V} {r : za} (hr : r.yU=false) (e : D t=some (.tup (r.head ++ [.ref p]))) (hp : Rd D p (.lst xs)) (hx : zb K D xs (za.zQ r.rules)) : zc K D (.ref t) r.data:=by
  have hw : zc K D (.ref p) (.list (za.zQ r.rules)):=by unfold zc; exact ⟨p,_,rfl,hp,hx⟩
  cases r with
  | leaf l=>cases hr
  | z8 rs=>unfold za.data; exact zc.mkT (zb.cons zc.ofStr (zb.cons hw zb.nil)) e (Same.refl _)
  | z9 n rs=>unfold za.data; exact zc.mkT (zb.cons zc.ofStr (zb.cons zc.ofInt (zb.cons hw zb.nil))) e (Same.refl _)
noncomputable def za.kind : za→Str
  | .leaf (.frm ..)=>"from"
  | .leaf (.off ..)=>"of"
  | .z8 _=>"all"
  | .z9 ..=>"some"
theorem za.tup {K : PySem.W.Frag} {D : Hp} {x : V} {r : za} (h : zc K D x r.data) : ∃ t ys,x = .ref t∧D t=some (.tup (.str r.kind :: ys)):=by
  cases r with
  | leaf l =>
    unfold za.data at h
    obtain ⟨t,p,rfl,et,zz⟩:=ze.tup h
    cases l with
    | frm n ws a b c=>exact ⟨t,_,rfl,et⟩
    | off n ws b c=>exact ⟨t,_,rfl,et⟩
  | z8 rs =>
    obtain ⟨t,p,xs,rfl,e,zz⟩:=za.grp h rfl
    exact ⟨t,_,rfl,e⟩
  | z9 n rs =>
    obtain ⟨t,p,xs,rfl,e,zz⟩:=za.grp h rfl
    exact ⟨t,_,rfl,e⟩
theorem zbD : ("all" : Str)≠"from"∧("all" : Str)≠"of"∧("some" : Str)≠"from"∧("some" : Str)≠"of"∧("of" : Str)≠"from"∧("some" : Str)≠"all":=by decide +kernel
theorem za.WT (r : za) : (decide (r.kind="from") || decide (r.kind="of"))=r.yU:=by
  obtain ⟨k1,k2,k3,k4,k5,zz⟩:=zbD
  cases r with
  | leaf l=>cases l with
    | frm n ws a b c=>rfl
    | off n ws b c=>show (decide (("of" : Str)="from") || decide (("of" : Str)="of"))=true; rw [decide_eq_true rfl,Bool.or_true]
  | z8 rs=>show (decide (("all" : Str)="from") || decide (("all" : Str)="of"))=false; rw [decide_eq_false k1,decide_eq_false k2]; rfl
  | z9 n rs=>show (decide (("some" : Str)="from") || decide (("some" : Str)="of"))=false; rw [decide_eq_false k3,decide_eq_false k4]; rfl
structure yM where
  zl : List (Str × Int)
  rule : za
noncomputable def yf (p : Str × Int) : PyData := .tuple [.str p.1,.int p.2]
noncomputable def yM.data (c : yM) : PyData := .tuple [.list (c.zl.map yf),c.rule.data]
structure yM.Good (c : yM) : Prop where
  words : ∀ p∈c.zl,isWord p.1=true
  nums : ∀ p∈c.zl,1≤p.2∧p.2≤9
  nodup : (c.zl.map (·.1)).Nodup
  few : c.zl.length≤16
  rule : c.rule.Good
  deep : c.rule.depth≤6
  leaves : c.rule.leaves.length≤16
theorem zig {p : Str × Int} (h : isWord p.1=true) : (yf p).canLay0=true:=by
  refine wK (ds:=[.str p.1,.int p.2]) fun d hd=>?_
  simp only [List.mem_cons,List.not_mem_nil,or_false] at hd
  rcases hd with rfl | rfl
  · exact jA (Tx.word h)
  · rfl
theorem yM.Good.lay {c : yM} (h : c.Good) : c.data.canLay0=true:=by
  refine wK (ds:=[.list (c.zl.map yf),c.rule.data]) fun d hd=>?_
  simp only [List.mem_cons,List.not_mem_nil,or_false] at hd
  rcases hd with rfl | rfl
  · exact wK fun d hd=>by
      obtain ⟨p,hp,rfl⟩:=List.mem_map.mp hd
      exact zig (h.words p hp)
  · exact za.canLay h.rule
theorem J5 : ∀ l : List (Str × Int),PyData.depthAll (l.map yf)≤1
  | []=>by decide
  | p :: r=>by
    have:=J5 r
    show max 1 (PyData.depthAll (r.map yf))≤1
    omega
theorem yM.Good.depth {c : yM} (h : c.Good) : c.data.depth≤15:=by
  have h1:=J5 c.zl
  have h2:=za.Vu c.rule
  have h3:=h.deep
  show max (PyData.depthAll (c.zl.map yf) + 1) (max c.rule.data.depth 0) + 1≤15
  omega
noncomputable def Vv (D H : Hp) : List V→List ze→Prop
  | [],[]=>True
  | x :: xs,l :: ls=>(∃ t q,x = .ref t∧D t=some (.tup (l.items (.ref q)))∧D q=some (.lst (l.words.map V.str))∧H t=none∧H q=none)∧Vv D H xs ls
  | _,_=>False
theorem Vv.data {K : PySem.W.Frag} {D H : Hp} : ∀ {xs : List V} {ls : List ze},Vv D H xs ls→zb K D xs (ls.map ze.data)
  | [],[],_=>zb.nil
  | [],_ :: _,h=>h.elim
  | _ :: _,[],h=>h.elim
  | x :: xs,l :: ls,⟨⟨t,q,e,e1,e2,n1,n2⟩,k⟩=>by subst e; exact zb.cons (ze.at_ e1 (.inl e2)) (Vv.data k)
end CF
namespace CN
open PySem L2 L4 CW CF
noncomputable def abc : List Nat:=[97,98,99,100,103,104,106,107]
theorem zih : ("abcdghjk" : Str).cps.toList=abc:=by decide +kernel
theorem zii : ("abcdghjk" : Str).length=8:=by decide +kernel
theorem zgw : ("q" : Str)=⟨#[113]⟩:=by decide +kernel
theorem zlu : ("i" : Str)=⟨#[105]⟩:=by decide +kernel
theorem zhk : ("q" : Str).length=1:=by decide +kernel
theorem zhl : ("i" : Str).length=1:=by decide +kernel
noncomputable def placeQ (c : Int) : Int:=c / 12 % (1 + c % 12)
theorem zc2 (c : Int) : 0≤placeQ c∧placeQ c < 1 + c % 12:=by
  unfold placeQ
  have c0 : 0≤c % 12:=Int.emod_nonneg _ (by decide)
  exact ⟨Int.emod_nonneg _ (by omega),Int.emod_lt_of_pos _ (by omega)⟩
noncomputable def Zj (k : Int) : Nat:=abc.getD (k % 8).toNat 97
noncomputable def Z1 (c k : Int) : Str:=PySem.Txt.mul "q" (placeQ c) ++ ⟨#[Zj k]⟩ ++ PySem.Txt.mul "q" (1 + c % 12 - 1 - placeQ c)
theorem zfb (k : Int) : atI ("abcdghjk" : Str).cps.toList (k % 8)=some (Zj k)∧Zj k∈abc:=by
  have k0 : 0≤k % 8:=Int.emod_nonneg _ (by decide)
  have k1 : k % 8 < 8:=Int.emod_lt_of_pos _ (by decide)
  have hk : (k % 8).toNat < abc.length:=by show _ < 8; omega
  have e : Zj k=abc[(k % 8).toNat]:=by unfold Zj; rw [List.getD_eq_getElem?_getD,List.getElem?_eq_getElem hk]; rfl
  rw [zih,e]
  refine ⟨?_,List.getElem_mem _⟩
  have q:=atI_nat (xs:=abc) (j:=(k % 8).toNat) (v:=abc[(k % 8).toNat]) (List.getElem?_eq_getElem hk)
  rw [Int.toNat_of_nonneg k0] at q
  exact q
theorem YM (c k : Int) : cs (Z1 c k)=List.replicate (placeQ c).toNat 113 ++ (Zj k :: List.replicate (1 + c % 12 - 1 - placeQ c).toNat 113):=by
  unfold Z1
  rw [vz,vz,XO,zgw,XT,XT,List.append_assoc]
  rfl
theorem zfc (c k : Int) : (Z1 c k).length=(1 + c % 12).toNat:=by
  obtain ⟨h1,h2⟩:=zc2 c
  rw [← XQ,YM,List.length_append,List.length_replicate,List.length_cons,List.length_replicate]
  generalize placeQ c=p at *
  generalize c % 12=m at *
  obtain ⟨a,rfl⟩:=Int.eq_ofNat_of_zero_le h1
  obtain ⟨b,hb⟩:=Int.eq_ofNat_of_zero_le (show 0≤1 + m - 1 - (a : Int) by omega)
  rw [hb,show 1 + m=((a + (b + 1) : Nat) : Int) by omega,Int.toNat_natCast,Int.toNat_natCast,Int.toNat_natCast]
theorem zdy : ∀ t∈keys,∃ x∈t.cps.toList,x≠113∧x∉abc:=by decide +kernel
theorem zbE : ∀ t∈keys,105∉t.cps.toList:=by decide +kernel
theorem zfd : ∀ x∈abc,97≤x∧x≤122:=by decide
theorem WU {c k : Int} : ∀ x∈cs (Z1 c k),x=113∨x∈abc:=by
  intro x hx
  rw [YM] at hx
  rcases List.mem_append.mp hx with h | h
  · exact .inl (List.mem_replicate.mp h).2
  · rcases List.mem_cons.mp h with h | h
    · exact .inr (h ▸ (zfb k).2)
    · exact .inl (List.mem_replicate.mp h).2
theorem zgx (c k : Int) : isWord (Z1 c k)=true:=by
  have hl:=zfc c k
  have c0 : 0≤c % 12:=Int.emod_nonneg _ (by decide)
  have c1 : c % 12 < 12:=Int.emod_lt_of_pos _ (by decide)
  refine yl.mpr ⟨by omega,by omega,fun hk=>?_,fun x hx=>?_⟩
  · obtain ⟨x,hx,h1,h2⟩:=zdy _ hk
    rcases WU x hx with h | h
    · exact h1 h
    · exact h2 h
  · rcases WU x hx with h | h
    · omega
    · exact zfd x h
theorem zij : ∀ i j : Fin 8,abc.getD i.1 97=abc.getD j.1 97→i=j:=by decide
theorem zfe {i j : Int} (h0 : 0≤i) (h1 : i < 8) (h2 : 0≤j) (h3 : j < 8) (e : Zj i=Zj j) : i=j:=by
  unfold Zj at e
  rw [Int.emod_eq_of_lt h0 h1,Int.emod_eq_of_lt h2 h3] at e
  have t:=congrArg Fin.val (zij ⟨i.toNat,(Int.toNat_lt h0).mpr h1⟩ ⟨j.toNat,(Int.toNat_lt h2).mpr h3⟩ e)
  exact (Int.toNat_of_nonneg h0).symm.trans ((congrArg Int.ofNat t).trans (Int.toNat_of_nonneg h2))
theorem zff {c i j : Int} (h0 : 0≤i) (h1 : i < 8) (h2 : 0≤j) (h3 : j < 8) (e : Z1 c i=Z1 c j) : i=j:=by
  have e':=congrArg cs e
  rw [YM,YM] at e'
  exact zfe h0 h1 h2 h3 (List.cons.inj (List.append_cancel_left e')).1
noncomputable def eight : List Str:=["history","orlevel","marks","levels","worthy","anyof","endings","oftens"]
noncomputable def YN (c k : Int) : Str :=
  if c / 144 % 4=1 then "math" ++ PySem.Txt.mul "i" (1 + k % 8)
  else if c / 144 % 4=2 then PySem.Txt.mul "i" (1 + k % 8) ++ "art"
  else if c / 144 % 4=3 then eight.getD (k % 8).toNat "marks"
  else Z1 c k
theorem zgy : ∀ t∈eight,isWord t=true:=by decide +kernel
theorem zfg : ∀ i j : Fin 8,eight.getD i.1 "marks"=eight.getD j.1 "marks"→i=j:=by decide +kernel
theorem J6 (k : Int) : eight.getD (k % 8).toNat "marks"∈eight∧atI (eight.map V.str) (k % 8)=some (.str (eight.getD (k % 8).toNat "marks")):=by
  have k0 : 0≤k % 8:=Int.emod_nonneg _ (by decide)
  have k1 : k % 8 < 8:=Int.emod_lt_of_pos _ (by decide)
  have hk : (k % 8).toNat < eight.length:=by show _ < 8; omega
  have e : eight.getD (k % 8).toNat "marks"=eight[(k % 8).toNat]:=by rw [List.getD_eq_getElem?_getD,List.getElem?_eq_getElem hk]; rfl
  rw [e]
  refine ⟨List.getElem_mem _,?_⟩
  have q:=atI_nat (xs:=eight.map V.str) (j:=(k % 8).toNat) (v := .str eight[(k % 8).toNat]) (by rw [List.getElem?_map,List.getElem?_eq_getElem hk]; rfl)
  rw [Int.toNat_of_nonneg k0] at q
  exact q
theorem zdz : ∀ x∈cs ("math" : Str),97≤x∧x≤122:=by
  have h : ∀ x∈("math" : Str).cps.toList,97≤x∧x≤122:=by decide +kernel
  exact h
theorem zfh : ∀ x∈cs ("art" : Str),97≤x∧x≤122:=by
  have h : ∀ x∈("art" : Str).cps.toList,97≤x∧x≤122:=by decide +kernel
  exact h
theorem W5 : ("math" : Str).length=4:=by decide +kernel
theorem Jt : ("art" : Str).length=3:=by decide +kernel
theorem zdA (n : Int) : cs (PySem.Txt.mul "i" n)=List.replicate n.toNat 105:=by rw [zlu,XT]
theorem vS (n : Int) : (PySem.Txt.mul "i" n).length=n.toNat:=by rw [← XQ,zdA,List.length_replicate]
theorem zgz (c k : Int) : isWord (YN c k)=true:=by
  have k0 : 0≤k % 8:=Int.emod_nonneg _ (by decide)
  have k1 : k % 8 < 8:=Int.emod_lt_of_pos _ (by decide)
  have hi : 105∈cs (PySem.Txt.mul "i" (1 + k % 8)):=by rw [zdA]; exact List.mem_replicate.mpr ⟨by omega,rfl⟩
  have hc : ∀ x∈cs (PySem.Txt.mul "i" (1 + k % 8)),97≤x∧x≤122:=fun x hx=>by
    rw [zdA] at hx
    have:=(List.mem_replicate.mp hx).2
    omega
  have hl:=vS (1 + k % 8)
  unfold YN
  split
  · refine yl.mpr ⟨by rw [Str.length_append,W5]; omega,by rw [Str.length_append,W5]; omega,fun hk=>zbE _ hk ?_,fun x hx=>?_⟩
    · show 105∈cs _
      rw [vz]
      exact List.mem_append_right _ hi
    · rw [vz] at hx
      exact (List.mem_append.mp hx).elim (zdz x) (hc x)
  · split
    · refine yl.mpr ⟨by rw [Str.length_append,Jt]; omega,by rw [Str.length_append,Jt]; omega,fun hk=>zbE _ hk ?_,fun x hx=>?_⟩
      · show 105∈cs _
        rw [vz]
        exact List.mem_append_left _ hi
      · rw [vz] at hx
        exact (List.mem_append.mp hx).elim (hc x) (zfh x)
    · split
      · exact zgy _ (J6 k).1
      · exact zgx c k
theorem one_inj {i j : Int} (h0 : 0≤i) (h2 : 0≤j) (t : (1 + i).toNat=(1 + j).toNat) : i=j :=
  Int.add_left_cancel ((Int.toNat_of_nonneg (Int.add_nonneg (by decide) h0)).symm.trans ((congrArg Int.ofNat t).trans (Int.toNat_of_nonneg (Int.add_nonneg (by decide) h2))))
theorem zfi {c i j : Int} (h0 : 0≤i) (h1 : i < 8) (h2 : 0≤j) (h3 : j < 8) (e : YN c i=YN c j) : i=j:=by
  unfold YN at e
  rw [Int.emod_eq_of_lt h0 h1,Int.emod_eq_of_lt h2 h3] at e
  split at e
  · have:=congrArg Str.length e
    rw [Str.length_append,Str.length_append,vS,vS] at this
    exact one_inj h0 h2 (Nat.add_left_cancel this)
  · split at e
    · have:=congrArg Str.length e
      rw [Str.length_append,Str.length_append,vS,vS] at this
      exact one_inj h0 h2 (Nat.add_right_cancel this)
    · split at e
      · have t:=congrArg Fin.val (zfg ⟨i.toNat,(Int.toNat_lt h0).mpr h1⟩ ⟨j.toNat,(Int.toNat_lt h2).mpr h3⟩ e)
        exact (Int.toNat_of_nonneg h0).symm.trans ((congrArg Int.ofNat t).trans (Int.toNat_of_nonneg h2))
      · exact zff h0 h1 h2 h3 e
end CN
namespace CF
open PySem L2 L3 L4 CW
structure Fr where
  p : Addr
  xs : List V
  rs : List za
structure zgA (K : PySem.W.Frag) (D H : Hp) (f : Fr) : Prop where
  at_ : H f.p=some (.lst f.xs)
  out : D f.p=none
  data : zb K D f.xs (za.zQ f.rs)
structure Frs (K : PySem.W.Frag) (D H : Hp) (F : Addr) (fs : List Fr) : Prop where
  top : H F=some (.lst (fs.map fun f => .ref f.p))
  out : D F=none
  each : ∀ f∈fs,zgA K D H f
  nd : (fs.map (·.p)).Nodup
  nf : ∀ f∈fs,f.p≠F
theorem zgA.len {K : PySem.W.Frag} {D H : Hp} {f : Fr} (h : zgA K D H f) : f.xs.length=f.rs.length:=by
  have:=zb.length h.data
  rw [za.zX,List.length_map] at this
  exact this
theorem Frs.gr {K : PySem.W.Frag} {D H D' H' : Hp} {F : Addr} {fs : List Fr} (h : Frs K D H F fs) (g : Gr D H D' H') : Frs K D' H' F fs :=
  ⟨g.hh _ _ h.top,g.nw _ _ h.top h.out,fun f hf=>⟨g.hh _ _ (h.each f hf).at_,g.nw _ _ (h.each f hf).at_ (h.each f hf).out,zb.up (h.each f hf).data g.dd⟩,h.nd,h.nf⟩
theorem Frs.set {K : PySem.W.Frag} {D H : Hp} {F : Addr} {fs : List Fr} {t : Fr} (h : Frs K D H F (fs ++ [t])) (xs : List V) (rs : List za) (hx : zb K D xs (za.zQ rs)) : Frs K D (upd H t.p (.lst xs)) F (fs ++ [⟨t.p,xs,rs⟩]):=by
  have ht : t∈fs ++ [t]:=List.mem_append_right _ (List.mem_singleton.mpr rfl)
  have hnd:=h.nd
  rw [List.map_append] at hnd
  refine ⟨?_,h.out,fun f hf=>?_,by rw [List.map_append]; exact hnd,fun f hf=>?_⟩
  · rw [upd_ne (h.nf t ht).symm,h.top,List.map_append,List.map_append]
    rfl
  · rcases List.mem_append.mp hf with hf | hf
    · have:=h.each f (List.mem_append_left _ hf)
      refine ⟨?_,this.out,this.data⟩
      rw [upd_ne]
      · exact this.at_
      · intro e
        exact (List.nodup_append.mp hnd).2.2 f.p (List.mem_map.mpr ⟨f,hf,rfl⟩) t.p (List.mem_singleton.mpr rfl) e
    · rw [List.mem_singleton.mp hf]
      exact ⟨upd_same,(h.each t ht).out,hx⟩
  · rcases List.mem_append.mp hf with hf | hf
    · exact h.nf f (List.mem_append_left _ hf)
    · rw [List.mem_singleton.mp hf]
      exact h.nf t ht
theorem Frs.push {K : PySem.W.Frag} {D H : Hp} {F : Addr} {fs : List Fr} (h : Frs K D H F fs) {p : Addr} (hp : H p=none) (hD : D p=none) :
    Frs K D (upd (upd H p (.lst [])) F (.lst (fs.map (fun f=>V.ref f.p) ++ [.ref p]))) F (fs ++ [⟨p,[],[]⟩]):=by
  have hF : F≠p:=fun e=>by rw [← e,h.top] at hp; cases hp
  refine ⟨?_,h.out,fun f hf=>?_,?_,fun f hf=>?_⟩
  · rw [upd_same,List.map_append]
    rfl
  · rcases List.mem_append.mp hf with hf | hf
    · have:=h.each f hf
      exact ⟨by rw [upd_ne (h.nf f hf),upd_ne (ne_of_none this.at_ hp)]; exact this.at_,this.out,this.data⟩
    · rw [List.mem_singleton.mp hf]
      exact ⟨by rw [upd_ne hF.symm]; exact upd_same,hD,by unfold za.zQ; exact zb.nil⟩
  · rw [List.map_append]
    refine List.nodup_append.mpr ⟨h.nd,List.nodup_cons.mpr ⟨(fun z=>nomatch z),List.nodup_nil⟩,fun x hx y hy e=>?_⟩
    rw [List.mem_singleton.mp hy] at e
    obtain ⟨f,hf,rfl⟩:=List.mem_map.mp hx
    have:=(h.each f hf).at_
    rw [e,hp] at this
    cases this
  · rcases List.mem_append.mp hf with hf | hf
    · exact h.nf f hf
    · rw [List.mem_singleton.mp hf]
      exact hF.symm
theorem Frs.pop {K : PySem.W.Frag} {D H : Hp} {F : Addr} {fs : List Fr} {t : Fr} (h : Frs K D H F (fs ++ [t])) : Frs K D (upd H F (.lst (fs.map fun f => .ref f.p))) F fs:=by
  have hnd:=h.nd
  rw [List.map_append] at hnd
  refine ⟨upd_same,h.out,fun f hf=>?_,(List.nodup_append.mp hnd).1,fun f hf=>h.nf f (List.mem_append_left _ hf)⟩
  have:=h.each f (List.mem_append_left _ hf)
  exact ⟨by rw [upd_ne (h.nf f (List.mem_append_left _ hf))]; exact this.at_,this.out,this.data⟩
structure Ext (D H D' H' : Hp) (S : List Addr) : Prop where
  dd : Same D D'
  keep : ∀ a o,a∉S→H a=some o→H' a=some o∧(D a=none→D' a=none)
theorem Ext.gr {D0 H0 D H D' H' : Hp} {S : List Addr} (g : Gr D0 H0 D H) (e : Ext D H D' H' S) (s : Same D' H') (hS : ∀ a∈S,H0 a=none) : Gr D0 H0 D' H' :=
  ⟨g.dd.trans e.dd,fun a o h=>(e.keep a o (fun z=>by rw [hS a z] at h; cases h) (g.hh a o h)).1,s,fun a o h n=>(e.keep a o (fun z=>by rw [hS a z] at h; cases h) (g.hh a o h)).2 (g.nw a o h n)⟩
structure vq (fs : List Fr) (n : Nat) : Prop where
  good : ∀ f∈fs,za.yh f.rs∧f.rs.length≤16
  deep : ∀ (j : Nat) (f : Fr),fs[j]?=some f→za.zC f.rs + j≤5∧(j + 1 < fs.length→f.rs.length≤15)
  sum : (fs.map fun f=>(za.zo f.rs).length).sum=n
  few : n≤16
  len : fs.length≤6
theorem vq.nil : vq [⟨p,[],[]⟩] 0:=by
  refine ⟨fun f hf=>?_,fun j f hf=>?_,?_,by decide,by show 1≤6; decide⟩
  · rw [List.mem_singleton.mp hf]
    exact ⟨by unfold za.yh; trivial,by show 0≤16; decide⟩
  · cases j with
    | zero =>
      have:=Option.some.inj hf
      subst this
      exact ⟨by unfold za.zC; decide,fun zz=>by show 0≤15; decide⟩
    | succ j=>cases hf
  · show (za.zo []).length + 0=0
    unfold za.zo
    rfl
theorem ZE {α : Type} {l : List α} {x y : α} {j : Nat} (h : (l ++ [x])[j]?=some y) : (j < l.length∧l[j]?=some y)∨(j=l.length∧y=x):=by
  by_cases hj : j < l.length
  · rw [List.getElem?_append_left hj] at h
    exact .inl ⟨hj,h⟩
  · rw [List.getElem?_append_right (by omega)] at h
    have hlt:=(List.getElem?_eq_some_iff.mp h).1
    rw [List.length_singleton] at hlt
    have e : j - l.length=0:=by omega
    rw [e] at h
    exact .inr ⟨by omega,(Option.some.inj h).symm⟩
theorem Ju {α : Type} (l : List α) (x : α) : (l ++ [x])[l.length]?=some x:=by
  rw [List.getElem?_append_right (Nat.le_refl _),Nat.sub_self]
  rfl
theorem vq.push {fs : List Fr} {t : Fr} {n : Nat} {p : Addr} (h : vq (fs ++ [t]) n) (h6 : (fs ++ [t]).length < 6) (h16 : t.rs.length < 16) : vq ((fs ++ [t]) ++ [⟨p,[],[]⟩]) n:=by
  refine ⟨fun f hf=>?_,fun j f hf=>?_,?_,h.few,?_⟩
  · rcases List.mem_append.mp hf with hf | hf
    · exact h.good f hf
    · rw [List.mem_singleton.mp hf]
      exact ⟨by unfold za.yh; trivial,by show 0≤16; decide⟩
  · rcases ZE hf with ⟨hj,hf⟩ | ⟨rfl,rfl⟩
    · refine ⟨(h.deep j f hf).1,fun zz=>?_⟩
      rcases ZE hf with ⟨hj',hf'⟩ | ⟨_,rfl⟩
      · exact (h.deep j f hf).2 (by rw [List.length_append,List.length_singleton]; omega)
      · omega
    · refine ⟨?_,fun z=>?_⟩
      · show za.zC [] + _≤5
        unfold za.zC
        omega
      · show 0≤15
        decide
  · rw [List.map_append,List.sum_append,h.sum]
    show n + ((za.zo []).length + 0)=n
    unfold za.zo
    rfl
  · rw [List.length_append,List.length_singleton]
    omega
theorem J7 {rs : List za} {r : za} (h : za.yh rs) (k : r.Good) : za.yh (rs ++ [r]):=za.vR.mpr fun x hx=>by
  rcases List.mem_append.mp hx with z | z
  · exact za.vR.mp h x z
  · rw [List.mem_singleton.mp z]; exact k
theorem Vw {n : Nat} {rs : List za} {r : za} (h : za.zC rs≤n) (k : r.depth≤n) : za.zC (rs ++ [r])≤n:=za.J4 fun x hx=>by
  rcases List.mem_append.mp hx with z | z
  · exact Nat.le_trans (za.vW z) h
  · rw [List.mem_singleton.mp z]; exact k
theorem vq.leaf {fs : List Fr} {t : Fr} {n : Nat} {xs : List V} {l : ze} (h : vq (fs ++ [t]) n) (hn : n < 16) (h16 : t.rs.length < 16) (hl : l.Good) : vq (fs ++ [⟨t.p,xs,t.rs ++ [.leaf l]⟩]) (n + 1):=by
  have ht : t∈fs ++ [t]:=List.mem_append_right _ (List.mem_singleton.mpr rfl)
  have hle : (za.leaf l).Good:=by unfold za.Good; exact hl
  have hld : (za.leaf l).depth=0:=by unfold za.depth; rfl
  refine ⟨fun f hf=>?_,fun j f hf=>?_,?_,by omega,?_⟩
  · rcases List.mem_append.mp hf with hf | hf
    · exact h.good f (List.mem_append_left _ hf)
    · rw [List.mem_singleton.mp hf]
      refine ⟨J7 (h.good t ht).1 hle,?_⟩
      show (t.rs ++ [_]).length≤16
      rw [List.length_append,List.length_singleton]
      omega
  · rcases ZE hf with ⟨hj,hf⟩ | ⟨rfl,rfl⟩
    · have:=h.deep j f (by rw [List.getElem?_append_left hj]; exact hf)
      rw [List.length_append,List.length_singleton] at this ⊢
      exact this
    · have:=h.deep fs.length t (Ju fs t)
      refine ⟨?_,fun z=>?_⟩
      · have:=Vw (r := .leaf l) (Nat.le_sub_of_add_le this.1) (by omega)
        have:=h.len
        rw [List.length_append,List.length_singleton] at this
        show za.zC (t.rs ++ [za.leaf l]) + fs.length≤5
        omega
      · rw [List.length_append,List.length_singleton] at z
        omega
  · have e:=h.sum
    rw [List.map_append,List.sum_append] at e ⊢
    show _ + ((za.zo (t.rs ++ [.leaf l])).length + 0)=n + 1
    rw [za.Yd,za.Ye,List.length_append]
    have e' : _ + ((za.zo t.rs).length + 0)=n:=e
    show _ + ((za.zo t.rs).length + (za.leaf l).leaves.length + 0)=n + 1
    unfold za.leaves
    show _ + ((za.zo t.rs).length + 1 + 0)=n + 1
    omega
  · have:=h.len
    rw [List.length_append,List.length_singleton] at this ⊢
    exact this
theorem vq.drop {fs : List Fr} {g t : Fr} {n : Nat} {xs : List V} (h : vq (fs ++ [g,t]) n) (ht : t.rs=[]) : vq (fs ++ [⟨g.p,xs,g.rs⟩]) n:=by
  have hg : g∈fs ++ [g,t]:=List.mem_append_right _ (List.mem_cons_self ..)
  have hgj : (fs ++ [g,t])[fs.length]?=some g:=by rw [List.getElem?_append_right (Nat.le_refl _),Nat.sub_self]; rfl
  refine ⟨fun f hf=>?_,fun j f hf=>?_,?_,h.few,?_⟩
  · rcases List.mem_append.mp hf with hf | hf
    · exact h.good f (List.mem_append_left _ hf)
    · rw [List.mem_singleton.mp hf]
      exact h.good g hg
  · rcases ZE hf with ⟨hj,hf⟩ | ⟨rfl,rfl⟩
    · have:=h.deep j f (by rw [List.getElem?_append_left hj]; exact hf)
      exact ⟨this.1,fun zz=>this.2 (by rw [List.length_append]; show j + 1 < fs.length + 2; omega)⟩
    · exact ⟨(h.deep _ g hgj).1,fun z=>by rw [List.length_append,List.length_singleton] at z; omega⟩
  · have e:=h.sum
    rw [List.map_append,List.sum_append] at e ⊢
    have e' : _ + ((za.zo g.rs).length + ((za.zo t.rs).length + 0))=n:=e
    rw [ht,show za.zo []=[] by unfold za.zo; rfl] at e'
    exact e'
  · have:=h.len
    rw [List.length_append] at this ⊢
    simp only [List.length_cons,List.length_nil] at this ⊢
    omega
theorem vq.close {fs : List Fr} {g t : Fr} {n : Nat} {xs : List V} {r : za} (h : vq (fs ++ [g,t]) n) (hr : r.Good) (hd : r.depth=za.zC t.rs + 1) (hl : r.leaves=za.zo t.rs) : vq (fs ++ [⟨g.p,xs,g.rs ++ [r]⟩]) n:=by
  have hg : g∈fs ++ [g,t]:=List.mem_append_right _ (List.mem_cons_self ..)
  have hgj : (fs ++ [g,t])[fs.length]?=some g:=by rw [List.getElem?_append_right (Nat.le_refl _),Nat.sub_self]; rfl
  have htj : (fs ++ [g,t])[fs.length + 1]?=some t:=by rw [List.getElem?_append_right (by omega)]; rw [show fs.length + 1 - fs.length=1 by omega]; rfl
  have d1:=h.deep _ g hgj
  have d2:=h.deep _ t htj
  have d3:=d1.2 (by rw [List.length_append]; show fs.length + 1 < fs.length + 2; omega)
  refine ⟨fun f hf=>?_,fun j f hf=>?_,?_,h.few,?_⟩
  · rcases List.mem_append.mp hf with hf | hf
    · exact h.good f (List.mem_append_left _ hf)
    · rw [List.mem_singleton.mp hf]
      refine ⟨J7 (h.good g hg).1 hr,?_⟩
      show (g.rs ++ [_]).length≤16
      rw [List.length_append,List.length_singleton]
      omega
  · rcases ZE hf with ⟨hj,hf⟩ | ⟨rfl,rfl⟩
    · have:=h.deep j f (by rw [List.getElem?_append_left hj]; exact hf)
      exact ⟨this.1,fun zz=>this.2 (by rw [List.length_append]; show j + 1 < fs.length + 2; omega)⟩
    · refine ⟨?_,fun z=>by rw [List.length_append,List.length_singleton] at z; omega⟩
      have:=Vw (n:=5 - fs.length) (rs:=g.rs) (r:=r) (by omega) (by omega)
      show za.zC (g.rs ++ [r]) + fs.length≤5
      omega
  · have e:=h.sum
    rw [List.map_append,List.sum_append] at e ⊢
    have e' : _ + ((za.zo g.rs).length + ((za.zo t.rs).length + 0))=n:=e
    show _ + ((za.zo (g.rs ++ [r])).length + 0)=n
    rw [za.Yd,za.Ye,List.length_append,hl]
    omega
  · have:=h.len
    rw [List.length_append] at this ⊢
    simp only [List.length_cons,List.length_nil] at this ⊢
    omega
end CF
namespace CF
open PySem L2 L3 L4 CW
mutual
noncomputable def small : PyData→Prop
  | .list ds=>ds.length≤1000∧vA ds
  | .tuple ds=>ds.length≤1000∧vA ds
  | _=>True
noncomputable def vA : List PyData→Prop
  | []=>True
  | d :: ds=>small d∧vA ds
end
theorem vX : ∀ {ds : List PyData},vA ds↔∀ d∈ds,small d
  | []=>by unfold vA; exact ⟨fun zz d h=>(nomatch h),fun zz=>trivial⟩
  | d :: ds=>by
    unfold vA
    rw [vX (ds:=ds)]
    exact ⟨fun h x hx=>(List.mem_cons.mp hx).elim (fun e=>e ▸ h.1) (h.2 x),fun h=>⟨h d (List.mem_cons_self ..),fun x hx=>h x (List.mem_cons_of_mem _ hx)⟩⟩
theorem Vx {ds : List PyData} (h : small (.list ds)) : ds.length≤1000∧∀ d∈ds,small d:=by
  unfold small at h
  exact ⟨h.1,vX.mp h.2⟩
theorem WV {ds : List PyData} (h : small (.tuple ds)) : ds.length≤1000∧∀ d∈ds,small d:=by
  unfold small at h
  exact ⟨h.1,vX.mp h.2⟩
theorem Ws {ds : List PyData} (h : ds.length≤1000) (k : ∀ d∈ds,small d) : small (.list ds):=by
  unfold small
  exact ⟨h,vX.mpr k⟩
theorem jC {ds : List PyData} (h : ds.length≤1000) (k : ∀ d∈ds,small d) : small (.tuple ds):=by
  unfold small
  exact ⟨h,vX.mpr k⟩
theorem vU (t : Str) : small (.str t):=by unfold small; trivial
theorem xJ (t : Int) : small (.int t):=by unfold small; trivial
theorem XZ {d : PyData} : ∀ {ds : List PyData},d∈ds→d.depth≤PyData.depthAll ds
  | x :: r,h=>by
    show _≤max x.depth (PyData.depthAll r)
    rcases List.mem_cons.mp h with rfl | h
    · exact Nat.le_max_left _ _
    · exact Nat.le_trans (XZ h) (Nat.le_max_right _ _)
theorem Z2 {d : PyData} {ds : List PyData} {n : Nat} (h : d∈ds) (k : PyData.depthAll ds + 1 < n + 1) : d.depth < n:=by
  have:=XZ h
  omega
theorem Vy {ss : List Str} (h : ss.length≤1000) : small (.list (ss.map .str)):=Ws (by rw [List.length_map]; exact h) fun d hd=>by
  obtain ⟨t,zz,rfl⟩:=List.mem_map.mp hd
  exact vU t
theorem ze.small {l : ze} (h : l.words.length≤1000) : CF.small l.data:=by
  cases l with
  | frm n ws a b c =>
    refine jC (ds:=[.str "from",.int n,.list (ws.map .str),.int a,.int b,.int c]) (by simp) fun d hd=>?_
    simp only [List.mem_cons,List.not_mem_nil,or_false] at hd
    rcases hd with rfl | rfl | rfl | rfl | rfl | rfl
    · exact vU _
    · exact xJ _
    · exact Vy h
    · exact xJ _
    · exact xJ _
    · exact xJ _
  | off n ws b c =>
    refine jC (ds:=[.str "of",.int n,.list (ws.map .str),.int b,.int c]) (by simp) fun d hd=>?_
    simp only [List.mem_cons,List.not_mem_nil,or_false] at hd
    rcases hd with rfl | rfl | rfl | rfl | rfl
    · exact vU _
    · exact xJ _
    · exact Vy h
    · exact xJ _
    · exact xJ _
theorem ze.Good.few {l : ze} (h : l.Good) : l.words.length≤8:=by
  cases l with
  | frm n ws a b c=>exact h.1.2.2
  | off n ws b c=>exact h.1.2.2
theorem ze.Good.small {l : ze} (h : l.Good) : CF.small l.data:=ze.small (Nat.le_trans h.few (by decide))
mutual
theorem za.small : ∀ {r : za},r.Good→CF.small r.data
  | .leaf l,h=>by unfold za.data; unfold za.Good at h; exact ze.Good.small h
  | .z8 rs,h=>by
    unfold za.data
    unfold za.Good at h
    have e:=za.vA h.2.2
    have hl:=h.2.1
    refine jC (ds:=[.str "all",.list (za.zQ rs)]) (by simp) fun d hd=>?_
    simp only [List.mem_cons,List.not_mem_nil,or_false] at hd
    rcases hd with rfl | rfl
    · exact vU _
    · exact Ws (by rw [za.zX,List.length_map]; omega) e
  | .z9 n rs,h=>by
    unfold za.data
    unfold za.Good at h
    have e:=za.vA h.2.2
    have hl:=h.2.1
    refine jC (ds:=[.str "some",.int n,.list (za.zQ rs)]) (by simp) fun d hd=>?_
    simp only [List.mem_cons,List.not_mem_nil,or_false] at hd
    rcases hd with rfl | rfl | rfl
    · exact vU _
    · exact xJ _
    · exact Ws (by rw [za.zX,List.length_map]; omega) e
theorem za.vA : ∀ {rs : List za},za.yh rs→∀ d∈za.zQ rs,CF.small d
  | [],_,d,hd=>by unfold za.zQ at hd; exact nomatch hd
  | r :: rs,h,d,hd=>by
    unfold za.zQ at hd
    unfold za.yh at h
    rcases List.mem_cons.mp hd with rfl | hd
    · exact za.small h.1
    · exact za.vA h.2 d hd
end
theorem yM.Good.small {c : yM} (h : c.Good) : CF.small c.data:=by
  refine jC (ds:=[.list (c.zl.map yf),c.rule.data]) (by simp) fun d hd=>?_
  simp only [List.mem_cons,List.not_mem_nil,or_false] at hd
  rcases hd with rfl | rfl
  · refine Ws (by rw [List.length_map]; exact Nat.le_trans h.few (by decide)) fun d hd=>?_
    obtain ⟨p,zz,rfl⟩:=List.mem_map.mp hd
    refine jC (ds:=[.str p.1,.int p.2]) (by simp) fun d hd=>?_
    simp only [List.mem_cons,List.not_mem_nil,or_false] at hd
    rcases hd with rfl | rfl
    · exact vU _
    · exact xJ _
  · exact za.small h.rule
end CF
namespace CF
open PySem L2 L3 L4 CW
end CF
namespace CT
open PySem L2 L3 L4 CW CF
noncomputable def zI (t : Str) (lo hi : Int) : Option Int:=if isNum t=true then (if valOf t < lo∨hi < valOf t then none else some (valOf t)) else none
noncomputable def ahead : List Str→List Str
  | o :: w :: r=>if o="or" then w :: ahead r else []
  | _=>[]
noncomputable def zA : List Str→List Str
  | []=>[]
  | p :: r=>p :: ahead r
noncomputable def leftOut (k : Str) : Int:=if k="worth" then 1 else 0
noncomputable def xK (k : Str) : Int:=if k="worth" then 9 else 999999999999999999999999999999999999999999999999999999999999
noncomputable def vals : List Str→List Str→List (Option Int)
  | [],_=>[]
  | k :: ks,[]=>some (leftOut k) :: vals ks []
  | k :: ks,[p]=>some (leftOut k) :: vals ks [p]
  | k :: ks,p :: v :: r=>if p=k then zI v (leftOut k + 1) (xK k) :: vals ks r else some (leftOut k) :: vals ks (p :: v :: r)
noncomputable def rest : List Str→List Str→List Str
  | [],ps=>ps
  | _ :: ks,[]=>rest ks []
  | _ :: ks,[p]=>rest ks [p]
  | k :: ks,p :: v :: r=>if p=k then rest ks r else rest ks (p :: v :: r)
noncomputable def zR (ks ps : List Str) : Option (List Int):=if rest ks ps=[]∧none∉vals ks ps then some ((vals ks ps).map fun o=>o.getD 0) else none
noncomputable def keysOf (kind : Str) : Option (List Str):=if kind="from" then some ["level","mark","worth"] else if kind="of" then some ["mark","worth"] else none
noncomputable def yz (ws : List Str) : Bool:=decide (ws.length≤8) && (decide ws.Nodup && ws.all isWord)
noncomputable def leafOf (k : Str) (n : Int) (ws : List Str) : List Int→Option ze
  | [a,b,c]=>if k="from" then some (.frm n ws a b c) else none
  | [b,c]=>if k="from" then none else some (.off n ws b c)
  | _=>none
noncomputable def anyOf (k : Str) (ws : List Str) : List Str:=if k="from"∧ws=(["any"] : List Str) then [] else ws
noncomputable def vf : List Str→Option ze
  | a :: k :: p :: r =>
    match keysOf k with
    | none=>none
    | some ks =>
      match zI a 0 60,zR ks ((p :: r).drop (2 * (zA (p :: r)).length - 1)) with
      | some n,some vs=>if yz (anyOf k (zA (p :: r)))=true then leafOf k n (anyOf k (zA (p :: r))) vs else none
      | _,_=>none
  | _=>none
inductive yd where
  | all
  | some (n : Int)
noncomputable def yd.rule : yd→List za→za
  | .all,rs => .z8 rs
  | .some n,rs => .z9 n rs
noncomputable def yd.least : yd→Int
  | .all=>1
  | .some n=>n
noncomputable def yp (parts : List Str) : Option yd :=
  if parts=(["all"] : List Str) then some .all
  else match parts with
    | [s,n,o]=>if s="some"∧o="of" then (zI n 1 16).map yd.some else none
    | _=>none
structure Grp where
  head : yd
  rules : List za
structure RS where
  zl : List (Str × Int)
  stack : List Grp
  leaves : Nat
  rule : Option za
noncomputable def RS.room (s : RS) : Bool:=match s.stack with
  | []=>true
  | g :: _=>decide (g.rules.length < 16)
noncomputable def RS.put (s : RS) (r : za) : RS:=match s.stack with
  | []=>{ s with rule:=some r }
  | g :: gs=>{ s with stack:=⟨g.head,g.rules ++ [r]⟩ :: gs }
noncomputable def RS.wz (s : RS) (parts : List Str) : Option RS :=
  if s.stack≠[]∨s.zl.length=16 then none
  else match parts with
    | [_,n,f]=>if isWord f=true then (match zI n 1 9 with
        | none=>none
        | some k=>if f∈s.zl.map (fun p=>p.1) then none else some { s with zl:=s.zl ++ [(f,k)] }) else none
    | _=>none
noncomputable def RS.group (s : RS) : Option yd→Option RS
  | none=>none
  | some h=>if s.stack.length=6∨s.room=false then none else some { s with stack:=⟨h,[]⟩ :: s.stack }
noncomputable def RS.fin (s : RS) : Option RS:=match s.stack with
  | []=>none
  | g :: gs=>if (g.rules.length : Int) < g.head.least then none else some (RS.put { s with stack:=gs } (g.head.rule g.rules))
noncomputable def RS.leaf (s : RS) : Option ze→Option RS
  | none=>none
  | some l=>if s.leaves=16∨s.room=false then none else some (RS.put { s with leaves:=s.leaves + 1 } (.leaf l))
noncomputable def RS.parts (s : RS) (parts : List Str) : Option RS :=
  if s.rule.isSome=true then none
  else if parts.head?=some ("often" : Str) then s.wz parts
  else if parts.head?=some ("all" : Str)∨parts.head?=some ("some" : Str) then s.group (yp parts)
  else if parts=(["end"] : List Str) then s.fin
  else s.leaf (vf parts)
noncomputable def RS.take (s : RS) (row : Str) : Option RS:=s.parts (PySem.Txt.split row " ")
noncomputable def run : RS→List Str→Option RS
  | s,[]=>some s
  | s,r :: rs=>match s.take r with
    | none=>none
    | some s'=>run s' rs
noncomputable def RS.new : RS:=⟨[],[],0,none⟩
theorem X0 : ∀ r : List Str,2 * (ahead r).length≤r.length
  | []=>by unfold ahead; simp
  | [_]=>by unfold ahead; simp
  | o :: w :: r=>by
    have:=X0 r
    unfold ahead
    split
    · simp only [List.length_cons]; omega
    · simp
noncomputable def oV : Option Int→V
  | none => .non
  | some n => .int n
theorem zik (l : List (Option Int)) : (l.map oV).all flatV=true:=by
  induction l with
  | nil=>rfl
  | cons a l ih =>
    rw [List.map_cons,List.all_cons,ih]
    cases a <;> rfl
theorem zkB (l : List (Option Int)) : inV .non (l.map oV)=decide (none∈l):=by
  induction l with
  | nil=>rfl
  | cons a l ih =>
    unfold inV at ih ⊢
    rw [List.map_cons,List.any_cons,ih]
    cases a with
    | none=>simp [oV,eqV]
    | some n=>simp [oV,eqV]
end CT
namespace CT
open PySem L2 L3 L4 CW CF
theorem YO : ∀ xs ys : List Str,PyData.eqv (.list (xs.map .str)) (.list (ys.map .str))=decide (xs=ys)
  | [],[]=>rfl
  | [],_ :: _=>rfl
  | _ :: _,[]=>rfl
  | x :: xs,y :: ys=>by
    have ih : PyData.eqvAll (xs.map .str) (ys.map .str)=decide (xs=ys):=YO xs ys
    show (x == y && PyData.eqvAll (xs.map .str) (ys.map .str))=_
    rw [ih,Bool.eq_iff_iff]
    simp [List.cons.injEq]
theorem Jv {k : Str} (h : k∈(["level","mark","worth"] : List Str)) : PyProof.Rows.KTD.datumAt k ([("level",V.int 0),("mark",V.int 0),("worth",V.int 1)] : List (Str × V))=some (V.int (leftOut k)):=by
  have n1 : ("mark" : Str)≠"level":=by decide +kernel
  have n2 : ("worth" : Str)≠"level":=by decide +kernel
  have n3 : ("worth" : Str)≠"mark":=by decide +kernel
  have n4 : ("level" : Str)≠"worth":=by decide +kernel
  have n5 : ("mark" : Str)≠"worth":=by decide +kernel
  simp only [List.mem_cons,List.not_mem_nil,or_false] at h
  unfold leftOut
  rcases h with rfl | rfl | rfl
  · simp [PyProof.Rows.KTD.datumAt,n4]
  · simp [PyProof.Rows.KTD.datumAt,n1,n5]
  · simp [PyProof.Rows.KTD.datumAt,n2,n3]
theorem zil {k : Str} (h : k∈(["level","mark","worth"] : List Str)) : PyProof.Rows.KTD.datumAt k ([("level",V.int 999999999999999999999999999999999999999999999999999999999999),("mark",V.int 999999999999999999999999999999999999999999999999999999999999),("worth",V.int 9)] : List (Str × V))=some (V.int (xK k)):=by
  have n1 : ("mark" : Str)≠"level":=by decide +kernel
  have n2 : ("worth" : Str)≠"level":=by decide +kernel
  have n3 : ("worth" : Str)≠"mark":=by decide +kernel
  have n4 : ("level" : Str)≠"worth":=by decide +kernel
  have n5 : ("mark" : Str)≠"worth":=by decide +kernel
  simp only [List.mem_cons,List.not_mem_nil,or_false] at h
  unfold xK
  rcases h with rfl | rfl | rfl
  · simp [PyProof.Rows.KTD.datumAt,n4]
  · simp [PyProof.Rows.KTD.datumAt,n1,n5]
  · simp [PyProof.Rows.KTD.datumAt,n2,n3]
theorem W6 {k p v : Str} {ks r : List Str} (h : p=k) : vals (k :: ks) (p :: v :: r)=zI v (leftOut k + 1) (xK k) :: vals ks r∧rest (k :: ks) (p :: v :: r)=rest ks r:=by
  constructor
  · rw [vals,if_pos h]
  · rw [rest,if_pos h]
theorem X3 {k : Str} {ks ps : List Str} (h : ¬ (1 < ps.length∧ps.head?=some k)) : vals (k :: ks) ps=some (leftOut k) :: vals ks ps∧rest (k :: ks) ps=rest ks ps:=by
  match ps with
  | []=>exact ⟨by rw [vals],by rw [rest]⟩
  | [p]=>exact ⟨by rw [vals],by rw [rest]⟩
  | p :: v :: r =>
    have hn : p≠k:=fun z=>h ⟨by simp,by rw [z]; rfl⟩
    exact ⟨by rw [vals,if_neg hn],by rw [rest,if_neg hn]⟩
theorem YQ {o w : Str} {r : List Str} (h : o="or") : ahead (o :: w :: r)=w :: ahead r:=by rw [ahead,if_pos h]
theorem xM {r : List Str} (h : ¬ (1 < r.length∧r.head?=some ("or" : Str))) : ahead r=[]:=by
  match r with
  | []=>rw [ahead]; intro _ _ _ z; cases z
  | [_]=>rw [ahead]; intro _ _ _ z; cases z
  | o :: w :: r =>
    have hn : o≠"or":=fun z=>h ⟨by simp,by rw [z]; rfl⟩
    rw [ahead,if_neg hn]
theorem Jw {ps : List Str} (h1 : ps≠(["all"] : List Str)) (h : ∀ x y z,ps=[x,y,z]→¬ (x="some"∧z="of")) : yp ps=none:=by
  unfold yp
  rw [if_neg h1]
  split
  · rw [if_neg (h _ _ _ rfl)]
  · rfl
theorem Yz {x y z : Str} (hx : x="some") (hz : z="of") : yp [x,y,z]=(zI y 1 16).map yd.some:=by
  unfold yp
  have hn : ¬ ([x,y,z] : List Str)=(["all"] : List Str):=fun e=>by have:=congrArg List.length e; simp at this
  rw [if_neg hn]
  show (if x="some"∧z="of" then _ else _)=_
  rw [if_pos ⟨hx,hz⟩]
theorem XA : yp ["all"]=some .all:=by
  unfold yp
  rw [if_pos rfl]
theorem zgB {α : Type} : ∀ {l : List α},l.length=3→∃ x y z,l=[x,y,z]
  | [x,y,z],_=>⟨x,y,z,rfl⟩
  | [],h=>by cases h
  | [_],h=>by cases h
  | [_,_],h=>by cases h
  | _ :: _ :: _ :: _ :: _,h=>by simp at h
theorem zlv {α : Type} : ∀ {l : List α},l.length=2→∃ x y,l=[x,y]
  | [x,y],_=>⟨x,y,rfl⟩
  | [],h=>by cases h
  | [_],h=>by cases h
  | _ :: _ :: _ :: _,h=>by simp at h
end CT
namespace CT
open PySem L2 L3 L4 CW CF
noncomputable def ghV : yd→List V
  | .all=>[.str "all"]
  | .some n=>[.str "some",.int n]
theorem Wt (g : yd) (rs : List za) : (g.rule rs).head=ghV g:=by cases g <;> rfl
theorem zim (g : yd) (rs : List za) : (g.rule rs).yU=false:=by cases g <;> rfl
theorem W7 (g : yd) (rs : List za) : (g.rule rs).rules=rs:=by cases g <;> rfl
noncomputable def rf (po pg : Addr) (n : Nat) (v : V) : List (Str × V):=[("oftens",.ref po),("groups",.ref pg),("leaves",.int (n : Nat)),("rule",v)]
theorem nm1 : ("groups" : Str)≠"oftens"∧("leaves" : Str)≠"oftens"∧("leaves" : Str)≠"groups"∧("rule" : Str)≠"oftens"∧("rule" : Str)≠"groups"∧("rule" : Str)≠"leaves":=by decide +kernel
theorem Vz {k : Str} {v : V} {r : List (Str × V)} : List.lookup k ((k,v) :: r)=some v:=by
  rw [List.lookup_cons,beq_self_eq_true]
theorem wL {k x : Str} {v : V} {r : List (Str × V)} (h : k≠x) : List.lookup k ((x,v) :: r)=List.lookup k r:=by
  rw [List.lookup_cons,beq_eq_false_iff_ne.mpr h]
theorem zdB {po pg : Addr} {n : Nat} {v : V} : (rf po pg n v).lookup ("oftens" : Str)=some (.ref po):=Vz
theorem YR {po pg : Addr} {n : Nat} {v : V} : (rf po pg n v).lookup ("groups" : Str)=some (.ref pg):=by
  unfold rf
  rw [wL nm1.1,Vz]
theorem ziR {po pg : Addr} {n : Nat} {v : V} : (rf po pg n v).lookup ("leaves" : Str)=some (.int (n : Nat)):=by
  unfold rf
  rw [wL nm1.2.1,wL nm1.2.2.1,Vz]
theorem zgC {po pg : Addr} {n : Nat} {v : V} : (rf po pg n v).lookup ("rule" : Str)=some v:=by
  unfold rf
  rw [wL nm1.2.2.2.1,wL nm1.2.2.2.2.1,wL nm1.2.2.2.2.2,Vz]
noncomputable def meths : List Str:=["take","take_often","take_group","take_end","take_leaf","has_room","put_rule"]
theorem zgD : ∀ m∈meths,m≠("oftens" : Str)∧m≠"groups"∧m≠"leaves"∧m≠"rule":=by decide +kernel
theorem YS {po pg : Addr} {n : Nat} {v : V} {m : Str} (h : m∈meths) : (rf po pg n v).lookup m=none:=by
  obtain ⟨h1,h2,h3,h4⟩:=zgD m h
  unfold rf
  rw [wL h1,wL h2,wL h3,wL h4]
  rfl
theorem zbF {k : Str} {v w : V} {r : List (Str × V)} : putF k w ((k,v) :: r)=(k,w) :: r:=by
  rw [putF,if_pos rfl]
theorem yV {k x : Str} {v w : V} {r : List (Str × V)} (h : k≠x) : putF k w ((x,v) :: r)=(x,v) :: putF k w r:=by
  rw [putF,if_neg h.symm]
theorem ziS {po pg : Addr} {n m : Nat} {v : V} : putF "leaves" (.int (m : Nat)) (rf po pg n v)=rf po pg m v:=by
  unfold rf
  rw [yV nm1.2.1,yV nm1.2.2.1,zbF]
theorem ziT {po pg : Addr} {n : Nat} {v w : V} : putF "rule" w (rf po pg n v)=rf po pg n w:=by
  unfold rf
  rw [yV nm1.2.2.2.1,yV nm1.2.2.2.2.1,yV nm1.2.2.2.2.2,zbF]
structure GFr where
  t : Addr
  p : Addr
  xs : List V
  g : Grp
structure GOk (K : PySem.W.Frag) (D H : Hp) (N : Addr→Prop) (f : GFr) : Prop where
  tup : H f.t=some (.tup (ghV f.g.head ++ [.ref f.p]))
  at_ : H f.p=some (.lst f.xs)
  YT : D f.t=none
  out : D f.p=none
  data : zb K D f.xs (za.zQ f.g.rules)
  nt : N f.t
  np : N f.p
noncomputable def VA (K : PySem.W.Frag) (D : Hp) (N : Addr→Prop) (v : V) : Option za→Prop
  | none=>v = .non
  | some r=>zc K D v r.data∧(r.yU=false→∃ t p xs,v = .ref t∧D t=some (.tup (r.head ++ [.ref p]))∧D p=some (.lst xs)∧N p)
structure zu (K : PySem.W.Frag) (C : Addr) (N : Addr→Prop) (D H : Hp) (x dx po pg : Addr) (xo : List V) (v : V) (gs : List GFr) (s : RS) : Prop where
  ins : H x=some (.ins C dx (rf po pg s.leaves v))
  oft : H po=some (.lst xo)
  yf : zb K D xo (s.zl.map yf)
  grp : H pg=some (.lst ((gs.map fun f=>V.ref f.t).reverse))
  each : ∀ f∈gs,GOk K D H N f
  stk : gs.map (fun f=>f.g)=s.stack
  nd : (po :: pg :: gs.map fun f=>f.p).Nodup
  rule : VA K D N v s.rule
  ox : D x=none
  oo : D po=none
  og : D pg=none
  nx : N x
  no : N po
  ng : N pg
noncomputable def yg (x po pg : Addr) (gs : List GFr) : List Addr:=x :: po :: pg :: (gs.map (fun f=>f.p) ++ gs.map fun f=>f.t)
theorem zu.gr {K : PySem.W.Frag} {C : Addr} {N : Addr→Prop} {D H D' H' : Hp} {x dx po pg : Addr} {xo : List V} {v : V} {gs : List GFr} {s : RS} (r : zu K C N D H x dx po pg xo v gs s) (g : Gr D H D' H') : zu K C N D' H' x dx po pg xo v gs s where
  ins:=g.hh _ _ r.ins
  oft:=g.hh _ _ r.oft
  yf:=zb.up r.yf g.dd
  grp:=g.hh _ _ r.grp
  each:=fun f hf=>⟨g.hh _ _ (r.each f hf).tup,g.hh _ _ (r.each f hf).at_,g.nw _ _ (r.each f hf).tup (r.each f hf).YT,g.nw _ _ (r.each f hf).at_ (r.each f hf).out,zb.up (r.each f hf).data g.dd,(r.each f hf).nt,(r.each f hf).np⟩
  stk:=r.stk
  nd:=r.nd
  rule:=by
    have h:=r.rule
    cases e : s.rule with
    | none=>rw [e] at h; exact h
    | some ru =>
      rw [e] at h
      obtain ⟨h1,h2⟩:=h
      refine ⟨zc.up h1 g.dd,fun z=>?_⟩
      obtain ⟨t,p,xs,e1,e2,e3,e4⟩:=h2 z
      exact ⟨t,p,xs,e1,g.dd _ _ e2,g.dd _ _ e3,e4⟩
  ox:=g.nw _ _ r.ins r.ox
  oo:=g.nw _ _ r.oft r.oo
  og:=g.nw _ _ r.grp r.og
  nx:=r.nx
  no:=r.no
  ng:=r.ng
theorem Ext.refl' {D H D' H' : Hp} {S : List Addr} (g : Gr D H D' H') : CF.Ext D H D' H' S:=⟨g.dd,fun a o zz e=>⟨g.hh a o e,g.nw a o e⟩⟩
theorem Ext.then {D H D1 H1 D2 H2 : Hp} {S S' : List Addr} (g : CF.Ext D H D1 H1 S) (h : CF.Ext D1 H1 D2 H2 S') (hS : ∀ a∈S',a∈S∨H a=none) : CF.Ext D H D2 H2 S :=
  ⟨g.dd.trans h.dd,fun a o hn e=>by
    obtain ⟨e1,n1⟩:=g.keep a o hn e
    have hn' : a∉S':=fun z=>(hS a z).elim hn fun z=>by rw [z] at e; cases e
    obtain ⟨e2,n2⟩:=h.keep a o hn' e1
    exact ⟨e2,fun z=>n2 (n1 z)⟩⟩
theorem ya {x po pg : Addr} {gs : List GFr} : x∈yg x po pg gs∧po∈yg x po pg gs∧pg∈yg x po pg gs∧(∀ f∈gs,f.p∈yg x po pg gs∧f.t∈yg x po pg gs):=by
  unfold yg
  refine ⟨List.mem_cons_self ..,List.mem_cons_of_mem _ (List.mem_cons_self ..),List.mem_cons_of_mem _ (List.mem_cons_of_mem _ (List.mem_cons_self ..)),fun f hf=>⟨?_,?_⟩⟩
  · exact List.mem_cons_of_mem _ (List.mem_cons_of_mem _ (List.mem_cons_of_mem _ (List.mem_append_left _ (List.mem_map.mpr ⟨f,hf,rfl⟩))))
  · exact List.mem_cons_of_mem _ (List.mem_cons_of_mem _ (List.mem_cons_of_mem _ (List.mem_append_right _ (List.mem_map.mpr ⟨f,hf,rfl⟩))))
theorem Ext.set {D H : Hp} {a : Addr} {o : HO} {S : List Addr} (h : a∈S) : CF.Ext D H D (upd H a o) S:=⟨Same.refl _,fun b u hn e=>⟨by rw [upd_ne (fun z=>hn (by rw [z]; exact h))]; exact e,id⟩⟩
end CT
namespace CT
open PySem L2 L3 L4 CW CF
section
variable {K : PySem.W.Frag} {C : Addr} {N : Addr→Prop} {D H : Hp} {x dx po pg : Addr} {xo : List V} {v : V} {gs : List GFr} {s : RS}
theorem zu.ziU (r : zu K C N D H x dx po pg xo v gs s) : x≠po:=ne_of r.ins r.oft (fun z=>nomatch z)
theorem zu.zgE (r : zu K C N D H x dx po pg xo v gs s) : x≠pg:=ne_of r.ins r.grp (fun z=>nomatch z)
theorem zu.x_p (r : zu K C N D H x dx po pg xo v gs s) {f : GFr} (hf : f∈gs) : x≠f.p:=ne_of r.ins (r.each f hf).at_ (fun z=>nomatch z)
theorem zu.x_t (r : zu K C N D H x dx po pg xo v gs s) {f : GFr} (hf : f∈gs) : x≠f.t:=ne_of r.ins (r.each f hf).tup (fun z=>nomatch z)
theorem zu.ziV (r : zu K C N D H x dx po pg xo v gs s) {f : GFr} (hf : f∈gs) : f.t≠po:=ne_of (r.each f hf).tup r.oft (fun z=>nomatch z)
theorem zu.zbG (r : zu K C N D H x dx po pg xo v gs s) {f : GFr} (hf : f∈gs) : f.t≠pg:=ne_of (r.each f hf).tup r.grp (fun z=>nomatch z)
theorem zu.t_p (r : zu K C N D H x dx po pg xo v gs s) {f g : GFr} (hf : f∈gs) (hg : g∈gs) : f.t≠g.p:=ne_of (r.each f hf).tup (r.each g hg).at_ (fun z=>nomatch z)
theorem zu.zaz (r : zu K C N D H x dx po pg xo v gs s) : po≠pg:=fun z=>(List.nodup_cons.mp r.nd).1 (by rw [z]; exact List.mem_cons_self ..)
theorem zu.zgF (r : zu K C N D H x dx po pg xo v gs s) {f : GFr} (hf : f∈gs) : f.p≠po:=fun z=>(List.nodup_cons.mp r.nd).1 (by rw [← z]; exact List.mem_cons_of_mem _ (List.mem_map.mpr ⟨f,hf,rfl⟩))
theorem zu.Jx (r : zu K C N D H x dx po pg xo v gs s) {f : GFr} (hf : f∈gs) : f.p≠pg:=fun z=>(List.nodup_cons.mp (List.nodup_cons.mp r.nd).2).1 (by rw [← z]; exact List.mem_map.mpr ⟨f,hf,rfl⟩)
theorem zu.t_t {f g : GFr} (r : zu K C N D H x dx po pg xo v (f :: gs) s) (hg : g∈gs) : g.t≠f.t:=fun z=>by
  have h1:=(r.each f (List.mem_cons_self ..)).tup
  have h2:=(r.each g (List.mem_cons_of_mem _ hg)).tup
  rw [z,h1] at h2
  have e:=congrArg List.getLast? (HO.tup.inj (Option.some.inj h2))
  rw [List.getLast?_concat,List.getLast?_concat] at e
  have e' : f.p=g.p:=V.ref.inj (Option.some.inj e)
  have h4 : (f.p :: gs.map fun f=>f.p).Nodup:=(List.nodup_cons.mp (List.nodup_cons.mp r.nd).2).2
  exact (List.nodup_cons.mp h4).1 (by rw [e']; exact List.mem_map.mpr ⟨g,hg,rfl⟩)
theorem zu.field (r : zu K C N D H x dx po pg xo v gs s) (n : Nat) (w : V) (ru : Option za) (h : VA K D N w ru) : zu K C N D (upd H x (.ins C dx (rf po pg n w))) x dx po pg xo w gs { s with leaves:=n,rule:=ru } where
  ins:=upd_same
  oft:=by rw [upd_ne r.ziU.symm]; exact r.oft
  yf:=r.yf
  grp:=by rw [upd_ne r.zgE.symm]; exact r.grp
  each:=fun f hf=>⟨by rw [upd_ne (r.x_t hf).symm]; exact (r.each f hf).tup,by rw [upd_ne (r.x_p hf).symm]; exact (r.each f hf).at_,(r.each f hf).YT,(r.each f hf).out,(r.each f hf).data,(r.each f hf).nt,(r.each f hf).np⟩
  stk:=r.stk
  nd:=r.nd
  rule:=h
  ox:=r.ox
  oo:=r.oo
  og:=r.og
  nx:=r.nx
  no:=r.no
  ng:=r.ng
theorem zu.wz (r : zu K C N D H x dx po pg xo v gs s) {y : V} {p : Str × Int} (h : zc K D y (CF.yf p)) : zu K C N D (upd H po (.lst (xo ++ [y]))) x dx po pg (xo ++ [y]) v gs { s with zl:=s.zl ++ [p] } where
  ins:=by rw [upd_ne r.ziU]; exact r.ins
  oft:=upd_same
  yf:=by
    show zb K D (xo ++ [y]) ((s.zl ++ [p]).map CF.yf)
    rw [List.map_append]
    exact zb.snoc h r.yf
  grp:=by rw [upd_ne r.zaz.symm]; exact r.grp
  each:=fun f hf=>⟨by rw [upd_ne (r.ziV hf)]; exact (r.each f hf).tup,by rw [upd_ne (r.zgF hf)]; exact (r.each f hf).at_,(r.each f hf).YT,(r.each f hf).out,(r.each f hf).data,(r.each f hf).nt,(r.each f hf).np⟩
  stk:=r.stk
  nd:=r.nd
  rule:=r.rule
  ox:=r.ox
  oo:=r.oo
  og:=r.og
  nx:=r.nx
  no:=r.no
  ng:=r.ng
theorem zu.push (r : zu K C N D H x dx po pg xo v gs s) {t p : Addr} {g : yd} (ht : H t=some (.tup (ghV g ++ [.ref p]))) (hp : H p=some (.lst [])) (ot : D t=none) (op : D p=none) (nt : N t) (np : N p) (fp : ∀ a∈yg x po pg gs,p≠a) :
    zu K C N D (upd H pg (.lst ((gs.map fun f=>V.ref f.t).reverse ++ [.ref t]))) x dx po pg xo v (⟨t,p,[],⟨g,[]⟩⟩ :: gs) { s with stack:=⟨g,[]⟩ :: s.stack } where
  ins:=by rw [upd_ne r.zgE]; exact r.ins
  oft:=by rw [upd_ne r.zaz]; exact r.oft
  yf:=r.yf
  grp:=by
    rw [upd_same,List.map_cons,List.reverse_cons]
  each:=fun f hf=>by
    rcases List.mem_cons.mp hf with rfl | hf
    · exact ⟨by rw [upd_ne (ne_of ht r.grp (fun z=>nomatch z))]; exact ht,by rw [upd_ne (fp pg ya.2.2.1)]; exact hp,ot,op,by unfold za.zQ; exact zb.nil,nt,np⟩
    · exact ⟨by rw [upd_ne (r.zbG hf)]; exact (r.each f hf).tup,by rw [upd_ne (r.Jx hf)]; exact (r.each f hf).at_,(r.each f hf).YT,(r.each f hf).out,(r.each f hf).data,(r.each f hf).nt,(r.each f hf).np⟩
  stk:=by
    show _ :: gs.map (fun f=>f.g)=_ :: s.stack
    rw [r.stk]
  nd:=by
    show (po :: pg :: p :: gs.map fun f=>f.p).Nodup
    have h1:=List.nodup_cons.mp r.nd
    have h2:=List.nodup_cons.mp h1.2
    refine List.nodup_cons.mpr ⟨fun z=>?_,List.nodup_cons.mpr ⟨fun z=>?_,List.nodup_cons.mpr ⟨fun z=>?_,h2.2⟩⟩⟩
    · rcases List.mem_cons.mp z with z | z
      · exact r.zaz z
      · rcases List.mem_cons.mp z with z | z
        · exact fp po ya.2.1 z.symm
        · exact h1.1 (List.mem_cons_of_mem _ z)
    · rcases List.mem_cons.mp z with z | z
      · exact fp pg ya.2.2.1 z.symm
      · exact h2.1 z
    · obtain ⟨f,hf,e⟩:=List.mem_map.mp z
      exact fp f.p (ya.2.2.2 f hf).1 e.symm
  rule:=r.rule
  ox:=r.ox
  oo:=r.oo
  og:=r.og
  nx:=r.nx
  no:=r.no
  ng:=r.ng
theorem zu.pop {f : GFr} (r : zu K C N D H x dx po pg xo v (f :: gs) s) : zu K C N D (upd H pg (.lst ((gs.map fun f=>V.ref f.t).reverse))) x dx po pg xo v gs { s with stack:=gs.map fun f=>f.g } where
  ins:=by rw [upd_ne r.zgE]; exact r.ins
  oft:=by rw [upd_ne r.zaz]; exact r.oft
  yf:=r.yf
  grp:=upd_same
  each:=fun g hg=>by
    have hm:=List.mem_cons_of_mem f hg
    exact ⟨by rw [upd_ne (r.zbG hm)]; exact (r.each g hm).tup,by rw [upd_ne (r.Jx hm)]; exact (r.each g hm).at_,(r.each g hm).YT,(r.each g hm).out,(r.each g hm).data,(r.each g hm).nt,(r.each g hm).np⟩
  stk:=rfl
  nd:=by
    have h1:=List.nodup_cons.mp r.nd
    have h2:=List.nodup_cons.mp h1.2
    have h3 : (f.p :: gs.map fun f=>f.p).Nodup:=h2.2
    exact List.nodup_cons.mpr ⟨fun z=>h1.1 (by
      rcases List.mem_cons.mp z with z | z
      · rw [z]; exact List.mem_cons_self ..
      · exact List.mem_cons_of_mem _ (List.mem_cons_of_mem _ z)),List.nodup_cons.mpr ⟨fun z=>h2.1 (List.mem_cons_of_mem _ z),(List.nodup_cons.mp h3).2⟩⟩
  rule:=r.rule
  ox:=r.ox
  oo:=r.oo
  og:=r.og
  nx:=r.nx
  no:=r.no
  ng:=r.ng
theorem zu.add {f : GFr} (r : zu K C N D H x dx po pg xo v (f :: gs) s) {y : V} {ru : za} (h : zc K D y ru.data) : zu K C N D (upd H f.p (.lst (f.xs ++ [y]))) x dx po pg xo v (⟨f.t,f.p,f.xs ++ [y],⟨f.g.head,f.g.rules ++ [ru]⟩⟩ :: gs) { s with stack:=⟨f.g.head,f.g.rules ++ [ru]⟩ :: gs.map fun f=>f.g }:=by
  have hm : f∈f :: gs:=List.mem_cons_self ..
  have hf:=r.each f hm
  refine ⟨by rw [upd_ne (r.x_p hm)]; exact r.ins,by rw [upd_ne (r.zgF hm).symm]; exact r.oft,r.yf,by rw [upd_ne (r.Jx hm).symm,r.grp]; rfl,fun g hg=>?_,rfl,r.nd,r.rule,r.ox,r.oo,r.og,r.nx,r.no,r.ng⟩
  rcases List.mem_cons.mp hg with rfl | hg
  · refine ⟨by show upd H f.p _ f.t=_; rw [upd_ne (r.t_p hm hm)]; exact hf.tup,upd_same,hf.YT,hf.out,?_,hf.nt,hf.np⟩
    show zb K D (f.xs ++ [y]) (za.zQ (f.g.rules ++ [ru]))
    rw [za.zX,List.map_append,← za.zX]
    exact zb.snoc h hf.data
  · have hm':=List.mem_cons_of_mem f hg
    have hg':=r.each g hm'
    refine ⟨by rw [upd_ne (r.t_p hm' hm)]; exact hg'.tup,?_,hg'.YT,hg'.out,hg'.data,hg'.nt,hg'.np⟩
    rw [upd_ne]
    · exact hg'.at_
    · intro z
      have h3:=(List.nodup_cons.mp (List.nodup_cons.mp r.nd).2).2
      have h4 : (f.p :: gs.map fun f=>f.p).Nodup:=h3
      exact (List.nodup_cons.mp h4).1 (by rw [← z]; exact List.mem_map.mpr ⟨g,hg,rfl⟩)
theorem zu.close {f : GFr} (r : zu K C N D H x dx po pg xo v (f :: gs) s) (sD : Same D H) : ∃ D',Same D D'∧Same D' H∧D'=upd (upd D f.p (.lst f.xs)) f.t (.tup (ghV f.g.head ++ [.ref f.p]))∧VA K D' N (.ref f.t) (some (f.g.head.rule f.g.rules))∧(∀ a,D a=none→a≠f.p→a≠f.t→D' a=none):=by
  have hm : f∈f :: gs:=List.mem_cons_self ..
  have hf:=r.each f hm
  have ntp : f.t≠f.p:=r.t_p hm hm
  have dd : Same D (upd (upd D f.p (.lst f.xs)) f.t (.tup (ghV f.g.head ++ [.ref f.p]))):=(Same.zp hf.out).trans (Same.zp (by rw [upd_ne ntp]; exact hf.YT))
  have ep : upd (upd D f.p (.lst f.xs)) f.t (.tup (ghV f.g.head ++ [.ref f.p])) f.p=some (.lst f.xs):=by rw [upd_ne ntp.symm]; exact upd_same
  refine ⟨_,dd,fun a o e=>?_,rfl,⟨?_,fun zz=>⟨f.t,f.p,f.xs,rfl,by rw [upd_same,Wt],ep,hf.np⟩⟩,fun a n h1 h2=>by rw [upd_ne h2,upd_ne h1]; exact n⟩
  · by_cases h1 : a=f.t
    · subst h1
      rw [upd_same] at e
      cases e
      exact hf.tup
    · rw [upd_ne h1] at e
      by_cases h2 : a=f.p
      · subst h2
        rw [upd_same] at e
        cases e
        exact hf.at_
      · rw [upd_ne h2] at e
        exact sD _ _ e
  · refine CF.za.zdx (zim _ _) (by rw [Wt]; exact upd_same) (.inl ep) ?_
    rw [W7]
    exact zb.up hf.data dd
theorem zu.more {D' : Hp} (r : zu K C N D H x dx po pg xo v gs s) (dd : Same D D') (out : ∀ a∈yg x po pg gs,D' a=none) : zu K C N D' H x dx po pg xo v gs s where
  ins:=r.ins
  oft:=r.oft
  yf:=zb.up r.yf dd
  grp:=r.grp
  each:=fun f hf=>⟨(r.each f hf).tup,(r.each f hf).at_,out _ (ya.2.2.2 f hf).2,out _ (ya.2.2.2 f hf).1,zb.up (r.each f hf).data dd,(r.each f hf).nt,(r.each f hf).np⟩
  stk:=r.stk
  nd:=r.nd
  rule:=by
    have h:=r.rule
    cases e : s.rule with
    | none=>rw [e] at h; exact h
    | some ru =>
      rw [e] at h
      obtain ⟨h1,h2⟩:=h
      refine ⟨zc.up h1 dd,fun z=>?_⟩
      obtain ⟨t,p,xs,e1,e2,e3,e4⟩:=h2 z
      exact ⟨t,p,xs,e1,dd _ _ e2,dd _ _ e3,e4⟩
  ox:=out _ ya.1
  oo:=out _ ya.2.1
  og:=out _ ya.2.2.1
  nx:=r.nx
  no:=r.no
  ng:=r.ng
end
end CT
namespace CT
open PySem CF
theorem Wu {s : RS} {ru : za} (h : s.stack=[]) : s.put ru={ s with rule:=some ru }:=by cases s; cases h; rfl
theorem YU {s : RS} {ru : za} {g : Grp} {gs : List Grp} (h : s.stack=g :: gs) : s.put ru={ s with stack:=⟨g.head,g.rules ++ [ru]⟩ :: gs }:=by cases s; cases h; rfl
theorem zgG {s : RS} (h : s.stack=[]) : s.room=true:=by cases s; cases h; rfl
theorem Z3 {s : RS} {g : Grp} {gs : List Grp} (h : s.stack=g :: gs) : s.room=decide (g.rules.length < 16):=by cases s; cases h; rfl
theorem zc3 {s : RS} (h : s.stack=[]) : s.fin=none:=by cases s; cases h; rfl
theorem YV {s : RS} {g : Grp} {gs : List Grp} (h : s.stack=g :: gs) : s.fin=if (g.rules.length : Int) < g.head.least then none else some (RS.put { s with stack:=gs } (g.head.rule g.rules)):=by cases s; cases h; rfl
end CT
namespace CT
open PySem L2 L3 L4 CW CF
structure Fit (s : RS) : Prop where
  stk : s.stack.length≤6
  rules : ∀ g∈s.stack,g.rules.length≤16
  outer : ∀ g∈s.stack.tail,g.rules.length≤15
  oft : s.zl.length≤16
theorem zin : Fit RS.new:=⟨Nat.zero_le _,(fun g h=>nomatch h),(fun g h=>nomatch h),Nat.zero_le _⟩
theorem zio {s : RS} {r : za} (h : Fit s) (hr : s.room=true) : Fit (s.put r):=by
  cases e : s.stack with
  | nil=>rw [Wu e]; exact ⟨h.stk,h.rules,h.outer,h.oft⟩
  | cons g gs =>
    rw [YU e]
    rw [Z3 e] at hr
    have hr':=of_decide_eq_true hr
    refine ⟨?_,fun x hx=>?_,fun x hx=>h.outer x (by rw [e]; exact hx),h.oft⟩
    · have:=h.stk
      rw [e] at this
      exact this
    · rcases List.mem_cons.mp hx with rfl | hx
      · show (g.rules ++ [r]).length≤16
        rw [List.length_append,List.length_singleton]
        omega
      · exact h.rules x (by rw [e]; exact List.mem_cons_of_mem _ hx)
end CT
namespace CT
open PySem CW CF
theorem VB {s : RS} {ps : List Str} (h : s.stack≠[]∨s.zl.length=16) : s.wz ps=none:=by
  unfold RS.wz
  rw [if_pos h]
theorem zfj {s : RS} {ps : List Str} (h : ∀ a b c,ps=[a,b,c]→isWord c=false) : s.wz ps=none:=by
  unfold RS.wz
  split
  · rfl
  · split
    · rw [if_neg (by rw [h _ _ _ rfl]; decide)]
    · rfl
theorem zfk {s : RS} {w0 w1 w2 : Str} (h : zI w1 1 9=none) : s.wz [w0,w1,w2]=none:=by
  unfold RS.wz
  split
  · rfl
  · show (if isWord w2=true then (match zI w1 1 9 with | none=>none | some k=>_) else none)=none
    rw [h]
    split <;> rfl
theorem VC {s : RS} {w0 w1 w2 : Str} {k : Int} (h1 : s.stack=[]) (h2 : s.zl.length≠16) (h3 : isWord w2=true) (h4 : zI w1 1 9=some k) : s.wz [w0,w1,w2]=if w2∈s.zl.map (fun p=>p.1) then none else some { s with zl:=s.zl ++ [(w2,k)] }:=by
  unfold RS.wz
  rw [if_neg (fun z=>z.elim (fun z=>z h1) h2)]
  show (if isWord w2=true then (match zI w1 1 9 with | none=>none | some k=>_) else none)=_
  rw [h3,if_pos rfl,h4]
end CT
namespace CT
open PySem L2 L3 L4 CW CF
theorem zdC {s : RS} {ps : List Str} (h : s.rule.isSome=true) : s.parts ps=none:=by unfold RS.parts; rw [if_pos h]
theorem WW {s : RS} {ps : List Str} (h0 : s.rule=none) (h : ps.head?=some ("often" : Str)) : s.parts ps=s.wz ps:=by
  unfold RS.parts
  rw [h0,if_neg (by decide),if_pos h]
theorem WX {s : RS} {ps : List Str} (h0 : s.rule=none) (h1 : ps.head?≠some ("often" : Str)) (h : ps.head?=some ("all" : Str)∨ps.head?=some ("some" : Str)) : s.parts ps=s.group (yp ps):=by
  unfold RS.parts
  rw [h0,if_neg (by decide),if_neg h1,if_pos h]
theorem X4 {s : RS} {ps : List Str} (h0 : s.rule=none) (h : ps=(["end"] : List Str)) : s.parts ps=s.fin:=by
  unfold RS.parts
  have n1 : ¬ (["end"] : List Str).head?=some ("often" : Str):=by decide +kernel
  have n2 : ¬ ((["end"] : List Str).head?=some ("all" : Str)∨(["end"] : List Str).head?=some ("some" : Str)):=by decide +kernel
  rw [h0,if_neg (by decide),h,if_neg n1,if_neg n2,if_pos rfl]
theorem VD {s : RS} {ps : List Str} (h0 : s.rule=none) (h1 : ps.head?≠some ("often" : Str)) (h2 : ¬ (ps.head?=some ("all" : Str)∨ps.head?=some ("some" : Str))) (h3 : ps≠(["end"] : List Str)) : s.parts ps=s.leaf (vf ps):=by
  unfold RS.parts
  rw [h0,if_neg (by decide),if_neg h1,if_neg h2,if_neg h3]
end CT
namespace CT
open PySem L2 L3 L4 CW CF
theorem zfl {s s' : RS} {ps : List Str} (h : Fit s) (e : s.wz ps=some s') : Fit s':=by
  unfold RS.wz at e
  split at e
  · cases e
  · rename_i hn
    split at e
    · split at e
      · split at e
        · cases e
        · split at e
          · cases e
          · cases e
            refine ⟨h.stk,h.rules,h.outer,?_⟩
            have:=h.oft
            have h16 : s.zl.length≠16:=fun z=>hn (.inr z)
            show (s.zl ++ [_]).length≤16
            rw [List.length_append,List.length_singleton]
            omega
      · cases e
    · cases e
theorem zfm {s s' : RS} {ps : List Str} (h : Fit s) (e : s.parts ps=some s') : Fit s':=by
  unfold RS.parts at e
  split at e
  · cases e
  split at e
  · exact zfl h e
  split at e
  · cases hg : yp ps with
    | none=>rw [hg] at e; cases e
    | some g =>
      rw [hg] at e
      replace e : (if s.stack.length=6∨s.room=false then none else some { s with stack:=⟨g,[]⟩ :: s.stack })=some s':=e
      split at e
      · cases e
      · rename_i hn
        cases e
        have h6 : s.stack.length≠6:=fun z=>hn (.inl z)
        have:=h.stk
        refine ⟨by show s.stack.length + 1≤6; omega,fun x hx=>?_,fun x hx=>?_,h.oft⟩
        · rcases List.mem_cons.mp hx with rfl | hx
          · exact Nat.zero_le _
          · exact h.rules x hx
        · have hx' : x∈s.stack:=hx
          cases hs : s.stack with
          | nil=>rw [hs] at hx'; cases hx'
          | cons g2 gr =>
            have hr : s.room≠false:=fun z=>hn (.inr z)
            rw [Z3 hs] at hr
            rw [hs] at hx'
            rcases List.mem_cons.mp hx' with rfl | hx'
            · have : x.rules.length < 16:=by
                refine Classical.byContradiction fun z=>hr (decide_eq_false z)
              omega
            · exact h.outer x (by rw [hs]; exact hx')
  split at e
  · cases hs : s.stack with
    | nil=>rw [zc3 hs] at e; cases e
    | cons g gs =>
      rw [YV hs] at e
      split at e
      · cases e
      · cases e
        have hst:=h.stk
        rw [hs] at hst
        cases hg : gs with
        | nil =>
          rw [Wu (s:={ s with stack:=[] }) rfl]
          exact ⟨Nat.zero_le _,(fun x hx=>nomatch hx),(fun x hx=>nomatch hx),h.oft⟩
        | cons g2 gr =>
          have h15:=h.outer g2 (by rw [hs,hg]; exact List.mem_cons_self ..)
          rw [YU (s:={ s with stack:=g2 :: gr }) rfl]
          rw [hg] at hst
          refine ⟨Nat.le_trans (Nat.le_succ _) hst,fun x hx=>?_,fun x hx=>?_,h.oft⟩
          · rcases List.mem_cons.mp hx with rfl | hx
            · show (g2.rules ++ [_]).length≤16
              rw [List.length_append,List.length_singleton]
              omega
            · exact h.rules x (by rw [hs,hg]; exact List.mem_cons_of_mem _ (List.mem_cons_of_mem _ hx))
          · exact h.outer x (by rw [hs,hg]; exact List.mem_cons_of_mem _ hx)
  · cases hl : vf ps with
    | none=>rw [hl] at e; cases e
    | some l =>
      rw [hl] at e
      replace e : (if s.leaves=16∨s.room=false then none else some (RS.put { s with leaves:=s.leaves + 1 } (.leaf l)))=some s':=e
      split at e
      · cases e
      · rename_i hn
        cases e
        refine zio (s:={ s with leaves:=s.leaves + 1 }) ⟨h.stk,h.rules,h.outer,h.oft⟩ ?_
        cases hr : s.room with
        | true=>exact hr
        | false=>exact absurd (.inr hr) hn
end CT
namespace CT
open PySem L2 L3 L4 CW CF
theorem z5 {n : Int} (h : n≤60) : n < 10 ^ 60:=Int.lt_of_le_of_lt h (by decide)
theorem ziq {n : Int} (h : n < 10 ^ 60) : n≤999999999999999999999999999999999999999999999999999999999999:=Int.le_of_lt_add_one (Int.lt_of_lt_of_le h (by decide))
theorem join_one (sep x : Str) : Str.join sep [x]=x:=by first | rfl | simp [Str.join]
theorem ym (sep x y : Str) (r : List Str) : Str.join sep (x :: y :: r)=x ++ sep ++ Str.join sep (y :: r):=by first | rfl | simp [Str.join]
theorem jD (sep : Str) : ∀ (xs ys : List Str),xs≠[]→ys≠[]→Str.join sep (xs ++ ys)=Str.join sep xs ++ sep ++ Str.join sep ys
  | [],_,h,_=>absurd rfl h
  | [x],[],_,h=>absurd rfl h
  | [x],y :: r,_,_=>by rw [join_one]; exact ym sep x y r
  | x :: x2 :: xs,ys,_,hy=>by
    rw [List.cons_append,List.cons_append,ym,← List.cons_append,jD sep (x2 :: xs) ys (fun z=>nomatch z) hy,ym]
    simp only [Str.append_assoc]
noncomputable def num (n : Int) : Str:=((toString n : String) : Str)
noncomputable def orList : List Str→List Str
  | []=>["any"]
  | [w]=>[w]
  | w :: x :: r=>w :: "or" :: orList (x :: r)
noncomputable def yN (ws : List Str) : Str:=if ws=[] then "any" else Str.join " or " ws
theorem or_eq : (" or " : Str)=" " ++ "or" ++ " ":=by decide +kernel
theorem J8 (ws : List Str) : orList ws≠[]:=by
  match ws with
  | []=>exact fun z=>nomatch z
  | [_]=>exact fun z=>nomatch z
  | _ :: _ :: _=>exact fun z=>nomatch z
theorem zc4 : ∀ (ws : List Str),ws≠[]→Str.join " or " ws=Str.join " " (orList ws)
  | [],h=>absurd rfl h
  | [w],_=>by rw [join_one]; exact (join_one _ _).symm
  | w :: x :: r,_=>by
    have ih:=zc4 (x :: r) (fun z=>nomatch z)
    rw [ym,ih]
    show _=Str.join " " (w :: "or" :: orList (x :: r))
    cases e : orList (x :: r) with
    | nil=>exact absurd e (J8 _)
    | cons y q =>
      rw [ym,ym,or_eq]
      simp only [Str.append_assoc]
theorem WY (ws : List Str) : yN ws=Str.join " " (orList ws):=by
  unfold yN
  split
  · rename_i h
    rw [h]
    exact (join_one _ _).symm
  · rename_i h
    exact zc4 ws h
noncomputable def zk (k : Str) (n : Int) : List Str:=if n=leftOut k then [] else [k,num n]
noncomputable def zP : ze→List Str
  | .frm _ _ a b c=>zk "level" a ++ (zk "mark" b ++ zk "worth" c)
  | .off _ _ b c=>zk "mark" b ++ zk "worth" c
noncomputable def ze.kind' : ze→Str
  | .frm ..=>"from"
  | .off ..=>"of"
noncomputable def ze.want : ze→Int
  | .frm n ..=>n
  | .off n ..=>n
noncomputable def yW (l : ze) : List Str:=num (ze.want l) :: ze.kind' l :: (orList l.words ++ zP l)
noncomputable def xX (l : ze) : Str:=Str.join " " (yW l)
theorem XC (l : ze) : xX l=Str.join " " ([num (ze.want l),ze.kind' l,yN l.words] ++ zP l):=by
  unfold xX yW
  rw [WY]
  have h1:=J8 l.words
  show Str.join " " ([num (ze.want l),ze.kind' l] ++ (orList l.words ++ zP l))=Str.join " " ([num (ze.want l),ze.kind' l] ++ ([Str.join " " (orList l.words)] ++ zP l))
  rw [jD _ [num (ze.want l),ze.kind' l] (orList l.words ++ zP l) (fun z=>nomatch z) (fun z=>h1 (List.append_eq_nil_iff.mp z).1),jD _ [num (ze.want l),ze.kind' l] ([Str.join " " (orList l.words)] ++ zP l) (fun z=>nomatch z) (fun z=>nomatch z)]
  congr 1
  cases ht : zP l with
  | nil=>rw [List.append_nil,List.append_nil,join_one]
  | cons y q=>rw [jD _ (orList l.words) (y :: q) h1 (fun z=>nomatch z),jD _ [Str.join " " (orList l.words)] (y :: q) (fun z=>nomatch z) (fun z=>nomatch z),join_one]
noncomputable def yJ : yd→Str
  | .all=>"all"
  | .some n=>"some " ++ num n ++ " of"
mutual
noncomputable def zj : za→List Str
  | .leaf l=>[xX l]
  | .z8 rs=>"all" :: (zq rs ++ (["end"] : List Str))
  | .z9 n rs=>("some " ++ num n ++ " of") :: (zq rs ++ (["end"] : List Str))
noncomputable def zq : List za→List Str
  | []=>[]
  | r :: rs=>zj r ++ zq rs
end
theorem xh : zq []=[]:=by simp only [zq]
theorem xu (r : za) (rs : List za) : zq (r :: rs)=zj r ++ zq rs:=by simp only [zq]
theorem wD : ∀ rs ss : List za,zq (rs ++ ss)=zq rs ++ zq ss
  | [],ss=>by rw [List.nil_append,xh,List.nil_append]
  | r :: rs,ss=>by rw [List.cons_append,xu,wD rs ss,xu,List.append_assoc]
theorem XD (r : za) : zq [r]=zj r:=by rw [xu,xh,List.append_nil]
noncomputable def xN (p : Str × Int) : Str:="often " ++ num p.2 ++ " " ++ p.1
noncomputable def zO (c : yM) : List Str:=c.zl.map xN ++ zj c.rule
theorem wM {n lo hi : Int} (h0 : 0≤n) (h1 : n < 10 ^ 60) (h2 : lo≤n) (h3 : n≤hi) : zI (num n) lo hi=some n:=by
  have hf:=yy h0 h1
  unfold zI
  rw [show isNum (num n)=true from XR.isNum hf,if_pos rfl,show valOf (num n)=n from XR.val hf,if_neg (by omega)]
theorem zbH {n : Int} (h0 : 0≤n) (h1 : n < 10 ^ 60) {c : Nat} (hc : c < 48) : c∉cs (num n):=ze4 (yy h0 h1) hc
theorem key_ne : ("mark" : Str)≠"level"∧("worth" : Str)≠"level"∧("worth" : Str)≠"mark"∧("level" : Str)≠"or"∧("mark" : Str)≠"or"∧("worth" : Str)≠"or"∧("level" : Str)≠"worth"∧("mark" : Str)≠"worth":=by decide +kernel
theorem ZF {k : Str} {n : Int} {ks r : List Str} (h : n≠leftOut k→zI (num n) (leftOut k + 1) (xK k)=some n) (hr : r.head?≠some k) : vals (k :: ks) (zk k n ++ r)=some n :: vals ks r∧rest (k :: ks) (zk k n ++ r)=rest ks r:=by
  unfold zk
  by_cases hn : n=leftOut k
  · rw [if_pos hn,List.nil_append]
    obtain ⟨h1,h2⟩:=X3 (k:=k) (ks:=ks) (ps:=r) (fun z=>hr z.2)
    exact ⟨by rw [h1,hn],h2⟩
  · rw [if_neg hn]
    obtain ⟨h1,h2⟩:=W6 (k:=k) (p:=k) (v:=num n) (ks:=ks) (r:=r) rfl
    exact ⟨by rw [show [k,num n] ++ r=k :: num n :: r from rfl,h1,h hn],h2⟩
theorem wA {k x : Str} {n : Int} {r : List Str} (h1 : k≠x) (h2 : r.head?≠some x) : (zk k n ++ r).head?≠some x:=by
  unfold zk
  split
  · exact h2
  · exact fun z=>h1 (Option.some.inj z)
theorem X5 {n : Int} {k : Str} (hk : leftOut k=0) (hm : xK k=999999999999999999999999999999999999999999999999999999999999) (h : 0≤n∧n < 10 ^ 60) : n≠leftOut k→zI (num n) (leftOut k + 1) (xK k)=some n:=fun hn=>by
  rw [hk] at hn ⊢
  rw [hm]
  exact wM h.1 h.2 (by omega) (ziq h.2)
theorem J9 {n : Int} (h : 1≤n∧n≤9) : n≠leftOut "worth"→zI (num n) (leftOut "worth" + 1) (xK "worth")=some n:=fun hn=>by
  have e1 : leftOut "worth"=1:=by unfold leftOut; rw [if_pos rfl]
  have e2 : xK "worth"=9:=by unfold xK; rw [if_pos rfl]
  rw [e1] at hn ⊢
  rw [e2]
  exact wM (by omega) (z5 (by omega)) (by omega) (by omega)
theorem jE : leftOut "level"=0∧leftOut "mark"=0:=by
  unfold leftOut
  exact ⟨if_neg key_ne.2.2.2.2.2.2.1,if_neg key_ne.2.2.2.2.2.2.2⟩
theorem Jy : xK "level"=999999999999999999999999999999999999999999999999999999999999∧xK "mark"=999999999999999999999999999999999999999999999999999999999999:=by
  unfold xK
  exact ⟨if_neg key_ne.2.2.2.2.2.2.1,if_neg key_ne.2.2.2.2.2.2.2⟩
theorem zgH {b c : Int} (hb : 0≤b∧b < 10 ^ 60) (hc : 1≤c∧c≤9) : zR ["mark","worth"] (zk "mark" b ++ zk "worth" c)=some [b,c]:=by
  obtain ⟨h1,h2⟩:=ZF (k:="mark") (n:=b) (ks:=["worth"]) (r:=zk "worth" c) (X5 jE.2 Jy.2 hb) (by have:=wA (k:="worth") (x:="mark") (n:=c) (r:=[]) key_ne.2.2.1 (fun z=>nomatch z); rwa [List.append_nil] at this)
  obtain ⟨h3,h4⟩:=ZF (k:="worth") (n:=c) (ks:=[]) (r:=[]) (J9 hc) (fun z=>nomatch z)
  rw [List.append_nil] at h3 h4
  have e1 : vals [] ([] : List Str)=[]:=by rw [vals]
  have e2 : rest [] ([] : List Str)=[]:=by rw [rest]
  unfold zR
  rw [h1,h3,e1,h2,h4,e2,if_pos ⟨rfl,by simp⟩]
  rfl
theorem zdD {a b c : Int} (ha : 0≤a∧a < 10 ^ 60) (hb : 0≤b∧b < 10 ^ 60) (hc : 1≤c∧c≤9) : zR ["level","mark","worth"] (zk "level" a ++ (zk "mark" b ++ zk "worth" c))=some [a,b,c]:=by
  have hw:=wA (k:="worth") (x:="level") (n:=c) (r:=[]) key_ne.2.1 (fun z=>nomatch z)
  rw [List.append_nil] at hw
  obtain ⟨h0,h0'⟩:=ZF (k:="level") (n:=a) (ks:=["mark","worth"]) (r:=zk "mark" b ++ zk "worth" c) (X5 jE.1 Jy.1 ha) (wA key_ne.1 hw)
  obtain ⟨h1,h2⟩:=ZF (k:="mark") (n:=b) (ks:=["worth"]) (r:=zk "worth" c) (X5 jE.2 Jy.2 hb) (by have:=wA (k:="worth") (x:="mark") (n:=c) (r:=[]) key_ne.2.2.1 (fun z=>nomatch z); rwa [List.append_nil] at this)
  obtain ⟨h3,h4⟩:=ZF (k:="worth") (n:=c) (ks:=[]) (r:=[]) (J9 hc) (fun z=>nomatch z)
  rw [List.append_nil] at h3 h4
  have e1 : vals [] ([] : List Str)=[]:=by rw [vals]
  have e2 : rest [] ([] : List Str)=[]:=by rw [rest]
  unfold zR
  rw [h0,h0',h1,h3,e1,h2,h4,e2,if_pos ⟨rfl,by simp⟩]
  rfl
theorem zbI : ∀ (x : Str) (ws r : List Str),r.head?≠some ("or" : Str)→∃ y q,orList (x :: ws) ++ r=y :: q∧y=x∧ahead q=ws∧q.drop (2 * ws.length)=r
  | x,[],r,h=>⟨x,r,rfl,rfl,xM (fun z=>h z.2),rfl⟩
  | x,w :: ws,r,h=>by
    obtain ⟨y,q,e,e1,e2,e3⟩:=zbI w ws r h
    refine ⟨x,"or" :: y :: q,?_,rfl,?_,?_⟩
    · show x :: "or" :: (orList (w :: ws) ++ r)=_
      rw [e]
    · rw [YQ rfl,e1,e2]
    · show (("or" : Str) :: y :: q).drop (2 * (ws.length + 1))=r
      rw [show 2 * (ws.length + 1)=2 * ws.length + 2 by omega]
      exact e3
theorem X6 (l : ze) : (zP l).head?≠some ("or" : Str):=by
  cases l with
  | frm n ws a b c =>
    have h:=wA (k:="worth") (x:="or") (n:=c) (r:=[]) key_ne.2.2.2.2.2.1 (fun z=>nomatch z)
    rw [List.append_nil] at h
    exact wA key_ne.2.2.2.1 (wA key_ne.2.2.2.2.1 h)
  | off n ws b c =>
    have h:=wA (k:="worth") (x:="or") (n:=c) (r:=[]) key_ne.2.2.2.2.2.1 (fun z=>nomatch z)
    rw [List.append_nil] at h
    exact wA key_ne.2.2.2.2.1 h
theorem zir : isWord "any"=false:=by decide +kernel
theorem Wv : ("of" : Str)≠"from":=by decide +kernel
theorem WZ {ws : List Str} (h : Zv ws) : yz ws=true:=by
  unfold yz
  rw [decide_eq_true h.2.2,decide_eq_true h.2.1,List.all_eq_true.mpr h.1]
  rfl
theorem Jz {l : ze} (h : l.Good) : vf (yW l)=some l:=by
  have key : ∃ p q,orList l.words ++ zP l=p :: q∧(p :: q).drop (2 * (zA (p :: q)).length - 1)=zP l∧(l.words=[]∧zA (p :: q)=(["any"] : List Str)∨l.words≠[]∧zA (p :: q)=l.words):=by
    cases hw : l.words with
    | nil =>
      refine ⟨"any",zP l,rfl,?_,.inl ⟨rfl,?_⟩⟩
      · show (("any" : Str) :: zP l).drop (2 * ((ahead (zP l)).length + 1) - 1)=_
        rw [xM (fun z=>X6 l z.2)]
        rfl
      · show ("any" : Str) :: ahead (zP l)=_
        rw [xM (fun z=>X6 l z.2)]
    | cons x ws =>
      obtain ⟨y,q,e,e1,e2,e3⟩:=zbI x ws (zP l) (X6 l)
      refine ⟨y,q,e,?_,.inr ⟨(fun z=>nomatch z),?_⟩⟩
      · show (y :: q).drop (2 * ((ahead q).length + 1) - 1)=_
        rw [e2,show 2 * (ws.length + 1) - 1=2 * ws.length + 1 by omega]
        exact e3
      · show y :: ahead q=_
        rw [e2,e1]
  obtain ⟨p,q,e,ed,hw⟩:=key
  cases l with
  | frm n ws a b c =>
    obtain ⟨g1,g2,g3,g4,g5⟩:=h
    have hn : zI (num n) 0 60=some n:=wM g2.1 (z5 g2.2) g2.1 g2.2
    have hv:=zdD g3 g4 g5
    have ea : anyOf "from" (zA (p :: q))=ws:=by
      unfold anyOf
      rcases hw with ⟨w1,w2⟩ | ⟨w1,w2⟩
      · rw [w2,if_pos ⟨rfl,rfl⟩]
        exact w1.symm
      · have w2' : zA (p :: q)=ws:=w2
        rw [w2',if_neg]
        intro z
        have:=g1.1 "any" (by rw [z.2]; exact List.mem_cons_self ..)
        rw [zir] at this
        cases this
    have ek : keysOf "from"=some (["level","mark","worth"] : List Str):=by unfold keysOf; rw [if_pos rfl]
    unfold yW
    rw [e]
    show (match keysOf "from" with | none=>none | some ks=>match zI (num n) 0 60,zR ks ((p :: q).drop (2 * (zA (p :: q)).length - 1)) with | some n,some vs=>if yz (anyOf "from" (zA (p :: q)))=true then leafOf "from" n (anyOf "from" (zA (p :: q))) vs else none | _,_=>none)=_
    rw [ek]
    show (match zI (num n) 0 60,zR ["level","mark","worth"] ((p :: q).drop (2 * (zA (p :: q)).length - 1)) with | some n,some vs=>if yz (anyOf "from" (zA (p :: q)))=true then leafOf "from" n (anyOf "from" (zA (p :: q))) vs else none | _,_=>none)=_
    rw [hn,ed,show zR ["level","mark","worth"] (zP (.frm n ws a b c))=some [a,b,c] from hv,ea]
    show (if yz ws=true then leafOf "from" n ws [a,b,c] else none)=_
    rw [WZ g1,if_pos rfl]
    show (if ("from" : Str)="from" then some (ze.frm n ws a b c) else none)=_
    rw [if_pos rfl]
  | off n ws b c =>
    obtain ⟨g1,g0,g2,g4,g5⟩:=h
    have hn : zI (num n) 0 60=some n:=wM g2.1 (z5 g2.2) g2.1 g2.2
    have hv:=zgH g4 g5
    have ea : anyOf "of" (zA (p :: q))=ws:=by
      unfold anyOf
      rw [if_neg (fun z=>Wv z.1)]
      rcases hw with ⟨w1,w2⟩ | ⟨w1,w2⟩
      · exact absurd w1 g0
      · exact w2
    have ek : keysOf "of"=some (["mark","worth"] : List Str):=by unfold keysOf; rw [if_neg Wv,if_pos rfl]
    unfold yW
    rw [e]
    show (match keysOf "of" with | none=>none | some ks=>match zI (num n) 0 60,zR ks ((p :: q).drop (2 * (zA (p :: q)).length - 1)) with | some n,some vs=>if yz (anyOf "of" (zA (p :: q)))=true then leafOf "of" n (anyOf "of" (zA (p :: q))) vs else none | _,_=>none)=_
    rw [ek]
    show (match zI (num n) 0 60,zR ["mark","worth"] ((p :: q).drop (2 * (zA (p :: q)).length - 1)) with | some n,some vs=>if yz (anyOf "of" (zA (p :: q)))=true then leafOf "of" n (anyOf "of" (zA (p :: q))) vs else none | _,_=>none)=_
    rw [hn,ed,show zR ["mark","worth"] (zP (.off n ws b c))=some [b,c] from hv,ea]
    show (if yz ws=true then leafOf "of" n ws [b,c] else none)=_
    rw [WZ g1,if_pos rfl]
    show (if ("of" : Str)="from" then none else some (ze.off n ws b c))=_
    rw [if_neg Wv]
end CT
namespace CT
open PySem L2 L3 L4 CW CF
noncomputable def vY (t : Str) : Prop:=32∉cs t∧10∉cs t∧(∀ c∈cs t,c < 1114112)∧t.length≤60
theorem ZG {n : Int} (h0 : 0≤n) (h1 : n < 10 ^ 60) : vY (num n) :=
  ⟨zbH h0 h1 (by decide),zbH h0 h1 (by decide),fun c hc=>by have:=(yy h0 h1).zbr c hc; omega,(yy h0 h1).most⟩
theorem X7 {t : Str} (h : isWord t=true) : vY t :=
  ⟨J2 h (by decide),J2 h (by decide),fun c hc=>by have:=(yl.mp h).2.2.2 c hc; omega,by have:=(yl.mp h).2.1; omega⟩
noncomputable def fixed : List Str:=["or","any","from","of","level","mark","worth","all","some","end","often"]
theorem zdE : ∀ t∈fixed,vY t:=by
  have h : ∀ t∈fixed,32∉t.cps.toList∧10∉t.cps.toList∧(∀ c∈t.cps.toList,c < 1114112)∧t.length≤60:=by decide +kernel
  exact h
theorem yK {t : Str} (h : fixed.contains t=true) : vY t:=zdE t (List.contains_iff_mem.mp h)
theorem Ww : ∀ {ws : List Str},(∀ t∈ws,isWord t=true)→∀ t∈orList ws,vY t
  | [],_,t,ht=>by rw [List.mem_singleton.mp ht]; exact yK (by decide +kernel)
  | [w],h,t,ht=>by rw [List.mem_singleton.mp ht]; exact X7 (h w (List.mem_cons_self ..))
  | w :: x :: r,h,t,ht=>by
    rcases List.mem_cons.mp ht with rfl | ht
    · exact X7 (h _ (List.mem_cons_self ..))
    rcases List.mem_cons.mp ht with rfl | ht
    · exact yK (by decide +kernel)
    · exact Ww (fun y hy=>h y (List.mem_cons_of_mem _ hy)) t ht
theorem ZH {k : Str} {n : Int} (hk : vY k) (h0 : 0≤n) (h1 : n < 10 ^ 60) : ∀ t∈zk k n,vY t:=fun t ht=>by
  unfold zk at ht
  split at ht
  · cases ht
  · rcases List.mem_cons.mp ht with rfl | ht
    · exact hk
    · rw [List.mem_singleton.mp ht]; exact ZG h0 h1
theorem Zk : ∀ ws : List Str,(orList ws).length≤2 * ws.length + 1
  | []=>by show 1≤_; omega
  | [_]=>by show 1≤_; omega
  | w :: x :: r=>by
    have:=Zk (x :: r)
    show (orList (x :: r)).length + 2≤_
    simp only [List.length_cons] at this ⊢
    omega
theorem xY (k : Str) (n : Int) : (zk k n).length≤2:=by
  unfold zk
  split <;> simp
theorem X8 {l : ze} (h : l.Good) : (∀ t∈yW l,vY t)∧(yW l).length≤30:=by
  have f1 : vY "from":=yK (by decide +kernel)
  have f2 : vY "of":=yK (by decide +kernel)
  have f3 : vY "level":=yK (by decide +kernel)
  have f4 : vY "mark":=yK (by decide +kernel)
  have f5 : vY "worth":=yK (by decide +kernel)
  cases l with
  | frm n ws a b c =>
    obtain ⟨g1,g2,g3,g4,g5⟩:=h
    refine ⟨fun t ht=>?_,?_⟩
    · rcases List.mem_cons.mp ht with rfl | ht
      · exact ZG g2.1 (z5 g2.2)
      rcases List.mem_cons.mp ht with rfl | ht
      · exact f1
      rcases List.mem_append.mp ht with ht | ht
      · exact Ww g1.1 t ht
      rcases List.mem_append.mp ht with ht | ht
      · exact ZH f3 g3.1 g3.2 t ht
      rcases List.mem_append.mp ht with ht | ht
      · exact ZH f4 g4.1 g4.2 t ht
      · exact ZH f5 (by omega) (z5 (by omega)) t ht
    · have h1:=Zk ws
      have h2:=xY "level" a
      have h3:=xY "mark" b
      have h4:=xY "worth" c
      have h5:=g1.2.2
      show (orList ws ++ (zk "level" a ++ (zk "mark" b ++ zk "worth" c))).length + 2≤30
      simp only [List.length_append]
      omega
  | off n ws b c =>
    obtain ⟨g1,g0,g2,g4,g5⟩:=h
    refine ⟨fun t ht=>?_,?_⟩
    · rcases List.mem_cons.mp ht with rfl | ht
      · exact ZG g2.1 (z5 g2.2)
      rcases List.mem_cons.mp ht with rfl | ht
      · exact f2
      rcases List.mem_append.mp ht with ht | ht
      · exact Ww g1.1 t ht
      rcases List.mem_append.mp ht with ht | ht
      · exact ZH f4 g4.1 g4.2 t ht
      · exact ZH f5 (by omega) (z5 (by omega)) t ht
    · have h1:=Zk ws
      have h3:=xY "mark" b
      have h4:=xY "worth" c
      have h5:=g1.2.2
      show (orList ws ++ (zk "mark" b ++ zk "worth" c)).length + 2≤30
      simp only [List.length_append]
      omega
structure wV (row : Str) (ps : List Str) : Prop where
  eq : row=Str.join " " ps
  ne : ps≠[]
  bare : ∀ t∈ps,vY t
  few : ps.length≤30
theorem wV.split {row : Str} {ps : List Str} (h : wV row ps) : PySem.Txt.split row " "=ps:=by
  rw [zdm]
  exact Xz h.ne (fun x hx=>(h.bare x hx).1) (by rw [h.eq,zdm])
theorem ZI (sep : Str) (m : Nat) : ∀ (xs : List Str),(∀ x∈xs,x.length≤m)→(Str.join sep xs).length≤xs.length * (m + sep.length)
  | [],_=>by show (Str.empty).length≤_; exact Nat.zero_le _
  | [x],h=>by
    rw [join_one]
    have:=h x (List.mem_cons_self ..)
    simp only [List.length_cons,List.length_nil]
    omega
  | x :: y :: r,h=>by
    have ih:=ZI sep m (y :: r) fun z hz=>h z (List.mem_cons_of_mem _ hz)
    have hx:=h x (List.mem_cons_self ..)
    rw [ym,Str.length_append,Str.length_append]
    simp only [List.length_cons] at ih ⊢
    have : (r.length + 1 + 1) * (m + sep.length)=(r.length + 1) * (m + sep.length) + (m + sep.length):=by rw [Nat.add_mul (r.length + 1) 1,Nat.one_mul]
    omega
theorem zc5 (sep : Str) (c : Nat) (hs : c∉cs sep) : ∀ (xs : List Str),(∀ x∈xs,c∉cs x)→c∉cs (Str.join sep xs)
  | [],_=>by show c∉cs Str.empty; exact fun z=>nomatch z
  | [x],h=>by rw [join_one]; exact h x (List.mem_cons_self ..)
  | x :: y :: r,h=>by
    rw [ym,vz,vz]
    intro z
    rcases List.mem_append.mp z with z | z
    · rcases List.mem_append.mp z with z | z
      · exact h x (List.mem_cons_self ..) z
      · exact hs z
    · exact zc5 sep c hs (y :: r) (fun w hw=>h w (List.mem_cons_of_mem _ hw)) z
theorem wV.len {row : Str} {ps : List Str} (h : wV row ps) : row.length≤2000:=by
  have:=ZI " " 60 ps fun x hx=>(h.bare x hx).2.2.2
  have e : (" " : Str).length=1:=by decide +kernel
  rw [h.eq]
  rw [e] at this
  have hf:=h.few
  have : ps.length * 61≤30 * 61:=Nat.mul_le_mul_right _ hf
  omega
theorem wV.zlw {row : Str} {ps : List Str} (h : wV row ps) : 10∉cs row:=by
  rw [h.eq]
  exact zc5 " " 10 (by rw [zdm,XO]; decide) ps fun x hx=>(h.bare x hx).2.1
theorem zbJ {l : ze} (h : l.Good) : wV (xX l) (yW l):=⟨rfl,(fun z=>nomatch z),(X8 h).1,(X8 h).2⟩
noncomputable def X9 : yd→List Str
  | .all=>["all"]
  | .some n=>["some",num n,"of"]
theorem YW {g : yd} (h : ∀ n,g = .some n→1≤n∧n≤16) : wV (yJ g) (X9 g):=by
  cases g with
  | all=>exact ⟨(join_one _ _).symm,(fun z=>nomatch z),fun t ht=>by rw [List.mem_singleton.mp ht]; exact yK (by decide +kernel),by show 1≤30; decide⟩
  | some n =>
    have hn:=h n rfl
    refine ⟨?_,(fun z=>nomatch z),fun t ht=>?_,by show 3≤30; decide⟩
    · show "some " ++ num n ++ " of"=Str.join " " ["some",num n,"of"]
      rw [ym,ym,join_one]
      have e1 : ("some " : Str)="some" ++ " ":=by decide +kernel
      have e2 : (" of" : Str)=" " ++ "of":=by decide +kernel
      rw [e1,e2]
      simp only [Str.append_assoc]
    · rcases List.mem_cons.mp ht with rfl | ht
      · exact yK (by decide +kernel)
      rcases List.mem_cons.mp ht with rfl | ht
      · exact ZG (by omega) (z5 (by omega))
      · rw [List.mem_singleton.mp ht]; exact yK (by decide +kernel)
theorem row_end : wV "end" ["end"]:=⟨(join_one _ _).symm,(fun z=>nomatch z),fun t ht=>by rw [List.mem_singleton.mp ht]; exact yK (by decide +kernel),by show 1≤30; decide⟩
theorem zc6 {p : Str × Int} (h1 : isWord p.1=true) (h2 : 1≤p.2∧p.2≤9) : wV (xN p) ["often",num p.2,p.1]:=by
  refine ⟨?_,(fun z=>nomatch z),fun t ht=>?_,by show 3≤30; decide⟩
  · unfold xN
    rw [ym,ym,join_one]
    have e1 : ("often " : Str)="often" ++ " ":=by decide +kernel
    rw [e1]
    simp only [Str.append_assoc]
  · rcases List.mem_cons.mp ht with rfl | ht
    · exact yK (by decide +kernel)
    rcases List.mem_cons.mp ht with rfl | ht
    · exact ZG (by omega) (z5 (by omega))
    · rw [List.mem_singleton.mp ht]; exact X7 h1
theorem Zw {s s' : RS} {row : Str} {ps t : List Str} (h : wV row ps) (e : s.parts ps=some s') : run s (row :: t)=run s' t:=by
  show (match s.take row with | none=>none | some s'=>run s' t)=_
  unfold RS.take
  rw [h.split,e]
theorem zbK {n : Int} (h0 : 0≤n) (h1 : n < 10 ^ 60) {t : Str} (ht : ∃ c∈cs t,97≤c) : num n≠t:=fun z=>by
  obtain ⟨c,hc,h⟩:=ht
  rw [← z] at hc
  have:=(yy h0 h1).zbr c hc
  omega
theorem zbL : ∀ t∈fixed,∃ c∈t.cps.toList,97≤c:=by decide +kernel
theorem zfn {t : Str} (h : fixed.contains t=true) : ∃ c∈cs t,97≤c:=zbL t (List.contains_iff_mem.mp h)
theorem zfo {s : RS} {l : ze} (h : l.Good) (hr : s.rule=none) (hroom : s.room=true) (hl : s.leaves < 16) : s.parts (yW l)=some (RS.put { s with leaves:=s.leaves + 1 } (.leaf l)):=by
  have hw : 0≤ze.want l∧ze.want l≤60:=by
    cases l with
    | frm n ws a b c=>exact h.2.1
    | off n ws b c=>exact h.2.2.1
  have ne : ∀ {t : Str},fixed.contains t=true→num (ze.want l)≠t:=fun ht=>zbK hw.1 (z5 hw.2) (zfn ht)
  rw [VD (ps:=yW l) hr (fun z=>ne (t:="often") (by decide +kernel) (Option.some.inj z)) (fun z=>z.elim (fun z=>ne (t:="all") (by decide +kernel) (Option.some.inj z)) (fun z=>ne (t:="some") (by decide +kernel) (Option.some.inj z))) (fun z=>ne (t:="end") (by decide +kernel) (List.cons.inj z).1),Jz h]
  show (if s.leaves=16∨s.room=false then none else some (RS.put { s with leaves:=s.leaves + 1 } (.leaf l)))=_
  rw [if_neg (fun z=>z.elim (fun z=>by omega) (fun z=>by rw [hroom] at z; cases z))]
theorem zaa {s : RS} {g : yd} (hg : ∀ n,g = .some n→1≤n∧n≤16) (hr : s.rule=none) (hroom : s.room=true) (hl : s.stack.length < 6) : s.parts (X9 g)=some { s with stack:=⟨g,[]⟩ :: s.stack }:=by
  have n1 : ("all" : Str)≠"often":=by decide +kernel
  have n2 : ("some" : Str)≠"often":=by decide +kernel
  have eg : yp (X9 g)=some g:=by
    cases g with
    | all=>exact XA
    | some n =>
      have hn:=hg n rfl
      show yp ["some",num n,"of"]=_
      rw [Yz rfl rfl,wM (by omega) (z5 (by omega)) hn.1 hn.2]
      rfl
  rw [WX hr ?_ ?_,eg]
  · show (if s.stack.length=6∨s.room=false then none else some { s with stack:=⟨g,[]⟩ :: s.stack })=_
    rw [if_neg (fun z=>z.elim (fun z=>by omega) (fun z=>by rw [hroom] at z; cases z))]
  · cases g with
    | all=>exact fun z=>n1 (Option.some.inj z)
    | some n=>exact fun z=>n2 (Option.some.inj z)
  · cases g with
    | all=>exact .inl rfl
    | some n=>exact .inr rfl
mutual
theorem zbM : ∀ (r : za) (s : RS) (t : List Str),r.Good→s.rule=none→s.room=true→s.stack.length + r.depth≤6→s.leaves + r.leaves.length≤16→run s (zj r ++ t)=run (RS.put { s with leaves:=s.leaves + r.leaves.length } r) t
  | .leaf l,s,t,h,hr,hroom,_,hl=>by
    have e1 : (za.leaf l).leaves=[l]:=by unfold za.leaves; rfl
    rw [e1] at hl ⊢
    have e2 : zj (.leaf l)=[xX l]:=by unfold zj; rfl
    rw [e2]
    unfold za.Good at h
    exact Zw (zbJ h) (zfo h hr hroom (by simp only [List.length_cons,List.length_nil] at hl; omega))
  | .z8 rs,s,t,h,hr,hroom,hd,hl=>by
    have e1 : (za.z8 rs).leaves=za.zo rs:=by unfold za.leaves; rfl
    have e2 : zj (.z8 rs)=yJ .all :: (zq rs ++ (["end"] : List Str)):=by unfold zj; rfl
    have e3 : (za.z8 rs).depth=za.zC rs + 1:=by unfold za.depth; rfl
    rw [e3] at hd
    rw [e1] at hl ⊢
    rw [e2]
    unfold za.Good at h
    rw [List.cons_append,Zw (YW (g := .all) (fun n z=>nomatch z)) (zaa (fun n z=>nomatch z) hr hroom (by omega)),List.append_assoc]
    rw [Wa rs ⟨s.zl,⟨.all,[]⟩ :: s.stack,s.leaves,s.rule⟩ .all [] s.stack ((["end"] : List Str) ++ t) h.2.2 rfl hr (by show s.stack.length + 1 + _≤6; omega) hl (by simpa using h.2.1)]
    refine Zw row_end ?_
    rw [X4 (by exact hr) rfl,YV (g:=⟨.all,[] ++ rs⟩) (gs:=s.stack) rfl]
    have hp : 0 < rs.length:=List.length_pos_iff.mpr h.1
    rw [if_neg (by show ¬ ((([] ++ rs).length : Nat) : Int) < 1; rw [List.nil_append]; omega)]
    rfl
  | .z9 n rs,s,t,h,hr,hroom,hd,hl=>by
    have e1 : (za.z9 n rs).leaves=za.zo rs:=by unfold za.leaves; rfl
    have e2 : zj (.z9 n rs)=yJ (.some n) :: (zq rs ++ (["end"] : List Str)):=by unfold zj; rfl
    have e3 : (za.z9 n rs).depth=za.zC rs + 1:=by unfold za.depth; rfl
    rw [e3] at hd
    rw [e1] at hl ⊢
    rw [e2]
    unfold za.Good at h
    have hn : ∀ m,yd.some n = .some m→1≤m∧m≤16:=fun m z=>by
      have:=yd.some.inj z
      have:=h.1
      have:=h.2.1
      omega
    rw [List.cons_append,Zw (YW hn) (zaa hn hr hroom (by omega)),List.append_assoc]
    rw [Wa rs ⟨s.zl,⟨.some n,[]⟩ :: s.stack,s.leaves,s.rule⟩ (.some n) [] s.stack ((["end"] : List Str) ++ t) h.2.2 rfl hr (by show s.stack.length + 1 + _≤6; omega) hl (by simpa using h.2.1)]
    refine Zw row_end ?_
    rw [X4 (by exact hr) rfl,YV (g:=⟨.some n,[] ++ rs⟩) (gs:=s.stack) rfl]
    have:=h.1
    rw [if_neg (by show ¬ ((([] ++ rs).length : Nat) : Int) < n; rw [List.nil_append]; omega)]
    rfl
theorem Wa : ∀ (rs : List za) (s : RS) (g : yd) (done : List za) (st : List Grp) (t : List Str),za.yh rs→s.stack=⟨g,done⟩ :: st→s.rule=none→s.stack.length + za.zC rs≤6→s.leaves + (za.zo rs).length≤16→done.length + rs.length≤16 →
    run s (zq rs ++ t)=run { s with leaves:=s.leaves + (za.zo rs).length,stack:=⟨g,done ++ rs⟩ :: st } t
  | [],s,g,done,st,t,_,hs,_,_,_,_=>by
    rw [xh,List.nil_append,za.Yc,List.append_nil,← hs]
    rfl
  | r :: rs,s,g,done,st,t,h,hs,hr,hd,hl,hlen=>by
    unfold za.yh at h
    have hd' : s.stack.length + max r.depth (za.zC rs)≤6:=by
      have e : za.zC (r :: rs)=max r.depth (za.zC rs):=by simp only [za.zC]
      rw [e] at hd
      exact hd
    rw [za.ve,List.length_append] at hl ⊢
    rw [List.length_cons] at hlen
    have hroom : s.room=true:=by rw [Z3 hs]; exact decide_eq_true (by show done.length < 16; omega)
    rw [xu,List.append_assoc,zbM r s (zq rs ++ t) h.1 hr hroom (by omega) (by omega)]
    rw [YU (s:={ s with leaves:=s.leaves + r.leaves.length }) hs]
    have:=Wa rs { s with leaves:=s.leaves + r.leaves.length,stack:=⟨g,done ++ [r]⟩ :: st } g (done ++ [r]) st t h.2 rfl hr (by show st.length + 1 + _≤6; rw [hs] at hd'; simp only [List.length_cons] at hd'; omega) (by show s.leaves + r.leaves.length + _≤16; omega) (by rw [List.length_append,List.length_singleton]; omega)
    rw [List.append_assoc] at this
    rw [show (s.leaves + (r.leaves.length + (za.zo rs).length))=s.leaves + r.leaves.length + (za.zo rs).length by omega]
    exact this
end
theorem zdF : ∀ (os done : List (Str × Int)) (t : List Str),(∀ p∈os,isWord p.1=true)→(∀ p∈os,1≤p.2∧p.2≤9)→((done ++ os).map (fun p=>p.1)).Nodup→done.length + os.length≤16→run ⟨done,[],0,none⟩ (os.map xN ++ t)=run ⟨done ++ os,[],0,none⟩ t:=by
  intro os
  induction os with
  | nil=>intro done t _ _ _ _; rw [List.map_nil,List.nil_append,List.append_nil]
  | cons p os ih0 =>
    intro done t h1 h2 h3 h4
    rw [List.length_cons] at h4
    have hp1:=h1 p (List.mem_cons_self ..)
    have hp2:=h2 p (List.mem_cons_self ..)
    have hnd : p.1∉done.map (fun p=>p.1):=fun z=>by
      rw [List.map_append] at h3
      exact (List.nodup_append.mp h3).2.2 p.1 z p.1 (by rw [List.map_cons]; exact List.mem_cons_self ..) rfl
    rw [List.map_cons,List.cons_append,Zw (zc6 hp1 hp2) (s':=⟨done ++ [p],[],0,none⟩) ?_]
    · have ih:=ih0 (done ++ [p]) t (fun x hx=>h1 x (List.mem_cons_of_mem _ hx)) (fun x hx=>h2 x (List.mem_cons_of_mem _ hx)) (by rw [List.append_assoc]; exact h3) (by rw [List.length_append,List.length_singleton]; omega)
      rw [List.append_assoc] at ih
      exact ih
    · rw [WW rfl rfl,VC rfl (by show done.length≠16; omega) hp1 (wM (by omega) (z5 (by omega)) hp2.1 hp2.2)]
      show (if p.1∈done.map (fun p=>p.1) then none else some (⟨done ++ [(p.1,p.2)],[],0,none⟩ : RS))=_
      rw [if_neg hnd]
theorem zdG {c : yM} (h : c.Good) : run RS.new (zO c)=some ⟨c.zl,[],c.rule.leaves.length,some c.rule⟩:=by
  unfold zO RS.new
  rw [zdF c.zl [] (zj c.rule) h.words h.nums (by rw [List.nil_append]; exact h.nodup) (by rw [List.length_nil]; have:=h.few; omega),List.nil_append]
  have e:=zbM c.rule ⟨c.zl,[],0,none⟩ [] h.rule rfl rfl (by show 0 + _≤6; have:=h.deep; omega) (by show 0 + _≤16; have:=h.leaves; omega)
  rw [List.append_nil] at e
  rw [e,Wu rfl]
  show some (⟨c.zl,[],0 + c.rule.leaves.length,some c.rule⟩ : RS)=_
  rw [Nat.zero_add]
end CT
namespace CT
open PySem L2 L3 L4 CW CF
noncomputable def yY : ze→List (Str × Int)
  | .frm _ _ a b c=>[("level",a),("mark",b),("worth",c)]
  | .off _ _ b c=>[("mark",b),("worth",c)]
theorem zfp (l : ze) : zP l=(yY l).flatMap fun p=>zk p.1 p.2:=by
  cases l with
  | frm n ws a b c =>
    show _=zk "level" a ++ (zk "mark" b ++ (zk "worth" c ++ []))
    rw [List.append_nil]
    rfl
  | off n ws b c =>
    show _=zk "mark" b ++ (zk "worth" c ++ [])
    rw [List.append_nil]
    rfl
theorem zdH {l : ze} (h : l.Good) : ∀ p∈yY l,p.1∈(["level","mark","worth"] : List Str)∧0≤p.2∧p.2 < 10 ^ 60:=by
  cases l with
  | frm n ws a b c =>
    obtain ⟨g1,g2,g3,g4,g5⟩:=h
    intro p hp
    simp only [yY,List.mem_cons,List.not_mem_nil,or_false] at hp
    rcases hp with rfl | rfl | rfl
    · exact ⟨List.mem_cons_self ..,g3⟩
    · exact ⟨List.mem_cons_of_mem _ (List.mem_cons_self ..),g4⟩
    · exact ⟨List.mem_cons_of_mem _ (List.mem_cons_of_mem _ (List.mem_cons_self ..)),by omega,z5 (by omega)⟩
  | off n ws b c =>
    obtain ⟨g1,g0,g2,g4,g5⟩:=h
    intro p hp
    simp only [yY,List.mem_cons,List.not_mem_nil,or_false] at hp
    rcases hp with rfl | rfl
    · exact ⟨List.mem_cons_of_mem _ (List.mem_cons_self ..),g4⟩
    · exact ⟨List.mem_cons_of_mem _ (List.mem_cons_of_mem _ (List.mem_cons_self ..)),by omega,z5 (by omega)⟩
theorem zis (l : ze) : l.tl=(yY l).map fun p=>V.int p.2:=by cases l <;> rfl
theorem zcN (l : ze) : (yY l).length≤3∧(yY l).length=l.tl.length:=by
  cases l with
  | frm n ws a b c=>exact ⟨Nat.le_refl 3,rfl⟩
  | off n ws b c=>exact ⟨Nat.le_succ 2,rfl⟩
theorem zc7 {l : ze} (h : l.Good) : 0≤ze.want l∧ze.want l≤60:=by
  cases l with
  | frm n ws a b c=>exact h.2.1
  | off n ws b c=>exact h.2.2.1
theorem VE {l : ze} (h : l.Good) : Zv l.words:=by
  cases l with
  | frm n ws a b c=>exact h.1
  | off n ws b c=>exact h.1
theorem zhm (l : ze) (v : V) : l.items v = .str (ze.kind' l) :: .int (ze.want l) :: v :: l.tl:=by cases l <;> rfl
mutual
theorem YX : ∀ {r : za},r.Good→(zj r).length≤r.leaves.length * (1 + 2 * r.depth)
  | .leaf l,_=>by
    have e1 : (za.leaf l).leaves=[l]:=by unfold za.leaves; rfl
    have e2 : zj (.leaf l)=[xX l]:=by unfold zj; rfl
    have e3 : (za.leaf l).depth=0:=by unfold za.depth; rfl
    rw [e1,e2,e3]
    exact Nat.le_refl _
  | .z8 rs,h=>by
    have hne:=za.Z0 h
    have e1 : (za.z8 rs).leaves=za.zo rs:=by unfold za.leaves; rfl
    have e2 : zj (.z8 rs)=yJ .all :: (zq rs ++ (["end"] : List Str)):=by unfold zj; rfl
    have e3 : (za.z8 rs).depth=za.zC rs + 1:=by unfold za.depth; rfl
    rw [e1] at hne
    unfold za.Good at h
    have ih:=Wb h.2.2
    have hp : 0 < (za.zo rs).length:=List.length_pos_iff.mpr hne
    rw [e1,e2,e3,List.length_cons,List.length_append,List.length_singleton]
    rw [show 1 + 2 * (za.zC rs + 1)=(1 + 2 * za.zC rs) + 2 by omega,Nat.mul_add]
    omega
  | .z9 n rs,h=>by
    have hne:=za.Z0 h
    have e1 : (za.z9 n rs).leaves=za.zo rs:=by unfold za.leaves; rfl
    have e2 : zj (.z9 n rs)=yJ (.some n) :: (zq rs ++ (["end"] : List Str)):=by unfold zj; rfl
    have e3 : (za.z9 n rs).depth=za.zC rs + 1:=by unfold za.depth; rfl
    rw [e1] at hne
    unfold za.Good at h
    have ih:=Wb h.2.2
    have hp : 0 < (za.zo rs).length:=List.length_pos_iff.mpr hne
    rw [e1,e2,e3,List.length_cons,List.length_append,List.length_singleton]
    rw [show 1 + 2 * (za.zC rs + 1)=(1 + 2 * za.zC rs) + 2 by omega,Nat.mul_add]
    omega
theorem Wb : ∀ {rs : List za},za.yh rs→(zq rs).length≤(za.zo rs).length * (1 + 2 * za.zC rs)
  | [],_=>by rw [xh]; exact Nat.zero_le _
  | r :: rs,h=>by
    unfold za.yh at h
    have h1:=YX h.1
    have h2:=Wb h.2
    have e : za.zC (r :: rs)=max r.depth (za.zC rs):=by simp only [za.zC]
    rw [xu,za.ve,List.length_append,List.length_append,e,Nat.add_mul]
    have m1 : r.leaves.length * (1 + 2 * r.depth)≤r.leaves.length * (1 + 2 * max r.depth (za.zC rs)):=Nat.mul_le_mul_left _ (by omega)
    have m2 : (za.zo rs).length * (1 + 2 * za.zC rs)≤(za.zo rs).length * (1 + 2 * max r.depth (za.zC rs)):=Nat.mul_le_mul_left _ (by omega)
    omega
end
mutual
theorem zab : ∀ {r : za},r.Good→∀ x∈zj r,∃ ps,wV x ps
  | .leaf l,h,x,hx=>by
    unfold zj at hx
    unfold za.Good at h
    rw [List.mem_singleton.mp hx]
    exact ⟨_,zbJ h⟩
  | .z8 rs,h,x,hx=>by
    have e2 : zj (.z8 rs)=yJ .all :: (zq rs ++ (["end"] : List Str)):=by unfold zj; rfl
    rw [e2] at hx
    unfold za.Good at h
    rcases List.mem_cons.mp hx with rfl | hx
    · exact ⟨_,YW (fun n z=>nomatch z)⟩
    rcases List.mem_append.mp hx with hx | hx
    · exact YY h.2.2 x hx
    · rw [List.mem_singleton.mp hx]; exact ⟨_,row_end⟩
  | .z9 n rs,h,x,hx=>by
    have e2 : zj (.z9 n rs)=yJ (.some n) :: (zq rs ++ (["end"] : List Str)):=by unfold zj; rfl
    rw [e2] at hx
    unfold za.Good at h
    rcases List.mem_cons.mp hx with rfl | hx
    · exact ⟨_,YW (fun m z=>by have:=yd.some.inj z; have:=h.1; have:=h.2.1; omega)⟩
    rcases List.mem_append.mp hx with hx | hx
    · exact YY h.2.2 x hx
    · rw [List.mem_singleton.mp hx]; exact ⟨_,row_end⟩
theorem YY : ∀ {rs : List za},za.yh rs→∀ x∈zq rs,∃ ps,wV x ps
  | [],_,x,hx=>by rw [xh] at hx; cases hx
  | r :: rs,h,x,hx=>by
    unfold za.yh at h
    rw [xu] at hx
    rcases List.mem_append.mp hx with hx | hx
    · exact zab h.1 x hx
    · exact YY h.2 x hx
end
theorem Yh {c : yM} (h : c.Good) : (∀ x∈zO c,∃ ps,wV x ps)∧(zO c).length≤300∧zO c≠[]:=by
  unfold zO
  refine ⟨fun x hx=>?_,?_,fun z=>?_⟩
  · rcases List.mem_append.mp hx with hx | hx
    · obtain ⟨p,hp,rfl⟩:=List.mem_map.mp hx
      exact ⟨_,zc6 (h.words p hp) (h.nums p hp)⟩
    · exact zab h.rule x hx
  · have h1:=YX h.rule
    have h2:=h.few
    have h3 : c.rule.leaves.length * (1 + 2 * c.rule.depth)≤16 * 13:=Nat.mul_le_mul h.leaves (by have:=h.deep; omega)
    rw [List.length_append,List.length_map]
    omega
  · have:=(List.append_eq_nil_iff.mp z).2
    cases hr : c.rule with
    | leaf l=>rw [hr] at this; unfold zj at this; cases this
    | z8 rs=>rw [hr] at this; unfold zj at this; cases this
    | z9 n rs=>rw [hr] at this; unfold zj at this; cases this
end CT
set_option maxHeartbeats 4000000
namespace K21
open PySem PySem.Spec PyProof.Rows L2 L3 L4 L5
seal L2.PE L2.PT L2.PW L2.PA L2.PS L2.PSs L2.PG L2.PGs L2.PI L2.PC L2.PO L3.PF L3.Jp L2.OpR L2.CallR L2.IxR L2.SlR
noncomputable def top (i : Nat) : Stmt:=PySem.Challenge.pw_court_k21_whole_courses_read_back.main.body.getD i (.Pass ⟨0,0,0,0⟩)
noncomputable abbrev YZ : Stmt:=(top 1)
noncomputable def ziW : List Str:=["rule"]
theorem zkC : FnScope ziW ["rule"] (defScope YZ):=⟨rfl,rfl,rfl,by decide +kernel,rfl,by decide +kernel,by decide +kernel⟩
noncomputable abbrev vC : Stmt:=(top 2)
noncomputable def zhn : List Str:=["group"]
theorem ziX : FnScope zhn ["group"] (defScope vC):=⟨rfl,rfl,rfl,by decide +kernel,rfl,by decide +kernel,by decide +kernel⟩
noncomputable abbrev wB : Stmt:=(top 12)
noncomputable def zaA : List Str:=["text","signs"]
theorem ziY : FnScope zaA ["text","signs"] (defScope wB):=⟨rfl,rfl,rfl,by decide +kernel,rfl,by decide +kernel,by decide +kernel⟩
noncomputable abbrev zV : Stmt:=(top 13)
noncomputable def vZ : List Str:=["thing"]
theorem ziZ : FnScope vZ ["thing"] (defScope zV):=⟨rfl,rfl,rfl,by decide +kernel,rfl,by decide +kernel,by decide +kernel⟩
noncomputable abbrev xO : Stmt:=(top 14)
noncomputable def Wx : List Str:=["text"]
theorem zi0 : FnScope Wx ["text"] (defScope xO):=⟨rfl,rfl,rfl,by decide +kernel,rfl,by decide +kernel,by decide +kernel⟩
noncomputable abbrev yZ : Stmt:=(top 26)
noncomputable def Zl : List Str:=["text","least","most","number"]
theorem zi1 : FnScope Zl ["text","least","most"] (defScope yZ):=⟨rfl,rfl,rfl,by decide +kernel,rfl,by decide +kernel,by decide +kernel⟩
noncomputable abbrev xD : Stmt:=(top 27)
noncomputable def W8 : List Str:=["words"]
theorem zkD : FnScope W8 ["words"] (defScope xD):=⟨rfl,rfl,rfl,by decide +kernel,rfl,by decide +kernel,by decide +kernel⟩
noncomputable abbrev yQ : Stmt:=(top 28)
noncomputable def v7 : List Str:=["parts","words"]
theorem zi2 : FnScope v7 ["parts"] (defScope yQ):=⟨rfl,rfl,rfl,by decide +kernel,rfl,by decide +kernel,by decide +kernel⟩
noncomputable abbrev zS : Stmt:=(top 29)
noncomputable def yC : List Str:=["parts","keys","values","place","key"]
theorem zi3 : FnScope yC ["parts","keys"] (defScope zS):=⟨rfl,rfl,rfl,by decide +kernel,rfl,by decide +kernel,by decide +kernel⟩
noncomputable abbrev zJ : Stmt:=(top 30)
noncomputable def yD : List Str:=["parts","kind","want","words","values"]
theorem zi4 : FnScope yD ["parts"] (defScope zJ):=⟨rfl,rfl,rfl,by decide +kernel,rfl,by decide +kernel,by decide +kernel⟩
noncomputable abbrev xB : Stmt:=(top 31)
noncomputable def Zm : List Str:=["parts","many"]
theorem zi5 : FnScope Zm ["parts"] (defScope xB):=⟨rfl,rfl,rfl,by decide +kernel,rfl,by decide +kernel,by decide +kernel⟩
noncomputable abbrev Zn : Stmt:=(top 32)
noncomputable def zdI : List Str:=["group"]
theorem zi6 : FnScope zdI ["group"] (defScope Zn):=⟨rfl,rfl,rfl,by decide +kernel,rfl,by decide +kernel,by decide +kernel⟩
noncomputable abbrev ZJ : Stmt:=(inClass (top 33) 0)
noncomputable def zbN : List Str:=["self"]
theorem zkE : FnScope zbN ["self"] (defScope ZJ):=⟨rfl,rfl,rfl,by decide +kernel,rfl,by decide +kernel,by decide +kernel⟩
noncomputable abbrev xE : Stmt:=(inClass (top 33) 1)
noncomputable def v8 : List Str:=["self","row","parts"]
theorem zkF : FnScope v8 ["self","row"] (defScope xE):=⟨rfl,rfl,rfl,by decide +kernel,rfl,by decide +kernel,by decide +kernel⟩
noncomputable abbrev yo : Stmt:=(inClass (top 33) 2)
noncomputable def vJ : List Str:=["self","parts","often"]
theorem zkG : FnScope vJ ["self","parts"] (defScope yo):=⟨rfl,rfl,rfl,by decide +kernel,rfl,by decide +kernel,by decide +kernel⟩
noncomputable abbrev v9 : Stmt:=(inClass (top 33) 3)
noncomputable def JA : List Str:=["self","group"]
theorem zkH : FnScope JA ["self","group"] (defScope v9):=⟨rfl,rfl,rfl,by decide +kernel,rfl,by decide +kernel,by decide +kernel⟩
noncomputable abbrev wU : Stmt:=(inClass (top 33) 4)
noncomputable def Wc : List Str:=["self","group"]
theorem zkI : FnScope Wc ["self"] (defScope wU):=⟨rfl,rfl,rfl,by decide +kernel,rfl,by decide +kernel,by decide +kernel⟩
noncomputable abbrev vK : Stmt:=(inClass (top 33) 5)
noncomputable def Wd : List Str:=["self","leaf"]
theorem zkJ : FnScope Wd ["self","leaf"] (defScope vK):=⟨rfl,rfl,rfl,by decide +kernel,rfl,by decide +kernel,by decide +kernel⟩
noncomputable abbrev ja : Stmt:=(inClass (top 33) 6)
noncomputable def zgI : List Str:=["self"]
theorem zkK : FnScope zgI ["self"] (defScope ja):=⟨rfl,rfl,rfl,by decide +kernel,rfl,by decide +kernel,by decide +kernel⟩
noncomputable abbrev vL : Stmt:=(inClass (top 33) 7)
noncomputable def JB : List Str:=["self","rule"]
theorem zkL : FnScope JB ["self","rule"] (defScope vL):=⟨rfl,rfl,rfl,by decide +kernel,rfl,by decide +kernel,by decide +kernel⟩
noncomputable abbrev y9 : Stmt:=(top 34)
noncomputable def vD : List Str:=["text","reader","rows","number","row"]
theorem zi7 : FnScope vD ["text"] (defScope y9):=⟨rfl,rfl,rfl,by decide +kernel,rfl,by decide +kernel,by decide +kernel⟩
noncomputable abbrev yb : Stmt:=(top 35)
noncomputable def xS : List Str:=["leaf","shown","key","value"]
theorem zi8 : FnScope xS ["leaf"] (defScope yb):=⟨rfl,rfl,rfl,by decide +kernel,rfl,by decide +kernel,by decide +kernel⟩
noncomputable abbrev vE : Stmt:=(top 36)
noncomputable def VF : List Str:=["group","many"]
theorem zi9 : FnScope VF ["group"] (defScope vE):=⟨rfl,rfl,rfl,by decide +kernel,rfl,by decide +kernel,by decide +kernel⟩
noncomputable abbrev yE : Stmt:=(top 37)
noncomputable def jb : List Str:=["rule","rows","inner"]
theorem zja : FnScope jb ["rule"] (defScope yE):=⟨rfl,rfl,rfl,by decide +kernel,rfl,by decide +kernel,by decide +kernel⟩
noncomputable abbrev xC : Stmt:=(top 38)
noncomputable def Y0 : List Str:=["course","rows"]
theorem zjb : FnScope Y0 ["course"] (defScope xC):=⟨rfl,rfl,rfl,by decide +kernel,rfl,by decide +kernel,by decide +kernel⟩
noncomputable abbrev vF : Stmt:=(top 40)
noncomputable def VG : List Str:=["_law_script","_law_k"]
theorem zjc : FnScope VG ["_law_script","_law_k"] (defScope vF):=⟨rfl,rfl,rfl,by decide +kernel,rfl,by decide +kernel,by decide +kernel⟩
noncomputable abbrev yF : Stmt:=(top 41)
noncomputable def xT : List Str:=["_law_cell","_law_k","_law_size","_law_place"]
theorem zjd : FnScope xT ["_law_cell","_law_k"] (defScope yF):=⟨rfl,rfl,rfl,by decide +kernel,rfl,by decide +kernel,by decide +kernel⟩
noncomputable abbrev jP : Stmt:=(top 42)
noncomputable def zaB : List Str:=["_law_cell"]
theorem zje : FnScope zaB ["_law_cell"] (defScope jP):=⟨rfl,rfl,rfl,by decide +kernel,rfl,by decide +kernel,by decide +kernel⟩
noncomputable abbrev zE : Stmt:=(top 43)
noncomputable def zT : List Str:=["_law_head","_law_cell","_law_words","_law_k","_law_word_here","_law_want","_law_worth"]
theorem zjf : FnScope zT ["_law_head","_law_cell"] (defScope zE):=⟨rfl,rfl,rfl,by decide +kernel,rfl,by decide +kernel,by decide +kernel⟩
noncomputable abbrev yR : Stmt:=(top 44)
noncomputable def vj : List Str:=["_law_frames","_law_cell","_law_last","_law_rule_here"]
theorem zjg : FnScope vj ["_law_frames","_law_cell"] (defScope yR):=⟨rfl,rfl,rfl,by decide +kernel,rfl,by decide +kernel,by decide +kernel⟩
noncomputable abbrev zx : Stmt:=(top 45)
noncomputable def zU : List Str:=["_law_head","_law_cells","_law_frames","_law_leaves","_law_cell"]
theorem zjh : FnScope zU ["_law_head","_law_cells"] (defScope zx):=⟨rfl,rfl,rfl,by decide +kernel,rfl,by decide +kernel,by decide +kernel⟩
noncomputable abbrev yj : Stmt:=(top 46)
noncomputable def wW : List Str:=["_law_script","_law_head","_law_oftens","_law_k"]
theorem zji : FnScope wW ["_law_script"] (defScope yj):=⟨rfl,rfl,rfl,by decide +kernel,rfl,by decide +kernel,by decide +kernel⟩
noncomputable abbrev zW : Stmt:=(top 47)
noncomputable def yL : List Str:=["_law_leaf_here","_law_line"]
theorem zjj : FnScope yL ["_law_leaf_here"] (defScope zW):=⟨rfl,rfl,rfl,by decide +kernel,rfl,by decide +kernel,by decide +kernel⟩
noncomputable abbrev yw : Stmt:=(top 48)
noncomputable def wX : List Str:=["_law_rule_here","_law_lines_here","_law_one"]
theorem zjk : FnScope wX ["_law_rule_here"] (defScope yw):=⟨rfl,rfl,rfl,by decide +kernel,rfl,by decide +kernel,by decide +kernel⟩
noncomputable abbrev ye : Stmt:=(top 49)
noncomputable def jQ : List Str:=["_law_thing"]
theorem zjl : FnScope jQ ["_law_thing"] (defScope ye):=⟨rfl,rfl,rfl,by decide +kernel,rfl,by decide +kernel,by decide +kernel⟩
noncomputable abbrev zw : Stmt:=(top 50)
noncomputable def xq : List Str:=["_law_found","_law_due"]
theorem zjm : FnScope xq ["_law_found","_law_due"] (defScope zw):=⟨rfl,rfl,rfl,by decide +kernel,rfl,by decide +kernel,by decide +kernel⟩
noncomputable abbrev zB : Stmt:=(top 51)
noncomputable def yi : List Str:=["_law_script","_law_course_here","_law_lines_here","_law_handed","_law_text","_law_found"]
theorem zjn : FnScope yi ["_law_script"] (defScope zB):=⟨rfl,rfl,rfl,by decide +kernel,rfl,by decide +kernel,by decide +kernel⟩
set_option genInjectivity false in
set_option genSizeOf false in
structure Adr where
  YA : Addr
  xw : Addr
  YB : Addr
  YC : Addr
  We : Addr
  yS : Addr
  Wf : Addr
  Yi : Addr
  Yj : Addr
  Wg : Addr
  Y3 : Addr
  Yk : Addr
  xZ : Addr
  vt : Addr
  xF : Addr
  xG : Addr
  wc : Addr
  xR : Addr
  yq : Addr
  yr : Addr
  Yl : Addr
  jX : Addr
  jY : Addr
  yG : Addr
  Ym : Addr
  Yn : Addr
  ZK : Addr
  Y4 : Addr
  W9 : Addr
  Y5 : Addr
  Va : Addr
  Y6 : Addr
  wF : Addr
  xP : Addr
  xx : Addr
  xr : Addr
  zd : Addr
  yX : Addr
  yT : Addr
  zY : Addr
  yt : Addr
  vM : Addr
  vN : Addr
structure Txt (K : PySem.W.Frag) (mg : Str→Option Value) (a : Adr) : Prop where
  zlx : mg "is_leaf"=some (.ref a.YA)
  zaC : mg "rules_of"=some (.ref a.xw)
  zdJ : mg "only_of"=some (.ref a.YB)
  zho : mg "is_word"=some (.ref a.YC)
  zkM : mg "is_number"=some (.ref a.We)
  zaD : mg "read_number"=some (.ref a.yS)
  zly : mg "are_words"=some (.ref a.Wf)
  zkN : mg "words_ahead"=some (.ref a.Yi)
  zkO : mg "read_values"=some (.ref a.Yj)
  zkP : mg "read_leaf"=some (.ref a.Wg)
  zkQ : mg "read_group"=some (.ref a.Y3)
  zkR : mg "least_rules"=some (.ref a.Yk)
  zhp : mg "read_course"=some (.ref a.Yl)
  zkS : mg "show_leaf"=some (.ref a.jX)
  zkT : mg "show_head"=some (.ref a.jY)
  zhq : mg "rows_of_rule"=some (.ref a.yG)
  zkU : mg "show_course"=some (.ref a.Ym)
  zdK : mg "_law_cell_at"=some (.ref a.Yn)
  zdL : mg "_law_word"=some (.ref a.ZK)
  zdM : mg "_law_number"=some (.ref a.Y4)
  zhr : mg "_law_leaf"=some (.ref a.W9)
  zhs : mg "_law_closed"=some (.ref a.Y5)
  zkV : mg "_law_rule"=some (.ref a.Va)
  zkW : mg "_law_course"=some (.ref a.Y6)
  zkX : mg "_law_leaf_line"=some (.ref a.wF)
  zht : mg "_law_lines"=some (.ref a.xP)
  zdN : mg "_law_copy"=some (.ref a.xx)
  zaE : mg "_law_alike"=some (.ref a.xr)
  we : mg "CourseReader"=some (.ref a.zd)
  zg : Cls K a.zd
  VH : Mk K a.zd a.xZ
  Yo : Meth K a.zd "take" a.vt
  jF : Meth K a.zd "take_often" a.xF
  jG : Meth K a.zd "take_group" a.xG
  j9 : Meth K a.zd "take_end" a.wc
  jZ : Meth K a.zd "take_leaf" a.xR
  wG : Meth K a.zd "has_room" a.yq
  wH : Meth K a.zd "put_rule" a.yr
  zH : NoAttr K a.zd "oftens"
  zm : NoAttr K a.zd "groups"
  zL : NoAttr K a.zd "leaves"
  zK : NoAttr K a.zd "rule"
  Y7 : mg "all"=none
  Wh : mg "bool"=none
  vB : mg "enumerate"=none
  Wy : mg "int"=none
  zG : mg "isinstance"=none
  zF : mg "len"=none
  j0 : mg "list"=none
  jH : mg "range"=none
  VI : mg "set"=none
  xQ : mg "str"=none
  wN : mg "tuple"=none
  VJ : mg "zip"=none
  Wi : ∃ t,mg "FIGURES"=some (.str "0123456789" t)
  yX : mg "KEYS"=some (.ref a.yX)
  VL : L9.jz K a.yX [("from",V.ref a.vM),("of",V.ref a.vN)]
  zbO : ∀ H,SqT K H a.vM [V.str "level",V.str "mark",V.str "worth"]
  zbP : ∀ H,SqT K H a.vN [V.str "mark",V.str "worth"]
  yT : mg "KEY_WORDS"=some (.ref a.yT)
  zcO : ∀ H,SqT K H a.yT [V.str "often",V.str "all",V.str "some",V.str "of",V.str "from",V.str "any",V.str "or",V.str "level",V.str "mark",V.str "worth",V.str "end"]
  zY : mg "LEFT_OUT"=some (.ref a.zY)
  Y8 : L9.jz K a.zY [("level",V.int 0),("mark",V.int 0),("worth",V.int 1)]
  Z4 : ∃ t,mg "LETTERS"=some (.str "abcdefghijklmnopqrstuvwxyz" t)
  jI : ∃ t,mg "MOST_FIGURES"=some (.int 60 t)
  Za : ∃ t,mg "MOST_GROUPS"=some (.int 6 t)
  Zb : ∃ t,mg "MOST_LEAVES"=some (.int 16 t)
  vm : ∃ t,mg "MOST_LETTERS"=some (.int 12 t)
  ZL : ∃ t,mg "MOST_OFTEN"=some (.int 9 t)
  Zc : ∃ t,mg "MOST_OFTENS"=some (.int 16 t)
  wg : ∃ t,mg "MOST_RULES"=some (.int 16 t)
  Yp : ∃ t,mg "MOST_WANT"=some (.int 60 t)
  ZM : ∃ t,mg "MOST_WORDS"=some (.int 8 t)
  yt : mg "MOST_WRITTEN"=some (.ref a.yt)
  JC : L9.jz K a.yt [("level",V.int 999999999999999999999999999999999999999999999999999999999999),("mark",V.int 999999999999999999999999999999999999999999999999999999999999),("worth",V.int 9)]
section
variable {P : Program} {w : World} {K : PySem.W.Frag} {mg : Str→Option Value} {base : Heap} {a : Adr}
noncomputable def vn (ns : List Int) (k : Int) : Int:=ns.getD k.toNat 0
noncomputable def WI (K : PySem.W.Frag) (vs : List V) (H : Hp) (Q : VK):=fun (a : Addr) (ns : List Int) (k : Int)=>L23.A5 (vs=[.ref a,.int k]) (SqL K H a (ns.map V.int)) (ns.length≤63) (0≤k) (Q (.int (vn ns k)) H)
noncomputable def zfq (K : PySem.W.Frag) : Sp:=fun vs H Q zz=>L23.E3 (WI K vs H Q)
theorem zjo {f : Addr} {fd : FuncData} (F : Fun K "_law_cell_at" "_law_cell_at" vF f fd) (T : Txt K mg a) : FnOk P w K mg base CX0 1 f fd ["_law_script","_law_k"] (zfq K):=by
  refine F.ok zjc (fun vs H Q E h=>?_) (fun cdv A outer s H vs Q E hr h=>?_)
  · obtain ⟨a,ns,k,rfl,zz⟩:=h
    rfl
  · obtain ⟨a,ns,k,rfl,hS,hl,h0,q⟩:=h
    refine ⟨_,(pss_cons (ps_if (pt_cmpR op_lt (pvA 1 (defScope vF) VG rfl rfl) (zf (sc:=defScope vF) call_len rfl (by decide +kernel) T.zF zy (pa_cons (pvA 0 (defScope vF) VG rfl rfl) pa_nil)) (nomark _)) (pss_one (ps_ret (pe_ix ix_seq (pvA 0 (defScope vF) VG rfl rfl) (pvA 1 (defScope vF) VG rfl rfl) (fun zz zz=>rfl)))) pss_nil)
      (pss_one (ps_ret pe_int))),?_⟩
    try dsimp only [cxOf,Cx.nox]
    refine ⟨_,rfl,_,rfl,.ref a,ns.length,rfl,.inl ⟨_,hS,by simp⟩,_,_,rfl,rfl,_,rfl,ite2 (fun hlt=>?_) (fun hge=>?_)⟩
    · have hk : k < (ns.length : Int):=of_decide_eq_true hlt
      refine ⟨_,rfl,_,rfl,.inl ⟨a,_,k,.int (vn ns k),rfl,rfl,hS,?_,q⟩⟩
      have hk' : k.toNat < ns.length:=by omega
      have e : (k.toNat : Int)=k:=Int.toNat_of_nonneg h0
      rw [← e]
      refine atI_nat ?_
      rw [List.getElem?_map,List.getElem?_eq_getElem hk']
      unfold vn
      rw [Int.toNat_natCast,List.getD_eq_getElem?_getD,List.getElem?_eq_getElem hk']
      rfl
    · have hk : ¬ k < (ns.length : Int):=fun z=>hge (decide_eq_true z)
      have e : vn ns k=0:=by
        unfold vn
        rw [List.getD_eq_getElem?_getD,List.getElem?_eq_none (by omega)]
        rfl
      rw [e] at q
      exact q
noncomputable abbrev wordOf:=CN.YN
theorem JD (c k : Int) : CW.isWord (wordOf c k)=true:=CN.zgz c k
theorem zgJ {c i j : Int} (h0 : 0≤i) (h1 : i < 8) (h2 : 0≤j) (h3 : j < 8) (e : wordOf c i=wordOf c j) : i=j:=CN.zfi h0 h1 h2 h3 e
noncomputable def JE (vs : List V) (H : Hp) (Q : VK):=fun (c : Int) (k : Int)=>vs=[.int c,.int k]∧∀ H',Same H H'→Q (.str (wordOf c k)) H'
noncomputable def zbQ (_ : PySem.W.Frag) : Sp:=fun vs H Q zz=>L23.E2 (JE vs H Q)
theorem zjp {f : Addr} {fd : FuncData} (F : Fun K "_law_word" "_law_word" yF f fd) (T : Txt K mg a) : FnOk P w K mg base CX0 1 f fd ["_law_cell","_law_k"] (zbQ K):=by
  refine F.ok zjd (fun vs H Q E h=>?_) (fun cdv A outer s H vs Q E hr h=>?_)
  · obtain ⟨c,k,rfl,zz⟩:=h
    rfl
  · obtain ⟨c,k,rfl,q⟩:=h
    refine ⟨_,(pss_cons (ps_if (pt_cmpR op_eq (pe_op op_mod (pe_op op_fdiv (pvA 0 (defScope yF) xT rfl rfl) pe_int) pe_int) pe_int (nomark _)) (pss_one (ps_ret (pe_op op_add_str pe_str (pe_op Zh pe_str (pe_op op_add pe_int (pe_op op_mod (pvA 1 (defScope yF) xT rfl rfl) pe_int)))))) pss_nil)
      (pss_cons (ps_if (pt_cmpR op_eq (pe_op op_mod (pe_op op_fdiv (pvA 0 (defScope yF) xT rfl rfl) pe_int) pe_int) pe_int (nomark _)) (pss_one (ps_ret (pe_op op_add_str (pe_op Zh pe_str (pe_op op_add pe_int (pe_op op_mod (pvA 1 (defScope yF) xT rfl rfl) pe_int))) pe_str))) pss_nil)
      (pss_cons (ps_if (pt_cmpR op_eq (pe_op op_mod (pe_op op_fdiv (pvA 0 (defScope yF) xT rfl rfl) pe_int) pe_int) pe_int (nomark _)) (pss_one (ps_ret (pe_ix ix_list (pe_lst (pa_cons pe_str (pa_cons pe_str (pa_cons pe_str (pa_cons pe_str (pa_cons pe_str (pa_cons pe_str (pa_cons pe_str (pa_cons pe_str pa_nil))))))))) (pe_op op_mod (pvA 1 (defScope yF) xT rfl rfl) pe_int) (fun zz zz=>rfl)))) pss_nil)
      (pss_cons (psN (i:=2) (sc:=defScope yF) (M:=xT) rfl rfl (by decide +kernel) (pe_op op_add pe_int (pe_op op_mod (pvA 0 (defScope yF) xT rfl rfl) pe_int)))
      (pss_cons (psN (i:=3) (sc:=defScope yF) (M:=xT) rfl rfl (by decide +kernel) (pe_op op_mod (pe_op op_fdiv (pvA 0 (defScope yF) xT rfl rfl) pe_int) (pvA 2 (defScope yF) xT rfl rfl)))
      (pss_one (ps_ret (pe_op op_add_str (pe_op op_add_str (pe_op Zh pe_str (pvA 3 (defScope yF) xT rfl rfl)) (pe_ix ix_str pe_str (pe_op op_mod (pvA 1 (defScope yF) xT rfl rfl) pe_int) (fun zz zz=>rfl))) (pe_op Zh pe_str (pe_op op_sub (pe_op op_sub (pvA 2 (defScope yF) xT rfl rfl) pe_int) (pvA 3 (defScope yF) xT rfl rfl))))))))))),?_⟩
    try dsimp only [cxOf,Cx.nox]
    have hs : sizeLine=16777216:=sizeLine_eq
    have k0 : 0≤k % 8:=Int.emod_nonneg _ (by decide)
    have k1 : k % 8 < 8:=Int.emod_lt_of_pos _ (by decide)
    have ml:=CN.vS (1 + k % 8)
    unfold wordOf CN.YN at q
    refine ⟨_,rfl,_,_,rfl,rfl,⟨by decide,by decide⟩,_,_,rfl,rfl,(by show (0 : Int) < 4; decide),rfl,_,rfl,ite2 (fun h1=>?_) (fun h1=>?_)⟩
    · rw [if_pos (V.int.inj (of_decide_eq_true h1))] at q
      refine ⟨_,rfl,_,_,rfl,rfl,(by show (0 : Int) < 8; decide),_,_,rfl,rfl,_,_,rfl,rfl,by omega,by omega,?_,_,_,rfl,rfl,?_,q _ (Same.refl _)⟩
      · rw [CN.zhl]; omega
      · rw [CN.W5,ml]; omega
    rw [if_neg (fun z=>h1 (decide_eq_true (congrArg V.int z)))] at q
    refine ⟨_,rfl,_,_,rfl,rfl,⟨by decide,by decide⟩,_,_,rfl,rfl,(by show (0 : Int) < 4; decide),rfl,_,rfl,ite2 (fun h2=>?_) (fun h2=>?_)⟩
    · rw [if_pos (V.int.inj (of_decide_eq_true h2))] at q
      refine ⟨_,rfl,_,_,rfl,rfl,(by show (0 : Int) < 8; decide),_,_,rfl,rfl,_,_,rfl,rfl,by omega,by omega,?_,_,_,rfl,rfl,?_,q _ (Same.refl _)⟩
      · rw [CN.zhl]; omega
      · rw [CN.Jt,ml]; omega
    rw [if_neg (fun z=>h2 (decide_eq_true (congrArg V.int z)))] at q
    refine ⟨_,rfl,_,_,rfl,rfl,⟨by decide,by decide⟩,_,_,rfl,rfl,(by show (0 : Int) < 4; decide),rfl,_,rfl,ite2 (fun h3=>?_) (fun h3=>?_)⟩
    · rw [if_pos (V.int.inj (of_decide_eq_true h3))] at q
      exact ⟨by decide,fun p hp=>⟨_,rfl,_,_,rfl,rfl,(by show (0 : Int) < 8; decide),p,_,_,_,rfl,rfl,SqL.of upd_same,(CN.J6 k).2,q _ (Same.zp hp)⟩⟩
    rw [if_neg (fun z=>h3 (decide_eq_true (congrArg V.int z)))] at q
    have c0 : 0≤c % 12:=Int.emod_nonneg _ (by decide)
    have c1 : c % 12 < 12:=Int.emod_lt_of_pos _ (by decide)
    have hp : (0 : Int) < 1 + c % 12:=by omega
    have pq:=CN.zc2 c
    refine ⟨_,rfl,_,_,rfl,rfl,(by show (0 : Int) < 12; decide),_,_,rfl,rfl,?_⟩
    refine ⟨_,rfl,_,_,rfl,rfl,⟨by decide,by decide⟩,_,rfl,_,_,rfl,rfl,hp,?_⟩
    have t1 : CF.Tx 12 (PySem.Txt.mul "q" (CN.placeQ c)):=by rw [CN.zgw]; exact CF.Tx.mul (by decide) (by omega)
    have t3 : CF.Tx 11 (PySem.Txt.mul "q" (1 + c % 12 - 1 - CN.placeQ c)):=by rw [CN.zgw]; exact CF.Tx.mul (by decide) (by omega)
    first | rw [show V.int (c / 12 % (1 + c % 12))=V.int (CN.placeQ c) from rfl] | rw [show (fun i j : Int=>V.int (i % j)) (c / 12) (1 + c % 12)=V.int (CN.placeQ c) from rfl]
    refine ⟨_,rfl,_,_,rfl,rfl,by omega,by omega,?_,_,rfl,_,_,rfl,rfl,(by show (0 : Int) < 8; decide),_,_,_,rfl,rfl,by rw [CN.zii]; omega,(CN.zfb k).1,_,_,rfl,rfl,?_,?_⟩
    · rw [CN.zhk]; omega
    · have:=t1.2
      show _ + 1≤_
      omega
    refine ⟨_,rfl,_,_,rfl,rfl,_,rfl,_,_,rfl,rfl,_,_,rfl,rfl,by omega,by omega,?_,_,_,rfl,rfl,?_,q _ (Same.refl _)⟩
    · rw [CN.zhk]; omega
    · have:=t1.2
      have:=t3.2
      rw [Str.length_append]
      show _ + 1 + _≤_
      omega
noncomputable def Vb (vs : List V) (H : Hp) (Q : VK):=fun (c : Int)=>vs=[.int c]∧∀ z : Int,0≤z→z < 10 ^ 60→Q (.int z) H
noncomputable def zfr (_ : PySem.W.Frag) : Sp:=fun vs H Q zz=>Exists (Vb vs H Q)
theorem zjq {f : Addr} {fd : FuncData} (F : Fun K "_law_number" "_law_number" jP f fd) (T : Txt K mg a) : FnOk P w K mg base CX0 1 f fd ["_law_cell"] (zfr K):=by
  refine F.ok zje (fun vs H Q E h=>?_) (fun cdv A outer s H vs Q E hr h=>?_)
  · obtain ⟨c,rfl,zz⟩:=h
    rfl
  · obtain ⟨c,rfl,q⟩:=h
    refine ⟨_,(pss_cons (ps_if (pt_cmpR op_gt (pe_op op_mod (pvA 0 (defScope jP) zaB rfl rfl) pe_int) pe_int (nomark _)) (pss_one (ps_ret (pe_op op_mod (pe_op op_fdiv (pvA 0 (defScope jP) zaB rfl rfl) pe_int) pe_int))) pss_nil)
      (pss_one (ps_ret (pe_op op_mod (pe_op op_fdiv (pvA 0 (defScope jP) zaB rfl rfl) pe_int) (pe_op op_pow pe_int pe_int))))),?_⟩
    try dsimp only [cxOf,Cx.nox]
    refine ⟨_,rfl,_,_,rfl,rfl,(by show (0 : Int) < 3; decide),_,_,rfl,rfl,_,rfl,ite2 (fun zz=>?_) (fun zz=>?_)⟩
    · have h0 : 0≤c / 3 % 4:=Int.emod_nonneg _ (by decide)
      have h1 : c / 3 % 4 < 4:=Int.emod_lt_of_pos _ (by decide)
      exact ⟨_,rfl,_,_,rfl,rfl,⟨by decide,by decide⟩,_,_,rfl,rfl,(by show (0 : Int) < 4; decide),q _ h0 (Int.lt_trans h1 (by decide))⟩
    · exact ⟨_,rfl,_,_,rfl,rfl,⟨by decide,by decide⟩,_,_,rfl,rfl,⟨by decide,by decide,by decide⟩,_,_,rfl,rfl,(by show (0 : Int) < 10 ^ 60; decide),q _ (Int.emod_nonneg _ (by decide)) (Int.emod_lt_of_pos _ (by decide))⟩
theorem contains_false {ss : List Str} {t : Str} (h : (!inV (V.str t) (ss.map V.str))=true) : t∉ss:=fun z=>by
  rw [ZC,List.contains_iff_mem.mpr z] at h
  cases h
noncomputable def JF (K : PySem.W.Frag) (vs : List V) (H : Hp) (Q : VK):=fun (h : Int) (c : Int) (D : Hp)=>L23.A3 (vs=[.int h,.int c]) (Same D H) (∀ (l : CF.ze) D' H' r,Gr D H D' H'→zc K D' r l.data→l.Good→Q r H')
noncomputable def zfs (K : PySem.W.Frag) : Sp:=fun vs H Q zz=>L23.E3 (JF K vs H Q)
theorem zjr {f : Addr} {fd zbR ZN : FuncData} (F : Fun K "_law_leaf" "_law_leaf" zE f fd) (T : Txt K mg a)
    (VM : FnOk P w K mg base CX0 1 a.Y4 zbR ["_law_cell"] (zfr K)) (Y9 : Fun K "_law_number" "_law_number" jP a.Y4 zbR) (VN : Binds K zbR ["_law_cell"] [])
    (Xa : FnOk P w K mg base CX0 1 a.ZK ZN ["_law_cell","_law_k"] (zbQ K)) (Zo : Fun K "_law_word" "_law_word" yF a.ZK ZN) (Xb : Binds K ZN ["_law_cell","_law_k"] []) : FnOk P w K mg base CX0 2 f fd ["_law_head","_law_cell"] (zfs K):=by
  refine F.ok zjf (fun vs H Q E h=>?_) (fun cdv A outer s H vs Q E hr h=>?_)
  · obtain ⟨h,c,D,rfl,zz⟩:=h
    rfl
  · obtain ⟨hd,c,D,rfl,sD,q⟩:=h
    refine ⟨_,(pss_cons (psN (i:=2) (sc:=defScope zE) (M:=zT) rfl rfl (by decide +kernel) (pe_lst pa_nil))
      (pss_cons (ps_for PassesOwn.never rfl (pi_range1 (glR (sc:=defScope zE) rfl (by decide +kernel)) T.jH (pa_cons (pe_op op_mod (pe_op op_fdiv (pvA 1 (defScope zE) zT rfl rfl) pe_int) pe_int) pa_nil)) (pgN (i:=3) (sc:=defScope zE) (M:=zT) rfl rfl (by decide +kernel)) (pss_cons (psN (i:=4) (sc:=defScope zE) (M:=zT) rfl rfl (by decide +kernel) (zh (sc:=defScope zE) Xa (hr.mono (by decide)) rfl (by decide +kernel) T.zdL Zo.kp Xb .nil pass0 (pa_cons (pvA 0 (defScope zE) zT rfl rfl) (pa_cons (pe_op op_add (pe_op op_fdiv (pvA 1 (defScope zE) zT rfl rfl) pe_int) (pe_op op_mul (pvA 3 (defScope zE) zT rfl rfl) (pe_op op_add pe_int (pe_op op_mod (pe_op op_fdiv (pvA 1 (defScope zE) zT rfl rfl) pe_int) pe_int)))) pa_nil))))
      (pss_one (ps_if (pt_cmpR op_notIn_seq (pvA 4 (defScope zE) zT rfl rfl) (pvA 2 (defScope zE) zT rfl rfl) (by with_unfolding_all rfl)) (pss_one (ps_expr (pe_bm PySem.F.plainAttrs_list PySem.F.slot_list_append PySem.F.type_list_append mt_append (pvA 2 (defScope zE) zT rfl rfl) (pa_cons (pvA 4 (defScope zE) zT rfl rfl) pa_nil)))) pss_nil))))
      (pss_cons (psN (i:=5) (sc:=defScope zE) (M:=zT) rfl rfl (by decide +kernel) (pe_op op_mod (pe_op op_fdiv (pvA 1 (defScope zE) zT rfl rfl) pe_int) pe_int))
      (wJ (ps_if (pt_cmpR op_eq (pe_op op_mod (pvA 1 (defScope zE) zT rfl rfl) pe_int) pe_int (nomark _)) (pss_one (psN (i:=5) (sc:=defScope zE) (M:=zT) rfl rfl (by decide +kernel) (pe_op op_sub pe_int (pe_op op_mod (pe_op op_fdiv (pvA 1 (defScope zE) zT rfl rfl) pe_int) pe_int)))) pss_nil)
      (pss_cons (psN (i:=6) (sc:=defScope zE) (M:=zT) rfl rfl (by decide +kernel) (pe_op op_add pe_int (pe_op op_mul (pe_op op_mod (pe_op op_fdiv (pvA 1 (defScope zE) zT rfl rfl) pe_int) pe_int) (pe_op op_mod (pe_op op_fdiv (pvA 1 (defScope zE) zT rfl rfl) pe_int) pe_int))))
      (pss_cons (ps_if (pt_cmpR op_eq (pe_op op_mod (pvA 1 (defScope zE) zT rfl rfl) pe_int) pe_int (nomark _)) (wJ (ps_if (pt_cmpR (Vn (n:=60) (zdk hr)) (pvA 2 (defScope zE) zT rfl rfl) (pe_lst pa_nil) (nomark _)) (pss_one (psN (i:=2) (sc:=defScope zE) (M:=zT) rfl rfl (by decide +kernel) (pe_lst (pa_cons (zh (sc:=defScope zE) Xa (hr.mono (by decide)) rfl (by decide +kernel) T.zdL Zo.kp Xb .nil pass0 (pa_cons (pvA 0 (defScope zE) zT rfl rfl) (pa_cons (pe_op op_fdiv (pvA 1 (defScope zE) zT rfl rfl) pe_int) pa_nil))) pa_nil)))) pss_nil)
      (pss_one (ps_ret (pe_tup (pa_cons pe_str (pa_cons (pvA 5 (defScope zE) zT rfl rfl) (pa_cons (pvA 2 (defScope zE) zT rfl rfl) (pa_cons (zh (sc:=defScope zE) VM (hr.mono (by decide)) rfl (by decide +kernel) T.zdM Y9.kp VN .nil pass0 (pa_cons (pe_op op_fdiv (pvA 1 (defScope zE) zT rfl rfl) pe_int) pa_nil)) (pa_cons (pvA 6 (defScope zE) zT rfl rfl) pa_nil))))))))) pss_nil)
      (pss_one (ps_ret (pe_tup (pa_cons pe_str (pa_cons (pvA 5 (defScope zE) zT rfl rfl) (pa_cons (pvA 2 (defScope zE) zT rfl rfl) (pa_cons (zh (sc:=defScope zE) VM (hr.mono (by decide)) rfl (by decide +kernel) T.zdM Y9.kp VN .nil pass0 (pa_cons (pe_op op_fdiv (pvA 1 (defScope zE) zT rfl rfl) pe_int) pa_nil)) (pa_cons (zh (sc:=defScope zE) VM (hr.mono (by decide)) rfl (by decide +kernel) T.zdM Y9.kp VN .nil pass0 (pa_cons (pe_op op_fdiv (pvA 1 (defScope zE) zT rfl rfl) pe_int) pa_nil)) (pa_cons (pvA 6 (defScope zE) zT rfl rfl) pa_nil))))))))))))))),?_⟩
    try dsimp only [cxOf,Cx.nox]
    have hs : sizeLine=16777216:=sizeLine_eq
    refine ⟨by first | decide | (simp only [List.length_cons,List.length_nil,List.length_append,List.length_map]; decide),fun p hp=>?_⟩
    have n0 : 0≤c / 3 % 9:=Int.emod_nonneg _ (by decide)
    have n1 : c / 3 % 9 < 9:=Int.emod_lt_of_pos _ (by decide)
    have b0 : 0≤c / 96 % 7:=Int.emod_nonneg _ (by decide)
    have b1 : c / 96 % 7 < 7:=Int.emod_lt_of_pos _ (by decide)
    refine ⟨_,rfl,_,_,rfl,rfl,⟨by decide,by decide⟩,_,_,rfl,rfl,(by show (0 : Int) < 9; decide),_,rfl,by omega,by omega,?_⟩
    refine for_range (fun i σ H'=>L23.E3 fun ss v3 v4=>L23.A6 (σ=[some (.int hd),some (.int c),some (.ref p),v3,v4,none,none]) (Same H H') (H' p=some (.lst (ss.map V.str))) ((∀ t∈ss,CW.isWord t=true)) (ss.Nodup) (ss.length≤i)) ⟨[],_,_,rfl,Same.zp hp,upd_same,(fun t ht=>nomatch ht),List.nodup_nil,Nat.le_refl _⟩ ?_ ?_
    · rintro i σ H1 hi ⟨ss,v4,v5,rfl,s1,e1,ht,hnd,hl⟩
      refine ⟨_,rfl,_,rfl,_,_,rfl,rfl,⟨by decide,by decide⟩,_,rfl,_,rfl,_,_,rfl,rfl,⟨by decide,by decide⟩,_,_,rfl,rfl,(by show (0 : Int) < 7; decide),_,_,rfl,rfl,_,_,rfl,rfl,.inl ⟨by omega,by omega⟩,_,_,rfl,rfl,_,_,rfl,fun H2 s2=>?_⟩
      have e2:=s2 _ _ e1
      refine ⟨_,rfl,_,rfl,p,_,rfl,.inl (SqL.of e2),rfl,CF.XY ss,_,rfl,ite2 (fun hn=>?_) (fun zz=>?_)⟩
      · refine ⟨_,rfl,.inl ⟨rfl,_,SqL.of e2⟩,_,rfl,p,_,_,rfl,rfl,e2,by rw [List.length_map]; omega,ss ++ [wordOf hd (c / 12 + (0 + (i : Nat)) * (1 + c / 96 % 7))],_,_,rfl,Same.upd (s1.trans s2) hp,?_,?_,?_,?_⟩
        · rw [upd_same,List.map_append]
          rfl
        · intro x hx
          rcases List.mem_append.mp hx with z | z
          · exact ht x z
          · rw [List.mem_singleton.mp z]; exact JD _ _
        · exact List.nodup_append.mpr ⟨hnd,List.nodup_cons.mpr ⟨(fun z=>nomatch z),List.nodup_nil⟩,fun x hx y hy e=>by
            rw [List.mem_singleton.mp hy] at e
            exact contains_false hn (e ▸ hx)⟩
        · rw [List.length_append]
          exact Nat.add_le_add_right hl 1
      · exact ⟨ss,_,_,rfl,s1.trans s2,e2,ht,hnd,Nat.le_succ_of_le hl⟩
    rintro σ H1 ⟨ss,v4,v5,rfl,s1,e1,ht,hnd,hl⟩
    have hwo : CF.Zv ss:=⟨ht,hnd,by omega⟩
    have w0 : 0≤c / 7 % 5:=Int.emod_nonneg _ (by decide)
    have w1 : c / 7 % 5 < 5:=Int.emod_lt_of_pos _ (by decide)
    refine ⟨_,rfl,_,_,rfl,rfl,⟨by decide,by decide⟩,_,_,rfl,rfl,(by show (0 : Int) < 5; decide),?_⟩
    refine ⟨fun σ' H'=>(∃ (z : Int),(0≤z∧z≤60)∧σ'=[some (.int hd),some (.int c),some (.ref p),v4,v5,some (.int z),none])∧H'=H1,?_,?_⟩
    · refine ⟨_,rfl,_,_,rfl,rfl,(by show (0 : Int) < 11; decide),rfl,_,rfl,ite2 (fun zz=>?_) (fun zz=>?_)⟩
      · have u0 : 0≤c / 11 % 3:=Int.emod_nonneg _ (by decide)
        have u1 : c / 11 % 3 < 3:=Int.emod_lt_of_pos _ (by decide)
        exact ⟨_,rfl,_,_,rfl,rfl,⟨by decide,by decide⟩,_,_,rfl,rfl,(by show (0 : Int) < 3; decide),_,_,rfl,rfl,⟨_,⟨by omega,by omega⟩,rfl⟩,rfl⟩
      · exact ⟨⟨_,⟨by omega,by omega⟩,rfl⟩,rfl⟩
    rintro σ' H' ⟨⟨wa,hwa,rfl⟩,rfl⟩
    have x0 : 0≤c / 13 % 2:=Int.emod_nonneg _ (by decide)
    have x1 : c / 13 % 2 < 2:=Int.emod_lt_of_pos _ (by decide)
    have y0 : 0≤c / 26 % 9:=Int.emod_nonneg _ (by decide)
    have y1 : c / 26 % 9 < 9:=Int.emod_lt_of_pos _ (by decide)
    have xy : 0≤c / 13 % 2 * (c / 26 % 9)∧c / 13 % 2 * (c / 26 % 9)≤8:=by
      rcases (show c / 13 % 2=0∨c / 13 % 2=1 by omega) with e | e <;> rw [e] <;> omega
    refine ⟨_,rfl,_,_,rfl,rfl,⟨by decide,by decide⟩,_,_,rfl,rfl,(by show (0 : Int) < 2; decide),_,rfl,_,_,rfl,rfl,⟨by decide,by decide⟩,_,_,rfl,rfl,(by show (0 : Int) < 9; decide),_,_,rfl,rfl,.inl ⟨by omega,by omega⟩,_,_,rfl,rfl,?_⟩
    obtain ⟨wo,zjs⟩ : ∃ wo : Int,wo=1 + c / 13 % 2 * (c / 26 % 9):=⟨_,rfl⟩
    first | rw [show V.int (1 + c / 13 % 2 * (c / 26 % 9))=V.int wo by rw [zjs]] | rw [show (fun i j : Int=>V.int (i + j)) 1 (c / 13 % 2 * (c / 26 % 9))=V.int wo by rw [zjs]]
    have zjt : 1≤wo∧wo≤9:=by omega
    refine ⟨_,rfl,_,_,rfl,rfl,(by show (0 : Int) < 3; decide),rfl,_,rfl,ite2 (fun zz=>?_) (fun zz=>?_)⟩
    · refine ⟨fun σ' H'=>L23.E2 fun p' us=>L23.A6 (us≠[]) (CF.Zv us) (Same H H') (H p'=none) (H' p'=some (.lst (us.map V.str))) (σ'=[some (.int hd),some (.int c),some (.ref p'),v4,v5,some (.int wa),some (.int wo)]),?_,?_⟩
      · refine ⟨_,rfl,by first | decide | (simp only [List.length_cons,List.length_nil,List.length_append,List.length_map]; decide),fun p9 hp9=>?_⟩
        have e9:=(Same.zp (o := .lst []) hp9) _ _ e1
        refine ⟨.list (ss.map .str),.list [],zc.mkL (zb.strs ss) e9 (Same.refl _),zc.mkL (D:=upd H' p9 (.lst [])) zb.nil upd_same (Same.refl _),CF.jB (fun t h=>(CF.Tx.word (ht t h)).mono (by decide)),rfl,?_,_,rfl,?_⟩
        · show min _ 1≤60
          omega
        cases ss with
        | nil =>
          refine iteT ⟨_,rfl,_,rfl,_,_,rfl,rfl,⟨by decide,by decide⟩,_,_,rfl,fun H2 s2=>⟨by first | decide | (simp only [List.length_cons,List.length_nil,List.length_append,List.length_map]; decide),fun p3 hp3=>?_⟩⟩
          have t2:=(s1.trans (Same.zp (o := .lst []) hp9)).trans s2
          exact ⟨p3,[wordOf hd (c / 12)],(fun z=>nomatch z),⟨fun t h=>by rw [List.mem_singleton.mp h]; exact JD _ _,List.nodup_cons.mpr ⟨(fun z=>nomatch z),List.nodup_nil⟩,by show 1≤8; decide⟩,t2.trans (Same.zp hp3),t2.free hp3,upd_same,rfl⟩
        | cons t r=>exact iteF ⟨p,t :: r,(fun z=>nomatch z),hwo,s1.trans (Same.zp hp9),hp,e9,rfl⟩
      rintro σ' H2 ⟨p',us,hne,hus,s2,np,ep,rfl⟩
      have G1 : Gr D H D H2:=Gr.heap sD s2
      have G2:=G1.fix np (zZ sD np) ep
      refine ⟨_,rfl,_,rfl,_,rfl,_,_,rfl,rfl,⟨by decide,by decide⟩,_,rfl,fun z z0 z1=>⟨_,rfl,by first | decide | (simp only [List.length_cons,List.length_nil,List.length_append,List.length_map]; decide),fun t ht'=>?_⟩⟩
      refine q (.off wa us z wo) _ _ _ (G2.trans (Gr.lay G2.dh ht')) (CF.ze.at_ upd_same (.inl ((Same.zp (zZ G2.dh ht')) _ _ upd_same))) ⟨hus,hne,hwa,⟨z0,z1⟩,zjt⟩
    · have G1 : Gr D H D H':=Gr.heap sD s1
      have G2:=G1.fix hp (zZ sD hp) e1
      refine ⟨_,rfl,_,rfl,_,rfl,_,_,rfl,rfl,⟨by decide,by decide⟩,_,rfl,fun z z0 z1=>⟨_,rfl,_,_,rfl,rfl,⟨by decide,by decide⟩,_,rfl,fun y y0 y1=>⟨_,rfl,by first | decide | (simp only [List.length_cons,List.length_nil,List.length_append,List.length_map]; decide),fun t ht'=>?_⟩⟩⟩
      refine q (.frm wa ss z y wo) _ _ _ (G2.trans (Gr.lay G2.dh ht')) (CF.ze.at_ upd_same (.inl ((Same.zp (zZ G2.dh ht')) _ _ upd_same))) ⟨hwo,hwa,⟨z0,z1⟩,⟨y0,y1⟩,zjt⟩
theorem xj {B C : Prop} (h : B) (k : B→C) : C:=k h
theorem zgK (ns : List Int) (lo hi : Option Int) : ∃ ms : List Int,cutV (ns.map V.int) lo hi=ms.map V.int∧ms.length≤ns.length∧∀ z∈ms,z∈ns:=by
  refine ⟨(ns.drop (HT.sIx (ns.map V.int).length 0 lo)).take (HT.sIx (ns.map V.int).length (ns.map V.int).length hi - HT.sIx (ns.map V.int).length 0 lo),?_,?_,?_⟩
  · unfold cutV
    rw [List.map_take,List.map_drop]
  · rw [List.length_take,List.length_drop]
    exact Nat.le_trans (Nat.min_le_right _ _) (Nat.sub_le _ _)
  · exact fun z hz=>List.mem_of_mem_drop (List.mem_of_mem_take hz)
theorem VO {α β : Type} {f : α→β} : ∀ {l : List α},l.Nodup→(∀ x∈l,∀ y∈l,f x=f y→x=y)→(l.map f).Nodup
  | [],_,_=>List.nodup_nil
  | a :: l,h,k=>by
    have ⟨h1,h2⟩:=List.nodup_cons.mp h
    refine List.nodup_cons.mpr ⟨fun z=>?_,VO h2 fun x hx y hy=>k x (List.mem_cons_of_mem _ hx) y (List.mem_cons_of_mem _ hy)⟩
    obtain ⟨b,hb,e⟩:=List.mem_map.mp z
    exact h1 (k b (List.mem_cons_of_mem _ hb) a (List.mem_cons_self ..) e ▸ hb)
structure Zx (rs : List CF.za) (r : CF.za) : Prop where
  grp : r.yU=false
  rules : r.rules=rs
  good : r.Good
  deep : r.depth=CF.za.zC rs + 1
  leaves : r.leaves=CF.za.zo rs
theorem zac {rs : List CF.za} (h0 : rs≠[]) (h1 : rs.length≤16) (h2 : CF.za.yh rs) : Zx rs (.z8 rs) :=
  ⟨rfl,rfl,by unfold CF.za.Good; exact ⟨h0,h1,h2⟩,by unfold CF.za.depth; rfl,by unfold CF.za.leaves; rfl⟩
theorem VP {rs : List CF.za} {n : Int} (h0 : 1≤n∧n≤rs.length) (h1 : rs.length≤16) (h2 : CF.za.yh rs) : Zx rs (.z9 n rs) :=
  ⟨rfl,rfl,by unfold CF.za.Good; exact ⟨h0,h1,h2⟩,by unfold CF.za.depth; rfl,by unfold CF.za.leaves; rfl⟩
noncomputable def Vc (K : PySem.W.Frag) (vs : List V) (H : Hp) (Q : VK):=fun (F : Addr) (c : Int) (D : Hp) (fs : List CF.Fr) (g : CF.Fr) (t : CF.Fr)=>L23.A5 (vs=[.ref F,.int c]) (Same D H) (CF.Frs K D H F (fs ++ [g,t])) ((L23.A3 (CF.za.yh t.rs) (t.rs.length≤16) (g.rs.length≤16))) (∀ D' H' g',g'.p=g.p→(t.rs=[]∧g'.rs=g.rs∨∃ r,Zx t.rs r∧g'.rs=g.rs ++ [r])→Same D' H'→CF.Frs K D' H' F (fs ++ [g'])→CF.Ext D H D' H' [F,g.p,t.p]→Q .non H')
noncomputable def zft (K : PySem.W.Frag) : Sp:=fun vs H Q zz=>L23.E6 (Vc K vs H Q)
theorem zju {f : Addr} {fd : FuncData} (F : Fun K "_law_closed" "_law_closed" yR f fd) (T : Txt K mg a) : FnOk P w K mg base CX0 1 f fd ["_law_frames","_law_cell"] (zft K):=by
  refine F.ok zjg (fun vs H Q E h=>?_) (fun cdv A outer s H vs Q E hr h=>?_)
  · obtain ⟨F,c,D,fs,g,t,rfl,zz⟩:=h
    rfl
  · obtain ⟨F,c,D,fs,g,t,rfl,sD,hF,⟨hgo,zdO,zdP⟩,q⟩:=h
    refine ⟨_,(pss_cons (psN (i:=2) (sc:=defScope yR) (M:=vj) rfl rfl (by decide +kernel) (pe_bm0 PySem.F.plainAttrs_list PySem.F.slot_list_pop PySem.F.type_list_pop mt_pop (pvA 0 (defScope yR) vj rfl rfl)))
      (pss_cons (ps_if (pt_cmpR op_eq (zf (sc:=defScope yR) call_len rfl (by decide +kernel) T.zF zy (pa_cons (pvA 2 (defScope yR) vj rfl rfl) pa_nil)) pe_int (nomark _)) (pss_one ps_retN) pss_nil)
      (pss_cons (psN (i:=3) (sc:=defScope yR) (M:=vj) rfl rfl (by decide +kernel) (pe_tup (pa_cons pe_str (pa_cons (pvA 2 (defScope yR) vj rfl rfl) pa_nil))))
      (wJ (ps_if (pt_cmpR op_eq (pe_op op_mod (pvA 1 (defScope yR) vj rfl rfl) pe_int) pe_int (nomark _)) (pss_one (psN (i:=3) (sc:=defScope yR) (M:=vj) rfl rfl (by decide +kernel) (pe_tup (pa_cons pe_str (pa_cons (pe_op op_add pe_int (pe_op op_mod (pe_op op_fdiv (pvA 1 (defScope yR) vj rfl rfl) pe_int) (zf (sc:=defScope yR) call_len rfl (by decide +kernel) T.zF zy (pa_cons (pvA 2 (defScope yR) vj rfl rfl) pa_nil)))) (pa_cons (pvA 2 (defScope yR) vj rfl rfl) pa_nil)))))) pss_nil)
      (pss_one (ps_expr (pe_bm PySem.F.plainAttrs_list PySem.F.slot_list_append PySem.F.type_list_append mt_append (pe_ix ix_list (pvA 0 (defScope yR) vj rfl rfl) (pe_un un_neg pe_int) (fun zz zz=>rfl)) (pa_cons (pvA 3 (defScope yR) vj rfl rfl) pa_nil)))))))),?_⟩
    try dsimp only [cxOf,Cx.nox]
    have hs : sizeLine=16777216:=sizeLine_eq
    have hF' : CF.Frs K D H F ((fs ++ [g]) ++ [t]):=by rw [List.append_assoc]; exact hF
    have ht:=hF'.each t (List.mem_append_right _ (List.mem_singleton.mpr rfl))
    have hg:=hF'.each g (List.mem_append_left _ (List.mem_append_right _ (List.mem_singleton.mpr rfl)))
    have nfg:=hF'.nf g (List.mem_append_left _ (List.mem_append_right _ (List.mem_singleton.mpr rfl)))
    have nft:=hF'.nf t (List.mem_append_right _ (List.mem_singleton.mpr rfl))
    have hnd:=hF'.nd
    rw [List.map_append] at hnd
    have hgt : g.p≠t.p:=(List.nodup_append.mp hnd).2.2 g.p (List.mem_map.mpr ⟨g,List.mem_append_right _ (List.mem_singleton.mpr rfl),rfl⟩) t.p (List.mem_singleton.mpr rfl)
    have lt:=ht.len
    have lg:=hg.len
    have etop : (((fs ++ [g]) ++ [t]).map fun f=>V.ref f.p)=((fs ++ [g]).map fun f=>V.ref f.p) ++ [.ref t.p]:=by rw [List.map_append]; rfl
    have e0:=hF'.top
    rw [etop] at e0
    refine ⟨_,rfl,.inl ⟨rfl,_,SqL.of e0⟩,F,_,.ref t.p,rfl,rfl,e0,?_,?_⟩
    · rw [List.length_append,List.length_singleton,Nat.add_sub_cancel]
      exact CF.Ju _ _
    rw [List.dropLast_concat]
    have F1:=hF'.pop
    have s1 : Same D (upd H F (.lst ((fs ++ [g]).map fun f=>V.ref f.p))):=xg sD hF.out
    have et1 : upd H F (.lst ((fs ++ [g]).map fun f=>V.ref f.p)) t.p=some (.lst t.xs):=by rw [upd_ne nft]; exact ht.at_
    have k1 : ∀ a o,a≠F→H a=some o→upd H F (.lst ((fs ++ [g]).map fun f=>V.ref f.p)) a=some o:=fun a o n e=>by rw [upd_ne n]; exact e
    generalize upd H F (.lst ((fs ++ [g]).map fun f=>V.ref f.p))=H1 at F1 s1 et1 k1 ⊢
    refine ⟨_,rfl,.ref t.p,t.xs.length,rfl,.inl ⟨_,SqL.of et1,rfl⟩,rfl,_,rfl,ite2 (fun h0=>?_) (fun h0=>?_)⟩
    · have h0':=V.int.inj (of_decide_eq_true h0)
      refine q D H1 g rfl (.inl ⟨List.eq_nil_of_length_eq_zero (by omega),rfl⟩) s1 F1 ⟨Same.refl _,fun a o hm e=>⟨k1 a o (fun z=>hm (by rw [z]; exact List.mem_cons_self ..)) e,id⟩⟩
    have hne : t.rs≠[]:=fun z=>h0 (decide_eq_true (by rw [lt,z]; rfl))
    have hpos : 0 < t.rs.length:=List.length_pos_iff.mpr hne
    refine ⟨_,rfl,by first | decide | (simp only [List.length_cons,List.length_nil,List.length_append,List.length_map]; decide),fun q1 hq1=>?_⟩
    have eq1 : upd H1 q1 (.tup [.str "all",.ref t.p]) q1=some (.tup [.str "all",.ref t.p]):=upd_same
    have s2:=Same.zp (o := .tup [.str "all",.ref t.p]) hq1
    generalize upd H1 q1 (.tup [.str "all",.ref t.p])=H2 at eq1 s2 ⊢
    refine ⟨fun σ' H'=>L23.E2 fun r p=>L23.A5 (Zx t.rs r) (Same H1 H') (H1 p=none) (H' p=some (.tup (r.head ++ [.ref t.p]))) (σ'=[some (.ref F),some (.int c),some (.ref t.p),some (.ref p)]),?_,?_⟩
    · refine ⟨_,rfl,_,_,rfl,rfl,(by show (0 : Int) < 2; decide),rfl,_,rfl,ite2 (fun zz=>?_) (fun zz=>?_)⟩
      · have m0:=Int.emod_nonneg (c / 2) (show ((t.xs.length : Nat) : Int)≠0 by omega)
        have m1:=Int.emod_lt_of_pos (c / 2) (show (0 : Int) < (t.xs.length : Nat) by omega)
        refine ⟨_,rfl,_,_,rfl,rfl,⟨by decide,by decide⟩,_,rfl,.ref t.p,t.xs.length,rfl,.inl ⟨_,SqL.of (s2 _ _ et1),rfl⟩,_,_,rfl,rfl,(by show (0 : Int) < (t.xs.length : Nat); omega),_,_,rfl,rfl,_,rfl,by first | decide | (simp only [List.length_cons,List.length_nil,List.length_append,List.length_map]; decide),fun q2 hq2=>?_⟩
        exact ⟨.z9 (1 + c / 2 % (t.xs.length : Nat)) t.rs,q2,VP ⟨by omega,by omega⟩ zdO hgo,s2.trans (Same.zp hq2),s2.free hq2,upd_same,rfl⟩
      · exact ⟨.z8 t.rs,q1,zac hne zdO hgo,s2,hq1,eq1,rfl⟩
    rintro σ' H3 ⟨r,qr,hr,s3,nq,eqr,rfl⟩
    have F3:=F1.gr (Gr.heap s1 s3)
    have eg3:=(F3.each g (List.mem_append_right _ (List.mem_singleton.mpr rfl)))
    have zkY : ((fs ++ [g]).map fun f=>V.ref f.p)=(fs.map fun f=>V.ref f.p) ++ [.ref g.p]:=by rw [List.map_append]; rfl
    have e3:=F3.top
    rw [zkY] at e3
    refine ⟨_,rfl,_,rfl,F,_,_,_,rfl,rfl,SqL.of e3,atI_last _ _,.inl ⟨rfl,_,SqL.of eg3.at_⟩,_,rfl,g.p,_,_,rfl,rfl,eg3.at_,by omega,?_⟩
    have ntD : D t.p=none:=ht.out
    have nqD : D qr=none:=s1.free nq
    have nqt : qr≠t.p:=fun z=>by rw [z,et1] at nq; cases nq
    have nqg : qr≠g.p:=fun z=>by
      have:=(F1.each g (List.mem_append_right _ (List.mem_singleton.mpr rfl))).at_
      rw [z,this] at nq; cases nq
    have nqF : qr≠F:=fun z=>by rw [z,F1.top] at nq; cases nq
    have dd : Same D (upd (upd D t.p (.lst t.xs)) qr (.tup (r.head ++ [.ref t.p]))):=(Same.zp ntD).trans (Same.zp (by rw [upd_ne nqt]; exact nqD))
    have et3:=s3 _ _ et1
    have sd' : Same (upd (upd D t.p (.lst t.xs)) qr (.tup (r.head ++ [.ref t.p]))) H3:=by
      intro a o e
      by_cases h1 : a=qr
      · subst h1
        rw [upd_same] at e
        cases e
        exact eqr
      · rw [upd_ne h1] at e
        by_cases h2 : a=t.p
        · subst h2
          rw [upd_same] at e
          cases e
          exact et3
        · rw [upd_ne h2] at e
          exact s3 _ _ (s1 _ _ e)
    have dr : zc K (upd (upd D t.p (.lst t.xs)) qr (.tup (r.head ++ [.ref t.p]))) (.ref qr) r.data:=by
      refine CF.za.zdx hr.grp upd_same (.inl (by rw [upd_ne nqt.symm]; exact upd_same)) ?_
      rw [hr.rules]
      exact zb.up ht.data dd
    have zdQ : ∀ a,D a=none→a≠t.p→a≠qr→upd (upd D t.p (.lst t.xs)) qr (.tup (r.head ++ [.ref t.p])) a=none:=fun a n h1 h2=>by rw [upd_ne h2,upd_ne h1]; exact n
    generalize upd (upd D t.p (.lst t.xs)) qr (.tup (r.head ++ [.ref t.p]))=D' at dd sd' dr zdQ
    have F4 : CF.Frs K D' H3 F (fs ++ [g]):=by
      refine ⟨F3.top,zdQ F hF.out nft.symm nqF.symm,fun f hf=>?_,F3.nd,F3.nf⟩
      have h3:=F3.each f hf
      refine ⟨h3.at_,zdQ _ h3.out (fun z=>?_) (fun z=>?_),zb.up h3.data dd⟩
      · exact (List.nodup_append.mp hnd).2.2 f.p (List.mem_map.mpr ⟨f,hf,rfl⟩) t.p (List.mem_singleton.mpr rfl) z
      · have:=(F1.each f hf).at_
        rw [z] at this
        rw [this] at nq
        cases nq
    have F5:=F4.set (g.xs ++ [.ref qr]) (g.rs ++ [r]) (by rw [CF.za.zX,List.map_append,← CF.za.zX]; exact zb.snoc dr (F4.each g (List.mem_append_right _ (List.mem_singleton.mpr rfl))).data)
    refine q D' _ ⟨g.p,g.xs ++ [.ref qr],g.rs ++ [r]⟩ rfl (.inr ⟨r,hr,rfl⟩) (xg sd' (F4.each g (List.mem_append_right _ (List.mem_singleton.mpr rfl))).out) F5 ⟨dd,fun a o hm e=>?_⟩
    have a1 : a≠F:=fun z=>hm (by rw [z]; exact List.mem_cons_self ..)
    have a2 : a≠g.p:=fun z=>hm (by rw [z]; exact List.mem_cons_of_mem _ (List.mem_cons_self ..))
    have a3 : a≠t.p:=fun z=>hm (by rw [z]; exact List.mem_cons_of_mem _ (List.mem_cons_of_mem _ (List.mem_cons_self ..)))
    have e1:=k1 a o a1 e
    refine ⟨by rw [upd_ne a2]; exact s3 _ _ e1,fun n=>zdQ a n a3 (fun z=>?_)⟩
    rw [z,nq] at e1
    cases e1
theorem Wz {fs : List CF.Fr} (h : fs≠[]) : ∃ (is : List CF.Fr) (t : CF.Fr),fs=is ++ [t]:=⟨fs.dropLast,fs.getLast h,(List.dropLast_concat_getLast h).symm⟩
structure Wj (K : PySem.W.Frag) (D H : Hp) (F : Addr) (D' H' : Hp) (fs : List CF.Fr) (n : Nat) : Prop where
  gr : Gr D H D' H'
  frs : CF.Frs K D' H' F fs
  num : CF.vq fs n
  ne : fs≠[]
  nF : H F=none
  np : ∀ f∈fs,H f.p=none
theorem zfu {fs : List CF.Fr} {t : CF.Fr} {D' H' : Hp} {F : Addr} (h : CF.Frs K D' H' F (fs ++ [t])) : H' F=some (.lst ((fs.map fun f=>V.ref f.p) ++ [.ref t.p])):=by
  have e:=h.top
  rw [List.map_append] at e
  exact e
theorem xH {fs : List CF.Fr} {t : CF.Fr} : t∈fs ++ [t]:=List.mem_append_right _ (List.mem_singleton.mpr rfl)
theorem Wj.closed {D H D1 H1 D' H' : Hp} {F : Addr} {fs : List CF.Fr} {g t g' : CF.Fr} {n : Nat} (h : Wj K D H F D1 H1 (fs ++ [g,t]) n) (hp : g'.p=g.p) (hr : t.rs=[]∧g'.rs=g.rs∨∃ r,Zx t.rs r∧g'.rs=g.rs ++ [r]) (s : Same D' H') (hF : CF.Frs K D' H' F (fs ++ [g'])) (e : CF.Ext D1 H1 D' H' [F,g.p,t.p]) : Wj K D H F D' H' (fs ++ [g']) n:=by
  have hg : g∈fs ++ [g,t]:=List.mem_append_right _ (List.mem_cons_self ..)
  have ht : t∈fs ++ [g,t]:=List.mem_append_right _ (List.mem_cons_of_mem _ (List.mem_cons_self ..))
  refine ⟨e.gr h.gr s fun a ha=>?_,hF,?_,(fun z=>by have:=congrArg List.length z; rw [List.length_append] at this; cases this),h.nF,fun f hf=>?_⟩
  · simp only [List.mem_cons,List.not_mem_nil,or_false] at ha
    rcases ha with rfl | rfl | rfl
    · exact h.nF
    · exact h.np g hg
    · exact h.np t ht
  · obtain ⟨gp,gx,gr⟩:=g'
    simp only at hp hr
    subst hp
    rcases hr with ⟨h1,rfl⟩ | ⟨r,h1,rfl⟩
    · exact h.num.drop h1
    · exact h.num.close h1.good h1.deep h1.leaves
  · rcases List.mem_append.mp hf with hf | hf
    · exact h.np f (List.mem_append_left _ hf)
    · rw [List.mem_singleton.mp hf,hp]
      exact h.np g hg
noncomputable def JG (K : PySem.W.Frag) (vs : List V) (H : Hp) (Q : VK):=fun (h : Int) (pc : Addr) (cs : List Int) (D : Hp)=>L23.A5 (vs=[.int h,.ref pc]) (Same D H) (SqL K H pc (cs.map V.int)) (cs.length≤63) (∀ (r : CF.za) D' H' v,Gr D H D' H'→zc K D' v r.data→r.Good→r.depth≤6→r.leaves.length≤16→Q v H')
noncomputable def zfv (K : PySem.W.Frag) : Sp:=fun vs H Q zz=>L23.E4 (JG K vs H Q)
theorem zjv {f : Addr} {fd zbS zbT : FuncData} (F : Fun K "_law_rule" "_law_rule" zx f fd) (T : Txt K mg a)
    (zaF : FnOk P w K mg base CX0 1 a.Y5 zbS ["_law_frames","_law_cell"] (zft K)) (WA : Fun K "_law_closed" "_law_closed" yR a.Y5 zbS) (zaG : Binds K zbS ["_law_frames","_law_cell"] [])
    (zaH : FnOk P w K mg base CX0 2 a.W9 zbT ["_law_head","_law_cell"] (zfs K)) (WB : Fun K "_law_leaf" "_law_leaf" zE a.W9 zbT) (zaI : Binds K zbT ["_law_head","_law_cell"] []) : FnOk P w K mg base CX0 3 f fd ["_law_head","_law_cells"] (zfv K):=by
  refine F.ok zjh (fun vs H Q E h=>?_) (fun cdv A outer s H vs Q E hr h=>?_)
  · obtain ⟨h,pc,cs,D,rfl,zz⟩:=h
    rfl
  · obtain ⟨hd,pc,cs,D,rfl,sD,hc,hl,q⟩:=h
    refine ⟨_,(pss_cons (psN (i:=2) (sc:=defScope zx) (M:=zU) rfl rfl (by decide +kernel) (pe_lst (pa_cons (pe_lst pa_nil) pa_nil)))
      (pss_cons (psN (i:=3) (sc:=defScope zx) (M:=zU) rfl rfl (by decide +kernel) pe_int)
      (pss_cons (ps_for PassesOwn.never rfl (pi_list (pvA 1 (defScope zx) zU rfl rfl)) (pgN (i:=4) (sc:=defScope zx) (M:=zU) rfl rfl (by decide +kernel)) (pss_one (ps_if (PW.pt (pw_and (pt_cmpR op_lt (pe_op op_mod (pvA 4 (defScope zx) zU rfl rfl) pe_int) pe_int (nomark _)) (pw_and (pt_cmpR op_lt (zf (sc:=defScope zx) call_len rfl (by decide +kernel) T.zF zy (pa_cons (pvA 2 (defScope zx) zU rfl rfl) pa_nil)) pe_int (nomark _)) (pw_and (pt_cmpR op_lt (zf (sc:=defScope zx) call_len rfl (by decide +kernel) T.zF zy (pa_cons (pe_ix ix_list (pvA 2 (defScope zx) zU rfl rfl) (pe_un un_neg pe_int) (fun zz zz=>rfl)) pa_nil)) pe_int (nomark _)) (pw_and1 (pt_cmpR op_lt (pvA 3 (defScope zx) zU rfl rfl) pe_int (nomark _))))))) (pss_one (ps_expr (pe_bm PySem.F.plainAttrs_list PySem.F.slot_list_append PySem.F.type_list_append mt_append (pvA 2 (defScope zx) zU rfl rfl) (pa_cons (pe_lst pa_nil) pa_nil)))) (pss_one (ps_if (PW.pt (pw_and (pt_cmpR op_eq (pe_op op_mod (pvA 4 (defScope zx) zU rfl rfl) pe_int) pe_int (nomark _)) (pw_and1 (pt_cmpR op_gt (zf (sc:=defScope zx) call_len rfl (by decide +kernel) T.zF zy (pa_cons (pvA 2 (defScope zx) zU rfl rfl) pa_nil)) pe_int (nomark _))))) (pss_one (ps_expr (zh (sc:=defScope zx) zaF (hr.mono (by decide)) rfl (by decide +kernel) T.zhs WA.kp zaG .nil pass0 (pa_cons (pvA 2 (defScope zx) zU rfl rfl) (pa_cons (pe_op op_fdiv (pvA 4 (defScope zx) zU rfl rfl) pe_int) pa_nil))))) (pss_one (ps_if (PW.pt (pw_and (pt_cmpR op_lt (pvA 3 (defScope zx) zU rfl rfl) pe_int (nomark _)) (pw_and1 (pt_cmpR op_lt (zf (sc:=defScope zx) call_len rfl (by decide +kernel) T.zF zy (pa_cons (pe_ix ix_list (pvA 2 (defScope zx) zU rfl rfl) (pe_un un_neg pe_int) (fun zz zz=>rfl)) pa_nil)) pe_int (nomark _))))) (pss_cons (ps_expr (pe_bm PySem.F.plainAttrs_list PySem.F.slot_list_append PySem.F.type_list_append mt_append (pe_ix ix_list (pvA 2 (defScope zx) zU rfl rfl) (pe_un un_neg pe_int) (fun zz zz=>rfl)) (pa_cons (zh (sc:=defScope zx) zaH (hr.mono (by decide)) rfl (by decide +kernel) T.zhr WB.kp zaI .nil pass0 (pa_cons (pvA 0 (defScope zx) zU rfl rfl) (pa_cons (pe_op op_fdiv (pvA 4 (defScope zx) zU rfl rfl) pe_int) pa_nil))) pa_nil)))
      (pss_one (psN (i:=3) (sc:=defScope zx) (M:=zU) rfl rfl (by decide +kernel) (pe_op op_add (pvA 3 (defScope zx) zU rfl rfl) pe_int)))) pss_nil)))))))
      (pss_cons (ps_while PassesOwn.never (pt_cmpR op_gt (zf (sc:=defScope zx) call_len rfl (by decide +kernel) T.zF zy (pa_cons (pvA 2 (defScope zx) zU rfl rfl) pa_nil)) pe_int (nomark _)) (pss_one (ps_expr (zh (sc:=defScope zx) zaF (hr.mono (by decide)) rfl (by decide +kernel) T.zhs WA.kp zaG .nil pass0 (pa_cons (pvA 2 (defScope zx) zU rfl rfl) (pa_cons (pvA 0 (defScope zx) zU rfl rfl) pa_nil))))))
      (pss_cons (ps_if (pt_cmpR op_eq (zf (sc:=defScope zx) call_len rfl (by decide +kernel) T.zF zy (pa_cons (pe_ix ix_list (pvA 2 (defScope zx) zU rfl rfl) pe_int (fun zz zz=>rfl)) pa_nil)) pe_int (nomark _)) (pss_one (ps_ret (zh (sc:=defScope zx) zaH (hr.mono (by decide)) rfl (by decide +kernel) T.zhr WB.kp zaI .nil pass0 (pa_cons (pvA 0 (defScope zx) zU rfl rfl) (pa_cons (pvA 0 (defScope zx) zU rfl rfl) pa_nil))))) pss_nil)
      (pss_cons (ps_if (PW.pt (pw_and (pt_cmpR op_eq (zf (sc:=defScope zx) call_len rfl (by decide +kernel) T.zF zy (pa_cons (pe_ix ix_list (pvA 2 (defScope zx) zU rfl rfl) pe_int (fun zz zz=>rfl)) pa_nil)) pe_int (nomark _)) (pw_and1 (pt_cmpR op_eq (pe_op op_mod (pvA 0 (defScope zx) zU rfl rfl) pe_int) pe_int (nomark _))))) (pss_one (ps_ret (pe_ix ix_list (pe_ix ix_list (pvA 2 (defScope zx) zU rfl rfl) pe_int (fun zz zz=>rfl)) pe_int (fun zz zz=>rfl)))) pss_nil)
      (pss_cons (ps_if (pt_cmpR op_eq (pe_op op_mod (pe_op op_fdiv (pvA 0 (defScope zx) zU rfl rfl) pe_int) pe_int) pe_int (nomark _)) (pss_one (ps_ret (pe_tup (pa_cons pe_str (pa_cons (pe_ix ix_list (pvA 2 (defScope zx) zU rfl rfl) pe_int (fun zz zz=>rfl)) pa_nil))))) pss_nil)
      (pss_one (ps_ret (pe_tup (pa_cons pe_str (pa_cons (pe_op op_add pe_int (pe_op op_mod (pe_op op_fdiv (pvA 0 (defScope zx) zU rfl rfl) pe_int) (zf (sc:=defScope zx) call_len rfl (by decide +kernel) T.zF zy (pa_cons (pe_ix ix_list (pvA 2 (defScope zx) zU rfl rfl) pe_int (fun zz zz=>rfl)) pa_nil)))) (pa_cons (pe_ix ix_list (pvA 2 (defScope zx) zU rfl rfl) pe_int (fun zz zz=>rfl)) pa_nil))))))))))))),?_⟩
    try dsimp only [cxOf,Cx.nox]
    have hs : sizeLine=16777216:=sizeLine_eq
    refine ⟨by first | decide | (simp only [List.length_cons,List.length_nil,List.length_append,List.length_map]; decide),fun p0 hp0=>⟨by first | decide | (simp only [List.length_cons,List.length_nil,List.length_append,List.length_map]; decide),fun F hF0=>?_⟩⟩
    have s0:=Same.zp (o := .lst []) hp0
    have nF : H F=none:=s0.free hF0
    have nFp : F≠p0:=fun z=>by rw [z,upd_same] at hF0; cases hF0
    have R0 : Wj K D H F D (upd (upd H p0 (.lst [])) F (.lst [.ref p0])) [⟨p0,[],[]⟩] 0:=by
      refine ⟨Gr.heap sD (s0.trans (Same.zp hF0)),⟨upd_same,zZ sD nF,fun f hf=>?_,List.nodup_cons.mpr ⟨(fun z=>nomatch z),List.nodup_nil⟩,fun f hf=>?_⟩,CF.vq.nil,(fun z=>nomatch z),nF,fun f hf=>?_⟩
      · rw [List.mem_singleton.mp hf]
        exact ⟨by rw [upd_ne nFp.symm]; exact upd_same,zZ sD hp0,by unfold CF.za.zQ; exact zb.nil⟩
      · rw [List.mem_singleton.mp hf]
        exact nFp.symm
      · rw [List.mem_singleton.mp hf]
        exact hp0
    generalize upd (upd H p0 (.lst [])) F (.lst [.ref p0])=H0 at R0 ⊢
    clear hp0 hF0 s0 nFp
    refine ⟨_,rfl,pc,rfl,⟨_,R0.gr.hh.seq hc⟩,?_⟩
    refine for_list (xs:=cs.map V.int) (fun i σ H'=>L23.E4 fun D' fs n v4=>σ=[some (.int hd),some (.ref pc),some (.ref F),some (.int (n : Nat)),v4]∧Wj K D H F D' H' fs n) ⟨D,_,0,_,rfl,R0⟩ ?_ ?_ ?_
    · rintro i σ H' _ ⟨D',fs,n,v4,_,R⟩
      exact R.gr.hh.seq hc
    · rintro i x σ H1 hx ⟨D1,fs,n,v4,rfl,R⟩
      rw [List.getElem?_map] at hx
      obtain ⟨c,hcc,rfl⟩:=Option.map_eq_some_iff.mp hx
      obtain ⟨is,t,rfl⟩:=Wz R.ne
      have eF:=zfu R.frs
      have ft:=R.frs.each t xH
      have lt:=ft.len
      have zlz:=R.num.few
      have zbU:=(R.num.good t xH).2
      have lis : ((is.map fun f=>V.ref f.p) ++ [V.ref t.p]).length=is.length + 1:=by rw [List.length_append,List.length_map]; rfl
      have hlen:=R.num.len
      rw [List.length_append,List.length_singleton] at hlen
      have more : ∀ (hn : n < 16) (h16 : t.rs.length < 16) (l : CF.ze) D2 H2 (y : V),Gr D1 H1 D2 H2→zc K D2 y l.data→l.Good→H2 t.p=some (.lst t.xs)∧Wj K D H F D2 (upd H2 t.p (.lst (t.xs ++ [y]))) (is ++ [⟨t.p,t.xs ++ [y],t.rs ++ [.leaf l]⟩]) (n + 1):=by
        intro hn h16 l D2 H2 y g2 dy hl'
        have F2:=R.frs.gr g2
        have f2:=F2.each t xH
        refine ⟨f2.at_,Gr.set (R.gr.trans g2) (R.np t xH) f2.out,?_,R.num.leaf hn h16 hl',(fun z=>by have:=congrArg List.length z; rw [List.length_append] at this; cases this),R.nF,fun f hf=>?_⟩
        · refine F2.set _ _ ?_
          rw [CF.za.zX,List.map_append,← CF.za.zX]
          exact zb.snoc (by unfold CF.za.data; exact dy) f2.data
        · rcases List.mem_append.mp hf with hf | hf
          · exact R.np f (List.mem_append_left _ hf)
          · rw [List.mem_singleton.mp hf]
            exact R.np t xH
      have zlA : ∀ (h1 : 1 < is.length + 1),∃ (js : List CF.Fr) (g : CF.Fr),is ++ [t]=js ++ [g,t]∧g.rs.length≤16:=by
        intro h1
        obtain ⟨js,g,rfl⟩:=Wz (fs:=is) (fun z=>by rw [z] at h1; exact absurd h1 (by decide))
        exact ⟨js,g,by rw [List.append_assoc]; rfl,(R.num.good g (List.mem_append_left _ xH)).2⟩
      refine xj ?zlB fun hB=>⟨_,rfl,_,_,rfl,rfl,(by show (0 : Int) < 10; decide),_,_,rfl,rfl,_,rfl,ite2 (fun h1=>⟨_,rfl,.ref F,_,rfl,.inl ⟨_,SqL.of eF,rfl⟩,_,_,rfl,rfl,_,rfl,ite2 (fun h2=>⟨_,rfl,_,rfl,F,_,_,_,rfl,rfl,SqL.of eF,atI_last _ _,.ref t.p,_,rfl,.inl ⟨_,SqL.of ft.at_,rfl⟩,_,_,rfl,rfl,_,rfl,ite2 (fun h3=>⟨_,rfl,_,_,rfl,rfl,_,rfl,ite2 (fun h4=>?opn) (fun zz=>hB)⟩) (fun zz=>iteF hB)⟩) (fun zz=>iteF hB)⟩) (fun zz=>iteF hB)⟩
      case opn =>
        have h2':=of_decide_eq_true h2
        have h3':=of_decide_eq_true h3
        rw [lis] at h2'
        refine ⟨_,rfl,.inl ⟨rfl,_,SqL.of eF⟩,by first | decide | (simp only [List.length_cons,List.length_nil,List.length_append,List.length_map]; decide),fun pn hpn=>⟨F,_,_,rfl,rfl,(Same.zp hpn) _ _ eF,by rw [lis]; omega,D1,(is ++ [t]) ++ [⟨pn,[],[]⟩],n,_,rfl,?_⟩⟩
        have e:=R.frs.push hpn (zZ R.gr.dh hpn)
        rw [show ((is ++ [t]).map fun f=>V.ref f.p)=(is.map fun f=>V.ref f.p) ++ [.ref t.p] by rw [List.map_append]; rfl] at e
        refine ⟨Gr.set (R.gr.then (Same.zp hpn)) R.nF R.frs.out,e,R.num.push (by rw [List.length_append,List.length_singleton]; omega) (by omega),(fun z=>by have:=congrArg List.length z; rw [List.length_append] at this; cases this),R.nF,fun f hf=>?_⟩
        rcases List.mem_append.mp hf with hf | hf
        · exact R.np f hf
        · rw [List.mem_singleton.mp hf]
          exact R.gr.hh.free hpn
      case zlB =>
        refine xj ?zkZ fun hB=>⟨_,rfl,_,_,rfl,rfl,(by show (0 : Int) < 10; decide),rfl,_,rfl,ite2 (fun h1=>⟨_,rfl,.ref F,_,rfl,.inl ⟨_,SqL.of eF,rfl⟩,_,_,rfl,rfl,_,rfl,ite2 (fun h2=>?cls) (fun zz=>hB)⟩) (fun zz=>iteF hB)⟩
        case cls =>
          have h2':=of_decide_eq_true h2
          rw [lis] at h2'
          obtain ⟨js,g,ejs,zdP⟩:=zlA (by omega)
          refine ⟨_,rfl,_,rfl,_,_,rfl,rfl,⟨by decide,by decide⟩,F,_,D1,js,g,t,rfl,R.gr.dh,by rw [← ejs]; exact R.frs,⟨(R.num.good t xH).1,zbU,zdP⟩,fun D' H' g' hp hr s' hF' he=>⟨D',js ++ [g'],n,_,rfl,?_⟩⟩
          rw [ejs] at R
          exact R.closed hp hr s' hF' he
        case zkZ =>
          refine xj ?zk0 fun hB=>⟨_,rfl,_,_,rfl,rfl,_,rfl,ite2 (fun h1=>⟨_,rfl,_,rfl,F,_,_,_,rfl,rfl,SqL.of eF,atI_last _ _,.ref t.p,_,rfl,.inl ⟨_,SqL.of ft.at_,rfl⟩,_,_,rfl,rfl,_,rfl,ite2 (fun h2=>?lf) (fun zz=>hB)⟩) (fun zz=>iteF hB)⟩
          case lf =>
            have h1':=of_decide_eq_true h1
            have h2':=of_decide_eq_true h2
            refine ⟨_,rfl,_,rfl,F,_,_,_,rfl,rfl,SqL.of eF,atI_last _ _,.inl ⟨rfl,_,SqL.of ft.at_⟩,_,rfl,_,rfl,_,_,rfl,rfl,⟨by decide,by decide⟩,_,_,D1,rfl,R.gr.dh,fun l D2 H2 y g2 dy hl'=>?_⟩
            obtain ⟨e2,R2⟩:=more (by omega) (by omega) l D2 H2 y g2 dy hl'
            exact ⟨t.p,_,_,rfl,rfl,e2,by omega,_,rfl,_,_,rfl,rfl,D2,_,n + 1,_,rfl,R2⟩
          case zk0=>exact ⟨D1,_,n,_,rfl,R⟩
    · rintro σ H1 ⟨D1,fs,n,v4,rfl,R⟩
      refine ⟨fun m σ H'=>L23.E4 fun D' fs n v4=>L23.A3 (σ=[some (.int hd),some (.ref pc),some (.ref F),some (.int (n : Nat)),v4]) (Wj K D H F D' H' fs n) (m=fs.length),⟨_,D1,fs,n,v4,rfl,R,rfl⟩,?_⟩
      clear R
      rintro m σ H2 ⟨D2,fs,n,v4,rfl,R,rfl⟩
      obtain ⟨is,t,rfl⟩:=Wz R.ne
      have eF:=zfu R.frs
      have ft:=R.frs.each t xH
      have lt:=ft.len
      have zbU:=(R.num.good t xH).2
      have htg:=(R.num.good t xH).1
      have zlz:=R.num.few
      have lis : ((is.map fun f=>V.ref f.p) ++ [V.ref t.p]).length=is.length + 1:=by rw [List.length_append,List.length_map]; rfl
      refine ⟨_,rfl,.ref F,_,rfl,.inl ⟨_,SqL.of eF,rfl⟩,_,_,rfl,rfl,_,rfl,ite2 (fun h1=>?_) (fun h1=>?_)⟩
      · have h1':=of_decide_eq_true h1
        rw [lis] at h1'
        obtain ⟨js,g,ejs⟩:=Wz (fs:=is) (fun z=>by rw [z] at h1'; exact absurd h1' (by decide))
        subst ejs
        have zdP:=(R.num.good g (List.mem_append_left _ xH)).2
        have ej : (js ++ [g]) ++ [t]=js ++ [g,t]:=by rw [List.append_assoc]; rfl
        refine ⟨fun σ' H'=>L23.E4 fun D' fs' n v4=>L23.A3 (σ'=[some (.int hd),some (.ref pc),some (.ref F),some (.int (n : Nat)),v4]) (Wj K D H F D' H' fs' n) (fs'.length < ((js ++ [g]) ++ [t]).length),?_,?_⟩
        · rintro σ' H' ⟨D',fs',n,v4,rfl,R',hlt⟩
          exact ⟨_,hlt,D',fs',n,v4,rfl,R',rfl⟩
        rw [ej] at R ⊢
        refine ⟨_,rfl,_,rfl,F,_,D2,js,g,t,rfl,R.gr.dh,R.frs,⟨htg,zbU,zdP⟩,fun D' H' g' hp hr s' hF' he=>⟨D',js ++ [g'],n,_,rfl,R.closed hp hr s' hF' he,?_⟩⟩
        rw [List.length_append,List.length_append]
        exact Nat.lt_succ_self _
      · have his : is=[]:=by
          cases is with
          | nil=>rfl
          | cons f r=>exact absurd (decide_eq_true (show (1 : Int) < (((((f :: r).map fun f=>V.ref f.p) ++ [V.ref t.p]).length : Nat) : Int) by rw [lis,List.length_cons]; omega)) h1
        subst his
        have hdeep:=(R.num.deep 0 t rfl).1
        have hsum:=R.num.sum
        have zk1 : (CF.za.zo t.rs).length + 0=n:=hsum
        have eF' : H2 F=some (.lst [.ref t.p]):=eF
        have last : ∀ (r : CF.za) (p : Addr),Zx t.rs r→H2 p=none→Q (.ref p) (upd H2 p (.tup (r.head ++ [.ref t.p]))):=by
          intro r p hr hp
          have G3:=R.gr.fix (R.np t xH) ft.out ft.at_
          have G4:=G3.trans (Gr.lay (o := .tup (r.head ++ [.ref t.p])) G3.dh hp)
          have np : upd D2 t.p (.lst t.xs) p=none:=zZ G3.dh hp
          refine q r _ _ (.ref p) G4 ?_ hr.good (by rw [hr.deep]; omega) (by rw [hr.leaves]; omega)
          refine CF.za.zdx hr.grp upd_same (.inl ((Same.zp np) _ _ upd_same)) ?_
          rw [hr.rules]
          exact zb.up ft.data ((Same.zp ft.out).trans (Same.zp np))
        refine ⟨_,rfl,F,_,_,_,rfl,rfl,SqL.of eF',rfl,.ref t.p,t.xs.length,rfl,.inl ⟨_,SqL.of ft.at_,rfl⟩,rfl,_,rfl,ite2 (fun h2=>?_) (fun h2=>?_)⟩
        · refine ⟨_,rfl,_,rfl,hd,hd,D2,rfl,R.gr.dh,fun l D3 H3 y g3 dy hl'=>q (.leaf l) D3 H3 y (R.gr.trans g3) (by unfold CF.za.data; exact dy) (by unfold CF.za.Good; exact hl') (by unfold CF.za.depth; decide) (by unfold CF.za.leaves; exact Nat.succ_le_succ (Nat.zero_le _))⟩
        have hne : t.rs≠[]:=fun z=>h2 (decide_eq_true (by rw [lt,z]; rfl))
        have hpos : 0 < t.rs.length:=List.length_pos_iff.mpr hne
        refine xj ?oth fun hB=>⟨_,rfl,F,_,_,_,rfl,rfl,SqL.of eF',rfl,.ref t.p,t.xs.length,rfl,.inl ⟨_,SqL.of ft.at_,rfl⟩,rfl,_,rfl,ite2 (fun h3=>⟨_,rfl,_,_,rfl,rfl,(by show (0 : Int) < 2; decide),rfl,_,rfl,ite2 (fun h4=>?one) (fun zz=>hB)⟩) (fun zz=>iteF hB)⟩
        case one =>
          have hlt : 0 < t.xs.length:=by omega
          obtain ⟨r,er⟩ : ∃ r,t.rs[0]?=some r:=⟨t.rs[0],List.getElem?_eq_getElem hpos⟩
          obtain ⟨y,ey,dy⟩:=zb.at_ ft.data (i:=0) (d:=r.data) (by rw [CF.za.zX,List.getElem?_map,er]; rfl)
          have hm:=List.mem_of_getElem? er
          refine ⟨_,rfl,F,_,_,_,rfl,rfl,SqL.of eF',rfl,t.p,_,_,_,rfl,rfl,SqL.of ft.at_,atI_nat (j:=0) ey,?_⟩
          refine q r D2 H2 y R.gr dy (CF.za.vR.mp htg r hm) (by have:=CF.za.vW hm; omega) ?_
          have h3':=V.int.inj (of_decide_eq_true h3)
          have e1 : t.rs=[r]:=by
            cases hrs : t.rs with
            | nil=>exact absurd hrs hne
            | cons a b =>
              rw [hrs] at er lt
              have : b=[]:=List.eq_nil_of_length_eq_zero (by rw [List.length_cons] at lt; omega)
              rw [this]
              exact congrArg (· :: []) (Option.some.inj er)
          rw [e1,CF.za.Ye] at zk1
          omega
        case oth =>
          refine ⟨_,rfl,_,_,rfl,rfl,⟨by decide,by decide⟩,_,_,rfl,rfl,(by show (0 : Int) < 2; decide),rfl,_,rfl,ite2 (fun zz=>?_) (fun zz=>?_)⟩
          · exact ⟨_,rfl,F,_,_,_,rfl,rfl,SqL.of eF',rfl,by first | decide | (simp only [List.length_cons,List.length_nil,List.length_append,List.length_map]; decide),fun p hp=>last (.z8 t.rs) p (zac hne zbU htg) hp⟩
          · have m0:=Int.emod_nonneg (hd / 4) (show ((t.xs.length : Nat) : Int)≠0 by omega)
            have m1:=Int.emod_lt_of_pos (hd / 4) (show (0 : Int) < (t.xs.length : Nat) by omega)
            exact ⟨_,rfl,_,_,rfl,rfl,⟨by decide,by decide⟩,_,rfl,F,_,_,_,rfl,rfl,SqL.of eF',rfl,.ref t.p,t.xs.length,rfl,.inl ⟨_,SqL.of ft.at_,rfl⟩,_,_,rfl,rfl,(by show (0 : Int) < (t.xs.length : Nat); omega),_,_,rfl,rfl,_,rfl,F,_,_,_,rfl,rfl,SqL.of eF',rfl,by first | decide | (simp only [List.length_cons,List.length_nil,List.length_append,List.length_map]; decide),fun p hp=>last (.z9 (1 + hd / 4 % (t.xs.length : Nat)) t.rs) p (VP ⟨by omega,by omega⟩ zbU htg) hp⟩
noncomputable def Vd (K : PySem.W.Frag) (vs : List V) (H : Hp) (Q : VK):=fun (a : Addr) (ns : List Int) (D : Hp)=>L23.A5 (vs=[.ref a]) (SqL K H a (ns.map V.int)) (ns.length≤63) (Same D H) (∀ (c : CF.yM) D' H' v,Gr D H D' H'→zc K D' v c.data→c.Good→Q v H')
noncomputable def zfw (K : PySem.W.Frag) : Sp:=fun vs H Q zz=>L23.E3 (Vd K vs H Q)
theorem zjw {f : Addr} {fd zbV zbW ZN : FuncData} (F : Fun K "_law_course" "_law_course" yj f fd) (T : Txt K mg a)
    (VQ : FnOk P w K mg base CX0 1 a.Yn zbV ["_law_script","_law_k"] (zfq K)) (Xc : Fun K "_law_cell_at" "_law_cell_at" vF a.Yn zbV) (VR : Binds K zbV ["_law_script","_law_k"] [])
    (zdR : FnOk P w K mg base CX0 3 a.Va zbW ["_law_head","_law_cells"] (zfv K)) (VS : Fun K "_law_rule" "_law_rule" zx a.Va zbW) (zdS : Binds K zbW ["_law_head","_law_cells"] [])
    (Xa : FnOk P w K mg base CX0 1 a.ZK ZN ["_law_cell","_law_k"] (zbQ K)) (Zo : Fun K "_law_word" "_law_word" yF a.ZK ZN) (Xb : Binds K ZN ["_law_cell","_law_k"] []) : FnOk P w K mg base CX0 4 f fd ["_law_script"] (zfw K):=by
  refine F.ok zji (fun vs H Q E h=>?_) (fun cdv A outer s H vs Q E hr h=>?_)
  · obtain ⟨a,ns,D,rfl,zz⟩:=h
    rfl
  · obtain ⟨ad,ns,D,rfl,hS,hl,sD,q⟩:=h
    refine ⟨_,(pss_cons (psN (i:=1) (sc:=defScope yj) (M:=wW) rfl rfl (by decide +kernel) (zh (sc:=defScope yj) VQ (hr.mono (by decide)) rfl (by decide +kernel) T.zdK Xc.kp VR .nil pass0 (pa_cons (pvA 0 (defScope yj) wW rfl rfl) (pa_cons pe_int pa_nil))))
      (pss_cons (psN (i:=2) (sc:=defScope yj) (M:=wW) rfl rfl (by decide +kernel) (pe_lst pa_nil))
      (pss_cons (ps_for PassesOwn.never rfl (pi_range1 (glR (sc:=defScope yj) rfl (by decide +kernel)) T.jH (pa_cons (pe_op op_mod (zh (sc:=defScope yj) VQ (hr.mono (by decide)) rfl (by decide +kernel) T.zdK Xc.kp VR .nil pass0 (pa_cons (pvA 0 (defScope yj) wW rfl rfl) (pa_cons pe_int pa_nil))) pe_int) pa_nil)) (pgN (i:=3) (sc:=defScope yj) (M:=wW) rfl rfl (by decide +kernel)) (pss_one (ps_expr (pe_bm PySem.F.plainAttrs_list PySem.F.slot_list_append PySem.F.type_list_append mt_append (pvA 2 (defScope yj) wW rfl rfl) (pa_cons (pe_tup (pa_cons (zh (sc:=defScope yj) Xa (hr.mono (by decide)) rfl (by decide +kernel) T.zdL Zo.kp Xb .nil pass0 (pa_cons (pvA 1 (defScope yj) wW rfl rfl) (pa_cons (pvA 3 (defScope yj) wW rfl rfl) pa_nil))) (pa_cons (pe_op op_add pe_int (pe_op op_mod (pe_op op_fdiv (zh (sc:=defScope yj) VQ (hr.mono (by decide)) rfl (by decide +kernel) T.zdK Xc.kp VR .nil pass0 (pa_cons (pvA 0 (defScope yj) wW rfl rfl) (pa_cons pe_int pa_nil))) (pe_op op_add pe_int (pvA 3 (defScope yj) wW rfl rfl))) pe_int)) pa_nil))) pa_nil)))))
      (pss_one (ps_ret (pe_tup (pa_cons (pvA 2 (defScope yj) wW rfl rfl) (pa_cons (zh (sc:=defScope yj) zdR (hr.mono (by decide)) rfl (by decide +kernel) T.zkV VS.kp zdS .nil pass0 (pa_cons (pvA 1 (defScope yj) wW rfl rfl) (pa_cons (pe_slice sl_list (pvA 0 (defScope yj) wW rfl rfl) (po_some pe_int) (po_some pe_int)) pa_nil))) pa_nil)))))))),?_⟩
    try dsimp only [cxOf,Cx.nox]
    have hs : sizeLine=16777216:=sizeLine_eq
    refine ⟨_,rfl,ad,ns,0,rfl,hS,hl,by decide,?_⟩
    generalize vn ns 0=hd
    refine ⟨by first | decide | (simp only [List.length_cons,List.length_nil,List.length_append,List.length_map]; decide),fun po hpo=>?_⟩
    have n0 : 0≤vn ns 1 % 7:=Int.emod_nonneg _ (by decide)
    have n1 : vn ns 1 % 7 < 7:=Int.emod_lt_of_pos _ (by decide)
    have s1:=Same.zp (o := .lst []) hpo
    refine ⟨_,rfl,ad,ns,1,rfl,s1.seq hS,hl,by decide,_,_,rfl,rfl,(by show (0 : Int) < 7; decide),_,rfl,by omega,by omega,?_⟩
    refine for_range (fun i σ H'=>L23.E4 fun D1 os xs v=>L23.A7 (σ=[some (.ref ad),some (.int hd),some (.ref po),v]) (Gr D H D1 H') (H' po=some (.lst xs)) (D1 po=none) (zb K D1 xs (os.map CF.yf)) (os.map (·.1)=(List.range i).map (fun j : Nat=>wordOf hd (j : Int))) ((∀ p∈os,1≤p.2∧p.2≤9))) ⟨D,[],[],_,rfl,Gr.heap sD s1,upd_same,zZ sD hpo,zb.nil,rfl,(fun p h=>nomatch h)⟩ ?_ ?_
    · rintro i σ H1 hi ⟨D1,os,xs,v,rfl,G,e,nd,hA,hw,hn⟩
      refine ⟨_,rfl,.inl ⟨rfl,_,SqL.of e⟩,_,rfl,_,rfl,hd,_,rfl,fun H2 s2=>?_⟩
      have G2:=G.then s2
      refine ⟨_,rfl,ad,ns,1,rfl,G2.hh.seq hS,hl,by decide,_,rfl,_,_,rfl,rfl,_,_,rfl,rfl,⟨by omega,by omega⟩,_,_,rfl,rfl,(by show (0 : Int) < 9; decide),_,_,rfl,rfl,by first | decide | (simp only [List.length_cons,List.length_nil,List.length_append,List.length_map]; decide),fun pt hpt=>?_⟩
      obtain ⟨z,hz⟩ : ∃ z : Int,z=1 + vn ns 1 / (7 + (0 + (i : Nat))) % 9:=⟨_,rfl⟩
      have hz1 : 1≤z∧z≤9:=by
        have h0:=Int.emod_nonneg (vn ns 1 / (7 + (0 + (i : Nat)))) (show (9 : Int)≠0 by decide)
        have h1:=Int.emod_lt_of_pos (vn ns 1 / (7 + (0 + (i : Nat)))) (show (0 : Int) < 9 by decide)
        omega
      first | rw [show V.int (1 + vn ns 1 / (7 + (0 + (i : Nat))) % 9)=V.int z by rw [hz]] at * | rw [show (fun i j : Int=>V.int (i + j)) 1 (vn ns 1 / (7 + (0 + (i : Nat))) % 9)=V.int z by rw [hz]] at *
      have lx:=zb.length hA
      rw [List.length_map,← List.length_map (f:=fun p : Str × Int=>p.1),hw,List.length_map,List.length_range] at lx
      have G3:=Gr.lay (o := .tup [.str (wordOf hd (0 + (i : Nat))),.int z]) G2.dh hpt
      obtain ⟨e3,n3⟩:=G3.old (s2 _ _ e) nd
      refine ⟨po,_,_,rfl,rfl,e3,by omega,_,os ++ [(wordOf hd (i : Nat),z)],_,_,rfl,Gr.set (G2.trans G3) hpo n3,upd_same,n3,?_,?_,?_⟩
      · rw [List.map_append]
        refine zb.snoc ?_ (zb.up hA G3.dd)
        rw [show (0 : Int) + (i : Nat)=(i : Nat) by omega]
        exact zc.mkT (zb.cons zc.ofStr (zb.cons zc.ofInt zb.nil)) upd_same (Same.refl _)
      · rw [List.map_append,hw,List.range_succ,List.map_append]
        rfl
      · intro p hp
        rcases List.mem_append.mp hp with h | h
        · exact hn p h
        · rw [List.mem_singleton.mp h]; exact hz1
    rintro σ H1 ⟨D1,os,xs,v,rfl,G,e,nd,hA,hw,hn⟩
    obtain ⟨ms,em,lm,mm⟩:=zgK ns (some 2) (some 65)
    refine ⟨_,rfl,_,rfl,_,rfl,_,rfl,_,rfl,ad,_,rfl,G.hh.seq hS,fun p2 hp2=>?_⟩
    rw [em]
    have G2:=G.then (Same.zp (o := .lst (ms.map V.int)) hp2)
    refine ⟨hd,p2,ms,D1,rfl,G2.dh,SqL.of upd_same,by omega,fun r D3 H3 y g3 dy hr hdp hlv=>⟨by first | decide | (simp only [List.length_cons,List.length_nil,List.length_append,List.length_map]; decide),fun pt hpt=>?_⟩⟩
    have e2:=(Same.zp (o := .lst (ms.map V.int)) hp2) _ _ e
    obtain ⟨e3,n3⟩:=g3.old e2 nd
    have G3:=(G2.trans g3).fix hpo n3 e3
    have G4:=G3.trans (Gr.lay (o := .tup [.ref po,y]) G3.dh hpt)
    have lx:=congrArg List.length hw
    rw [List.length_map,List.length_map,List.length_range] at lx
    refine q ⟨os,r⟩ _ _ (.ref pt) G4 ?_ ⟨?_,hn,?_,?_,hr,hdp,hlv⟩
    · have sx : Same D3 (upd D3 po (.lst xs)):=Same.zp n3
      have ho : zc K (upd D3 po (.lst xs)) (.ref po) (.list (os.map CF.yf)):=zc.mkL (zb.up hA (g3.dd.trans sx)) upd_same (Same.refl _)
      exact zc.mkT (zb.cons ho (zb.cons (zc.up dy sx) zb.nil)) upd_same (Same.zp (zZ G3.dh hpt))
    · intro p hp
      have : p.1∈os.map (·.1):=List.mem_map.mpr ⟨p,hp,rfl⟩
      rw [hw] at this
      obtain ⟨j,zz,ej⟩:=List.mem_map.mp this
      rw [← ej]
      exact JD _ _
    · show (os.map (·.1)).Nodup
      rw [hw]
      refine VO List.nodup_range fun i hi j hj eij=>?_
      have:=List.mem_range.mp hi
      have:=List.mem_range.mp hj
      have:=zgJ (c:=hd) (i:=(i : Nat)) (j:=(j : Nat)) (by omega) (by omega) (by omega) (by omega) eij
      omega
    · show os.length≤16
      omega
noncomputable def zao (vs : List V) (H : Hp) (Q : VK):=fun (t : Str) (g : Str)=>L23.A3 (vs=[.str t,.str g]) (t.length≤1048576) (∀ H',Same H H'→Q (.bl (CW.xm t g)) H')
noncomputable def zbX (_ : PySem.W.Frag) : Sp:=fun vs H Q zz=>L23.E2 (zao vs H Q)
theorem zjx {f : Addr} {fd : FuncData} (F : Fun K "only_of" "only_of" wB f fd) (T : Txt K mg a) : FnOk P w K mg base CX0 1 f fd ["text","signs"] (zbX K):=by
  refine F.ok ziY (fun vs H Q E h=>?_) (fun cdv A outer s H vs Q E hr h=>?_)
  · obtain ⟨t,g,rfl,zz⟩:=h
    rfl
  · obtain ⟨t,g,rfl,ht,q⟩:=h
    refine ⟨_,(pss_one (ps_ret (zf (sc:=defScope wB) (XI rfl) rfl (by decide +kernel) T.Y7 zbp (pa_cons (ju rfl (N:=["sign","signs"]) (own:=1) (js:=[1]) (X:=(cxOf CX0 P w K mg base zaA "only_of" (defScope wB) f cdv A outer s H E).nox) (jW (defScope wB) zaA rfl rfl (by decide +kernel)) (ziG (pvA 0 (defScope wB) zaA rfl rfl)) (fun fp0 sx0 Hx0=>(pgN (i:=0) (sc:=zD _ (defScope wB)) (M:=["sign","signs"]) rfl rfl (by decide +kernel))) (fun fp0 sx0 Hx0=>vc) (fun fp0 sx0 Hx0=>(pe_cmpR op_in_str (pvN (i:=0) (sc:=zD _ (defScope wB)) (M:=["sign","signs"]) rfl rfl (by decide +kernel)) (pvN (i:=1) (sc:=zD _ (defScope wB)) (M:=["sign","signs"]) rfl rfl (by decide +kernel)) (by with_unfolding_all rfl)))) pa_nil)))),?_⟩
    try dsimp only [cxOf,Cx.nox]
    refine ⟨_,rfl,t,rfl,fun D hD=>?_⟩
    refine ZZ hD (zdi (P:=fun zz=>True)) (fun σ=>∃ v,σ=[v,some (.str g)]) (fun x=>match x with | .str z=>some (.bl (g.cps.toList.contains (z.cps.getD 0 0))) | _=>none) ⟨none,rfl⟩ (fun zz zz=>trivial) ?_ ?_ ?_
    · rw [List.length_map,sizeLine_eq]
      have : t.cps.toList.length=t.length:=by simp [Str.length]
      omega
    · rintro x ys σ H' R1 R0 hx ⟨v,rfl⟩ s k1 k0
      obtain ⟨c,hc,rfl⟩:=List.mem_map.mp hx
      refine ⟨_,rfl,_,rfl,_,_,rfl,rfl,k1 _ _ _ ⟨_,rfl⟩ ?_ (Same.refl _)⟩
      rw [zhZ]
      rfl
    · intro H' s e
      refine ⟨D,t.cps.toList.map fun c=>g.cps.toList.contains c,rfl,SqL.of (e.trans ?_),?_⟩
      · rw [List.filterMap_map,List.map_map]
        congr 2
        induction t.cps.toList with
        | nil=>rfl
        | cons c r ih=>rw [List.filterMap_cons,List.map_cons,← ih]; rfl
      · have e2 : ((t.cps.toList.map fun c=>g.cps.toList.contains c).all id)=CW.xm t g:=by
          unfold CW.xm
          rw [List.all_map]
          rfl
        rw [e2]
        exact q H' s
noncomputable def zap (vs : List V) (H : Hp) (Q : VK):=fun (t : Str)=>L23.A3 (vs=[.str t]) (t.length≤1048576) (∀ H',Same H H'→Q (.bl (CW.isWord t)) H')
noncomputable def zaq (vs : List V) (H : Hp) (Q : VK):=fun x S=>L23.A6 (vs=[x]) ((∀ z,x ≠ .str z)) (S≠"str") ((∀ K,tyName K H x S)) ((S="NoneType"∨S="bool"∨S="int"∨S="list"∨S="tuple")) (Q (.bl false) H)
noncomputable def zbY (_ : PySem.W.Frag) : Sp:=fun vs H Q zz=>(Exists (zap vs H Q))∨(L23.E2 (zaq vs H Q))
theorem zjy {f : Addr} {fd ZO : FuncData} (F : Fun K "is_word" "is_word" zV f fd) (T : Txt K mg a)
    (Xd : FnOk P w K mg base CX0 1 a.YB ZO ["text","signs"] (zbX K)) (Zp : Fun K "only_of" "only_of" wB a.YB ZO) (Xe : Binds K ZO ["text","signs"] []) : FnOk P w K mg base CX0 2 f fd ["thing"] (zbY K):=by
  have yT:=T.yT
  obtain ⟨zz,Z4⟩:=T.Z4
  obtain ⟨zz,vm⟩:=T.vm
  refine F.ok ziZ (fun vs H Q E h=>?_) (fun cdv A outer s H vs Q E hr h=>?_)
  · rcases h with ⟨t,rfl,_⟩ | ⟨x,S,rfl,_⟩
    · rfl
    · rfl
  · rcases h with ⟨t,rfl,ht,q⟩ | ⟨x,S,rfl,hx,hS,hty,hS2,q⟩
    · refine ⟨_,(pss_cons (ps_if (pt_not (pt_val (zf (sc:=defScope zV) yO rfl (by decide +kernel) T.zG zM (pa_cons (pvA 0 (defScope zV) vZ rfl rfl) (pa_cons (yP (v:=V.ty "str") (sc:=defScope zV) rfl (by decide +kernel) T.xQ xW rfl) pa_nil))))) (pss_one (ps_ret pe_bl)) pss_nil)
      (pss_cons (ps_if (PW.pt (pw_or (pt_cmpR op_lt (zf (sc:=defScope zV) call_len rfl (by decide +kernel) T.zF zy (pa_cons (pvA 0 (defScope zV) vZ rfl rfl) pa_nil)) pe_int (nomark _)) (pw_or1 (pt_cmpR op_gt (zf (sc:=defScope zV) call_len rfl (by decide +kernel) T.zF zy (pa_cons (pvA 0 (defScope zV) vZ rfl rfl) pa_nil)) (zN (v:=V.int 12) (sc:=defScope zV) rfl (by decide +kernel) vm ⟨_,rfl⟩) (nomark _))))) (pss_one (ps_ret pe_bl)) pss_nil)
      (pss_one (ps_ret (pe_and (zh (sc:=defScope zV) Xd (hr.mono (by decide)) rfl (by decide +kernel) T.zdJ Zp.kp Xe .nil pass0 (pa_cons (pvA 0 (defScope zV) vZ rfl rfl) (pa_cons (zN (v:=V.str "abcdefghijklmnopqrstuvwxyz") (sc:=defScope zV) rfl (by decide +kernel) Z4 ⟨_,rfl⟩) pa_nil))) (pe_one (pe_cmpR op_notIn_seq (pvA 0 (defScope zV) vZ rfl rfl) (zN (v:=V.ref a.yT) (sc:=defScope zV) rfl (by decide +kernel) yT rfl) (by with_unfolding_all rfl)))))))),?_⟩
      have hz : t.length≤sizeLine:=by rw [sizeLine_eq]; omega
      refine ⟨_,rfl,_,"str","str",true,rfl,rfl,jO _,_,rfl,?_⟩
      refine ⟨_,rfl,_,t.length,rfl,⟨hz,rfl⟩,_,_,rfl,rfl,_,rfl,ite2 (fun h1=>?_) (fun h1=>?_)⟩
      · have h1' : (t.length : Int) < 1:=of_decide_eq_true h1
        have e : CW.isWord t=false:=by
          unfold CW.isWord
          rw [decide_eq_false (by omega)]
          rfl
        rw [e] at q
        exact iteT (q H (Same.refl H))
      · have h1' : ¬ (t.length : Int) < 1:=fun z=>h1 (decide_eq_true z)
        refine ⟨_,rfl,_,t.length,rfl,⟨hz,rfl⟩,_,_,rfl,rfl,_,rfl,ite2 (fun h2=>?_) (fun h2=>?_)⟩
        · have h2' : (12 : Int) < (t.length : Int):=of_decide_eq_true h2
          have e : CW.isWord t=false:=by
            unfold CW.isWord
            rw [decide_eq_true (show 1≤t.length by omega),decide_eq_false (show ¬ t.length≤12 by omega)]
            rfl
          rw [e] at q
          exact q H (Same.refl H)
        · have h2' : ¬ (12 : Int) < (t.length : Int):=fun z=>h2 (decide_eq_true z)
          refine ⟨_,rfl,t,_,rfl,ht,fun H1 s1=>⟨_,rfl,?_⟩⟩
          have e : CW.isWord t=(CW.xm t CW.jy && !CW.keys.contains t):=by
            unfold CW.isWord
            rw [decide_eq_true (show 1≤t.length by omega),decide_eq_true (show t.length≤12 by omega)]
            cases CW.keys.contains t <;> cases CW.xm t CW.jy <;> rfl
          refine ite2 (fun h3=>?_) (fun h3=>?_)
          · refine ⟨_,rfl,_,CW.keys.map V.str,rfl,.inr (T.zcO H1),rfl,by decide +kernel,?_⟩
            have e2 : (if true=true then !inV (V.str t) (CW.keys.map V.str) else inV (V.str t) (CW.keys.map V.str))=CW.isWord t:=by
              rw [if_pos rfl,e,show CW.xm t CW.jy=true from h3,Bool.true_and]
              congr 1
              exact ZC t CW.keys
            rw [e2]
            exact q H1 s1
          · have e3 : CW.xm t CW.jy=false:=Bool.eq_false_iff.mpr h3
            rw [e,e3] at q
            exact q H1 s1
    · refine ⟨_,(pss_cons (ps_if (pt_not (pt_val (zf (sc:=defScope zV) yO rfl (by decide +kernel) T.zG zM (pa_cons (pvA 0 (defScope zV) vZ rfl rfl) (pa_cons (yP (v:=V.ty "str") (sc:=defScope zV) rfl (by decide +kernel) T.xQ xW rfl) pa_nil))))) (pss_one (ps_ret pe_bl)) pss_nil)
      (pss_cons (ps_if (PW.pt (pw_or (pt_cmpR op_lt (zf (sc:=defScope zV) call_len rfl (by decide +kernel) T.zF zy (pa_cons (pvA 0 (defScope zV) vZ rfl rfl) pa_nil)) pe_int (nomark _)) (pw_or1 (pt_cmpR op_gt (zf (sc:=defScope zV) call_len rfl (by decide +kernel) T.zF zy (pa_cons (pvA 0 (defScope zV) vZ rfl rfl) pa_nil)) (zN (v:=V.int 12) (sc:=defScope zV) rfl (by decide +kernel) vm ⟨_,rfl⟩) (nomark _))))) (pss_one (ps_ret pe_bl)) pss_nil)
      (pss_one (ps_ret (pe_and (zh (sc:=defScope zV) Xd (hr.mono (by decide)) rfl (by decide +kernel) T.zdJ Zp.kp Xe .nil pass0 (pa_cons (pvA 0 (defScope zV) vZ rfl rfl) (pa_cons (zN (v:=V.str "abcdefghijklmnopqrstuvwxyz") (sc:=defScope zV) rfl (by decide +kernel) Z4 ⟨_,rfl⟩) pa_nil))) (pe_one (pe_cmpR op_notIn_seq (pvA 0 (defScope zV) vZ rfl rfl) (zN (v:=V.ref a.yT) (sc:=defScope zV) rfl (by decide +kernel) yT rfl) (by with_unfolding_all rfl)))))))),?_⟩
      have hk : PySem.W.kitOne K (.type S) (.type "str")=some false:=by
        rcases hS2 with rfl | rfl | rfl | rfl | rfl
        · exact zcI _
        · exact zdj _
        · exact Z9 _
        · exact zbo _
        · exact zah _
      exact ⟨_,rfl,_,S,"str",false,rfl,hty _,hk,_,rfl,q⟩
noncomputable def VT (vs : List V) (H : Hp) (Q : VK):=fun (t : Str)=>L23.A3 (vs=[.str t]) (t.length≤1048576) (∀ H',Same H H'→Q (.bl (CW.isNum t)) H')
noncomputable def zfx (_ : PySem.W.Frag) : Sp:=fun vs H Q zz=>Exists (VT vs H Q)
theorem zjz {f : Addr} {fd ZO : FuncData} (F : Fun K "is_number" "is_number" xO f fd) (T : Txt K mg a)
    (Xd : FnOk P w K mg base CX0 1 a.YB ZO ["text","signs"] (zbX K)) (Zp : Fun K "only_of" "only_of" wB a.YB ZO) (Xe : Binds K ZO ["text","signs"] []) : FnOk P w K mg base CX0 2 f fd ["text"] (zfx K):=by
  obtain ⟨zz,Wi⟩:=T.Wi
  obtain ⟨zz,jI⟩:=T.jI
  refine F.ok zi0 (fun vs H Q E h=>?_) (fun cdv A outer s H vs Q E hr h=>?_)
  · obtain ⟨t,rfl,zz⟩:=h
    rfl
  · obtain ⟨t,rfl,ht,q⟩:=h
    refine ⟨_,(pss_cons (ps_if (PW.pt (pw_or (pt_cmpR op_lt (zf (sc:=defScope xO) call_len rfl (by decide +kernel) T.zF zy (pa_cons (pvA 0 (defScope xO) Wx rfl rfl) pa_nil)) pe_int (nomark _)) (pw_or (pt_cmpR op_gt (zf (sc:=defScope xO) call_len rfl (by decide +kernel) T.zF zy (pa_cons (pvA 0 (defScope xO) Wx rfl rfl) pa_nil)) (zN (v:=V.int 60) (sc:=defScope xO) rfl (by decide +kernel) jI ⟨_,rfl⟩) (nomark _)) (pw_or1 (pt_not (pt_val (zh (sc:=defScope xO) Xd (hr.mono (by decide)) rfl (by decide +kernel) T.zdJ Zp.kp Xe .nil pass0 (pa_cons (pvA 0 (defScope xO) Wx rfl rfl) (pa_cons (zN (v:=V.str "0123456789") (sc:=defScope xO) rfl (by decide +kernel) Wi ⟨_,rfl⟩) pa_nil))))))))) (pss_one (ps_ret pe_bl)) pss_nil)
      (pss_one (ps_ret (pe_or (pe_cmpR op_eq (pvA 0 (defScope xO) Wx rfl rfl) pe_str (nomark _)) (pe_one (pe_cmpR op_ne (pe_ix ix_str (pvA 0 (defScope xO) Wx rfl rfl) pe_int (fun zz zz=>rfl)) pe_str (nomark _))))))),?_⟩
    try dsimp only [cxOf,Cx.nox]
    have hz : t.length≤sizeLine:=by rw [sizeLine_eq]; omega
    refine ⟨_,rfl,_,t.length,rfl,⟨hz,rfl⟩,_,_,rfl,rfl,_,rfl,ite2 (fun h1=>?_) (fun h1=>?_)⟩
    · have h1' : (t.length : Int) < 1:=of_decide_eq_true h1
      have e : CW.isNum t=false:=by
        unfold CW.isNum
        rw [decide_eq_false (by omega)]
        rfl
      rw [e] at q
      exact iteT (q H (Same.refl H))
    have h1' : ¬ (t.length : Int) < 1:=fun z=>h1 (decide_eq_true z)
    refine ⟨_,rfl,_,t.length,rfl,⟨hz,rfl⟩,_,_,rfl,rfl,_,rfl,ite2 (fun h2=>?_) (fun h2=>?_)⟩
    · have h2' : (60 : Int) < (t.length : Int):=of_decide_eq_true h2
      have e : CW.isNum t=false:=by
        unfold CW.isNum
        rw [decide_eq_true (show 1≤t.length by omega),decide_eq_false (show ¬ t.length≤60 by omega)]
        rfl
      rw [e] at q
      exact iteT (q H (Same.refl H))
    have h2' : ¬ (60 : Int) < (t.length : Int):=fun z=>h2 (decide_eq_true z)
    have e : CW.isNum t=(CW.xm t CW.Zt && (t == "0" || !((⟨#[t.cps.getD 0 0]⟩ : Str) == "0"))):=by
      unfold CW.isNum
      rw [decide_eq_true (show 1≤t.length by omega),decide_eq_true (show t.length≤60 by omega)]
      rfl
    refine ⟨_,rfl,t,_,rfl,ht,fun H1 s1=>⟨_,rfl,?_⟩⟩
    show (if (!CW.xm t CW.Zt)=true then _ else _)
    cases h3 : CW.xm t CW.Zt with
    | false =>
      rw [e,h3] at q
      exact q H1 s1
    | true =>
      rw [e,h3,Bool.true_and] at q
      refine iteF ⟨_,rfl,rfl,_,rfl,?_⟩
      rw [dec_str]
      cases h4 : t == "0" with
      | true =>
        rw [h4] at q
        exact q H1 s1
      | false =>
        rw [h4,Bool.false_or] at q
        obtain ⟨c,hc⟩:=zh0 (z:=t) (i:=0) (by decide) (by omega)
        have ec : t.cps.getD 0 0=c:=by
          obtain ⟨j,zz,e2,zz⟩:=atI_get hc
          obtain ⟨r,er⟩:=CW.XU (t:=t) (by omega)
          have:=hc
          unfold atI ixN at this
          have hl : cs t=t.cps.toList:=rfl
          rw [← hl,er] at this
          simp at this
          rw [Array.getD_eq_getD_getElem?]
          exact this
        rw [ec] at q
        refine iteF ⟨_,rfl,_,_,_,rfl,rfl,hz,hc,rfl,?_⟩
        rw [dec_str]
        exact q H1 s1
noncomputable def WJ (vs : List V) (H : Hp) (Q : VK):=fun (t : Str) (lo : Int) (hi : Int)=>L23.A3 (vs=[.str t,.int lo,.int hi]) (t.length≤1048576) (∀ H',Same H H'→Q (CT.oV (CT.zI t lo hi)) H')
noncomputable def Wk (_ : PySem.W.Frag) : Sp:=fun vs H Q zz=>L23.E3 (WJ vs H Q)
theorem zjA {f : Addr} {fd zbZ : FuncData} (F : Fun K "read_number" "read_number" yZ f fd) (T : Txt K mg a)
    (zdT : FnOk P w K mg base CX0 2 a.We zbZ ["text"] (zfx K)) (VU : Fun K "is_number" "is_number" xO a.We zbZ) (zdU : Binds K zbZ ["text"] []) : FnOk P w K mg base CX0 3 f fd ["text","least","most"] (Wk K):=by
  refine F.ok zi1 (fun vs H Q E h=>?_) (fun cdv A outer s H vs Q E hr h=>?_)
  · obtain ⟨t,lo,hi,rfl,zz⟩:=h
    rfl
  · obtain ⟨t,lo,hi,rfl,hl,q⟩:=h
    refine ⟨_,(pss_cons (ps_if (pt_not (pt_val (zh (sc:=defScope yZ) zdT (hr.mono (by decide)) rfl (by decide +kernel) T.zkM VU.kp zdU .nil pass0 (pa_cons (pvA 0 (defScope yZ) Zl rfl rfl) pa_nil)))) (pss_one (ps_ret pe_non)) pss_nil)
      (pss_cons (psN (i:=3) (sc:=defScope yZ) (M:=Zl) rfl rfl (by decide +kernel) (yk (sc:=defScope yZ) zeQ rfl (by decide +kernel) T.Wy zeR (pa_cons (pvA 0 (defScope yZ) Zl rfl rfl) pa_nil)))
      (pss_cons (ps_if (PW.pt (pw_or (pt_cmpR op_lt (pvA 3 (defScope yZ) Zl rfl rfl) (pvA 1 (defScope yZ) Zl rfl rfl) (nomark _)) (pw_or1 (pt_cmpR op_gt (pvA 3 (defScope yZ) Zl rfl rfl) (pvA 2 (defScope yZ) Zl rfl rfl) (nomark _))))) (pss_one (ps_ret pe_non)) pss_nil)
      (pss_one (ps_ret (pvA 3 (defScope yZ) Zl rfl rfl)))))),?_⟩
    try dsimp only [cxOf,Cx.nox]
    unfold CT.zI at q
    refine ⟨_,rfl,t,rfl,hl,fun H1 s1=>⟨_,rfl,?_⟩⟩
    cases hn : CW.isNum t with
    | false =>
      rw [hn,if_neg (by decide)] at q
      exact q H1 s1
    | true =>
      rw [hn,if_pos rfl] at q
      obtain ⟨e1,e2⟩:=CW.num_reads hn
      refine ⟨_,rfl,t,_,rfl,e1,by omega,?_⟩
      refine ⟨_,rfl,_,rfl,_,_,rfl,rfl,_,rfl,ite2 (fun h1=>?_) (fun h1=>⟨_,rfl,_,rfl,_,_,rfl,rfl,_,rfl,ite2 (fun h2=>?_) (fun h2=>?_)⟩)⟩
      · rw [if_pos (.inl (of_decide_eq_true h1))] at q
        exact q H1 s1
      · rw [if_pos (.inr (of_decide_eq_true h2))] at q
        exact q H1 s1
      · rw [if_neg (fun z=>z.elim (fun z=>h1 (decide_eq_true z)) (fun z=>h2 (decide_eq_true z)))] at q
        exact ⟨_,rfl,q H1 s1⟩
noncomputable def yu (ps : List Str) : Prop:=(∀ t∈ps,CF.Tx 100000 t)∧ps.length≤100000
noncomputable def VW (K : PySem.W.Frag) (vs : List V) (H : Hp) (Q : VK):=fun (p : Addr) (ws : List Str)=>L23.A4 (vs=[.ref p]) (SqL K H p (ws.map V.str)) (yu ws) (∀ H',Same H H'→Q (.bl (CT.yz ws)) H')
noncomputable def zhu (K : PySem.W.Frag) : Sp:=fun vs H Q zz=>L23.E2 (VW K vs H Q)
theorem zk2 {f : Addr} {fd ZP : FuncData} (F : Fun K "are_words" "are_words" xD f fd) (T : Txt K mg a)
    (WC : FnOk P w K mg base CX0 2 a.YC ZP ["thing"] (zbY K)) (Z5 : Fun K "is_word" "is_word" zV a.YC ZP) (WD : Binds K ZP ["thing"] []) : FnOk P w K mg base CX0 3 f fd ["words"] (zhu K):=by
  obtain ⟨zz,ZM⟩:=T.ZM
  refine F.ok zkD (fun vs H Q E h=>?_) (fun cdv A outer s H vs Q E hr h=>?_)
  · obtain ⟨p,ws,rfl,zz⟩:=h
    rfl
  · obtain ⟨p,ws,rfl,hp,hok,q⟩:=h
    refine ⟨_,(pss_cons (ps_if (PW.pt (pw_or (pt_cmpR op_gt (zf (sc:=defScope xD) call_len rfl (by decide +kernel) T.zF zy (pa_cons (pvA 0 (defScope xD) W8 rfl rfl) pa_nil)) (zN (v:=V.int 8) (sc:=defScope xD) rfl (by decide +kernel) ZM ⟨_,rfl⟩) (nomark _)) (pw_or1 (pt_cmpR op_lt (zf (sc:=defScope xD) L6S.zan rfl (by decide +kernel) T.zF zy (pa_cons (yk (sc:=defScope xD) (L6S.zbA rfl) rfl (by decide +kernel) T.VI ziJ (pa_cons (pvA 0 (defScope xD) W8 rfl rfl) pa_nil)) pa_nil)) (zf (sc:=defScope xD) call_len rfl (by decide +kernel) T.zF zy (pa_cons (pvA 0 (defScope xD) W8 rfl rfl) pa_nil)) (nomark _))))) (pss_one (ps_ret pe_bl)) pss_nil)
      (pss_one (ps_ret (zf (sc:=defScope xD) (XI rfl) rfl (by decide +kernel) T.Y7 zbp (pa_cons (ju rfl (N:=["word"]) (own:=1) (js:=[]) (X:=(cxOf CX0 P w K mg base W8 "are_words" (defScope xD) f cdv A outer s H E).nox) (jW (defScope xD) W8 rfl rfl (by decide +kernel)) (pi_list (pvA 0 (defScope xD) W8 rfl rfl)) (fun fp0 sx0 Hx0=>(pgN (i:=0) (sc:=zD _ (defScope xD)) (M:=["word"]) rfl rfl (by decide +kernel))) (fun fp0 sx0 Hx0=>vc) (fun fp0 sx0 Hx0=>(zh (sc:=zD _ (defScope xD)) WC (hr.mono (by decide)) rfl (by decide +kernel) T.zho Z5.kp WD .nil pass0 (pa_cons (pvN (i:=0) (sc:=zD _ (defScope xD)) (M:=["word"]) rfl rfl (by decide +kernel)) pa_nil)))) pa_nil))))),?_⟩
    try dsimp only [cxOf,Cx.nox]
    have hs : sizeLine=16777216:=sizeLine_eq
    unfold CT.yz at q
    have lw:=hok.2
    refine ⟨_,rfl,.ref p,ws.length,rfl,.inl ⟨_,hp,by rw [List.length_map]⟩,_,_,rfl,rfl,_,rfl,ite2 (fun h1=>?_) (fun h1=>?_)⟩
    · have h1':=of_decide_eq_true h1
      rw [decide_eq_false (show ¬ ws.length≤8 by omega),Bool.false_and] at q
      exact iteT (q H (Same.refl _))
    have h8 : ws.length≤8:=by
      have hh : ¬ ((8 : Int) < (ws.length : Nat)):=fun z=>h1 (decide_eq_true z)
      omega
    rw [decide_eq_true h8,Bool.true_and] at q
    refine ⟨_,rfl,p,ws,rfl,hp,Nat.lt_of_le_of_lt (Nat.succ_le_succ h8) (by decide),fun ps hps=>⟨ps,L6S.dedup ws,rfl,upd_same,Nat.le_trans (L6S.J3 ws) (by omega),?_⟩⟩
    have s1:=Same.zp (o:=L6S.zay P w ps (L6S.dedup ws)) hps
    refine ⟨_,rfl,.ref p,ws.length,rfl,.inl ⟨_,s1.seq hp,by rw [List.length_map]⟩,_,_,rfl,rfl,_,rfl,ite2 (fun h2=>?_) (fun h2=>?_)⟩
    · have hnd : ¬ ws.Nodup:=fun z=>by
        have:=of_decide_eq_true h2
        rw [L6S.zgs z] at this
        omega
      rw [decide_eq_false hnd,Bool.false_and] at q
      exact q _ s1
    have hnd : ws.Nodup:=by
      refine Classical.byContradiction fun z=>h2 (decide_eq_true ?_)
      have:=L6S.zgt z
      omega
    rw [decide_eq_true hnd,Bool.true_and] at q
    refine ⟨_,rfl,p,rfl,⟨_,s1.seq hp⟩,fun c hc=>?_⟩
    refine ZZ hc vv (fun σ=>∃ v,σ=[v]) (fun x=>match x with | .str z=>some (.bl (CW.isWord z)) | _=>none) ⟨_,rfl⟩ (fun H' s'=>(s1.trans s').seq hp) (by rw [List.length_map]; omega) ?_ ?_
    · rintro x ys σ H2 R1 R0 hx ⟨v,rfl⟩ s2 k1 k0
      obtain ⟨z,hz,rfl⟩:=List.mem_map.mp hx
      refine ⟨_,rfl,.inl ⟨z,rfl,Nat.le_trans (hok.1 z hz).2 (by decide),fun H3 s3=>k1 _ _ _ ⟨_,rfl⟩ rfl s3⟩⟩
    · intro H2 s2 e2
      refine ⟨c,ws.map CW.isWord,rfl,SqL.of (e2.trans ?_),?_⟩
      · congr 2
        rw [List.filterMap_map]
        generalize ws=l
        induction l with
        | nil=>rfl
        | cons z r ih=>exact congrArg (V.bl (CW.isWord z) :: ·) ih
      · rw [show (ws.map CW.isWord).all id=ws.all CW.isWord by rw [List.all_map]; rfl]
        exact q _ (s1.trans s2)
noncomputable def WK (K : PySem.W.Frag) (vs : List V) (H : Hp) (Q : VK):=fun (p : Addr) (ps : List Str)=>L23.A4 (vs=[.ref p]) (SqL K H p (ps.map V.str)) (ps.length≤100000) (∀ H' r,Same H H'→H r=none→H' r=some (.lst ((CT.zA ps).map V.str))→Q (.ref r) H')
noncomputable def zfy (K : PySem.W.Frag) : Sp:=fun vs H Q zz=>L23.E2 (WK K vs H Q)
theorem zjB {f : Addr} {fd : FuncData} (F : Fun K "words_ahead" "words_ahead" yQ f fd) (T : Txt K mg a) : FnOk P w K mg base CX0 1 f fd ["parts"] (zfy K):=by
  refine F.ok zi2 (fun vs H Q E h=>?_) (fun cdv A outer s H vs Q E hr h=>?_)
  · obtain ⟨p,ps,rfl,zz⟩:=h
    rfl
  · obtain ⟨p,ps,rfl,hp,hl,q⟩:=h
    refine ⟨_,(pss_cons (psN (i:=1) (sc:=defScope yQ) (M:=v7) rfl rfl (by decide +kernel) (pe_slice sl_list (pvA 0 (defScope yQ) v7 rfl rfl) po_none (po_some pe_int)))
      (pss_cons (ps_while PassesOwn.never (PW.pt (pw_and (pt_cmpR op_gt (zf (sc:=defScope yQ) call_len rfl (by decide +kernel) T.zF zy (pa_cons (pvA 0 (defScope yQ) v7 rfl rfl) pa_nil)) (pe_op op_mul pe_int (zf (sc:=defScope yQ) call_len rfl (by decide +kernel) T.zF zy (pa_cons (pvA 1 (defScope yQ) v7 rfl rfl) pa_nil))) (nomark _)) (pw_and1 (pt_cmpR op_eq (pe_ix ix_list (pvA 0 (defScope yQ) v7 rfl rfl) (pe_op op_sub (pe_op op_mul pe_int (zf (sc:=defScope yQ) call_len rfl (by decide +kernel) T.zF zy (pa_cons (pvA 1 (defScope yQ) v7 rfl rfl) pa_nil))) pe_int) (fun zz zz=>rfl)) pe_str (nomark _))))) (pss_one (ps_expr (pe_bm PySem.F.plainAttrs_list PySem.F.slot_list_append PySem.F.type_list_append mt_append (pvA 1 (defScope yQ) v7 rfl rfl) (pa_cons (pe_ix ix_list (pvA 0 (defScope yQ) v7 rfl rfl) (pe_op op_mul pe_int (zf (sc:=defScope yQ) call_len rfl (by decide +kernel) T.zF zy (pa_cons (pvA 1 (defScope yQ) v7 rfl rfl) pa_nil))) (fun zz zz=>rfl)) pa_nil)))))
      (pss_one (ps_ret (pvA 1 (defScope yQ) v7 rfl rfl))))),?_⟩
    try dsimp only [cxOf,Cx.nox]
    have hs : sizeLine=16777216:=sizeLine_eq
    refine ⟨_,rfl,_,rfl,p,_,rfl,hp,fun r hr=>?_⟩
    rw [show cutV (ps.map V.str) none (some 1)=(ps.take 1).map V.str by rw [show (1 : Int)=((1 : Nat) : Int) from rfl,ziP,List.map_take]]
    refine ⟨fun m σ H'=>∃ ws,L23.A6 (m=ps.length - ws.length) (σ=[some (.ref p),some (.ref r)]) (Same H H') (H' r=some (.lst (ws.map V.str))) (ws.length≤ps.length) ((ps=[]∧ws=[]∨∃ p0 r0 ws1,ps=p0 :: r0∧ws=p0 :: ws1∧2 * ws1.length≤r0.length∧CT.ahead r0=ws1 ++ CT.ahead (r0.drop (2 * ws1.length)))),⟨_,ps.take 1,rfl,rfl,Same.zp hr,upd_same,by rw [List.length_take]; omega,?_⟩,?_⟩
    · cases ps with
      | nil=>exact .inl ⟨rfl,rfl⟩
      | cons p0 r0=>exact .inr ⟨p0,r0,[],rfl,rfl,by simp,by simp⟩
    rintro m σ H1 ⟨ws,rfl,rfl,s1,e1,lw,inv⟩
    have hp1:=s1.seq hp
    have fin : CT.zA ps=ws→Q (.ref r) H1:=fun e=>q H1 r s1 hr (by rw [e]; exact e1)
    rcases inv with ⟨rfl,rfl⟩ | ⟨p0,r0,ws1,rfl,rfl,l1,ea⟩
    · refine ⟨_,rfl,.ref p,0,rfl,.inl ⟨_,hp1,rfl⟩,_,rfl,.ref r,0,rfl,.inl ⟨_,SqL.of e1,rfl⟩,_,_,rfl,rfl,.inl ⟨by decide,by decide⟩,_,_,rfl,rfl,_,rfl,iteF (iteF ⟨_,rfl,fin rfl⟩)⟩
    have lr : (p0 :: r0).length=r0.length + 1:=rfl
    have lw1 : (p0 :: ws1).length=ws1.length + 1:=rfl
    have zk3 : ¬ (2 * ((p0 :: ws1).length : Nat) < ((p0 :: r0).length : Int))→CT.ahead (r0.drop (2 * ws1.length))=[]:=fun hz=>CT.xM fun z=>hz (by
      have:=z.1
      rw [List.length_drop] at this
      rw [lr,lw1]
      omega)
    refine xj (B:=CT.ahead (r0.drop (2 * ws1.length))=[]→_) ?stop fun hB=>⟨_,rfl,.ref p,(p0 :: r0).length,rfl,.inl ⟨_,hp1,by rw [List.length_map]⟩,_,rfl,.ref r,(p0 :: ws1).length,rfl,.inl ⟨_,SqL.of e1,by rw [List.length_map]⟩,_,_,rfl,rfl,.inl ⟨by decide,by decide⟩,_,_,rfl,rfl,_,rfl,ite2 (fun h1=>?_) (fun h1=>iteF (hB (zk3 fun z=>h1 (decide_eq_true z))))⟩
    case stop =>
      intro hz
      rw [hz,List.append_nil] at ea
      exact ⟨_,rfl,fin (by show p0 :: CT.ahead r0=_; rw [ea])⟩
    have h1':=of_decide_eq_true h1
    rw [lr,lw1] at h1'
    have hd2 : 2 * ws1.length + 1 < r0.length:=by omega
    obtain ⟨o,w',r',VX⟩ : ∃ o w' r',r0.drop (2 * ws1.length)=o :: w' :: r':=by
      refine ⟨r0[2 * ws1.length],r0[2 * ws1.length + 1],r0.drop (2 * ws1.length + 2),?_⟩
      rw [List.drop_eq_getElem_cons (by omega),List.drop_eq_getElem_cons (by omega)]
    have g0 : (p0 :: r0)[2 * ws1.length + 1]?=some o:=by
      rw [List.getElem?_cons_succ]
      have : (r0.drop (2 * ws1.length))[0]?=some o:=by rw [VX]; rfl
      rw [List.getElem?_drop] at this
      exact this
    have g1 : (p0 :: r0)[2 * ws1.length + 2]?=some w':=by
      rw [List.getElem?_cons_succ]
      have : (r0.drop (2 * ws1.length))[1]?=some w':=by rw [VX]; rfl
      rw [List.getElem?_drop] at this
      exact this
    have a0 : atI ((p0 :: r0).map V.str) (2 * ((p0 :: ws1).length : Nat) - 1)=some (.str o):=by
      rw [show (2 * ((p0 :: ws1).length : Nat) - 1 : Int)=((2 * ws1.length + 1 : Nat) : Int) by rw [lw1]; omega]
      exact atI_nat (by rw [List.getElem?_map,g0]; rfl)
    have a1 : atI ((p0 :: r0).map V.str) (2 * ((p0 :: ws1).length : Nat))=some (.str w'):=by
      rw [show (2 * ((p0 :: ws1).length : Nat) : Int)=((2 * ws1.length + 2 : Nat) : Int) by rw [lw1]; omega]
      exact atI_nat (by rw [List.getElem?_map,g1]; rfl)
    refine ⟨_,rfl,_,rfl,.ref r,(p0 :: ws1).length,rfl,.inl ⟨_,SqL.of e1,by rw [List.length_map]⟩,_,_,rfl,rfl,.inl ⟨by decide,by decide⟩,_,_,rfl,rfl,p,_,_,_,rfl,rfl,hp1,a0,rfl,_,rfl,ite2 (fun h2=>?_) (fun h2=>hB ?_)⟩
    · have ho : o="or":=V.str.inj (of_decide_eq_true h2)
      refine ⟨fun σ' H'=>∃ ws,L23.A6 (ws.length=(p0 :: ws1).length + 1) (σ'=[some (.ref p),some (.ref r)]) (Same H H') (H' r=some (.lst (ws.map V.str))) (ws.length≤(p0 :: r0).length) (∃ ws2,L23.A3 (ws=p0 :: ws2) (2 * ws2.length≤r0.length) (CT.ahead r0=ws2 ++ CT.ahead (r0.drop (2 * ws2.length)))),?_,?_⟩
      · rintro σ' H' ⟨ws,el,rfl,s',e',l',ws2,rfl,l2,ea2⟩
        exact ⟨_,by rw [el]; omega,p0 :: ws2,rfl,rfl,s',e',l',.inr ⟨p0,r0,ws2,rfl,rfl,l2,ea2⟩⟩
      · refine ⟨_,rfl,.inl ⟨rfl,_,SqL.of e1⟩,_,rfl,_,rfl,.ref r,(p0 :: ws1).length,rfl,.inl ⟨_,SqL.of e1,by rw [List.length_map]⟩,_,_,rfl,rfl,.inl ⟨by decide,by decide⟩,p,_,_,_,rfl,rfl,hp1,a1,r,_,_,rfl,rfl,e1,by rw [List.length_map]; omega,p0 :: (ws1 ++ [w']),by simp,rfl,Same.upd s1 hr,?_,?_,ws1 ++ [w'],rfl,?_,?_⟩
        · rw [upd_same]
          simp
        · simp only [List.length_cons,List.length_append,List.length_nil]; omega
        · rw [List.length_append,List.length_singleton]; omega
        · rw [ea,VX,CT.YQ ho,List.length_append,List.length_singleton,List.append_assoc]
          have : r0.drop (2 * (ws1.length + 1))=r':=by
            have:=congrArg (List.drop 2) VX
            rw [List.drop_drop] at this
            rw [show 2 * (ws1.length + 1)=2 * ws1.length + 2 by omega]
            exact this
          rw [this]
          rfl
    · refine CT.xM fun z=>h2 (decide_eq_true ?_)
      rw [VX] at z
      rw [Option.some.inj z.2]
noncomputable def VAt (H H' : Hp) (r : V) : Option (List Int)→Prop
  | none=>r = .non
  | some vs=>∃ q,r = .ref q∧H q=none∧H' q=some (.lst (vs.map V.int))
theorem ints_of {vs : List (Option Int)} (h : none∉vs) : vs.map CT.oV=(vs.map fun o=>o.getD 0).map V.int:=by
  induction vs with
  | nil=>rfl
  | cons a l ih =>
    cases a with
    | none=>exact absurd (List.mem_cons_self ..) h
    | some n =>
      rw [List.map_cons,List.map_cons,List.map_cons,ih fun z=>h (List.mem_cons_of_mem _ z)]
      rfl
noncomputable def WL (K : PySem.W.Frag) (vs : List V) (H : Hp) (Q : VK):=fun (p : Addr) (pk : Addr) (ps : List Str) (ks : List Str)=>L23.A7 (vs=[.ref p,.ref pk]) (SqL K H p (ps.map V.str)) ((∀ H,SqT K H pk (ks.map V.str))) ((∀ k∈ks,k∈(["level","mark","worth"] : List Str))) (ks.length≤10) (yu ps) (∀ r H',Same H H'→VAt H H' r (CT.zR ks ps)→Q r H')
noncomputable def zfz (K : PySem.W.Frag) : Sp:=fun vs H Q zz=>L23.E4 (WL K vs H Q)
theorem zjC {f : Addr} {fd xA : FuncData} (F : Fun K "read_values" "read_values" zS f fd) (T : Txt K mg a)
    (vG : FnOk P w K mg base CX0 3 a.yS xA ["text","least","most"] (Wk K)) (wY : Fun K "read_number" "read_number" yZ a.yS xA) (vH : Binds K xA ["text","least","most"] []) : FnOk P w K mg base CX0 4 f fd ["parts","keys"] (zfz K):=by
  have zY:=T.zY
  have yt:=T.yt
  refine F.ok zi3 (fun vs H Q E h=>?_) (fun cdv A outer s H vs Q E hr h=>?_)
  · obtain ⟨p,pk,ps,ks,rfl,zz⟩:=h
    rfl
  · obtain ⟨p,pk,ps,ks,rfl,hp,hk,hks,lk,hok,q⟩:=h
    refine ⟨_,(pss_cons (psN (i:=2) (sc:=defScope zS) (M:=yC) rfl rfl (by decide +kernel) (pe_lst pa_nil))
      (pss_cons (psN (i:=3) (sc:=defScope zS) (M:=yC) rfl rfl (by decide +kernel) pe_int)
      (pss_cons (ps_for PassesOwn.never rfl (pi_tup (pvA 1 (defScope zS) yC rfl rfl)) (pgN (i:=4) (sc:=defScope zS) (M:=yC) rfl rfl (by decide +kernel)) (pss_one (ps_if (PW.pt (pw_and (pt_cmpR op_lt (pe_op op_add (pvA 3 (defScope zS) yC rfl rfl) pe_int) (zf (sc:=defScope zS) call_len rfl (by decide +kernel) T.zF zy (pa_cons (pvA 0 (defScope zS) yC rfl rfl) pa_nil)) (nomark _)) (pw_and1 (pt_cmpR op_eq (pe_ix ix_list (pvA 0 (defScope zS) yC rfl rfl) (pvA 3 (defScope zS) yC rfl rfl) (fun zz zz=>rfl)) (pvA 4 (defScope zS) yC rfl rfl) (nomark _))))) (pss_cons (ps_expr (pe_bm PySem.F.plainAttrs_list PySem.F.slot_list_append PySem.F.type_list_append mt_append (pvA 2 (defScope zS) yC rfl rfl) (pa_cons (zh (sc:=defScope zS) vG (hr.mono (by decide)) rfl (by decide +kernel) T.zaD wY.kp vH .nil pass0 (pa_cons (pe_ix ix_list (pvA 0 (defScope zS) yC rfl rfl) (pe_op op_add (pvA 3 (defScope zS) yC rfl rfl) pe_int) (fun zz zz=>rfl)) (pa_cons (pe_op op_add (L9.Zu (zN (v:=V.ref a.zY) (sc:=defScope zS) rfl (by decide +kernel) zY rfl) (pvA 4 (defScope zS) yC rfl rfl) (fun zz zz=>rfl)) pe_int) (pa_cons (L9.Zu (zN (v:=V.ref a.yt) (sc:=defScope zS) rfl (by decide +kernel) yt rfl) (pvA 4 (defScope zS) yC rfl rfl) (fun zz zz=>rfl)) pa_nil)))) pa_nil)))
      (pss_one (psN (i:=3) (sc:=defScope zS) (M:=yC) rfl rfl (by decide +kernel) (pe_op op_add (pvA 3 (defScope zS) yC rfl rfl) pe_int)))) (pss_one (ps_expr (pe_bm PySem.F.plainAttrs_list PySem.F.slot_list_append PySem.F.type_list_append mt_append (pvA 2 (defScope zS) yC rfl rfl) (pa_cons (L9.Zu (zN (v:=V.ref a.zY) (sc:=defScope zS) rfl (by decide +kernel) zY rfl) (pvA 4 (defScope zS) yC rfl rfl) (fun zz zz=>rfl)) pa_nil)))))))
      (pss_cons (ps_if (PW.pt (pw_or (pt_cmpR op_lt (pvA 3 (defScope zS) yC rfl rfl) (zf (sc:=defScope zS) call_len rfl (by decide +kernel) T.zF zy (pa_cons (pvA 0 (defScope zS) yC rfl rfl) pa_nil)) (nomark _)) (pw_or1 (pt_cmpR op_in_seq pe_non (pvA 2 (defScope zS) yC rfl rfl) (by with_unfolding_all rfl))))) (pss_one (ps_ret pe_non)) pss_nil)
      (pss_one (ps_ret (pvA 2 (defScope zS) yC rfl rfl))))))),?_⟩
    try dsimp only [cxOf,Cx.nox]
    have hs : sizeLine=16777216:=sizeLine_eq
    have lp:=hok.2
    refine ⟨by first | decide | (simp only [List.length_cons,List.length_nil,List.length_append,List.length_map]; decide),fun pv hpv=>?_⟩
    refine ⟨_,rfl,pk,rfl,⟨_,hk _⟩,?_⟩
    refine for_tup (xs:=ks.map V.str) (fun i σ H'=>L23.E3 fun (n : Nat) (vs : List (Option Int)) (v : Option V)=>L23.A7 (σ=[some (.ref p),some (.ref pk),some (.ref pv),some (.int (n : Nat)),v]) (Same H H') (H' pv=some (.lst (vs.map CT.oV))) (vs.length=i) (n≤ps.length) (CT.vals ks ps=vs ++ CT.vals (ks.drop i) (ps.drop n)) (CT.rest ks ps=CT.rest (ks.drop i) (ps.drop n))) ⟨0,[],_,rfl,Same.zp hpv,upd_same,rfl,Nat.zero_le _,rfl,rfl⟩ ?_ ?_ ?_
    · rintro i σ H' _ _
      exact hk _
    · rintro i x σ H1 hx ⟨n,vs,v,rfl,s1,e1,lv,ln,ev,er⟩
      rw [List.getElem?_map] at hx
      obtain ⟨k,hki,rfl⟩:=Option.map_eq_some_iff.mp hx
      have hmem:=hks k (List.mem_of_getElem? hki)
      have hi:=(List.getElem?_eq_some_iff.mp hki)
      have hi1:=hi.1
      have ed : ks.drop i=k :: ks.drop (i + 1):=by rw [List.drop_eq_getElem_cons hi.1,hi.2]
      rw [ed] at ev er
      have hp1:=s1.seq hp
      have cond : ∀ (H9 : ¬ (1 < (ps.drop n).length∧(ps.drop n).head?=some k)),CT.vals ks ps=(vs ++ [some (CT.leftOut k)]) ++ CT.vals (ks.drop (i + 1)) (ps.drop n)∧CT.rest ks ps=CT.rest (ks.drop (i + 1)) (ps.drop n):=fun H9=>by
        obtain ⟨c1,c2⟩:=CT.X3 (ks:=ks.drop (i + 1)) H9
        rw [ev,er,c1,c2]
        exact ⟨by rw [List.append_assoc]; rfl,rfl⟩
      refine xj (B:=¬ (1 < (ps.drop n).length∧(ps.drop n).head?=some k)→_) ?miss fun hB=>⟨_,rfl,_,_,rfl,rfl,_,rfl,.ref p,ps.length,rfl,.inl ⟨_,hp1,by rw [List.length_map]⟩,_,_,rfl,rfl,_,rfl,ite2 (fun h1=>?_) (fun h1=>iteF (hB fun z=>h1 (decide_eq_true (by have:=z.1; rw [List.length_drop] at this; omega))))⟩
      case miss =>
        intro H9
        obtain ⟨c1,c2⟩:=cond H9
        refine ⟨_,rfl,.inl ⟨rfl,_,SqL.of e1⟩,_,rfl,a.zY,_,k,_,rfl,rfl,T.Y8,CT.Jv hmem,pv,_,_,rfl,rfl,e1,by rw [List.length_map]; omega,n,vs ++ [some (CT.leftOut k)],_,rfl,Same.upd s1 hpv,?_,by rw [List.length_append,lv]; rfl,ln,c1,c2⟩
        rw [upd_same,List.map_append]
        rfl
      have h1':=of_decide_eq_true h1
      have hn1 : n + 1 < ps.length:=by omega
      have edr : ps.drop n=ps[n] :: ps[n + 1] :: ps.drop (n + 2):=by rw [List.drop_eq_getElem_cons (by omega),List.drop_eq_getElem_cons hn1]
      have g0 : ps[n]?=some ps[n]:=List.getElem?_eq_getElem (by omega)
      have g1 : ps[n + 1]?=some ps[n + 1]:=List.getElem?_eq_getElem hn1
      have a0 : atI (ps.map V.str) (n : Nat)=some (.str ps[n]):=atI_nat (by rw [List.getElem?_map,g0]; rfl)
      have a1 : atI (ps.map V.str) ((n : Nat) + 1)=some (.str ps[n + 1]):=by
        rw [show ((n : Nat) : Int) + 1=((n + 1 : Nat) : Int) by omega]
        exact atI_nat (by rw [List.getElem?_map,g1]; rfl)
      refine ⟨_,rfl,_,rfl,p,_,_,_,rfl,rfl,hp1,a0,_,rfl,rfl,_,rfl,ite2 (fun h2=>?_) (fun h2=>hB fun z=>h2 (decide_eq_true (by rw [edr] at z; rw [Option.some.inj z.2])))⟩
      have he : ps[n]=k:=V.str.inj (of_decide_eq_true h2)
      obtain ⟨c1,c2⟩:=CT.W6 (v:=ps[n + 1]) (ks:=ks.drop (i + 1)) (r:=ps.drop (n + 2)) he
      refine ⟨_,rfl,.inl ⟨rfl,_,SqL.of e1⟩,_,rfl,_,rfl,_,_,rfl,rfl,p,_,_,_,rfl,rfl,hp1,a1,_,rfl,a.zY,_,k,_,rfl,rfl,T.Y8,CT.Jv hmem,_,_,rfl,rfl,_,rfl,a.yt,_,k,_,rfl,rfl,T.JC,CT.zil hmem,_,_,_,rfl,Nat.le_trans (hok.1 _ (List.getElem_mem _)).2 (by decide),fun H2 s2=>?_⟩
      refine ⟨pv,_,_,rfl,rfl,s2 _ _ e1,by rw [List.length_map]; omega,_,rfl,_,_,rfl,rfl,n + 2,vs ++ [CT.zI ps[n + 1] (CT.leftOut k + 1) (CT.xK k)],_,rfl,Same.upd (s1.trans s2) hpv,?_,by rw [List.length_append,lv]; rfl,by omega,?_,?_⟩
      · rw [upd_same,List.map_append]
        rfl
      · rw [ev,edr,c1,List.append_assoc]
        rfl
      · rw [er,edr,c2]
    rintro σ H1 ⟨n,vs,v,rfl,s1,e1,lv,ln,ev,er⟩
    rw [List.length_map,List.drop_length] at ev er
    rw [show CT.vals [] (ps.drop n)=[] by rw [CT.vals],List.append_nil] at ev
    rw [show CT.rest [] (ps.drop n)=ps.drop n by rw [CT.rest]] at er
    have hp1:=s1.seq hp
    have qn : ¬ (CT.rest ks ps=[]∧none∉CT.vals ks ps)→Q .non H1:=fun z=>q .non H1 s1 (by unfold CT.zR; rw [if_neg z]; rfl)
    refine ⟨_,rfl,_,rfl,.ref p,ps.length,rfl,.inl ⟨_,hp1,by rw [List.length_map]⟩,_,_,rfl,rfl,_,rfl,ite2 (fun h1=>?_) (fun h1=>?_)⟩
    · have h1':=of_decide_eq_true h1
      refine iteT (qn fun z=>?_)
      have:=congrArg List.length (er.symm.trans z.1)
      rw [List.length_drop,List.length_nil] at this
      omega
    have h1' : ¬ ((n : Nat) : Int) < (ps.length : Nat):=fun z=>h1 (decide_eq_true z)
    have zk4 : CT.rest ks ps=[]:=by rw [er]; exact List.drop_eq_nil_of_le (by omega)
    refine ⟨_,rfl,pv,_,rfl,.inl (SqL.of e1),rfl,CT.zik vs,_,rfl,?_⟩
    rw [if_neg (show ¬ (false=true) by decide),CT.zkB]
    refine ite2 (fun h2=>?_) (fun h2=>?_)
    · exact qn fun z=>z.2 (by rw [ev]; exact of_decide_eq_true h2)
    · have hnn : none∉vs:=fun z=>h2 (decide_eq_true z)
      refine ⟨_,rfl,q (.ref pv) H1 s1 ?_⟩
      unfold CT.zR
      rw [if_pos ⟨zk4,by rw [ev]; exact hnn⟩,ev]
      exact ⟨pv,rfl,hpv,by rw [e1,ints_of hnn]⟩
noncomputable def LAt (K : PySem.W.Frag) (D : Hp) (r : V) : Option CF.ze→Prop
  | none=>r = .non
  | some l=>zc K D r l.data
theorem VY {ps : List Str} (h : yu ps) (n : Nat) : yu (ps.drop n):=⟨fun t ht=>h.1 t (List.mem_of_mem_drop ht),by rw [List.length_drop]; have:=h.2; omega⟩
theorem zad : ∀ {r : List Str} {t : Str},t∈CT.ahead r→t∈r
  | [],t,h=>by rw [CT.xM (by simp)] at h; cases h
  | [_],t,h=>by rw [CT.xM (by simp)] at h; cases h
  | o :: w' :: r,t,h=>by
    by_cases ho : o="or"
    · rw [CT.YQ ho] at h
      rcases List.mem_cons.mp h with rfl | h
      · exact List.mem_cons_of_mem _ (List.mem_cons_self ..)
      · exact List.mem_cons_of_mem _ (List.mem_cons_of_mem _ (zad h))
    · rw [CT.xM (r:=o :: w' :: r) (fun z=>ho (Option.some.inj z.2))] at h; cases h
theorem zgL {p : Str} {r : List Str} (h : yu (p :: r)) : yu (CT.zA (p :: r)):=by
  have h2:=h.2
  have h3:=CT.X0 r
  rw [List.length_cons] at h2
  refine ⟨fun t ht=>?_,by show (CT.ahead r).length + 1≤100000; omega⟩
  rcases List.mem_cons.mp ht with rfl | ht
  · exact h.1 t (List.mem_cons_self ..)
  · exact h.1 t (List.mem_cons_of_mem _ (zad ht))
theorem zjD {k : Str} {ws : List Str} (h : yu ws) : yu (CT.anyOf k ws):=by
  unfold CT.anyOf
  split
  · exact ⟨fun t ht=>(nomatch ht),Nat.zero_le _⟩
  · exact h
theorem zjE : CF.Tx 24 "any":=⟨by decide +kernel,by decide +kernel⟩
theorem Wl {ps : List Str} (h : yu ps) : (PyData.list (ps.map .str)).canLay0=true:=CF.wK fun d hd=>by
  obtain ⟨t,ht,rfl⟩:=List.mem_map.mp hd
  exact CF.jA (h.1 t ht)
theorem JH : ("from" : Str)≠"of":=by decide +kernel
theorem Ve : ∀ (ks ps : List Str),(CT.vals ks ps).length=ks.length
  | [],ps=>by rw [CT.vals]; rfl
  | k :: ks,ps=>by
    by_cases h : 1 < ps.length∧ps.head?=some k
    · match ps,h with
      | [],h=>exact absurd h.1 (by decide)
      | [_],h=>exact absurd h.1 (by simp)
      | p :: v :: r,h =>
        rw [(CT.W6 (Option.some.inj h.2)).1,List.length_cons,Ve ks r]
        rfl
    · rw [(CT.X3 h).1,List.length_cons,Ve ks ps]
      rfl
noncomputable def VZ (K : PySem.W.Frag) (vs : List V) (H : Hp) (Q : VK):=fun (p : Addr) (ps : List Str) (D : Hp)=>L23.A5 (vs=[.ref p]) (Same D H) (SqL K H p (ps.map V.str)) (yu ps) (∀ r D' H',Gr D H D' H'→LAt K D' r (CT.vf ps)→Q r H')
noncomputable def zfA (K : PySem.W.Frag) : Sp:=fun vs H Q zz=>L23.E3 (VZ K vs H Q)
theorem zjF {f : Addr} {fd zdV xA zb0 zb1 : FuncData} (F : Fun K "read_leaf" "read_leaf" zJ f fd) (T : Txt K mg a)
    (zgM : FnOk P w K mg base CX0 3 a.Wf zdV ["words"] (zhu K)) (zb2 : Fun K "are_words" "are_words" xD a.Wf zdV) (zgN : Binds K zdV ["words"] [])
    (vG : FnOk P w K mg base CX0 3 a.yS xA ["text","least","most"] (Wk K)) (wY : Fun K "read_number" "read_number" yZ a.yS xA) (vH : Binds K xA ["text","least","most"] [])
    (zdW : FnOk P w K mg base CX0 4 a.Yj zb0 ["parts","keys"] (zfz K)) (V0 : Fun K "read_values" "read_values" zS a.Yj zb0) (zdX : Binds K zb0 ["parts","keys"] [])
    (zdY : FnOk P w K mg base CX0 1 a.Yi zb1 ["parts"] (zfy K)) (V1 : Fun K "words_ahead" "words_ahead" yQ a.Yi zb1) (zdZ : Binds K zb1 ["parts"] []) : FnOk P w K mg base CX0 5 f fd ["parts"] (zfA K):=by
  have yX:=T.yX
  obtain ⟨zz,Yp⟩:=T.Yp
  refine F.ok zi4 (fun vs H Q E h=>?_) (fun cdv A outer s H vs Q E hr h=>?_)
  · obtain ⟨p,ps,D,rfl,zz⟩:=h
    rfl
  · obtain ⟨p,ps,D,rfl,sD,hp,hok,q⟩:=h
    refine ⟨_,(pss_cons (ps_if (PW.pt (pw_or (pt_cmpR op_lt (zf (sc:=defScope zJ) call_len rfl (by decide +kernel) T.zF zy (pa_cons (pvA 0 (defScope zJ) yD rfl rfl) pa_nil)) pe_int (nomark _)) (pw_or1 (pt_cmp (L9.ze9 (pe_ix ix_list (pvA 0 (defScope zJ) yD rfl rfl) pe_int (fun zz zz=>rfl)) (zN (v:=V.ref a.yX) (sc:=defScope zJ) rfl (by decide +kernel) yX rfl)))))) (pss_one (ps_ret pe_non)) pss_nil)
      (pss_cons (psN (i:=1) (sc:=defScope zJ) (M:=yD) rfl rfl (by decide +kernel) (pe_ix ix_list (pvA 0 (defScope zJ) yD rfl rfl) pe_int (fun zz zz=>rfl)))
      (pss_cons (psN (i:=2) (sc:=defScope zJ) (M:=yD) rfl rfl (by decide +kernel) (zh (sc:=defScope zJ) vG (hr.mono (by decide)) rfl (by decide +kernel) T.zaD wY.kp vH .nil pass0 (pa_cons (pe_ix ix_list (pvA 0 (defScope zJ) yD rfl rfl) pe_int (fun zz zz=>rfl)) (pa_cons pe_int (pa_cons (zN (v:=V.int 60) (sc:=defScope zJ) rfl (by decide +kernel) Yp ⟨_,rfl⟩) pa_nil)))))
      (pss_cons (psN (i:=3) (sc:=defScope zJ) (M:=yD) rfl rfl (by decide +kernel) (zh (sc:=defScope zJ) zdY (hr.mono (by decide)) rfl (by decide +kernel) T.zkN V1.kp zdZ .nil pass0 (pa_cons (pe_slice sl_list (pvA 0 (defScope zJ) yD rfl rfl) (po_some pe_int) po_none) pa_nil)))
      (pss_cons (psN (i:=4) (sc:=defScope zJ) (M:=yD) rfl rfl (by decide +kernel) (zh (sc:=defScope zJ) zdW (hr.mono (by decide)) rfl (by decide +kernel) T.zkO V0.kp zdX .nil pass0 (pa_cons (pe_slice sl_list (pvA 0 (defScope zJ) yD rfl rfl) (po_some (pe_op op_add pe_int (pe_op op_mul pe_int (zf (sc:=defScope zJ) call_len rfl (by decide +kernel) T.zF zy (pa_cons (pvA 3 (defScope zJ) yD rfl rfl) pa_nil))))) po_none) (pa_cons (L9.Zu (zN (v:=V.ref a.yX) (sc:=defScope zJ) rfl (by decide +kernel) yX rfl) (pvA 1 (defScope zJ) yD rfl rfl) (fun zz zz=>rfl)) pa_nil))))
      (wJ (ps_if (PW.pt (pw_and (pt_cmpR op_eq (pvA 1 (defScope zJ) yD rfl rfl) pe_str (nomark _)) (pw_and1 (pt_cmpR (Vn (n:=60) (zdk hr)) (pvA 3 (defScope zJ) yD rfl rfl) (pe_lst (pa_cons pe_str pa_nil)) (nomark _))))) (pss_one (psN (i:=3) (sc:=defScope zJ) (M:=yD) rfl rfl (by decide +kernel) (pe_lst pa_nil))) pss_nil)
      (pss_cons (ps_if (PW.pt (pw_or (pt_cmpR op_isN (pvA 2 (defScope zJ) yD rfl rfl) pe_non (nomark _)) (pw_or (pt_cmpR op_isN (pvA 4 (defScope zJ) yD rfl rfl) pe_non (nomark _)) (pw_or1 (pt_not (pt_val (zh (sc:=defScope zJ) zgM (hr.mono (by decide)) rfl (by decide +kernel) T.zly zb2.kp zgN .nil pass0 (pa_cons (pvA 3 (defScope zJ) yD rfl rfl) pa_nil)))))))) (pss_one (ps_ret pe_non)) pss_nil)
      (pss_one (ps_ret (pe_op op_catT (pe_tup (pa_cons (pvA 1 (defScope zJ) yD rfl rfl) (pa_cons (pvA 2 (defScope zJ) yD rfl rfl) (pa_cons (pvA 3 (defScope zJ) yD rfl rfl) pa_nil)))) (yk (sc:=defScope zJ) call_tuple_of rfl (by decide +kernel) T.wN jw (pa_cons (pvA 4 (defScope zJ) yD rfl rfl) pa_nil)))))))))))),?_⟩
    try dsimp only [cxOf,Cx.nox]
    have hs : sizeLine=16777216:=sizeLine_eq
    have lp:=hok.2
    have qn : ∀ H',Same H H'→CT.vf ps=none→Q .non H':=fun H' s' z=>q .non D H' (Gr.heap sD s') (by rw [z]; rfl)
    refine ⟨_,rfl,.ref p,ps.length,rfl,.inl ⟨_,hp,by rw [List.length_map]⟩,_,_,rfl,rfl,_,rfl,ite2 (fun h1=>?_) (fun h1=>?_)⟩
    · have h1':=of_decide_eq_true h1
      refine iteT (qn H (Same.refl _) ?_)
      match ps,h1' with
      | [],_=>rfl
      | [_],_=>rfl
      | [_,_],_=>rfl
      | _ :: _ :: _ :: r,h=>rw [List.length_cons,List.length_cons,List.length_cons] at h; omega
    have h1' : ¬ ((ps.length : Nat) : Int) < 3:=fun z=>h1 (decide_eq_true z)
    obtain ⟨x0,k,p0,r0,rfl⟩ : ∃ x0 k p0 r0,ps=x0 :: k :: p0 :: r0:=by
      match ps,h1' with
      | [],h=>exact absurd (show ((0 : Nat) : Int) < 3 by decide) h
      | [_],h=>exact absurd (show ((1 : Nat) : Int) < 3 by decide) h
      | [_,_],h=>exact absurd (show ((2 : Nat) : Int) < 3 by decide) h
      | a :: b :: c :: r,_=>exact ⟨a,b,c,r,rfl⟩
    have i0 : atI ((x0 :: k :: p0 :: r0).map V.str) 0=some (.str x0):=CF.z7
    have i1 : atI ((x0 :: k :: p0 :: r0).map V.str) 1=some (.str k):=atI_nat (j:=1) rfl
    have okr : yu (p0 :: r0):=VY hok 2
    have oka:=hok.1 x0 (List.mem_cons_self ..)
    have zk5 : (k≠"from"∧k≠"of")∨(k="from"∨k="of"):=by
      by_cases h1 : k="from"
      · exact .inr (.inl h1)
      · by_cases h2 : k="of"
        · exact .inr (.inr h2)
        · exact .inl ⟨h1,h2⟩
    rcases zk5 with ⟨hk1,hk2⟩ | hk
    · have ed : KTD.datumAt k ([("from",V.ref a.vM),("of",V.ref a.vN)] : List (Str × V))=none:=by simp [KTD.datumAt,hk1,hk2]
      refine ⟨_,rfl,p,_,_,_,rfl,rfl,hp,i1,a.yX,_,k,rfl,rfl,T.VL,_,rfl,?_⟩
      rw [ed]
      refine iteT (qn H (Same.refl _) ?_)
      show (match CT.keysOf k with | none=>none | some ks=>_)=none
      unfold CT.keysOf
      rw [if_neg hk1,if_neg hk2]
    obtain ⟨ak,ks,ed,eks,hks,hkk,lks⟩ : ∃ ak ks,KTD.datumAt k ([("from",V.ref a.vM),("of",V.ref a.vN)] : List (Str × V))=some (.ref ak)∧CT.keysOf k=some ks∧(∀ H,SqT K H ak (ks.map V.str))∧(∀ x∈ks,x∈(["level","mark","worth"] : List Str))∧(k="from"∧ks.length=3∨k="of"∧ks.length=2):=by
      rcases hk with rfl | rfl
      · exact ⟨a.vM,["level","mark","worth"],by simp [KTD.datumAt],by unfold CT.keysOf; rw [if_pos rfl],T.zbO,fun x h=>h,.inl ⟨rfl,rfl⟩⟩
      · exact ⟨a.vN,["mark","worth"],by simp [KTD.datumAt,JH.symm],by unfold CT.keysOf; rw [if_neg JH.symm,if_pos rfl],T.zbP,fun x h=>List.mem_cons_of_mem _ h,.inr ⟨rfl,rfl⟩⟩
    refine ⟨_,rfl,p,_,_,_,rfl,rfl,hp,i1,a.yX,_,k,rfl,rfl,T.VL,_,rfl,?_⟩
    rw [ed]
    refine iteF ⟨_,rfl,p,_,_,_,rfl,rfl,hp,i1,?_⟩
    refine ⟨_,rfl,p,_,_,_,rfl,rfl,hp,i0,_,_,_,rfl,Nat.le_trans oka.2 (by decide),fun H1 s1=>?_⟩
    refine ⟨_,rfl,_,rfl,p,_,rfl,s1.seq hp,fun p2 hp2=>?_⟩
    rw [show cutV ((x0 :: k :: p0 :: r0).map V.str) (some 2) none=(p0 :: r0).map V.str from zbt 2 (by simp)]
    have s2:=s1.trans (Same.zp (o := .lst ((p0 :: r0).map V.str)) hp2)
    refine ⟨p2,p0 :: r0,rfl,SqL.of upd_same,okr.2,fun H3 pw s3 nw ew=>?_⟩
    have s3':=s2.trans s3
    have nw' : H pw=none:=s2.free nw
    obtain ⟨ws,hws⟩ : ∃ ws,ws=CT.zA (p0 :: r0):=⟨_,rfl⟩
    have okw : yu ws:=by rw [hws]; exact zgL okr
    have lws : 1≤ws.length:=by rw [hws]; exact Nat.succ_le_succ (Nat.zero_le _)
    rw [← hws] at ew
    refine ⟨_,rfl,_,rfl,.ref pw,ws.length,rfl,.inl ⟨_,SqL.of ew,by rw [List.length_map]⟩,_,_,rfl,rfl,.inl ⟨by decide,by decide⟩,_,_,rfl,rfl,_,rfl,p,_,rfl,s3'.seq hp,fun p4 hp4=>?_⟩
    have hdr : (x0 :: k :: p0 :: r0).drop (1 + 2 * ws.length)=(p0 :: r0).drop (2 * ws.length - 1):=by
      rw [show 1 + 2 * ws.length=(2 * ws.length - 1) + 2 by omega]
      rfl
    have lle : 1 + 2 * ws.length≤((x0 :: k :: p0 :: r0).map V.str).length:=by
      have:=CT.X0 r0
      have e : ws.length=(CT.ahead r0).length + 1:=by rw [hws]; rfl
      simp only [List.length_map,List.length_cons]
      omega
    rw [show cutV ((x0 :: k :: p0 :: r0).map V.str) (some (1 + 2 * ((ws.length : Nat) : Int))) none=((p0 :: r0).drop (2 * ws.length - 1)).map V.str by
      rw [show (1 + 2 * ((ws.length : Nat) : Int))=((1 + 2 * ws.length : Nat) : Int) by omega,zbt _ lle,← List.map_drop,hdr]]
    have s4:=s3'.trans (Same.zp (o := .lst (((p0 :: r0).drop (2 * ws.length - 1)).map V.str)) hp4)
    refine ⟨_,rfl,a.yX,_,k,_,rfl,rfl,T.VL,ed,p4,ak,_,ks,rfl,SqL.of upd_same,hks,hkk,by omega,VY okr _,fun rv H5 s5 hv=>?_⟩
    have ew5:=s5 _ _ ((Same.zp (o := .lst (((p0 :: r0).drop (2 * ws.length - 1)).map V.str)) hp4) _ _ ew)
    have s5':=s4.trans s5
    have eL : CT.vf (x0 :: k :: p0 :: r0)=(match CT.zI x0 0 60,CT.zR ks ((p0 :: r0).drop (2 * ws.length - 1)) with | some n,some vs=>if CT.yz (CT.anyOf k ws)=true then CT.leafOf k n (CT.anyOf k ws) vs else none | _,_=>none):=by
      rw [hws]
      show (match CT.keysOf k with | none=>none | some ks=>_)=_
      first | (rw [eks]; done) | (rw [eks]; rfl)
    refine ⟨fun σ' H'=>∃ pz,L23.A4 (H pz=none) (Same H5 H') (H' pz=some (.lst ((CT.anyOf k ws).map V.str))) (σ'=[some (.ref p),some (.str k),some (CT.oV (CT.zI x0 0 60)),some (.ref pz),some rv]),?_,?_⟩
    · have keep : ¬ (k="from"∧ws=(["any"] : List Str))→CT.anyOf k ws=ws:=fun z=>by unfold CT.anyOf; rw [if_neg z]
      refine ⟨_,rfl,rfl,_,rfl,ite2 (fun h2=>?_) (fun h2=>iteF ?_)⟩
      · have hk' : k="from":=V.str.inj (of_decide_eq_true h2)
        refine ⟨_,rfl,by first | decide | (simp only [List.length_cons,List.length_nil,List.length_append,List.length_map]; decide),fun p6 hp6=>?_⟩
        have s6:=Same.zp (o := .lst [.str "any"]) hp6
        refine ⟨.list (ws.map .str),.list ((["any"] : List Str).map .str),zc.mkL (zb.strs ws) (s6 _ _ ew5) (Same.refl _),zc.mkL (D:=upd H5 p6 (.lst [.str "any"])) (zb.strs ["any"]) upd_same (Same.refl _),Wl okw,CF.jB (fun t ht=>by rw [List.mem_singleton.mp ht]; exact zjE),?_,_,rfl,?_⟩
        · show min _ (PyData.depthAll ((["any"] : List Str).map .str) + 1)≤60
          rw [CF.vh]
          omega
        rw [CT.YO]
        refine ite2 (fun h3=>?_) (fun h3=>?_)
        · have h3':=of_decide_eq_true h3
          refine ⟨by first | decide | (simp only [List.length_cons,List.length_nil,List.length_append,List.length_map]; decide),fun p7 hp7=>⟨p7,(s5'.trans s6).free hp7,s6.trans (Same.zp hp7),?_,rfl⟩⟩
          unfold CT.anyOf
          rw [if_pos ⟨hk',h3'⟩,upd_same]
          rfl
        · have h3' : ¬ ws=(["any"] : List Str):=fun z=>h3 (decide_eq_true z)
          exact ⟨pw,nw',s6,by rw [keep fun z=>h3' z.2]; exact s6 _ _ ew5,rfl⟩
      · have hk' : k≠"from":=fun z=>h2 (decide_eq_true (by rw [z]))
        exact ⟨pw,nw',Same.refl _,by rw [keep fun z=>hk' z.1]; exact ew5,rfl⟩
    rintro σ' H6 ⟨pz,npz,s6,epz,rfl⟩
    have s6':=s5'.trans s6
    have okz : yu (CT.anyOf k ws):=zjD okw
    refine ⟨_,rfl,rfl,_,rfl,?_⟩
    cases hw : CT.zI x0 0 60 with
    | none =>
      rw [hw] at eL
      rw [decide_eq_true (show CT.oV none=V.non from rfl)]
      exact iteT (iteT (qn H6 s6' eL))
    | some n =>
      rw [hw] at eL
      rw [decide_eq_false (show CT.oV (some n)≠V.non from fun z=>nomatch z)]
      refine iteF ⟨_,rfl,rfl,_,rfl,?_⟩
      cases hvv : CT.zR ks ((p0 :: r0).drop (2 * ws.length - 1)) with
      | none =>
        rw [hvv] at eL hv
        have hv' : rv = .non:=hv
        subst hv'
        rw [decide_eq_true (show V.non=V.non from rfl)]
        exact iteT (iteT (qn H6 s6' eL))
      | some vs =>
        rw [hvv] at eL hv
        obtain ⟨pv,rfl,npv,epv⟩:=hv
        have zlC:=s6 _ _ epv
        rw [decide_eq_false (show V.ref pv≠V.non from fun z=>nomatch z)]
        refine iteF ⟨_,rfl,pz,_,rfl,SqL.of epz,okz,fun H7 s7=>⟨_,rfl,?_⟩⟩
        have s7':=s6'.trans s7
        cases ha : CT.yz (CT.anyOf k ws) with
        | false =>
          rw [ha] at eL
          exact qn H7 s7' (eL.trans (if_neg (by decide)))
        | true =>
          have eL' : CT.vf (x0 :: k :: p0 :: r0)=CT.leafOf k n (CT.anyOf k ws) vs:=by
            rw [eL]
            show (if CT.yz (CT.anyOf k ws)=true then _ else none)=_
            rw [ha,if_pos rfl]
          have lvs : vs.length=ks.length:=by
            unfold CT.zR at hvv
            split at hvv
            · rw [← Option.some.inj hvv,List.length_map]
              exact Ve ks _
            · cases hvv
          refine ⟨_,rfl,_,rfl,_,rfl,by first | decide | (simp only [List.length_cons,List.length_nil,List.length_append,List.length_map]; decide),fun p8 hp8=>?_⟩
          have s8:=Same.zp (o := .tup [.str k,CT.oV (some n),.ref pz]) hp8
          have e8 : upd H7 p8 (.tup [.str k,CT.oV (some n),.ref pz]) p8=some (.tup [.str k,.int n,.ref pz]):=upd_same
          have zjG:=s8 _ _ (s7 _ _ zlC)
          have zjH:=s8 _ _ (s7 _ _ epz)
          generalize upd H7 p8 (.tup [.str k,CT.oV (some n),.ref pz])=H8 at s8 e8 zjG zjH ⊢
          refine ⟨_,rfl,pv,_,rfl,.inl ⟨SqL.of zjG,fun p9 hp9=>?_⟩⟩
          have s9:=Same.zp (o := .tup (vs.map V.int)) hp9
          refine ⟨p8,p9,_,_,rfl,rfl,SqT.of (s9 _ _ e8),SqT.of upd_same,(fun z=>nomatch z),by rw [List.length_map]; show 3 + vs.length≤sizeLine; omega,(fun z=>?_),fun zz p10 zd0=>?_⟩
          · have:=congrArg List.length z
            rw [List.length_map,List.length_nil] at this
            omega
          have s10:=(s7'.trans s8).trans s9
          have zk6:=s9 _ _ zjH
          have G10 : Gr D H D _:=Gr.heap sD s10
          have G11:=G10.fix npz (zZ sD npz) zk6
          have G12:=G11.trans (Gr.lay (o := .tup ([.str k,.int n,.ref pz] ++ vs.map V.int)) G11.dh zd0)
          refine q (.ref p10) _ _ G12 ?_
          rw [eL']
          have zlD:=zZ G11.dh zd0
          have mk : ∀ l : CF.ze,l.words=CT.anyOf k ws→[.str k,.int n,.ref pz] ++ vs.map V.int=l.items (.ref pz)→zc K (upd (upd D pz (.lst ((CT.anyOf k ws).map V.str))) p10 (.tup ([.str k,.int n,.ref pz] ++ vs.map V.int))) (.ref p10) l.data:=fun l e1 e2=>by
            rw [e2]
            exact CF.ze.at_ upd_same (.inl (by rw [e1]; exact (Same.zp zlD) _ _ upd_same))
          rcases lks with ⟨rfl,l3⟩ | ⟨rfl,l2⟩
          · obtain ⟨x,y,z,rfl⟩:=CT.zgB (lvs.trans l3)
            show LAt K _ _ (if ("from" : Str)="from" then some (CF.ze.frm n _ x y z) else none)
            rw [if_pos rfl]
            exact mk (.frm n (CT.anyOf "from" ws) x y z) rfl rfl
          · obtain ⟨y,z,rfl⟩:=CT.zlv (lvs.trans l2)
            show LAt K _ _ (if ("of" : Str)="from" then none else some (CF.ze.off n _ y z))
            rw [if_neg JH.symm]
            exact mk (.off n (CT.anyOf "of" ws) y z) rfl rfl
noncomputable abbrev ghV:=CT.ghV
noncomputable def GAt (H H' : Hp) (r : V) : Option CT.yd→Prop
  | none=>r = .non
  | some g=>∃ t q,r = .ref t∧t≠q∧H t=none∧H q=none∧H' t=some (.tup (ghV g ++ [.ref q]))∧H' q=some (.lst [])
theorem zbC : CF.Tx 24 "all":=⟨by decide +kernel,by decide +kernel⟩
noncomputable def Vf (K : PySem.W.Frag) (vs : List V) (H : Hp) (Q : VK):=fun (p : Addr) (ps : List Str)=>L23.A5 (vs=[.ref p]) (SqL K H p (ps.map V.str)) (Rd H p (.lst (ps.map V.str))) (yu ps) (∀ r H',Same H H'→GAt H H' r (CT.yp ps)→Q r H')
noncomputable def zfB (K : PySem.W.Frag) : Sp:=fun vs H Q zz=>L23.E2 (Vf K vs H Q)
theorem zjI {f : Addr} {fd xA : FuncData} (F : Fun K "read_group" "read_group" xB f fd) (T : Txt K mg a)
    (vG : FnOk P w K mg base CX0 3 a.yS xA ["text","least","most"] (Wk K)) (wY : Fun K "read_number" "read_number" yZ a.yS xA) (vH : Binds K xA ["text","least","most"] []) : FnOk P w K mg base CX0 4 f fd ["parts"] (zfB K):=by
  obtain ⟨zz,wg⟩:=T.wg
  refine F.ok zi5 (fun vs H Q E h=>?_) (fun cdv A outer s H vs Q E hr h=>?_)
  · obtain ⟨p,ps,rfl,zz⟩:=h
    rfl
  · obtain ⟨p,ps,rfl,hp,hpr,hok,q⟩:=h
    refine ⟨_,(pss_cons (ps_if (pt_cmpR (Vn (n:=60) (zdk hr)) (pvA 0 (defScope xB) Zm rfl rfl) (pe_lst (pa_cons pe_str pa_nil)) (nomark _)) (pss_one (ps_ret (pe_tup (pa_cons pe_str (pa_cons (pe_lst pa_nil) pa_nil))))) pss_nil)
      (pss_cons (ps_if (PW.pt (pw_or (pt_cmpR op_ne (zf (sc:=defScope xB) call_len rfl (by decide +kernel) T.zF zy (pa_cons (pvA 0 (defScope xB) Zm rfl rfl) pa_nil)) pe_int (nomark _)) (pw_or (pt_cmpR op_ne (pe_ix ix_list (pvA 0 (defScope xB) Zm rfl rfl) pe_int (fun zz zz=>rfl)) pe_str (nomark _)) (pw_or1 (pt_cmpR op_ne (pe_ix ix_list (pvA 0 (defScope xB) Zm rfl rfl) pe_int (fun zz zz=>rfl)) pe_str (nomark _)))))) (pss_one (ps_ret pe_non)) pss_nil)
      (pss_cons (psN (i:=1) (sc:=defScope xB) (M:=Zm) rfl rfl (by decide +kernel) (zh (sc:=defScope xB) vG (hr.mono (by decide)) rfl (by decide +kernel) T.zaD wY.kp vH .nil pass0 (pa_cons (pe_ix ix_list (pvA 0 (defScope xB) Zm rfl rfl) pe_int (fun zz zz=>rfl)) (pa_cons pe_int (pa_cons (zN (v:=V.int 16) (sc:=defScope xB) rfl (by decide +kernel) wg ⟨_,rfl⟩) pa_nil)))))
      (pss_cons (ps_if (pt_cmpR op_isN (pvA 1 (defScope xB) Zm rfl rfl) pe_non (nomark _)) (pss_one (ps_ret pe_non)) pss_nil)
      (pss_one (ps_ret (pe_tup (pa_cons pe_str (pa_cons (pvA 1 (defScope xB) Zm rfl rfl) (pa_cons (pe_lst pa_nil) pa_nil)))))))))),?_⟩
    try dsimp only [cxOf,Cx.nox]
    have hs : sizeLine=16777216:=sizeLine_eq
    refine ⟨_,rfl,by first | decide | (simp only [List.length_cons,List.length_nil,List.length_append,List.length_map]; decide),fun p1 hp1=>?_⟩
    have s1:=Same.zp (o := .lst [.str "all"]) hp1
    refine ⟨.list (ps.map .str),.list ((["all"] : List Str).map .str),?_,zc.mkL (D:=upd H p1 (.lst [.str "all"])) (zb.strs ["all"]) upd_same (Same.refl _),Wl hok,CF.jB (fun t ht=>by rw [List.mem_singleton.mp ht]; exact zbC),?_,_,rfl,?_⟩
    · unfold zc
      exact ⟨p,_,rfl,Rd.same s1 hpr,zb.strs ps⟩
    · show min _ (PyData.depthAll ((["all"] : List Str).map .str) + 1)≤60
      rw [CF.vh]
      omega
    rw [CT.YO]
    refine ite2 (fun h1=>?_) (fun h1=>?_)
    · rw [of_decide_eq_true h1,CT.XA] at q
      refine ⟨by first | decide | (simp only [List.length_cons,List.length_nil,List.length_append,List.length_map]; decide),fun pq hpq=>⟨by first | decide | (simp only [List.length_cons,List.length_nil,List.length_append,List.length_map]; decide),fun t ht=>?_⟩⟩
      have s2:=s1.trans (Same.zp (o := .lst []) hpq)
      have ntq : t≠pq:=fun z=>by rw [z,upd_same] at ht; cases ht
      refine q (.ref t) _ (s2.trans (Same.zp ht)) ⟨t,pq,rfl,ntq,s2.free ht,s1.free hpq,upd_same,by rw [upd_ne ntq.symm]; exact upd_same⟩
    have hna : ps≠(["all"] : List Str):=fun z=>h1 (decide_eq_true z)
    have zd1:=s1.seq hp
    refine xj (B:=(∀ x y z,ps=[x,y,z]→¬ (x="some"∧z="of"))→_) ?none fun hB=>⟨_,rfl,.ref p,ps.length,rfl,.inl ⟨_,zd1,by rw [List.length_map]⟩,rfl,_,rfl,ite2 (fun h2=>iteT (hB fun x y z e=>?_)) (fun h2=>?_)⟩
    case none =>
      intro hn
      refine q .non _ s1 ?_
      rw [CT.Jw hna hn]
      rfl
    · rw [e,decide_eq_true (show V.int ((([x,y,z] : List Str).length : Nat) : Int)=V.int 3 from rfl)] at h2
      cases h2
    have h2' : ps.length=3:=by
      have:=fun z=>h2 (by rw [decide_eq_false z]; rfl)
      have:=V.int.inj (Classical.byContradiction this)
      omega
    obtain ⟨x,y,z,rfl⟩:=CT.zgB h2'
    have i0 : atI ([x,y,z].map V.str) 0=some (.str x):=CF.z7
    have i1 : atI ([x,y,z].map V.str) 1=some (.str y):=rfl
    have i2 : atI ([x,y,z].map V.str) 2=some (.str z):=rfl
    refine ⟨_,rfl,p,_,_,_,rfl,rfl,zd1,i0,rfl,_,rfl,ite2 (fun h3=>iteT (hB fun zz zz zz e z'=>?_)) (fun h3=>?_)⟩
    · cases e
      rw [z'.1] at h3
      exact absurd h3 (by rw [decide_eq_true rfl]; decide)
    have hx : x="some":=by
      have:=fun z=>h3 (by rw [decide_eq_false z]; rfl)
      exact V.str.inj (Classical.byContradiction this)
    refine ⟨_,rfl,p,_,_,_,rfl,rfl,zd1,i2,rfl,_,rfl,ite2 (fun h4=>hB fun zz zz zz e z'=>?_) (fun h4=>?_)⟩
    · cases e
      rw [z'.2] at h4
      exact absurd h4 (by rw [decide_eq_true rfl]; decide)
    have hz : z="of":=by
      have:=fun z=>h4 (by rw [decide_eq_false z]; rfl)
      exact V.str.inj (Classical.byContradiction this)
    have q' : ∀ r H',Same H H'→GAt H H' r ((CT.zI y 1 16).map CT.yd.some)→Q r H':=fun r H' s' g=>q r H' s' (by rw [CT.Yz hx hz]; exact g)
    have oky:=hok.1 y (List.mem_cons_of_mem _ (List.mem_cons_self ..))
    refine ⟨_,rfl,p,_,_,_,rfl,rfl,zd1,i1,_,_,_,rfl,Nat.le_trans oky.2 (by decide),fun H2 s2=>?_⟩
    have s12:=s1.trans s2
    refine ⟨_,rfl,rfl,_,rfl,?_⟩
    cases hn : CT.zI y 1 16 with
    | none =>
      rw [hn] at q'
      rw [decide_eq_true (show CT.oV none=V.non from rfl)]
      exact iteT (q' .non H2 s12 rfl)
    | some n =>
      rw [hn] at q'
      rw [decide_eq_false (show CT.oV (some n)≠V.non from fun z=>nomatch z)]
      refine iteF ⟨_,rfl,by first | decide | (simp only [List.length_cons,List.length_nil,List.length_append,List.length_map]; decide),fun pq hpq=>⟨by first | decide | (simp only [List.length_cons,List.length_nil,List.length_append,List.length_map]; decide),fun t ht=>?_⟩⟩
      have s3:=s12.trans (Same.zp (o := .lst []) hpq)
      have ntq : t≠pq:=fun z=>by rw [z,upd_same] at ht; cases ht
      exact q' (.ref t) _ (s3.trans (Same.zp ht)) ⟨t,pq,rfl,ntq,s3.free ht,s12.free hpq,upd_same,by rw [upd_ne ntq.symm]; exact upd_same⟩
noncomputable def WM (K : PySem.W.Frag) (vs : List V) (H : Hp) (Q : VK):=fun (t : Addr) (g : CT.yd) (v : V)=>L23.A3 (vs=[.ref t]) (SqT K H t (ghV g ++ [v])) (Q (.int g.least) H)
noncomputable def zfC (K : PySem.W.Frag) : Sp:=fun vs H Q zz=>L23.E3 (WM K vs H Q)
theorem zjJ {f : Addr} {fd : FuncData} (F : Fun K "least_rules" "least_rules" Zn f fd) (T : Txt K mg a) : FnOk P w K mg base CX0 1 f fd ["group"] (zfC K):=by
  refine F.ok zi6 (fun vs H Q E h=>?_) (fun cdv A outer s H vs Q E hr h=>?_)
  · obtain ⟨t,g,v,rfl,zz⟩:=h
    rfl
  · obtain ⟨t,g,v,rfl,ht,q⟩:=h
    refine ⟨_,(pss_one (ps_ret (pe_ifExp (pt_cmpR op_eq (pe_ix ix_tup (pvA 0 (defScope Zn) zdI rfl rfl) pe_int (fun zz zz=>rfl)) pe_str (nomark _)) (pe_ix ix_tup (pvA 0 (defScope Zn) zdI rfl rfl) pe_int (fun zz zz=>rfl)) pe_int))),?_⟩
    try dsimp only [cxOf,Cx.nox]
    cases g with
    | all=>exact ⟨_,rfl,t,_,_,_,rfl,rfl,ht,CF.z7,rfl,_,rfl,ite2 (fun z=>absurd (V.str.inj (of_decide_eq_true z)).symm CF.zbD.2.2.2.2.2) (fun zz=>q)⟩
    | some n=>exact ⟨_,rfl,t,_,_,_,rfl,rfl,ht,CF.z7,rfl,_,rfl,ite2 (fun zz=>⟨_,rfl,t,_,_,_,rfl,rfl,ht,rfl,q⟩) (fun z=>absurd (decide_eq_true rfl) z)⟩
noncomputable def JI (K : PySem.W.Frag) (vs : List V) (H : Hp) (Q : VK):=fun (t : Addr) (hd : List V) (v : V)=>L23.A3 (vs=[.ref t]) (SqT K H t (hd ++ [v])) (Q v H)
noncomputable def YD (K : PySem.W.Frag) : Sp:=fun vs H Q zz=>L23.E3 (JI K vs H Q)
theorem zjK {f : Addr} {fd : FuncData} (F : Fun K "rules_of" "rules_of" vC f fd) (T : Txt K mg a) : FnOk P w K mg base CX0 1 f fd ["group"] (YD K):=by
  refine F.ok ziX (fun vs H Q E h=>?_) (fun cdv A outer s H vs Q E hr h=>?_)
  · obtain ⟨t,hd,v,rfl,zz⟩:=h
    rfl
  · obtain ⟨t,hd,v,rfl,et,q⟩:=h
    refine ⟨_,(pss_one (ps_ret (pe_ix ix_tup (pvA 0 (defScope vC) zhn rfl rfl) (pe_un un_neg pe_int) (fun zz zz=>rfl)))),?_⟩
    try dsimp only [cxOf,Cx.nox]
    exact ⟨_,rfl,_,rfl,t,_,_,_,rfl,rfl,et,atI_last hd v,q⟩
theorem zb3 {D : Hp} {xs : List V} {os : List (Str × Int)} (h : zb K D xs (os.map CF.yf)) {i : Nat} {y : V} (hy : xs[i]?=some y) : ∃ p t,os[i]?=some p∧y = .ref t∧D t=some (.tup [.str p.1,.int p.2]):=by
  obtain ⟨d,hd,hdy⟩:=zb.back h hy
  rw [List.getElem?_map] at hd
  obtain ⟨p,hp,rfl⟩:=Option.map_eq_some_iff.mp hd
  obtain ⟨t,zs,rfl,e,hA⟩:=zc.tup hdy
  obtain ⟨y1,r1,rfl,h1,hA⟩:=zb.wC hA
  obtain ⟨y2,r2,rfl,h2,hA⟩:=zb.wC hA
  rw [zc.str h1,zc.int h2,zb.none hA] at e
  exact ⟨p,t,hp,rfl,e⟩
noncomputable def j3 (K : PySem.W.Frag) (C : Addr) (vs : List V) (H : Hp) (Q : VK):=fun x dx po pg xo v gs s=>L23.E2 fun N D=>L23.A3 (vs=[.ref x]) (CT.zu K C N D H x dx po pg xo v gs s) (Q (.bl s.room) H)
noncomputable def zd2 (K : PySem.W.Frag) (C : Addr) : Sp:=fun vs H Q zz=>L23.E8 (j3 K C vs H Q)
theorem zk7 {f : Addr} {fd yH : FuncData} (F : Fun K "has_room" "CourseReader.has_room" ja f fd) (T : Txt K mg a)
    (wZ : FnOk P w K mg base CX0 1 a.xw yH ["group"] (YD K)) (xU : Fun K "rules_of" "rules_of" vC a.xw yH) (w6 : Binds K yH ["group"] []) : FnOk P w K mg base CX0 2 f fd ["self"] (zd2 K a.zd):=by
  obtain ⟨zz,wg⟩:=T.wg
  refine F.ok zkK (fun vs H Q E h=>?_) (fun cdv A outer s H vs Q E hr h=>?_)
  · obtain ⟨x,dx,po,pg,xo,v,gs,s,N,D,rfl,zz⟩:=h
    rfl
  · obtain ⟨x,dx,po,pg,xo,v,gs,s,N,D,rfl,r,q⟩:=h
    refine ⟨_,(pss_one (ps_ret (pe_or (pe_cmpR op_eq (zf (sc:=defScope ja) call_len rfl (by decide +kernel) T.zF zy (pa_cons (pe_fld (pvA 0 (defScope ja) zgI rfl rfl) rfl) pa_nil)) pe_int (nomark _)) (pe_one (pe_cmpR op_lt (zf (sc:=defScope ja) call_len rfl (by decide +kernel) T.zF zy (pa_cons (zh (sc:=defScope ja) wZ (hr.mono (by decide)) rfl (by decide +kernel) T.zaC xU.kp w6 .nil pass0 (pa_cons (pe_ix ix_list (pe_fld (pvA 0 (defScope ja) zgI rfl rfl) rfl) (pe_un un_neg pe_int) (fun zz zz=>rfl)) pa_nil)) pa_nil)) (zN (v:=V.int 16) (sc:=defScope ja) rfl (by decide +kernel) wg ⟨_,rfl⟩) (nomark _)))))),?_⟩
    try dsimp only [cxOf,Cx.nox]
    have eg:=r.grp
    have el : ((gs.map fun f=>V.ref f.t).reverse).length=gs.length:=by rw [List.length_reverse,List.length_map]
    refine ⟨_,rfl,x,_,dx,_,_,rfl,r.ins,T.zg,T.zm,CT.YR,.ref pg,gs.length,rfl,.inl ⟨_,SqL.of eg,el.symm⟩,rfl,_,rfl,?_⟩
    cases gs with
    | nil =>
      rw [CT.zgG r.stk.symm] at q
      exact ite2 (fun zz=>q) (fun z=>absurd (decide_eq_true rfl) z)
    | cons f gr =>
      have hf:=r.each f (List.mem_cons_self ..)
      have lf : f.xs.length=f.g.rules.length:=by
        have:=zb.length hf.data
        rw [CF.za.zX,List.length_map] at this
        exact this
      refine ite2 (fun z=>?_) (fun zz=>?_)
      · have:=V.int.inj (of_decide_eq_true z)
        rw [List.length_cons] at this
        omega
      · rw [List.map_cons,List.reverse_cons] at eg
        refine ⟨_,rfl,x,_,dx,_,_,rfl,r.ins,T.zg,T.zm,CT.YR,_,rfl,pg,_,_,_,rfl,rfl,SqL.of eg,atI_last _ _,f.t,_,_,rfl,SqT.of hf.tup,.ref f.p,f.xs.length,rfl,.inl ⟨_,SqL.of hf.at_,rfl⟩,_,_,rfl,rfl,?_⟩
        have e : decide (((f.xs.length : Nat) : Int) < 16)=decide (f.g.rules.length < 16):=by
          rw [lf]
          exact decide_eq_decide.mpr ⟨fun z=>by omega,fun z=>by omega⟩
        rw [CT.Z3 r.stk.symm,← e] at q
        exact q
noncomputable def Zy (K : PySem.W.Frag) (C : Addr) (N : Addr→Prop) (D H : Hp) (x dx po pg : Addr) (gs : List CT.GFr) (s' : CT.RS) (R : Hp→Hp→Prop) : Prop :=
  ∀ D' H' xo' v' gs',Same D' H'→CT.zu K C N D' H' x dx po pg xo' v' gs' s'→CF.Ext D H D' H' (CT.yg x po pg gs)→(∀ b∈CT.yg x po pg gs',b∈CT.yg x po pg gs∨H b=none)→R D' H'
noncomputable def j4 (Q : VK):=fun (_ : Hp) (H' : Hp)=>Q .non H'
noncomputable def j5 (K : PySem.W.Frag) (C : Addr) (vs : List V) (H : Hp) (Q : VK):=fun x dx po pg xo v gs s N D y ru=>L23.A6 (vs=[.ref x,y]) (Same D H) (CT.zu K C N D H x dx po pg xo v gs s) (CT.VA K D N y (some ru)) ((∀ f∈gs,f.g.rules.length≤1000)) (Zy K C N D H x dx po pg gs (s.put ru) (j4 Q))
noncomputable def zd3 (K : PySem.W.Frag) (C : Addr) : Sp:=fun vs H Q zz=>L23.E12 (j5 K C vs H Q)
theorem zk8 {f : Addr} {fd yH : FuncData} (F : Fun K "put_rule" "CourseReader.put_rule" vL f fd) (T : Txt K mg a)
    (wZ : FnOk P w K mg base CX0 1 a.xw yH ["group"] (YD K)) (xU : Fun K "rules_of" "rules_of" vC a.xw yH) (w6 : Binds K yH ["group"] []) : FnOk P w K mg base CX0 2 f fd ["self","rule"] (zd3 K a.zd):=by
  refine F.ok zkL (fun vs H Q E h=>?_) (fun cdv A outer s H vs Q E hr h=>?_)
  · obtain ⟨x,dx,po,pg,xo,v,gs,s,N,D,y,ru,rfl,zz⟩:=h
    rfl
  · obtain ⟨x,dx,po,pg,xo,v,gs,s,N,D,y,ru,rfl,sD,r,hy,hl,q⟩:=h
    refine ⟨_,(pss_one (ps_if (pt_cmpR op_eq (zf (sc:=defScope vL) call_len rfl (by decide +kernel) T.zF zy (pa_cons (pe_fld (pvA 0 (defScope vL) JB rfl rfl) rfl) pa_nil)) pe_int (nomark _)) (pss_one (ps_fld (pvA 0 (defScope vL) JB rfl rfl) (pvA 1 (defScope vL) JB rfl rfl) rfl)) (pss_one (ps_expr (pe_bm PySem.F.plainAttrs_list PySem.F.slot_list_append PySem.F.type_list_append mt_append (zh (sc:=defScope vL) wZ (hr.mono (by decide)) rfl (by decide +kernel) T.zaC xU.kp w6 .nil pass0 (pa_cons (pe_ix ix_list (pe_fld (pvA 0 (defScope vL) JB rfl rfl) rfl) (pe_un un_neg pe_int) (fun zz zz=>rfl)) pa_nil)) (pa_cons (pvA 1 (defScope vL) JB rfl rfl) pa_nil)))))),?_⟩
    try dsimp only [cxOf,Cx.nox]
    have hs : sizeLine=16777216:=sizeLine_eq
    have eg:=r.grp
    have el : ((gs.map fun f=>V.ref f.t).reverse).length=gs.length:=by rw [List.length_reverse,List.length_map]
    refine ⟨_,rfl,x,_,dx,_,_,rfl,r.ins,T.zg,T.zm,CT.YR,.ref pg,gs.length,rfl,.inl ⟨_,SqL.of eg,el.symm⟩,rfl,_,rfl,?_⟩
    cases gs with
    | nil =>
      rw [CT.Wu r.stk.symm] at q
      refine ite2 (fun zz=>?_) (fun z=>absurd (decide_eq_true rfl) z)
      refine ⟨_,rfl,_,rfl,x,_,dx,_,rfl,r.ins,T.zg,T.zK,by show 4 < 1000; decide,?_⟩
      rw [CT.ziT]
      exact q D _ xo y [] (xg sD r.ox) (r.field s.leaves y (some ru) hy) (CT.Ext.set CT.ya.1) (fun b hb => .inl hb)
    | cons f gr =>
      have hf:=r.each f (List.mem_cons_self ..)
      have lf : f.xs.length=f.g.rules.length:=by
        have:=zb.length hf.data
        rw [CF.za.zX,List.length_map] at this
        exact this
      have hlf:=hl f (List.mem_cons_self ..)
      refine ite2 (fun z=>?_) (fun zz=>?_)
      · have:=V.int.inj (of_decide_eq_true z)
        rw [List.length_cons] at this
        omega
      · rw [List.map_cons,List.reverse_cons] at eg
        refine ⟨_,rfl,x,_,dx,_,_,rfl,r.ins,T.zg,T.zm,CT.YR,_,rfl,pg,_,_,_,rfl,rfl,SqL.of eg,atI_last _ _,f.t,_,_,rfl,SqT.of hf.tup,.inl ⟨rfl,_,SqL.of hf.at_⟩,_,rfl,f.p,_,_,rfl,rfl,hf.at_,by omega,?_⟩
        rw [CT.YU r.stk.symm] at q
        exact q D _ xo v _ (xg sD hf.out) (r.add hy.1) (CT.Ext.set (CT.ya.2.2.2 f (List.mem_cons_self ..)).1) (fun b hb => .inl hb)
noncomputable def vg (K : PySem.W.Frag) (C : Addr) (N : Addr→Prop) (D H : Hp) (x dx po pg : Addr) (gs : List CT.GFr) (o : Option CT.RS) (Q : VK) : Prop:=match o with
  | none=>∀ D' H',Same D' H'→CF.Ext D H D' H' (CT.yg x po pg gs)→Q (.bl false) H'
  | some s'=>Zy K C N D H x dx po pg gs s' fun zz H'=>Q (.bl true) H'
theorem vg.no {C : Addr} {N : Addr→Prop} {D H : Hp} {x dx po pg : Addr} {gs : List CT.GFr} {Q : VK} (h : vg K C N D H x dx po pg gs none Q) {D' H' : Hp} (s' : Same D' H') (e : CF.Ext D H D' H' (CT.yg x po pg gs)) : Q (.bl false) H':=h D' H' s' e
noncomputable def jJ (K : PySem.W.Frag) (C : Addr) (vs : List V) (H : Hp) (Q : VK):=fun x dx po pg xo v gs s N D y ol=>L23.A6 (vs=[.ref x,y]) (Same D H) (CT.zu K C N D H x dx po pg xo v gs s) (LAt K D y ol) ((∀ f∈gs,f.g.rules.length≤1000)) (vg K C N D H x dx po pg gs (s.leaf ol) Q)
noncomputable def zhv (K : PySem.W.Frag) (C : Addr) : Sp:=fun vs H Q zz=>L23.E12 (jJ K C vs H Q)
theorem zk9 {f : Addr} {fd Xf Xg : FuncData} (F : Fun K "take_leaf" "CourseReader.take_leaf" vK f fd) (T : Txt K mg a)
    (JJ : FnOk P w K mg base CX0 2 a.yq Xf ["self"] (zd2 K a.zd)) (JK : Fun K "has_room" "CourseReader.has_room" ja a.yq Xf) (JL : Binds K Xf ["self"] [])
    (JM : FnOk P w K mg base CX0 2 a.yr Xg ["self","rule"] (zd3 K a.zd)) (JN : Fun K "put_rule" "CourseReader.put_rule" vL a.yr Xg) (JO : Binds K Xg ["self","rule"] []) : FnOk P w K mg base CX0 4 f fd ["self","leaf"] (zhv K a.zd):=by
  obtain ⟨zz,Zb⟩:=T.Zb
  refine F.ok zkJ (fun vs H Q E h=>?_) (fun cdv A outer s H vs Q E hr h=>?_)
  · obtain ⟨x,dx,po,pg,xo,v,gs,s,N,D,y,ol,rfl,zz⟩:=h
    rfl
  · obtain ⟨x,dx,po,pg,xo,v,gs,s,N,D,y,ol,rfl,sD,r,hy,hl,q⟩:=h
    refine ⟨_,(pss_cons (ps_if (PW.pt (pw_or (pt_cmpR op_isN (pvA 1 (defScope vK) Wd rfl rfl) pe_non (nomark _)) (pw_or (pt_cmpR op_eq (pe_fld (pvA 0 (defScope vK) Wd rfl rfl) rfl) (zN (v:=V.int 16) (sc:=defScope vK) rfl (by decide +kernel) Zb ⟨_,rfl⟩) (nomark _)) (pw_or1 (pt_not (pt_val (pe_meth0 (pvA 0 (defScope vK) Wd rfl rfl) T.zg T.wG JJ (hr.mono (by decide)) JL .nil pass0))))))) (pss_one (ps_ret pe_bl)) pss_nil)
      (pss_cons (ps_fld (pvA 0 (defScope vK) Wd rfl rfl) (pe_op op_add (pe_fld (pvA 0 (defScope vK) Wd rfl rfl) rfl) pe_int) rfl)
      (pss_cons (ps_expr (pe_meth (pvA 0 (defScope vK) Wd rfl rfl) T.zg T.wH JM (hr.mono (by decide)) JO .nil pass0 (pa_cons (pvA 1 (defScope vK) Wd rfl rfl) pa_nil)))
      (pss_one (ps_ret pe_bl))))),?_⟩
    try dsimp only [cxOf,Cx.nox]
    have er : CF.Ext D H D H (CT.yg x po pg gs):=CT.Ext.refl' (Gr.refl sD)
    refine ⟨_,rfl,rfl,_,rfl,?_⟩
    cases ol with
    | none =>
      have hy' : y = .non:=hy
      subst hy'
      rw [decide_eq_true (show V.non=V.non from rfl)]
      exact iteT (iteT (q D H sD er))
    | some l =>
      have hyl : zc K D y l.data:=hy
      have hne : y ≠ .non:=by
        obtain ⟨t,p,rfl,zz⟩:=CF.ze.tup hyl
        exact fun z=>nomatch z
      rw [decide_eq_false hne]
      have q' : vg K a.zd N D H x dx po pg gs (if s.leaves=16∨s.room=false then none else some (CT.RS.put { s with leaves:=s.leaves + 1 } (.leaf l))) Q:=q
      refine iteF ⟨_,rfl,x,_,dx,_,_,rfl,r.ins,T.zg,T.zL,CT.ziR,rfl,_,rfl,ite2 (fun h1=>?_) (fun h1=>?_)⟩
      · have h1':=V.int.inj (of_decide_eq_true h1)
        rw [if_pos (.inl (by omega))] at q'
        exact q' D H sD er
      have h16 : s.leaves≠16:=fun z=>h1 (decide_eq_true (by rw [z]; rfl))
      refine ⟨_,rfl,x,dx,_,rfl,r.ins,CT.YS (by decide +kernel),x,dx,po,pg,xo,v,gs,s,N,D,rfl,r,_,rfl,?_⟩
      cases hroom : s.room with
      | false =>
        rw [if_pos (.inr hroom)] at q'
        exact q' D H sD er
      | true =>
        rw [if_neg (fun z=>z.elim h16 (fun z=>by rw [hroom] at z; cases z))] at q'
        refine ⟨_,rfl,x,_,dx,_,_,rfl,r.ins,T.zg,T.zL,CT.ziR,_,_,rfl,rfl,_,rfl,x,_,dx,_,rfl,r.ins,T.zg,T.zL,by show 4 < 1000; decide,?_⟩
        rw [show putF "leaves" ((fun i j : Int=>V.int (i + j)) ((s.leaves : Nat) : Int) 1) (CT.rf po pg s.leaves v)=CT.rf po pg (s.leaves + 1) v from CT.ziS (m:=s.leaves + 1)]
        have r1:=r.field (s.leaves + 1) v s.rule r.rule
        have s1:=xg (o := .ins a.zd dx (CT.rf po pg (s.leaves + 1) v)) sD r.ox
        have e1 : CF.Ext D H D (upd H x (.ins a.zd dx (CT.rf po pg (s.leaves + 1) v))) (CT.yg x po pg gs):=CT.Ext.set CT.ya.1
        refine ⟨_,rfl,x,dx,_,rfl,upd_same,CT.YS (by decide +kernel),_,rfl,x,dx,po,pg,xo,v,gs,_,N,D,y,.leaf l,rfl,s1,r1,⟨by unfold CF.za.data; exact hyl,fun z=>nomatch z⟩,hl,fun D' H' xo' v' gs' s' r' e' hn'=>?_⟩
        refine q' D' H' xo' v' gs' s' r' (CT.Ext.then e1 e' (fun b hb => .inl hb)) (fun b hb=>?_)
        rcases hn' b hb with z | z
        · exact .inl z
        · by_cases hbx : b=x
          · exact .inl (by rw [hbx]; exact CT.ya.1)
          · rw [upd_ne hbx] at z
            exact .inr z
noncomputable def jr (K : PySem.W.Frag) (C : Addr) (vs : List V) (H : Hp) (Q : VK):=fun x dx po pg xo v gs s N D y og=>L23.A8 (vs=[.ref x,y]) (Same D H) (CT.zu K C N D H x dx po pg xo v gs s) (gs.length≤1000) ((og=none→y = .non)) ((∀ g,og=some g→∃ t p,y = .ref t∧H t=some (.tup (ghV g ++ [.ref p]))∧H p=some (.lst [])∧D t=none∧D p=none∧N t∧N p∧(∀ b∈CT.yg x po pg gs,p≠b))) ((CT.RS.group s og=none→Q (.bl false) H)) ((∀ s' t p g,CT.RS.group s og=some s'→og=some g→y = .ref t→H t=some (.tup (ghV g ++ [.ref p]))→∀ H',Same D H'→CT.zu K C N D H' x dx po pg xo v (⟨t,p,[],⟨g,[]⟩⟩ :: gs) s'→CF.Ext D H D H' (CT.yg x po pg gs)→Q (.bl true) H'))
noncomputable def zhw (K : PySem.W.Frag) (C : Addr) : Sp:=fun vs H Q zz=>L23.E12 (jr K C vs H Q)
theorem zla {f : Addr} {fd Xf : FuncData} (F : Fun K "take_group" "CourseReader.take_group" v9 f fd) (T : Txt K mg a)
    (JJ : FnOk P w K mg base CX0 2 a.yq Xf ["self"] (zd2 K a.zd)) (JK : Fun K "has_room" "CourseReader.has_room" ja a.yq Xf) (JL : Binds K Xf ["self"] []) : FnOk P w K mg base CX0 4 f fd ["self","group"] (zhw K a.zd):=by
  obtain ⟨zz,Za⟩:=T.Za
  refine F.ok zkH (fun vs H Q E h=>?_) (fun cdv A outer s H vs Q E hr h=>?_)
  · obtain ⟨x,dx,po,pg,xo,v,gs,s,N,D,y,og,rfl,zz⟩:=h
    rfl
  · obtain ⟨x,dx,po,pg,xo,v,gs,s,N,D,y,og,rfl,sD,r,hl,hy0,hy1,q0,q1⟩:=h
    refine ⟨_,(pss_cons (ps_if (PW.pt (pw_or (pt_cmpR op_isN (pvA 1 (defScope v9) JA rfl rfl) pe_non (nomark _)) (pw_or (pt_cmpR op_eq (zf (sc:=defScope v9) call_len rfl (by decide +kernel) T.zF zy (pa_cons (pe_fld (pvA 0 (defScope v9) JA rfl rfl) rfl) pa_nil)) (zN (v:=V.int 6) (sc:=defScope v9) rfl (by decide +kernel) Za ⟨_,rfl⟩) (nomark _)) (pw_or1 (pt_not (pt_val (pe_meth0 (pvA 0 (defScope v9) JA rfl rfl) T.zg T.wG JJ (hr.mono (by decide)) JL .nil pass0))))))) (pss_one (ps_ret pe_bl)) pss_nil)
      (pss_cons (ps_expr (pe_bm PySem.F.plainAttrs_list PySem.F.slot_list_append PySem.F.type_list_append mt_append (pe_fld (pvA 0 (defScope v9) JA rfl rfl) rfl) (pa_cons (pvA 1 (defScope v9) JA rfl rfl) pa_nil)))
      (pss_one (ps_ret pe_bl)))),?_⟩
    try dsimp only [cxOf,Cx.nox]
    have hs : sizeLine=16777216:=sizeLine_eq
    have eg:=r.grp
    have el : ((gs.map fun f=>V.ref f.t).reverse).length=gs.length:=by rw [List.length_reverse,List.length_map]
    have ls : s.stack.length=gs.length:=by rw [← r.stk,List.length_map]
    refine ⟨_,rfl,rfl,_,rfl,?_⟩
    cases og with
    | none =>
      have hy':=hy0 rfl
      subst hy'
      rw [decide_eq_true (show V.non=V.non from rfl)]
      exact iteT (iteT (q0 rfl))
    | some g =>
      obtain ⟨t,p,rfl,ht,hp,ot,op,nt,np,fp⟩:=hy1 g rfl
      rw [decide_eq_false (show V.ref t≠V.non from fun z=>nomatch z)]
      have eG : CT.RS.group s (some g)=if s.stack.length=6∨s.room=false then none else some { s with stack:=⟨g,[]⟩ :: s.stack }:=rfl
      refine iteF ⟨_,rfl,x,_,dx,_,_,rfl,r.ins,T.zg,T.zm,CT.YR,.ref pg,gs.length,rfl,.inl ⟨_,SqL.of eg,el.symm⟩,rfl,_,rfl,ite2 (fun h1=>?_) (fun h1=>?_)⟩
      · have h1':=V.int.inj (of_decide_eq_true h1)
        exact iteT (q0 (by rw [eG,if_pos (.inl (by omega))]))
      have h6 : s.stack.length≠6:=fun z=>h1 (decide_eq_true (by rw [← ls,z]; rfl))
      refine ⟨_,rfl,x,dx,_,rfl,r.ins,CT.YS (by decide +kernel),x,dx,po,pg,xo,v,gs,s,N,D,rfl,r,_,rfl,?_⟩
      cases hroom : s.room with
      | false=>exact q0 (by rw [eG,if_pos (.inr hroom)])
      | true =>
        refine ⟨_,rfl,x,_,dx,_,_,rfl,r.ins,T.zg,T.zm,CT.YR,.inl ⟨rfl,_,SqL.of eg⟩,_,rfl,pg,_,_,rfl,rfl,eg,by omega,?_⟩
        exact q1 _ t p g (by rw [eG,if_neg (fun z=>z.elim h6 (fun z=>by rw [hroom] at z; cases z))]) rfl rfl ht _ (xg sD r.og) (r.push ht hp ot op nt np fp) (CT.Ext.set CT.ya.2.2.1)
noncomputable def j6 (K : PySem.W.Frag) (C : Addr) (vs : List V) (H : Hp) (Q : VK):=fun x dx po pg xo v gs s=>L23.E2 fun N D=>L23.A5 (vs=[.ref x]) (Same D H) (CT.zu K C N D H x dx po pg xo v gs s) ((∀ f∈gs,f.g.rules.length≤1000)) (vg K C N D H x dx po pg gs s.fin Q)
noncomputable def zhx (K : PySem.W.Frag) (C : Addr) : Sp:=fun vs H Q zz=>L23.E8 (j6 K C vs H Q)
theorem zlb {f : Addr} {fd Xg zb4 yH : FuncData} (F : Fun K "take_end" "CourseReader.take_end" wU f fd) (T : Txt K mg a)
    (JM : FnOk P w K mg base CX0 2 a.yr Xg ["self","rule"] (zd3 K a.zd)) (JN : Fun K "put_rule" "CourseReader.put_rule" vL a.yr Xg) (JO : Binds K Xg ["self","rule"] [])
    (zd4 : FnOk P w K mg base CX0 1 a.Yk zb4 ["group"] (zfC K)) (V2 : Fun K "least_rules" "least_rules" Zn a.Yk zb4) (zd5 : Binds K zb4 ["group"] [])
    (wZ : FnOk P w K mg base CX0 1 a.xw yH ["group"] (YD K)) (xU : Fun K "rules_of" "rules_of" vC a.xw yH) (w6 : Binds K yH ["group"] []) : FnOk P w K mg base CX0 4 f fd ["self"] (zhx K a.zd):=by
  refine F.ok zkI (fun vs H Q E h=>?_) (fun cdv A outer s H vs Q E hr h=>?_)
  · obtain ⟨x,dx,po,pg,xo,v,gs,s,N,D,rfl,zz⟩:=h
    rfl
  · obtain ⟨x,dx,po,pg,xo,v,gs,s,N,D,rfl,sD,r,hl,q⟩:=h
    refine ⟨_,(pss_cons (ps_if (pt_cmpR op_eq (zf (sc:=defScope wU) call_len rfl (by decide +kernel) T.zF zy (pa_cons (pe_fld (pvA 0 (defScope wU) Wc rfl rfl) rfl) pa_nil)) pe_int (nomark _)) (pss_one (ps_ret pe_bl)) pss_nil)
      (pss_cons (psN (i:=1) (sc:=defScope wU) (M:=Wc) rfl rfl (by decide +kernel) (pe_bm0 PySem.F.plainAttrs_list PySem.F.slot_list_pop PySem.F.type_list_pop mt_pop (pe_fld (pvA 0 (defScope wU) Wc rfl rfl) rfl)))
      (pss_cons (ps_if (pt_cmpR op_lt (zf (sc:=defScope wU) call_len rfl (by decide +kernel) T.zF zy (pa_cons (zh (sc:=defScope wU) wZ (hr.mono (by decide)) rfl (by decide +kernel) T.zaC xU.kp w6 .nil pass0 (pa_cons (pvA 1 (defScope wU) Wc rfl rfl) pa_nil)) pa_nil)) (zh (sc:=defScope wU) zd4 (hr.mono (by decide)) rfl (by decide +kernel) T.zkR V2.kp zd5 .nil pass0 (pa_cons (pvA 1 (defScope wU) Wc rfl rfl) pa_nil)) (nomark _)) (pss_one (ps_ret pe_bl)) pss_nil)
      (pss_cons (ps_expr (pe_meth (pvA 0 (defScope wU) Wc rfl rfl) T.zg T.wH JM (hr.mono (by decide)) JO .nil pass0 (pa_cons (pvA 1 (defScope wU) Wc rfl rfl) pa_nil)))
      (pss_one (ps_ret pe_bl)))))),?_⟩
    try dsimp only [cxOf,Cx.nox]
    have eg:=r.grp
    have el : ((gs.map fun f=>V.ref f.t).reverse).length=gs.length:=by rw [List.length_reverse,List.length_map]
    have er : CF.Ext D H D H (CT.yg x po pg gs):=CT.Ext.refl' (Gr.refl sD)
    refine ⟨_,rfl,x,_,dx,_,_,rfl,r.ins,T.zg,T.zm,CT.YR,.ref pg,gs.length,rfl,.inl ⟨_,SqL.of eg,el.symm⟩,rfl,_,rfl,?_⟩
    cases gs with
    | nil =>
      rw [CT.zc3 r.stk.symm] at q
      exact ite2 (fun zz=>q D H sD er) (fun z=>absurd (decide_eq_true rfl) z)
    | cons f gr =>
      have hm : f∈f :: gr:=List.mem_cons_self ..
      have hf:=r.each f hm
      have lf : f.xs.length=f.g.rules.length:=by
        have:=zb.length hf.data
        rw [CF.za.zX,List.length_map] at this
        exact this
      rw [CT.YV r.stk.symm] at q
      refine ite2 (fun z=>?_) (fun zz=>?_)
      · have:=V.int.inj (of_decide_eq_true z)
        rw [List.length_cons] at this
        omega
      rw [List.map_cons,List.reverse_cons] at eg
      refine ⟨_,rfl,x,_,dx,_,_,rfl,r.ins,T.zg,T.zm,CT.YR,.inl ⟨rfl,_,SqL.of eg⟩,pg,_,.ref f.t,rfl,rfl,eg,?_,?_⟩
      · rw [List.length_append,List.length_singleton,Nat.add_sub_cancel]
        exact CF.Ju _ _
      rw [List.dropLast_concat]
      have r1:=r.pop
      have s1:=xg (o := .lst ((gr.map fun f=>V.ref f.t).reverse)) sD r.og
      have e1 : CF.Ext D H D (upd H pg (.lst ((gr.map fun f=>V.ref f.t).reverse))) (CT.yg x po pg (f :: gr)):=CT.Ext.set CT.ya.2.2.1
      have ht1 : upd H pg (.lst ((gr.map fun f=>V.ref f.t).reverse)) f.t=some (.tup (ghV f.g.head ++ [.ref f.p])):=by rw [upd_ne (r.zbG hm)]; exact hf.tup
      have hp1 : upd H pg (.lst ((gr.map fun f=>V.ref f.t).reverse)) f.p=some (.lst f.xs):=by rw [upd_ne (r.Jx hm)]; exact hf.at_
      have hfr : ∀ b,upd H pg (.lst ((gr.map fun f=>V.ref f.t).reverse)) b=none→H b=none:=fun b hb=>by
        by_cases h : b=pg
        · rw [h,upd_same] at hb; cases hb
        · rw [upd_ne h] at hb; exact hb
      obtain ⟨D1,dd,sd1,eD1,ra,out⟩:=r.close sD
      have zjL : Same D1 (upd H pg (.lst ((gr.map fun f=>V.ref f.t).reverse))):=xg sd1 (out pg r.og (r.Jx hm).symm (r.zbG hm).symm)
      generalize upd H pg (.lst ((gr.map fun f=>V.ref f.t).reverse))=H1 at r1 s1 e1 ht1 hp1 hfr zjL ⊢
      refine ⟨_,rfl,f.t,_,_,rfl,SqT.of ht1,.ref f.p,f.xs.length,rfl,.inl ⟨_,SqL.of hp1,rfl⟩,_,rfl,f.t,f.g.head,_,rfl,SqT.of ht1,_,_,rfl,rfl,_,rfl,ite2 (fun h2=>?_) (fun h2=>?_)⟩
      · have h2':=of_decide_eq_true h2
        rw [if_pos (by rw [← lf]; exact h2')] at q
        exact q D H1 s1 e1
      rw [if_neg (fun z=>h2 (decide_eq_true (by rw [lf]; exact z)))] at q
      have r2 : CT.zu K a.zd N D1 H1 x dx po pg xo v gr { s with stack:=gr.map fun f=>f.g }:=r1.more dd fun b hb=>by
        unfold CT.yg at hb
        rcases List.mem_cons.mp hb with rfl | hb
        · exact out b r.ox (r.x_p hm) (r.x_t hm)
        rcases List.mem_cons.mp hb with rfl | hb
        · exact out b r.oo (r.zgF hm).symm (r.ziV hm).symm
        rcases List.mem_cons.mp hb with rfl | hb
        · exact out b r.og (r.Jx hm).symm (r.zbG hm).symm
        rcases List.mem_append.mp hb with hb | hb
        · obtain ⟨g,hg,rfl⟩:=List.mem_map.mp hb
          have hgm:=List.mem_cons_of_mem f hg
          refine out g.p (r.each g hgm).out (fun z=>?_) (fun z=>r.t_p hm hgm z.symm)
          have h4 : (f.p :: gr.map fun f=>f.p).Nodup:=(List.nodup_cons.mp (List.nodup_cons.mp r.nd).2).2
          exact (List.nodup_cons.mp h4).1 (by rw [← z]; exact List.mem_map.mpr ⟨g,hg,rfl⟩)
        · obtain ⟨g,hg,rfl⟩:=List.mem_map.mp hb
          have hgm:=List.mem_cons_of_mem f hg
          exact out g.t (r.each g hgm).YT (r.t_p hgm hm) (r.t_t hg)
      have e2 : CF.Ext D H D1 H1 (CT.yg x po pg (f :: gr)):=⟨dd,fun b o hn e=>⟨(e1.keep b o hn e).1,fun z=>out b z (fun w=>hn (by rw [w]; exact (CT.ya.2.2.2 f hm).1)) (fun w=>hn (by rw [w]; exact (CT.ya.2.2.2 f hm).2))⟩⟩
      have sub : ∀ b∈CT.yg x po pg gr,b∈CT.yg x po pg (f :: gr):=fun b hb=>by
        unfold CT.yg at hb ⊢
        simp only [List.mem_cons,List.mem_append,List.map_cons] at hb ⊢
        rcases hb with h | h | h | h | h
        · exact .inl h
        · exact .inr (.inl h)
        · exact .inr (.inr (.inl h))
        · exact .inr (.inr (.inr (.inl (.inr h))))
        · exact .inr (.inr (.inr (.inr (.inr h))))
      refine ⟨_,rfl,x,dx,_,rfl,r1.ins,CT.YS (by decide +kernel),_,rfl,x,dx,po,pg,xo,v,gr,_,N,D1,.ref f.t,f.g.head.rule f.g.rules,rfl,zjL,r2,ra,(fun g hg=>hl g (List.mem_cons_of_mem _ hg)),fun D' H' xo' v' gs' s' r' e' hn'=>?_⟩
      have e'' : CF.Ext D H D' H' (CT.yg x po pg (f :: gr)):=CT.Ext.then e2 e' (fun b hb => .inl (sub b hb))
      have st : ({ s with stack:=gr.map fun f=>f.g } : CT.RS)={ s with stack:=gr.map (fun f=>f.g) }:=rfl
      refine q D' H' xo' v' gs' s' r' e'' (fun b hb=>?_)
      rcases hn' b hb with z | z
      · exact .inl (sub b z)
      · exact .inr (hfr b z)
theorem zae {C : Addr} {N : Addr→Prop} {D H : Hp} {x dx po pg : Addr} {xo : List V} {v : V} {gs : List CT.GFr} {s : CT.RS} (r : CT.zu K C N D H x dx po pg xo v gs s) {b : Addr} (hb : b∈CT.yg x po pg gs) : ∃ o,H b=some o:=by
  unfold CT.yg at hb
  rcases List.mem_cons.mp hb with rfl | hb
  · exact ⟨_,r.ins⟩
  rcases List.mem_cons.mp hb with rfl | hb
  · exact ⟨_,r.oft⟩
  rcases List.mem_cons.mp hb with rfl | hb
  · exact ⟨_,r.grp⟩
  rcases List.mem_append.mp hb with hb | hb
  · obtain ⟨g,hg,rfl⟩:=List.mem_map.mp hb
    exact ⟨_,(r.each g hg).at_⟩
  · obtain ⟨g,hg,rfl⟩:=List.mem_map.mp hb
    exact ⟨_,(r.each g hg).tup⟩
theorem Zy.shift {C : Addr} {N : Addr→Prop} {D H D1 H1 : Hp} {x dx po pg : Addr} {gs : List CT.GFr} {s' : CT.RS} {R : Hp→Hp→Prop} (h : Zy K C N D H x dx po pg gs s' R) (g : Gr D H D1 H1) : Zy K C N D1 H1 x dx po pg gs s' R :=
  fun D' H' xo' v' gs' s2 r' e' hn'=>h D' H' xo' v' gs' s2 r' (CT.Ext.then (CT.Ext.refl' g) e' fun b hb => .inl hb) fun b hb=>(hn' b hb).imp id fun z=>g.hh.free z
theorem vg.shift {C : Addr} {N : Addr→Prop} {D H D1 H1 : Hp} {x dx po pg : Addr} {gs : List CT.GFr} {o : Option CT.RS} {Q : VK} (h : vg K C N D H x dx po pg gs o Q) (g : Gr D H D1 H1) : vg K C N D1 H1 x dx po pg gs o Q:=by
  cases o with
  | none=>exact fun D' H' s' e'=>h D' H' s' (CT.Ext.then (CT.Ext.refl' g) e' fun b hb => .inl hb)
  | some s'=>exact Zy.shift h g
noncomputable def jt (K : PySem.W.Frag) (C : Addr) (vs : List V) (H : Hp) (Q : VK):=fun x dx po pg xo v gs s N D p ps=>L23.A7 (vs=[.ref x,.ref p]) (Same D H) (CT.zu K C N D H x dx po pg xo v gs s) (SqL K H p (ps.map V.str)) (yu ps) (CT.Fit s) (vg K C N D H x dx po pg gs (s.wz ps) Q)
noncomputable def zhy (K : PySem.W.Frag) (C : Addr) : Sp:=fun vs H Q zz=>L23.E12 (jt K C vs H Q)
theorem zlc {f : Addr} {fd ZP xA : FuncData} (F : Fun K "take_often" "CourseReader.take_often" yo f fd) (T : Txt K mg a)
    (WC : FnOk P w K mg base CX0 2 a.YC ZP ["thing"] (zbY K)) (Z5 : Fun K "is_word" "is_word" zV a.YC ZP) (WD : Binds K ZP ["thing"] [])
    (vG : FnOk P w K mg base CX0 3 a.yS xA ["text","least","most"] (Wk K)) (wY : Fun K "read_number" "read_number" yZ a.yS xA) (vH : Binds K xA ["text","least","most"] []) : FnOk P w K mg base CX0 4 f fd ["self","parts"] (zhy K a.zd):=by
  obtain ⟨zz,ZL⟩:=T.ZL
  obtain ⟨zz,Zc⟩:=T.Zc
  refine F.ok zkG (fun vs H Q E h=>?_) (fun cdv A outer s H vs Q E hr h=>?_)
  · obtain ⟨x,dx,po,pg,xo,v,gs,st,N,D,p,ps,rfl,zz⟩:=h
    rfl
  · obtain ⟨x,dx,po,pg,xo,v,gs,st,N,D,p,ps,rfl,sD,r,hp,hok,hfit,q⟩:=h
    refine ⟨_,(pss_cons (ps_if (PW.pt (pw_or (pt_cmpR op_gt (zf (sc:=defScope yo) call_len rfl (by decide +kernel) T.zF zy (pa_cons (pe_fld (pvA 0 (defScope yo) vJ rfl rfl) rfl) pa_nil)) pe_int (nomark _)) (pw_or1 (pt_cmpR op_eq (zf (sc:=defScope yo) call_len rfl (by decide +kernel) T.zF zy (pa_cons (pe_fld (pvA 0 (defScope yo) vJ rfl rfl) rfl) pa_nil)) (zN (v:=V.int 16) (sc:=defScope yo) rfl (by decide +kernel) Zc ⟨_,rfl⟩) (nomark _))))) (pss_one (ps_ret pe_bl)) pss_nil)
      (pss_cons (ps_if (PW.pt (pw_or (pt_cmpR op_ne (zf (sc:=defScope yo) call_len rfl (by decide +kernel) T.zF zy (pa_cons (pvA 1 (defScope yo) vJ rfl rfl) pa_nil)) pe_int (nomark _)) (pw_or1 (pt_not (pt_val (zh (sc:=defScope yo) WC (hr.mono (by decide)) rfl (by decide +kernel) T.zho Z5.kp WD .nil pass0 (pa_cons (pe_ix ix_list (pvA 1 (defScope yo) vJ rfl rfl) pe_int (fun zz zz=>rfl)) pa_nil))))))) (pss_one (ps_ret pe_bl)) pss_nil)
      (pss_cons (psN (i:=2) (sc:=defScope yo) (M:=vJ) rfl rfl (by decide +kernel) (zh (sc:=defScope yo) vG (hr.mono (by decide)) rfl (by decide +kernel) T.zaD wY.kp vH .nil pass0 (pa_cons (pe_ix ix_list (pvA 1 (defScope yo) vJ rfl rfl) pe_int (fun zz zz=>rfl)) (pa_cons pe_int (pa_cons (zN (v:=V.int 9) (sc:=defScope yo) rfl (by decide +kernel) ZL ⟨_,rfl⟩) pa_nil)))))
      (pss_cons (ps_if (PW.pt (pw_or (pt_cmpR op_isN (pvA 2 (defScope yo) vJ rfl rfl) pe_non (nomark _)) (pw_or1 (pt_cmpR op_in_seq (pe_ix ix_list (pvA 1 (defScope yo) vJ rfl rfl) pe_int (fun zz zz=>rfl)) (ju rfl (N:=["field","number"]) (own:=2) (js:=[]) (X:=(cxOf CX0 P w K mg base vJ "CourseReader.take_often" (defScope yo) f cdv A outer s H E).nox) (jW (defScope yo) vJ rfl rfl (by decide +kernel)) (pi_list (pe_fld (pvA 0 (defScope yo) vJ rfl rfl) rfl)) (fun fp0 sx0 Hx0=>(zhi (K:=K) rfl (pg_tup (n:=2) (by rfl) (pgs_cons (pgN (i:=0) (sc:=zD _ (defScope yo)) (M:=["field","number"]) rfl rfl (by decide +kernel)) (pgs_cons (pgN (i:=1) (sc:=zD _ (defScope yo)) (M:=["field","number"]) rfl rfl (by decide +kernel)) pgs_nil))))) (fun fp0 sx0 Hx0=>vc) (fun fp0 sx0 Hx0=>(pvN (i:=0) (sc:=zD _ (defScope yo)) (M:=["field","number"]) rfl rfl (by decide +kernel)))) (by with_unfolding_all rfl))))) (pss_one (ps_ret pe_bl)) pss_nil)
      (pss_cons (ps_expr (pe_bm PySem.F.plainAttrs_list PySem.F.slot_list_append PySem.F.type_list_append mt_append (pe_fld (pvA 0 (defScope yo) vJ rfl rfl) rfl) (pa_cons (pe_tup (pa_cons (pe_ix ix_list (pvA 1 (defScope yo) vJ rfl rfl) pe_int (fun zz zz=>rfl)) (pa_cons (pvA 2 (defScope yo) vJ rfl rfl) pa_nil))) pa_nil)))
      (pss_one (ps_ret pe_bl))))))),?_⟩
    try dsimp only [cxOf,Cx.nox]
    have hs : sizeLine=16777216:=sizeLine_eq
    have eg:=r.grp
    have el : ((gs.map fun f=>V.ref f.t).reverse).length=gs.length:=by rw [List.length_reverse,List.length_map]
    have lxo : xo.length=st.zl.length:=by
      have:=zb.length r.yf
      rw [List.length_map] at this
      exact this
    have hof:=hfit.oft
    have ls : st.stack.length=gs.length:=by rw [← r.stk,List.length_map]
    have er : CF.Ext D H D H (CT.yg x po pg gs):=CT.Ext.refl' (Gr.refl sD)
    refine ⟨_,rfl,x,_,dx,_,_,rfl,r.ins,T.zg,T.zm,CT.YR,.ref pg,gs.length,rfl,.inl ⟨_,SqL.of eg,el.symm⟩,_,_,rfl,rfl,_,rfl,ite2 (fun h1=>?_) (fun h1=>?_)⟩
    · have h1':=of_decide_eq_true h1
      rw [CT.VB (.inl (fun z=>by rw [z] at ls; simp at ls; omega))] at q
      exact iteT (q D H sD er)
    have hst : st.stack=[]:=List.eq_nil_of_length_eq_zero (by
      have hh : ¬ (0 : Int) < (gs.length : Nat):=fun z=>h1 (decide_eq_true z)
      omega)
    refine ⟨_,rfl,x,_,dx,_,_,rfl,r.ins,T.zg,T.zH,CT.zdB,.ref po,xo.length,rfl,.inl ⟨_,SqL.of r.oft,rfl⟩,rfl,_,rfl,ite2 (fun h2=>?_) (fun h2=>?_)⟩
    · have h2':=V.int.inj (of_decide_eq_true h2)
      rw [CT.VB (.inr (by omega))] at q
      exact q D H sD er
    have h16 : st.zl.length≠16:=fun z=>h2 (decide_eq_true (by rw [lxo,z]; rfl))
    refine xj (B:=(∀ a b c,ps=[a,b,c]→CW.isWord c=false)→∀ H',Same H H'→_) ?none fun hB=>⟨_,rfl,.ref p,ps.length,rfl,.inl ⟨_,hp,by rw [List.length_map]⟩,rfl,_,rfl,ite2 (fun h3=>iteT (hB (fun a b c e=>?_) H (Same.refl _))) (fun h3=>?_)⟩
    case none =>
      intro hz H' s'
      rw [CT.zfj hz] at q
      exact q D H' (sD.trans s') (CT.Ext.refl' (Gr.heap sD s'))
    · rw [e,decide_eq_true (show V.int ((([a,b,c] : List Str).length : Nat) : Int)=V.int 3 from rfl)] at h3
      cases h3
    have h3' : ps.length=3:=by
      have:=fun z=>h3 (by rw [decide_eq_false z]; rfl)
      have:=V.int.inj (Classical.byContradiction this)
      omega
    obtain ⟨w0,w1,w2,rfl⟩:=CT.zgB h3'
    have i1 : atI ([w0,w1,w2].map V.str) 1=some (.str w1):=rfl
    have i2 : atI ([w0,w1,w2].map V.str) 2=some (.str w2):=rfl
    have ok1:=hok.1 w1 (List.mem_cons_of_mem _ (List.mem_cons_self ..))
    have ok2:=hok.1 w2 (List.mem_cons_of_mem _ (List.mem_cons_of_mem _ (List.mem_cons_self ..)))
    refine ⟨_,rfl,p,_,_,_,rfl,rfl,hp,i2,.inl ⟨w2,rfl,Nat.le_trans ok2.2 (by decide),fun H1 s1=>⟨_,rfl,?_⟩⟩⟩
    cases hw : CW.isWord w2 with
    | false=>exact hB (fun zz zz zz e=>by cases e; exact hw) H1 s1
    | true =>
      refine ⟨_,rfl,p,_,_,_,rfl,rfl,s1.seq hp,i1,_,_,_,rfl,Nat.le_trans ok1.2 (by decide),fun H2 s2=>?_⟩
      have s12:=s1.trans s2
      refine ⟨_,rfl,rfl,_,rfl,?_⟩
      cases hn : CT.zI w1 1 9 with
      | none =>
        rw [CT.zfk hn] at q
        rw [decide_eq_true (show CT.oV none=V.non from rfl)]
        exact iteT (iteT (q D H2 (sD.trans s12) (CT.Ext.refl' (Gr.heap sD s12))))
      | some k =>
        rw [CT.VC hst h16 hw hn] at q
        have q3 : vg K a.zd N D H x dx po pg gs (if w2∈st.zl.map (fun p=>p.1) then none else some { st with zl:=st.zl ++ [(w2,k)] }) Q:=q
        rw [decide_eq_false (show CT.oV (some k)≠V.non from fun z=>nomatch z)]
        have r2:=r.gr (Gr.heap sD s12)
        refine iteF ⟨_,rfl,p,_,_,_,rfl,rfl,s12.seq hp,i2,_,rfl,x,_,dx,_,_,rfl,r2.ins,T.zg,T.zH,CT.zdB,po,rfl,⟨_,SqL.of r2.oft⟩,fun c hc=>?_⟩
        refine Yx (K:=K) (D:=D) (sD.trans s12) hc vv (fun σ=>L23.E2 fun v1 v2=>σ=[v1,v2]) (st.zl.map fun p=>some (PyData.str p.1)) (by rw [List.length_map,lxo]) ⟨_,_,rfl⟩ (fun H' s'=>SqL.of (s' _ _ r2.oft)) (by omega) ?_ ?_
        · rintro i y rr σ D3 H3 R1 R0 hy hrr ⟨v1,v2,rfl⟩ G k1 k0
          obtain ⟨pp,tp,hpp,rfl,ep⟩:=zb3 r.yf hy
          rw [List.getElem?_map,hpp] at hrr
          obtain rfl:=Option.some.inj hrr
          exact ⟨tp,_,rfl,SqT.of (G.dh _ _ (G.dd _ _ ep)),rfl,_,_,rfl,_,_,rfl,rfl,_,rfl,k1 _ _ _ D3 H3 rfl ⟨_,_,rfl⟩ (Gr.refl G.dh) zc.ofStr⟩
        · intro D3 H3 ys G e n hy
          have hy' : zb K D3 ys ((st.zl.map fun p=>p.1).map PyData.str):=by
            have : (st.zl.map fun p=>some (PyData.str p.1)).filterMap id=(st.zl.map fun p=>p.1).map PyData.str:=by
              rw [List.map_map]
              generalize st.zl=ls
              induction ls with
              | nil=>rfl
              | cons a b ih=>exact congrArg (_ :: ·) ih
            rw [← this]
            exact hy
          rw [zb.Zs hy'] at e
          have G3 : Gr D H D3 H3:=(Gr.heap sD s12).trans G
          have r3:=r.gr G3
          refine ⟨c,_,rfl,.inl (SqL.of e),rfl,CF.XY _,_,rfl,?_⟩
          rw [if_neg (show ¬ (false=true) by decide),ZC]
          refine ite2 (fun h5=>?_) (fun h5=>?_)
          · rw [if_pos (List.contains_iff_mem.mp h5)] at q3
            exact q3 D3 H3 G3.dh (CT.Ext.refl' G3)
          rw [if_neg (fun z=>h5 (List.contains_iff_mem.mpr z))] at q3
          refine ⟨_,rfl,x,_,dx,_,_,rfl,r3.ins,T.zg,T.zH,CT.zdB,.inl ⟨rfl,_,SqL.of r3.oft⟩,_,rfl,p,_,_,_,rfl,rfl,G3.hh.seq hp,i2,_,rfl,by first | decide | (simp only [List.length_cons,List.length_nil,List.length_append,List.length_map]; decide),fun pt hpt=>?_⟩
          have G4:=Gr.lay (o := .tup [.str w2,CT.oV (some k)]) G3.dh hpt
          have r4:=r3.gr G4
          refine ⟨po,_,_,rfl,rfl,r4.oft,by omega,?_⟩
          have dt : zc K (upd D3 pt (.tup [.str w2,CT.oV (some k)])) (.ref pt) (CF.yf (w2,k)):=zc.mkT (zb.cons zc.ofStr (zb.cons zc.ofInt zb.nil)) upd_same (Same.refl _)
          have eG:=CT.Ext.refl' (S:=CT.yg x po pg gs) (G3.trans G4)
          exact q3 _ _ _ v gs (xg G4.dh r4.oo) (r4.wz dt) (CT.Ext.then eG (CT.Ext.set CT.ya.2.1) (fun b hb => .inl hb)) (fun b hb => .inl hb)
theorem zjM : CF.Tx 24 "end":=⟨by decide +kernel,by decide +kernel⟩
noncomputable def ZX (K : PySem.W.Frag) (C : Addr) (vs : List V) (H : Hp) (Q : VK):=fun x dx po pg xo v gs st N D row ps=>L23.A10 (vs=[.ref x,.str row]) (Same D H) (CT.zu K C N D H x dx po pg xo v gs st) ((∀ b,H b=none→N b)) (row.length≤1048576) (PySem.Txt.split row " "=ps) (ps≠[]) (yu ps) (CT.Fit st) (vg K C N D H x dx po pg gs (CT.RS.parts st ps) Q)
noncomputable def zhz (K : PySem.W.Frag) (C : Addr) : Sp:=fun vs H Q zz=>L23.E12 (ZX K C vs H Q)
theorem zld {f : Addr} {fd zd6 zd7 zd8 zd9 zb5 zb6 : FuncData} (F : Fun K "take" "CourseReader.take" xE f fd) (T : Txt K mg a)
    (zgO : FnOk P w K mg base CX0 4 a.wc zd6 ["self"] (zhx K a.zd)) (zea : Fun K "take_end" "CourseReader.take_end" wU a.wc zd6) (zgP : Binds K zd6 ["self"] [])
    (zgQ : FnOk P w K mg base CX0 4 a.xG zd7 ["self","group"] (zhw K a.zd)) (zeb : Fun K "take_group" "CourseReader.take_group" v9 a.xG zd7) (zgR : Binds K zd7 ["self","group"] [])
    (zgS : FnOk P w K mg base CX0 4 a.xR zd8 ["self","leaf"] (zhv K a.zd)) (zec : Fun K "take_leaf" "CourseReader.take_leaf" vK a.xR zd8) (zgT : Binds K zd8 ["self","leaf"] [])
    (zgU : FnOk P w K mg base CX0 4 a.xF zd9 ["self","parts"] (zhy K a.zd)) (zed : Fun K "take_often" "CourseReader.take_often" yo a.xF zd9) (zgV : Binds K zd9 ["self","parts"] [])
    (zee : FnOk P w K mg base CX0 4 a.Y3 zb5 ["parts"] (zfB K)) (V3 : Fun K "read_group" "read_group" xB a.Y3 zb5) (zef : Binds K zb5 ["parts"] [])
    (zeg : FnOk P w K mg base CX0 5 a.Wg zb6 ["parts"] (zfA K)) (V4 : Fun K "read_leaf" "read_leaf" zJ a.Wg zb6) (zeh : Binds K zb6 ["parts"] []) : FnOk P w K mg base CX0 6 f fd ["self","row"] (zhz K a.zd):=by
  refine F.ok zkF (fun vs H Q E h=>?_) (fun cdv A outer s H vs Q E hr h=>?_)
  · obtain ⟨x,dx,po,pg,xo,v,gs,st,N,D,row,ps,rfl,zz⟩:=h
    rfl
  · obtain ⟨x,dx,po,pg,xo,v,gs,st,N,D,row,ps,rfl,sD,r,hN,JP,hsp,hne,hok,hfit,q⟩:=h
    refine ⟨_,(pss_cons (ps_if (pt_cmpR op_notN (pe_fld (pvA 0 (defScope xE) v8 rfl rfl) rfl) pe_non (nomark _)) (pss_one (ps_ret pe_bl)) pss_nil)
      (pss_cons (psN (i:=2) (sc:=defScope xE) (M:=v8) rfl rfl (by decide +kernel) (pe_bm PySem.F.plainAttrs_str PySem.F.slot_str_split PySem.F.type_str_split zbl (pvA 1 (defScope xE) v8 rfl rfl) (pa_cons pe_str pa_nil)))
      (pss_cons (ps_if (pt_cmpR op_eq (pe_ix ix_list (pvA 2 (defScope xE) v8 rfl rfl) pe_int (fun zz zz=>rfl)) pe_str (nomark _)) (pss_one (ps_ret (pe_meth (pvA 0 (defScope xE) v8 rfl rfl) T.zg T.jF zgU (hr.mono (by decide)) zgV .nil pass0 (pa_cons (pvA 2 (defScope xE) v8 rfl rfl) pa_nil)))) pss_nil)
      (pss_cons (ps_if (pt_cmpR op_in_seq (pe_ix ix_list (pvA 2 (defScope xE) v8 rfl rfl) pe_int (fun zz zz=>rfl)) (pe_tup (pa_cons pe_str (pa_cons pe_str pa_nil))) (by with_unfolding_all rfl)) (pss_one (ps_ret (pe_meth (pvA 0 (defScope xE) v8 rfl rfl) T.zg T.jG zgQ (hr.mono (by decide)) zgR .nil pass0 (pa_cons (zh (sc:=defScope xE) zee (hr.mono (by decide)) rfl (by decide +kernel) T.zkQ V3.kp zef .nil pass0 (pa_cons (pvA 2 (defScope xE) v8 rfl rfl) pa_nil)) pa_nil)))) pss_nil)
      (pss_cons (ps_if (pt_cmpR (Vn (n:=60) (zdk hr)) (pvA 2 (defScope xE) v8 rfl rfl) (pe_lst (pa_cons pe_str pa_nil)) (nomark _)) (pss_one (ps_ret (pe_meth0 (pvA 0 (defScope xE) v8 rfl rfl) T.zg T.j9 zgO (hr.mono (by decide)) zgP .nil pass0))) pss_nil)
      (pss_one (ps_ret (pe_meth (pvA 0 (defScope xE) v8 rfl rfl) T.zg T.jZ zgS (hr.mono (by decide)) zgT .nil pass0 (pa_cons (zh (sc:=defScope xE) zeg (hr.mono (by decide)) rfl (by decide +kernel) T.zkP V4.kp zeh .nil pass0 (pa_cons (pvA 2 (defScope xE) v8 rfl rfl) pa_nil)) pa_nil))))))))),?_⟩
    try dsimp only [cxOf,Cx.nox]
    have hs : sizeLine=16777216:=sizeLine_eq
    have er : CF.Ext D H D H (CT.yg x po pg gs):=CT.Ext.refl' (Gr.refl sD)
    have hru:=r.rule
    have hl : ∀ f∈gs,f.g.rules.length≤1000:=fun f hf=>Nat.le_trans (hfit.rules f.g (by rw [← r.stk]; exact List.mem_map.mpr ⟨f,hf,rfl⟩)) (by decide)
    have lgs : gs.length≤6:=by
      have:=hfit.stk
      rw [← r.stk,List.length_map] at this
      exact this
    refine ⟨_,rfl,x,_,dx,_,_,rfl,r.ins,T.zg,T.zK,CT.zgC,rfl,_,rfl,?_⟩
    cases Xh : st.rule with
    | some ru =>
      rw [Xh] at hru
      rw [CT.zdC (by rw [Xh]; rfl)] at q
      obtain ⟨t,ys,rfl,zz⟩:=CF.za.tup hru.1
      rw [decide_eq_false (show V.ref t≠V.non from fun z=>nomatch z)]
      exact iteT (q D H sD er)
    | none =>
      rw [Xh] at hru
      have hv : v = .non:=hru
      rw [decide_eq_true hv]
      refine iteF ⟨_,rfl,rfl,row," ",rfl,rfl,by decide +kernel,JP,fun pp hpp=>?_⟩
      rw [hsp]
      have G1 : Gr D H D (upd H pp (.lst (ps.map V.str))):=Gr.W3 sD hpp
      have e1 : upd H pp (.lst (ps.map V.str)) pp=some (.lst (ps.map V.str)):=upd_same
      have hN1 : ∀ b,upd H pp (.lst (ps.map V.str)) b=none→N b:=fun b hb=>hN b (G1.hh.free hb)
      generalize upd H pp (.lst (ps.map V.str))=H1 at G1 e1 hN1 ⊢
      have r1:=r.gr G1
      have q1:=q.shift G1
      obtain ⟨p0,pr,rfl⟩ : ∃ p0 pr,ps=p0 :: pr:=by
        cases ps with
        | nil=>exact absurd rfl hne
        | cons a b=>exact ⟨a,b,rfl⟩
      have i0 : atI ((p0 :: pr).map V.str) 0=some (.str p0):=CF.z7
      refine ⟨_,rfl,pp,_,_,_,rfl,rfl,SqL.of e1,i0,rfl,_,rfl,ite2 (fun h1=>?_) (fun h1=>?_)⟩
      · have h1' : p0="often":=V.str.inj (of_decide_eq_true h1)
        rw [CT.WW Xh (by rw [h1']; rfl)] at q1
        exact ⟨_,rfl,x,dx,_,rfl,r1.ins,CT.YS (by decide +kernel),_,rfl,x,dx,po,pg,xo,v,gs,st,N,D,pp,_,rfl,G1.dh,r1,SqL.of e1,hok,hfit,q1⟩
      have no : (p0 :: pr).head?≠some ("often" : Str):=fun z=>h1 (decide_eq_true (by rw [Option.some.inj z]))
      refine ⟨_,rfl,pp,_,_,_,rfl,rfl,SqL.of e1,i0,by first | decide | (simp only [List.length_cons,List.length_nil,List.length_append,List.length_map]; decide),fun p2 hp2=>?_⟩
      have G2:=G1.trans (Gr.W3 (o := .tup [.str "all",.str "some"]) G1.dh hp2)
      have e2 : upd H1 p2 (.tup [.str "all",.str "some"]) pp=some (.lst ((p0 :: pr).map V.str)):=(Same.zp hp2) _ _ e1
      have f2 : upd H1 p2 (.tup [.str "all",.str "some"]) p2=some (.tup [.str "all",.str "some"]):=upd_same
      generalize upd H1 p2 (.tup [.str "all",.str "some"])=H2 at G2 e2 f2 ⊢
      have r2:=r.gr G2
      have q2:=q.shift G2
      refine ⟨p2,_,rfl,.inr (SqT.of f2),rfl,rfl,_,rfl,?_⟩
      rw [if_neg (show ¬ (false=true) by decide),show inV (V.str p0) [V.str "all",V.str "some"]=(["all","some"] : List Str).contains p0 from ZC p0 ["all","some"]]
      refine ite2 (fun h2=>?_) (fun h2=>?_)
      · have h2':=List.contains_iff_mem.mp h2
        have hg : (p0 :: pr).head?=some ("all" : Str)∨(p0 :: pr).head?=some ("some" : Str):=by
          simp only [List.mem_cons,List.not_mem_nil,or_false] at h2'
          rcases h2' with rfl | rfl
          · exact .inl rfl
          · exact .inr rfl
        rw [CT.WX Xh no hg] at q2
        refine ⟨_,rfl,x,dx,_,rfl,r2.ins,CT.YS (by decide +kernel),_,rfl,pp,_,rfl,SqL.of e2,.inl e2,hok,fun y H3 s3 hy=>?_⟩
        have G3:=G2.then s3
        have r3:=r.gr G3
        have q3:=q2.shift (Gr.heap G2.dh s3)
        refine ⟨x,dx,po,pg,xo,v,gs,st,N,D,y,CT.yp (p0 :: pr),rfl,G3.dh,r3,by omega,fun z=>?_,fun g z=>?_,fun z=>?_,fun s' t p g z1 z2 z3 z4 H' sH' r' e'=>?_⟩
        · rw [z] at hy
          exact hy
        · rw [z] at hy
          obtain ⟨t,p,rfl,ntp,nt,np,et,ep⟩:=hy
          refine ⟨t,p,rfl,et,ep,zZ G2.dh nt,zZ G2.dh np,hN t (G2.hh.free nt),hN p (G2.hh.free np),fun b hb w=>?_⟩
          obtain ⟨o,eb⟩:=zae r2 hb
          rw [← w,np] at eb
          cases eb
        · rw [z] at q3
          exact q3 D H3 G3.dh (CT.Ext.refl' (Gr.refl G3.dh))
        · rw [z1] at q2
          rw [z2] at hy
          obtain ⟨t',p',e1',ntp,nt,np,et,ep⟩:=hy
          rw [z3] at e1'
          cases e1'
          have epp : p=p':=by
            have e3:=z4.symm.trans et
            have e4:=congrArg List.getLast? (HO.tup.inj (Option.some.inj e3))
            rw [List.getLast?_concat,List.getLast?_concat] at e4
            exact V.ref.inj (Option.some.inj e4)
          refine q2 D H' xo v _ sH' r' (CT.Ext.then (CT.Ext.refl' (Gr.heap G2.dh s3)) e' (fun b hb => .inl hb)) (fun b hb=>?_)
          unfold CT.yg at hb ⊢
          simp only [List.mem_cons,List.mem_append,List.map_cons] at hb ⊢
          rcases hb with h | h | h | (h | h) | (h | h)
          · exact .inl (.inl h)
          · exact .inl (.inr (.inl h))
          · exact .inl (.inr (.inr (.inl h)))
          · exact .inr (by rw [h,epp]; exact np)
          · exact .inl (.inr (.inr (.inr (.inl h))))
          · exact .inr (by rw [h]; exact nt)
          · exact .inl (.inr (.inr (.inr (.inr h))))
      have ng : ¬ ((p0 :: pr).head?=some ("all" : Str)∨(p0 :: pr).head?=some ("some" : Str)):=fun z=>h2 (List.contains_iff_mem.mpr (by
        simp only [List.mem_cons,List.not_mem_nil,or_false]
        exact z.imp Option.some.inj Option.some.inj))
      refine ⟨_,rfl,by first | decide | (simp only [List.length_cons,List.length_nil,List.length_append,List.length_map]; decide),fun p3 hp3=>?_⟩
      have G3:=G2.trans (Gr.W3 (o := .lst [.str "end"]) G2.dh hp3)
      have e3 : upd H2 p3 (.lst [.str "end"]) pp=some (.lst ((p0 :: pr).map V.str)):=(Same.zp hp3) _ _ e2
      have f3 : upd H2 p3 (.lst [.str "end"]) p3=some (.lst ((["end"] : List Str).map V.str)):=upd_same
      generalize upd H2 p3 (.lst [.str "end"])=H3 at G3 e3 f3 ⊢
      have r3:=r.gr G3
      have q3:=q.shift G3
      refine ⟨.list ((p0 :: pr).map .str),.list ((["end"] : List Str).map .str),zc.mkL (zb.strs _) e3 (Same.refl _),zc.mkL (zb.strs _) f3 (Same.refl _),Wl hok,CF.jB (fun t ht=>by rw [List.mem_singleton.mp ht]; exact zjM),?_,_,rfl,?_⟩
      · show min _ (PyData.depthAll ((["end"] : List Str).map .str) + 1)≤60
        rw [CF.vh]
        omega
      rw [CT.YO]
      refine ite2 (fun h4=>?_) (fun h4=>?_)
      · rw [CT.X4 Xh (of_decide_eq_true h4)] at q3
        exact ⟨_,rfl,x,dx,_,rfl,r3.ins,CT.YS (by decide +kernel),x,dx,po,pg,xo,v,gs,st,N,D,rfl,G3.dh,r3,hl,q3⟩
      · rw [CT.VD Xh no ng (fun z=>h4 (decide_eq_true z))] at q3
        refine ⟨_,rfl,x,dx,_,rfl,r3.ins,CT.YS (by decide +kernel),_,rfl,pp,_,D,rfl,G3.dh,SqL.of e3,hok,fun y D4 H4 G4 hy=>?_⟩
        have r4:=r3.gr G4
        exact ⟨x,dx,po,pg,xo,v,gs,st,N,D4,y,_,rfl,G4.dh,r4,hy,hl,q3.shift G4⟩
noncomputable def j7 (K : PySem.W.Frag) (C : Addr) (vs : List V) (H : Hp) (Q : VK):=fun x dx D=>∃ (N : Addr→Prop),L23.A7 (vs=[.ref x]) (Same D H) (H x=some (.ins C dx [])) (D x=none) ((∀ b,H b=none→N b)) (N x) (∀ H' po pg,(∀ b o,b≠x→H b=some o→H' b=some o)→Same D H'→H po=none→H pg=none→CT.zu K C N D H' x dx po pg [] .non [] CT.RS.new→Q .non H')
noncomputable def zhA (K : PySem.W.Frag) (C : Addr) : Sp:=fun vs H Q zz=>L23.E3 (j7 K C vs H Q)
theorem zle {f : Addr} {fd : FuncData} (F : Fun K "__init__" "CourseReader.__init__" ZJ f fd) (T : Txt K mg a) : FnOk P w K mg base CX0 1 f fd ["self"] (zhA K a.zd):=by
  refine F.ok zkE (fun vs H Q E h=>?_) (fun cdv A outer s H vs Q E hr h=>?_)
  · obtain ⟨x,dx,D,N,rfl,zz⟩:=h
    rfl
  · obtain ⟨x,dx,D,N,rfl,sD,hx,nx,hN,nNx,q⟩:=h
    refine ⟨_,(pss_cons (ps_fld (pvA 0 (defScope ZJ) zbN rfl rfl) (pe_lst pa_nil) rfl)
      (pss_cons (ps_fld (pvA 0 (defScope ZJ) zbN rfl rfl) (pe_lst pa_nil) rfl)
      (pss_cons (ps_fld (pvA 0 (defScope ZJ) zbN rfl rfl) pe_int rfl)
      (pss_one (ps_fld (pvA 0 (defScope ZJ) zbN rfl rfl) pe_non rfl))))),?_⟩
    try dsimp only [cxOf,Cx.nox]
    have hs : sizeLine=16777216:=sizeLine_eq
    refine ⟨by first | decide | (simp only [List.length_cons,List.length_nil,List.length_append,List.length_map]; decide),fun po hpo=>⟨_,rfl,x,_,dx,_,rfl,(Same.zp hpo) _ _ hx,T.zg,T.zH,by show 0 < 1000; decide,?_⟩⟩
    have nxo : x≠po:=ne_of_none hx hpo
    refine ⟨by first | decide | (simp only [List.length_cons,List.length_nil,List.length_append,List.length_map]; decide),fun pg hpg=>⟨_,rfl,x,_,dx,_,rfl,(Same.zp hpg) _ _ upd_same,T.zg,T.zm,by show 1 < 1000; decide,?_⟩⟩
    have zei : pg≠x:=fun z=>by rw [z,upd_same] at hpg; cases hpg
    have zej : H pg=none:=by
      rw [upd_ne zei] at hpg
      exact (Same.zp hpo).free hpg
    have zjN : pg≠po:=fun z=>by
      rw [z,upd_ne nxo.symm,upd_same] at hpg
      cases hpg
    refine ⟨_,rfl,x,_,dx,_,rfl,upd_same,T.zg,T.zL,by show 2 < 1000; decide,?_⟩
    refine ⟨_,rfl,x,_,dx,_,rfl,upd_same,T.zg,T.zK,by show 3 < 1000; decide,?_⟩
    have ef : putF "rule" .non (putF "leaves" (.int 0) (putF "groups" (.ref pg) (putF "oftens" (.ref po) [])))=CT.rf po pg 0 .non:=by
      rw [show putF ("oftens" : Str) (V.ref po) []=([("oftens",V.ref po)] : List (Str × V)) from rfl]
      rw [CT.yV CT.nm1.1,show putF ("groups" : Str) (V.ref pg) []=([("groups",V.ref pg)] : List (Str × V)) from rfl]
      rw [CT.yV CT.nm1.2.1,CT.yV CT.nm1.2.2.1,show putF ("leaves" : Str) (V.int 0) []=([("leaves",V.int 0)] : List (Str × V)) from rfl]
      rw [CT.yV CT.nm1.2.2.2.1,CT.yV CT.nm1.2.2.2.2.1,CT.yV CT.nm1.2.2.2.2.2,show putF ("rule" : Str) V.non []=([("rule",V.non)] : List (Str × V)) from rfl]
      rfl
    rw [ef]
    generalize hH' : upd (upd (upd (upd (upd (upd H po (.lst [])) x _) pg (.lst [])) x _) x _) x (HO.ins a.zd dx (CT.rf po pg 0 .non))=H'
    have ex : H' x=some (.ins a.zd dx (CT.rf po pg 0 .non)):=by rw [← hH']; exact upd_same
    have eo : H' po=some (.lst []):=by rw [← hH',upd_ne nxo.symm,upd_ne nxo.symm,upd_ne nxo.symm,upd_ne zjN.symm,upd_ne nxo.symm]; exact upd_same
    have eg : H' pg=some (.lst []):=by rw [← hH',upd_ne zei,upd_ne zei,upd_ne zei]; exact upd_same
    have keep : ∀ b o,b≠x→H b=some o→H' b=some o:=fun b o hb e=>by
      have hbo : b≠po:=ne_of_none e hpo
      have hbg : b≠pg:=ne_of_none e zej
      rw [← hH',upd_ne hb,upd_ne hb,upd_ne hb,upd_ne hbg,upd_ne hb,upd_ne hbo]
      exact e
    have sD' : Same D H':=fun b o e=>keep b o (fun z=>by rw [z,nx] at e; cases e) (sD _ _ e)
    refine q H' po pg keep sD' hpo zej ⟨ex,eo,zb.nil,eg,(fun f hf=>nomatch hf),rfl,?_,rfl,nx,zZ sD hpo,zZ sD zej,nNx,hN _ hpo,hN _ zej⟩
    exact List.nodup_cons.mpr ⟨fun z=>zjN (List.mem_singleton.mp z).symm,List.nodup_cons.mpr ⟨(fun z=>nomatch z),List.nodup_nil⟩⟩
noncomputable def zfD (rows : List Str) : Prop:=rows.length≤100000∧∀ row∈rows,row.length≤1048576∧PySem.Txt.split row " "≠[]∧yu (PySem.Txt.split row " ")
theorem zgW {C : Addr} {N : Addr→Prop} {D H : Hp} {x dx po pg : Addr} {xo : List V} {v : V} {gs : List CT.GFr} {s : CT.RS} (r : CT.zu K C N D H x dx po pg xo v gs s) {b : Addr} (hb : b∈CT.yg x po pg gs) : N b:=by
  unfold CT.yg at hb
  rcases List.mem_cons.mp hb with rfl | hb
  · exact r.nx
  rcases List.mem_cons.mp hb with rfl | hb
  · exact r.no
  rcases List.mem_cons.mp hb with rfl | hb
  · exact r.ng
  rcases List.mem_append.mp hb with hb | hb
  · obtain ⟨g,hg,rfl⟩:=List.mem_map.mp hb
    exact (r.each g hg).np
  · obtain ⟨g,hg,rfl⟩:=List.mem_map.mp hb
    exact (r.each g hg).nt
noncomputable def WN (K : PySem.W.Frag) (vs : List V) (H : Hp) (Q : VK):=fun t rows D sf ru=>L23.A8 (vs=[.str t]) (Same D H) (t.length≤1048576) (PySem.Txt.split t "\n"=rows) (zfD rows) (CT.run CT.RS.new rows=some sf) (sf.rule=some ru) (∀ D' H' tt po xo y,Gr D H D' H'→D' tt=some (.tup [.ref po,y])→D' po=some (.lst xo)→H po=none→zb K D' xo (sf.zl.map CF.yf)→zc K D' y ru.data→(ru.yU=false→∃ ty p xs,y = .ref ty∧D' ty=some (.tup (ru.head ++ [.ref p]))∧D' p=some (.lst xs)∧H p=none)→Q (.ref tt) H')
noncomputable def zfE (K : PySem.W.Frag) : Sp:=fun vs H Q zz=>L23.E5 (WN K vs H Q)
theorem zjO {f : Addr} {fd zek zel : FuncData} (F : Fun K "read_course" "read_course" y9 f fd) (T : Txt K mg a)
    (zgX : FnOk P w K mg base CX0 1 a.xZ zek ["self"] (zhA K a.zd)) (zem : Fun K "__init__" "CourseReader.__init__" ZJ a.xZ zek) (zgY : Binds K zek ["self"] [])
    (zgZ : FnOk P w K mg base CX0 6 a.vt zel ["self","row"] (zhz K a.zd)) (zen : Fun K "take" "CourseReader.take" xE a.vt zel) (zg0 : Binds K zel ["self","row"] []) : FnOk P w K mg base CX0 8 f fd ["text"] (zfE K):=by
  refine F.ok zi7 (fun vs H Q E h=>?_) (fun cdv A outer s H vs Q E hr h=>?_)
  · obtain ⟨t,rows,D,sf,ru,rfl,zz⟩:=h
    rfl
  · obtain ⟨t,rows,D,sf,ru,rfl,sD,ht,hsp,zlf,zeo,hru,q⟩:=h
    refine ⟨_,(pss_cons (psN (i:=1) (sc:=defScope y9) (M:=vD) rfl rfl (by decide +kernel) (pe_make0 T.VH zgX (hr.mono (by decide)) (glR (sc:=defScope y9) rfl (by decide +kernel)) T.we zgY .nil pass0))
      (pss_cons (psN (i:=2) (sc:=defScope y9) (M:=vD) rfl rfl (by decide +kernel) (pe_bm PySem.F.plainAttrs_str PySem.F.slot_str_split PySem.F.type_str_split zbl (pvA 0 (defScope y9) vD rfl rfl) (pa_cons pe_str pa_nil)))
      (pss_cons (ps_for PassesOwn.never rfl (zgh (glR (sc:=defScope y9) rfl (by decide +kernel)) T.vB (pa_cons (pvA 2 (defScope y9) vD rfl rfl) pa_nil) (pk_cons pe_int pk_nil)) (pg_tup (n:=2) (by rfl) (pgs_cons (pgN (i:=3) (sc:=defScope y9) (M:=vD) rfl rfl (by decide +kernel)) (pgs_cons (pgN (i:=4) (sc:=defScope y9) (M:=vD) rfl rfl (by decide +kernel)) pgs_nil))) (pss_one (ps_if (pt_not (pt_val (pe_meth (pvA 1 (defScope y9) vD rfl rfl) T.zg T.Yo zgZ (hr.mono (by decide)) zg0 .nil pass0 (pa_cons (pvA 4 (defScope y9) vD rfl rfl) pa_nil)))) (pss_one ps_never) pss_nil)))
      (pss_cons (ps_if (pt_cmpR op_isN (pe_fld (pvA 1 (defScope y9) vD rfl rfl) rfl) pe_non (nomark _)) (pss_one ps_never) pss_nil)
      (pss_one (ps_ret (pe_tup (pa_cons (pe_fld (pvA 1 (defScope y9) vD rfl rfl) rfl) (pa_cons (pe_fld (pvA 1 (defScope y9) vD rfl rfl) rfl) pa_nil))))))))),?_⟩
    try dsimp only [cxOf,Cx.nox]
    have hs : sizeLine=16777216:=sizeLine_eq
    intro x dx hx hdx hne
    have nN : ∀ b,upd (upd H dx (.own x)) x (.ins a.zd dx []) b=none→H b=none:=fun b hb=>by
      have h1 : b≠x:=fun z=>by rw [z,upd_same] at hb; cases hb
      have h2 : b≠dx:=fun z=>by rw [upd_ne h1,z,upd_same] at hb; cases hb
      rw [upd_ne h1,upd_ne h2] at hb
      exact hb
    have s0 : Same H (upd (upd H dx (.own x)) x (.ins a.zd dx [])):=(Same.zp hdx).trans (Same.zp (by rw [upd_ne hne.symm]; exact hx))
    refine ⟨x,dx,D,(fun b=>H b=none),rfl,sD.trans s0,upd_same,zZ sD hx,nN,hx,fun H1 po pg keep s1 hpo hpg r1=>⟨rfl,?_⟩⟩
    have G1 : Gr D H D H1:=⟨Same.refl _,fun b o e=>keep b o (fun z=>by rw [z,hx] at e; cases e) (s0 b o e),s1,fun zz zz zz n=>n⟩
    clear s0 keep s1
    refine ⟨_,rfl,rfl,t,"\n",rfl,rfl,by decide +kernel,ht,fun pr hpr=>?_⟩
    rw [hsp]
    have G2:=G1.trans (Gr.W3 (o := .lst (rows.map V.str)) G1.dh hpr)
    have e2 : upd H1 pr (.lst (rows.map V.str)) pr=some (.lst (rows.map V.str)):=upd_same
    have r2:=r1.gr (Gr.W3 (o := .lst (rows.map V.str)) G1.dh hpr)
    have nr : pr∉CT.yg x po pg []:=fun z=>by
      obtain ⟨o,e⟩:=zae r1 z
      rw [hpr] at e
      cases e
    have npr : H pr=none:=G1.hh.free hpr
    generalize upd H1 pr (.lst (rows.map V.str))=H2 at G2 e2 r2 ⊢
    refine ⟨_,rfl,pr,1,rfl,rfl,by decide,⟨_,SqL.of e2⟩,?_⟩
    refine L5.zgi (xs:=rows.map V.str) (fun i σ H'=>L23.E6 fun D' xo v gs st v3=>∃ v4,L23.A8 (σ=[some (.str t),some (.ref x),some (.ref pr),v3,v4]) (CT.zu K a.zd (fun b=>H b=none) D' H' x dx po pg xo v gs st) (CT.run st (rows.drop i)=some sf) (Gr D H D' H') (H' pr=some (.lst (rows.map V.str))) (D' pr=none) (CT.Fit st) (pr∉CT.yg x po pg gs)) ⟨D,[],.non,[],CT.RS.new,_,_,rfl,r2,zeo,G2,e2,zZ sD npr,CT.zin,nr⟩ ?_ ?_ ?_
    · rintro i σ H' _ ⟨D',xo,v,gs,st,v3,v4,_,_,_,_,e,_⟩
      exact SqL.of e
    · rintro i y σ H3 Tt hy ⟨D3,xo,v,gs,st,v3,v4,rfl,r3,hr3,G3,e3,n3,zg1,nr3⟩ hTt
      rw [List.getElem?_map] at hy
      obtain ⟨row,JP,rfl⟩:=Option.map_eq_some_iff.mp hy
      have hi:=List.getElem?_eq_some_iff.mp JP
      have ed : rows.drop i=row :: rows.drop (i + 1):=by rw [List.drop_eq_getElem_cons hi.1,hi.2]
      rw [ed] at hr3
      obtain ⟨ok1,ok2,ok3⟩:=zlf.2 row (List.mem_of_getElem? JP)
      have G4:=Gr.W3 (o := .tup [.int (1 + (i : Nat)),.str row]) G3.dh hTt
      have r4:=r3.gr G4
      have e4:=G4.hh _ _ e3
      have G34:=G3.trans G4
      have hN4 : ∀ b,upd H3 Tt (.tup [.int (1 + (i : Nat)),.str row]) b=none→H b=none:=fun b hb=>G34.hh.free hb
      have zjP : upd H3 Tt (.tup [.int (1 + (i : Nat)),.str row]) Tt=some (.tup [.int (1 + (i : Nat)),.str row]):=upd_same
      generalize upd H3 Tt (.tup [.int (1 + (i : Nat)),.str row])=H4 at G4 r4 e4 G34 hN4 zjP ⊢
      obtain ⟨s',hs',zlg⟩ : ∃ s',CT.RS.parts st (PySem.Txt.split row " ")=some s'∧CT.run s' (rows.drop (i + 1))=some sf:=by
        have zep : (match CT.RS.take st row with | none=>none | some s'=>CT.run s' (rows.drop (i + 1)))=some sf:=hr3
        cases hz : CT.RS.take st row with
        | none=>rw [hz] at zep; cases zep
        | some s'=>rw [hz] at zep; exact ⟨s',hz,zep⟩
      refine ⟨Tt,_,rfl,SqT.of zjP,rfl,_,_,rfl,_,_,rfl,rfl,?_⟩
      refine ⟨_,rfl,x,dx,_,rfl,r4.ins,CT.YS (by decide +kernel),_,rfl,x,dx,po,pg,xo,v,gs,st,(fun b=>H b=none),D3,row,_,rfl,G4.dh,r4,hN4,ok1,rfl,ok2,ok3,zg1,?_⟩
      rw [hs']
      intro D5 H5 xo5 v5 gs5 s5 r5 e5 hn5
      have zhB:=e5.keep pr _ nr3 e4
      refine ⟨_,rfl,⟨D5,xo5,v5,gs5,s',_,_,rfl,r5,zlg,CF.Ext.gr G34 e5 s5 (fun b hb=>zgW r4 hb),zhB.1,zhB.2 n3,CT.zfm zg1 hs',fun z=>?_⟩⟩
      rcases hn5 pr z with w | w
      · exact nr3 w
      · rw [e4] at w
        cases w
    · rintro σ H3 ⟨D3,xo,v,gs,st,v3,v4,rfl,r3,hr3,G3,e3,n3,zg1,nr3⟩
      rw [List.length_map,List.drop_length] at hr3
      have est : st=sf:=Option.some.inj hr3
      subst est
      have hrl:=r3.rule
      rw [hru] at hrl
      obtain ⟨dv,fv⟩:=hrl
      obtain ⟨tv,yv,rfl,zz⟩:=CF.za.tup dv
      refine ⟨_,rfl,x,_,dx,_,_,rfl,r3.ins,T.zg,T.zK,CT.zgC,rfl,_,rfl,?_⟩
      rw [decide_eq_false (show V.ref tv≠V.non from fun z=>nomatch z)]
      refine iteF ⟨_,rfl,x,_,dx,_,_,rfl,r3.ins,T.zg,T.zH,CT.zdB,_,rfl,x,_,dx,_,_,rfl,r3.ins,T.zg,T.zK,CT.zgC,by first | decide | (simp only [List.length_cons,List.length_nil,List.length_append,List.length_map]; decide),fun tt htt=>?_⟩
      have G4:=G3.fix r3.no r3.oo r3.oft
      have G5:=G4.trans (Gr.lay (o := .tup [.ref po,.ref tv]) G4.dh htt)
      have so : Same D3 (upd D3 po (.lst xo)):=Same.zp r3.oo
      have nt4:=zZ G4.dh htt
      have st4 : Same (upd D3 po (.lst xo)) (upd (upd D3 po (.lst xo)) tt (.tup [.ref po,.ref tv])):=Same.zp nt4
      refine q _ _ tt po xo (.ref tv) G5 upd_same (st4 _ _ upd_same) r3.no (zb.up r3.yf (so.trans st4)) (zc.up dv (so.trans st4)) (fun z=>?_)
      obtain ⟨ty,p,xs,ey,et,ep,np⟩:=fv z
      exact ⟨ty,p,xs,ey,(so.trans st4) _ _ et,(so.trans st4) _ _ ep,np⟩
theorem V5 {D : Hp} {x : V} {c : CF.yM} (h : zc K D x c.data) : ∃ t po y,x = .ref t∧D t=some (.tup [.ref po,y])∧(∃ xs,Rd D po (.lst xs)∧zb K D xs (c.zl.map CF.yf))∧True∧zc K D y c.rule.data:=by
  obtain ⟨t,xs,rfl,e,hA⟩:=zc.tup h
  obtain ⟨y1,r1,rfl,h1,hA⟩:=zb.wC hA
  obtain ⟨y2,r2,rfl,h2,hA⟩:=zb.wC hA
  rw [zb.none hA] at e
  obtain ⟨p,zs,rfl,hp,hz⟩:=zc.lst h1
  exact ⟨t,p,y2,rfl,e,⟨zs,hp,hz⟩,trivial,h2⟩
theorem YE {sep : Str} {l : List Str} (h : ∀ r∈l,r.length≤2000) (hl : l.length≤1000) (hsep : sep.length≤4) : JoinOk sep l=true:=by
  unfold JoinOk
  rw [StrLaws.joinFits (B:=2000)]
  · rfl
  · exact h
  · have : l.length * (2000 + sep.length)≤1000 * 2004:=Nat.mul_le_mul hl (by omega)
    first | omega | (rw [Nat.mul_add] at this; omega)
theorem wO {n : Int} (h0 : 0≤n) (h1 : n < 10 ^ 60) : n.natAbs.log2 < 1920:=zeU h0 h1
theorem zit {l : CF.ze} (T : Txt K mg a) : ∃ ak,KTD.datumAt (CT.ze.kind' l) ([("from",V.ref a.vM),("of",V.ref a.vN)] : List (Str × V))=some (.ref ak)∧∀ H,SqT K H ak ((CT.yY l).map fun p=>V.str p.1):=by
  cases l with
  | frm n ws a' b c=>exact ⟨a.vM,by simp [KTD.datumAt,CT.ze.kind'],T.zbO⟩
  | off n ws b c=>exact ⟨a.vN,by simp [KTD.datumAt,CT.ze.kind',CT.Wv],T.zbP⟩
noncomputable def V6 (K : PySem.W.Frag) (vs : List V) (H : Hp) (Q : VK):=fun (x : V) (l : CF.ze)=>L23.A4 (vs=[x]) (zc K H x l.data) (l.Good) (∀ H',Same H H'→Q (.str (CT.xX l)) H')
noncomputable def zb7 (K : PySem.W.Frag) : Sp:=fun vs H Q zz=>L23.E2 (V6 K vs H Q)
theorem zjQ {f : Addr} {fd : FuncData} (F : Fun K "show_leaf" "show_leaf" yb f fd) (T : Txt K mg a) : FnOk P w K mg base CX0 1 f fd ["leaf"] (zb7 K):=by
  have yX:=T.yX
  have zY:=T.zY
  refine F.ok zi8 (fun vs H Q E h=>?_) (fun cdv A outer s H vs Q E hr h=>?_)
  · obtain ⟨x,l,rfl,zz⟩:=h
    rfl
  · obtain ⟨x,l,rfl,hx,hg,q⟩:=h
    refine ⟨_,(pss_cons (psN (i:=1) (sc:=defScope yb) (M:=xS) rfl rfl (by decide +kernel) (pe_lst (pa_cons (yk (sc:=defScope yb) call_str_int rfl (by decide +kernel) T.xQ xW (pa_cons (pe_ix ix_tup (pvA 0 (defScope yb) xS rfl rfl) pe_int (fun zz zz=>rfl)) pa_nil)) (pa_cons (pe_ix ix_tup (pvA 0 (defScope yb) xS rfl rfl) pe_int (fun zz zz=>rfl)) (pa_cons (pe_ifExp (pt_cmpR op_gt (zf (sc:=defScope yb) call_len rfl (by decide +kernel) T.zF zy (pa_cons (pe_ix ix_tup (pvA 0 (defScope yb) xS rfl rfl) pe_int (fun zz zz=>rfl)) pa_nil)) pe_int (nomark _)) (pe_bm PySem.F.plainAttrs_str PySem.F.slot_str_join PySem.F.type_str_join Yw pe_str (pa_cons (pe_ix ix_tup (pvA 0 (defScope yb) xS rfl rfl) pe_int (fun zz zz=>rfl)) pa_nil)) pe_str) pa_nil)))))
      (pss_cons (ps_for PassesOwn.never rfl (L5.ziO (glR (sc:=defScope yb) rfl (by decide +kernel)) T.VJ (pa_cons (L9.Zu (zN (v:=V.ref a.yX) (sc:=defScope yb) rfl (by decide +kernel) yX rfl) (pe_ix ix_tup (pvA 0 (defScope yb) xS rfl rfl) pe_int (fun zz zz=>rfl)) (fun zz zz=>rfl)) (pa_cons (pe_slice sl_tup (pvA 0 (defScope yb) xS rfl rfl) (po_some pe_int) po_none) pa_nil))) (pg_tup (n:=2) (by rfl) (pgs_cons (pgN (i:=2) (sc:=defScope yb) (M:=xS) rfl rfl (by decide +kernel)) (pgs_cons (pgN (i:=3) (sc:=defScope yb) (M:=xS) rfl rfl (by decide +kernel)) pgs_nil))) (pss_one (ps_if (pt_cmpR op_ne (pvA 3 (defScope yb) xS rfl rfl) (L9.Zu (zN (v:=V.ref a.zY) (sc:=defScope yb) rfl (by decide +kernel) zY rfl) (pvA 2 (defScope yb) xS rfl rfl) (fun zz zz=>rfl)) (nomark _)) (pss_one (ps_expr (pe_bm PySem.F.plainAttrs_list PySem.F.slot_list_extend PySem.F.type_list_extend mt_extend (pvA 1 (defScope yb) xS rfl rfl) (pa_cons (pe_lst (pa_cons (pvA 2 (defScope yb) xS rfl rfl) (pa_cons (yk (sc:=defScope yb) call_str_int rfl (by decide +kernel) T.xQ xW (pa_cons (pvA 3 (defScope yb) xS rfl rfl) pa_nil)) pa_nil))) pa_nil)))) pss_nil)))
      (pss_one (ps_ret (pe_bm PySem.F.plainAttrs_str PySem.F.slot_str_join PySem.F.type_str_join Yw pe_str (pa_cons (pvA 1 (defScope yb) xS rfl rfl) pa_nil)))))),?_⟩
    try dsimp only [cxOf,Cx.nox]
    have hs : sizeLine=16777216:=sizeLine_eq
    obtain ⟨t,p,rfl,et,ep⟩:=CF.ze.tup hx
    have hw:=CT.zc7 hg
    have hwd:=CT.VE hg
    have et':=et
    rw [CT.zhm] at et'
    have i0 : atI (V.str (CT.ze.kind' l) :: .int (CT.ze.want l) :: V.ref p :: l.tl) 0=some (.str (CT.ze.kind' l)):=CF.z7
    have i1 : atI (V.str (CT.ze.kind' l) :: .int (CT.ze.want l) :: V.ref p :: l.tl) 1=some (.int (CT.ze.want l)):=atI_nat (j:=1) rfl
    have i2 : atI (V.str (CT.ze.kind' l) :: .int (CT.ze.want l) :: V.ref p :: l.tl) 2=some (.ref p):=atI_nat (j:=2) rfl
    have hS : SqL K H p (l.words.map V.str) := .inl ep
    have lw : l.words.length≤8:=hwd.2.2
    have lw1 : l.words.length≤1000:=by omega
    have wl : ∀ r∈l.words,r.length≤2000:=fun r hr=>by have:=(CW.yl.mp (hwd.1 r hr)).2.1; omega
    obtain ⟨ak,ek,hk⟩:=zit (K:=K) (mg:=mg) (l:=l) T
    have kn:=CT.zdH hg
    have kl:=CT.zcN l
    refine ⟨_,rfl,t,_,_,_,rfl,rfl,SqT.of et',i1,_,rfl,wO hw.1 (CT.z5 hw.2),_,rfl,t,_,_,_,rfl,rfl,SqT.of et',i0,_,rfl,t,_,_,_,rfl,rfl,SqT.of et',i2,.ref p,l.words.length,rfl,.inl ⟨_,hS,by rw [List.length_map]⟩,_,_,rfl,rfl,_,rfl,?_⟩
    refine xj (B:=?B) ?main fun hM=>ite2 (fun z=>?t) (fun z=>?e)
    case t =>
      have hne : l.words≠[]:=fun w=>by rw [w] at z; exact absurd z (by decide)
      have e : PySem.Txt.join " or " l.words=CT.yN l.words:=by
        unfold CT.yN
        rw [if_neg hne,jx]
      refine ⟨rfl,_,rfl,t,_,_,_,rfl,rfl,SqT.of et',i2," or ",p,l.words,rfl,rfl,hS,YE wl lw1 (by decide +kernel),?_⟩
      rw [e]
      exact hM
    case e =>
      have zeq : l.words=[]:=List.eq_nil_of_length_eq_zero (by
        have hh : ¬ (0 : Int) < (l.words.length : Nat):=fun w=>z (decide_eq_true w)
        omega)
      have e : ("any" : Str)=CT.yN l.words:=by
        unfold CT.yN
        rw [if_pos zeq]
      rw [e]
      exact hM
    case main =>
      refine ⟨by first | decide | (simp only [List.length_cons,List.length_nil,List.length_append,List.length_map]; decide),fun ps hps=>?_⟩
      have e0 : upd H ps (.lst [V.str (toString (CT.ze.want l) : String),V.str (CT.ze.kind' l),V.str (CT.yN l.words)]) ps=some (.lst (([CT.num (CT.ze.want l),CT.ze.kind' l,CT.yN l.words] : List Str).map V.str)):=upd_same
      have s0:=Same.zp (o := .lst [V.str (toString (CT.ze.want l) : String),V.str (CT.ze.kind' l),V.str (CT.yN l.words)]) hps
      generalize upd H ps (.lst [V.str (toString (CT.ze.want l) : String),V.str (CT.ze.kind' l),V.str (CT.yN l.words)])=H1 at e0 s0 ⊢
      refine ⟨_,rfl,t,_,_,_,rfl,rfl,SqT.of (s0 _ _ et'),i0,a.yX,_,_,_,rfl,rfl,T.VL,ek,_,rfl,_,rfl,t,_,rfl,SqT.of (s0 _ _ et),CF.ze.nw3 l _,fun p3 hp3=>?_⟩
      rw [CF.ze.zlt]
      have s1:=s0.trans (Same.zp (o := .tup l.tl) hp3)
      have e1 : upd H1 p3 (.tup l.tl) p3=some (.tup l.tl):=upd_same
      have f1 : upd H1 p3 (.tup l.tl) ps=_:=(Same.zp hp3) _ _ e0
      generalize upd H1 p3 (.tup l.tl)=H2 at s1 e1 f1 ⊢
      refine ⟨ak,p3,rfl,⟨_,hk _⟩,⟨_,SqT.of e1⟩,?_⟩
      have np3 : p3≠ps:=ne_of e1 f1 (fun z=>nomatch z)
      refine L5.zh9 (xs:=(CT.yY l).map fun p=>V.str p.1) (ys:=l.tl) (fun i σ H'=>L23.E2 fun v2 v3=>L23.A5 (σ=[some (.ref t),some (.ref ps),v2,v3]) (Same H H') (H' p3=some (.tup l.tl)) (H' ps=some (.lst (([CT.num (CT.ze.want l),CT.ze.kind' l,CT.yN l.words] ++ ((CT.yY l).take i).flatMap fun p=>CT.zk p.1 p.2).map V.str))) (i≤3)) ⟨_,_,rfl,s1,e1,f1,Nat.zero_le _⟩ ?_ ?_ ?_ ?_
      · rintro i σ H' ⟨v2,v3,_,_,e,_⟩
        exact ⟨hk _,SqT.of e⟩
      · rw [List.length_map]; exact kl.2
      · rintro i x y σ H3 Tt hx3 hy3 ⟨v2,v3,rfl,s3,e3,f3,hi3⟩ hTt
        rw [List.getElem?_map] at hx3
        obtain ⟨pp,hpp,rfl⟩:=Option.map_eq_some_iff.mp hx3
        rw [CT.zis,List.getElem?_map,hpp] at hy3
        obtain rfl:=Option.some.inj hy3
        have hlt:=(List.getElem?_eq_some_iff.mp hpp).1
        obtain ⟨km,k0,k1⟩:=kn pp (List.mem_of_getElem? hpp)
        have s4:=Same.zp (o := .tup [V.str pp.1,V.int pp.2]) hTt
        have tt : upd H3 Tt (.tup [V.str pp.1,V.int pp.2]) Tt=some (.tup [V.str pp.1,V.int pp.2]):=upd_same
        have e4:=s4 _ _ e3
        have f4:=s4 _ _ f3
        have eT : ((CT.yY l).take (i + 1)).flatMap (fun p=>CT.zk p.1 p.2)=((CT.yY l).take i).flatMap (fun p=>CT.zk p.1 p.2) ++ CT.zk pp.1 pp.2:=by
          rw [take_snoc hpp,List.flatMap_append]
          show _ ++ (CT.zk pp.1 pp.2 ++ [])=_
          rw [List.append_nil]
        generalize upd H3 Tt (.tup [V.str pp.1,V.int pp.2])=H4 at s4 tt e4 f4 ⊢
        refine ⟨Tt,_,rfl,SqT.of tt,rfl,_,_,rfl,_,_,rfl,rfl,?_⟩
        refine ⟨_,rfl,_,rfl,a.zY,_,_,_,rfl,rfl,T.Y8,CT.Jv km,rfl,_,rfl,?_⟩
        by_cases hleft : pp.2=CT.leftOut pp.1
        · rw [decide_eq_true (show V.int pp.2=V.int (CT.leftOut pp.1) by rw [hleft])]
          refine iteF ⟨_,_,rfl,s3.trans s4,e4,?_,by omega⟩
          rw [f4,eT,show CT.zk pp.1 pp.2=[] by unfold CT.zk; rw [if_pos hleft],List.append_nil]
        · rw [decide_eq_false (show V.int pp.2≠V.int (CT.leftOut pp.1) from fun z=>hleft (V.int.inj z))]
          refine iteT ⟨_,rfl,.inl ⟨rfl,_,SqL.of f4⟩,_,rfl,_,rfl,_,rfl,wO k0 k1,by first | decide | (simp only [List.length_cons,List.length_nil,List.length_append,List.length_map]; decide),fun pe hpe=>?_⟩
          have s5:=Same.zp (o := .lst [V.str pp.1,V.str (toString pp.2 : String)]) hpe
          have f5:=s5 _ _ f4
          have lfl : (([CT.num (CT.ze.want l),CT.ze.kind' l,CT.yN l.words] ++ ((CT.yY l).take i).flatMap fun p=>CT.zk p.1 p.2).map V.str).length≤100:=by
            have : ∀ (ls : List (Str × Int)),(ls.flatMap fun p=>CT.zk p.1 p.2).length≤2 * ls.length:=by
              intro ls
              induction ls with
              | nil=>exact Nat.zero_le _
              | cons a b ih =>
                have:=CT.xY a.1 a.2
                rw [List.flatMap_cons,List.length_append,List.length_cons]
                omega
            have h1:=this ((CT.yY l).take i)
            rw [List.length_take] at h1
            rw [List.length_map,List.length_append]
            simp only [List.length_cons,List.length_nil]
            omega
          refine ⟨ps,pe,_,_,rfl,rfl,f5,upd_same,?_,_,_,rfl,?_,?_,?_,by omega⟩
          · simp only [List.length_cons,List.length_nil]
            omega
          · exact Same.upd ((s3.trans s4).trans s5) hps
          · rw [upd_ne np3]
            exact s5 _ _ e4
          · rw [upd_same,eT,show CT.zk pp.1 pp.2=[pp.1,CT.num pp.2] by unfold CT.zk; rw [if_neg hleft],← List.append_assoc,List.map_append (l₂:=[pp.1,CT.num pp.2])]
            rfl
      · rintro σ H3 ⟨v2,v3,rfl,s3,e3,f3,hi3⟩
        rw [List.length_map,List.take_length,← CT.zfp] at f3
        have lr:=CT.XC l
        have hb:=CT.X8 hg
        refine ⟨rfl,_,rfl," ",ps,_,rfl,rfl,SqL.of f3,?_,?_⟩
        · refine YE (fun r hr=>?_) ?_ (by decide +kernel)
          · rcases List.mem_append.mp hr with hr | hr
            · simp only [List.mem_cons,List.not_mem_nil,or_false] at hr
              rcases hr with rfl | rfl | rfl
              · exact Nat.le_trans (hb.1 _ (List.mem_cons_self ..)).2.2.2 (by decide)
              · exact Nat.le_trans (hb.1 _ (List.mem_cons_of_mem _ (List.mem_cons_self ..))).2.2.2 (by decide)
              · rw [CT.WY]
                have h1:=CT.ZI " " 60 (CT.orList l.words) fun x hx=>(CT.Ww hwd.1 x hx).2.2.2
                have h2:=CT.Zk l.words
                have e : (" " : Str).length=1:=by decide +kernel
                rw [e] at h1
                have : (CT.orList l.words).length * 61≤17 * 61:=Nat.mul_le_mul_right _ (by omega)
                omega
            · exact Nat.le_trans (hb.1 r (List.mem_cons_of_mem _ (List.mem_cons_of_mem _ (List.mem_append_right _ hr)))).2.2.2 (by decide)
          · have h1:=hb.2
            unfold CT.yW at h1
            rw [List.length_append]
            simp only [List.length_cons,List.length_append,List.length_nil] at h1 ⊢
            omega
        · rw [jx,← lr]
          exact q H3 s3
noncomputable def zar (K : PySem.W.Frag) (vs : List V) (H : Hp) (Q : VK):=fun (x : V) (r : CF.za)=>L23.A3 (vs=[x]) (zc K H x r.data) (∀ H',Same H H'→Q (.bl r.yU) H')
noncomputable def zer (K : PySem.W.Frag) : Sp:=fun vs H Q zz=>L23.E2 (zar K vs H Q)
theorem zlh {f : Addr} {fd : FuncData} (F : Fun K "is_leaf" "is_leaf" YZ f fd) (T : Txt K mg a) : FnOk P w K mg base CX0 1 f fd ["rule"] (zer K):=by
  refine F.ok zkC (fun vs H Q E h=>?_) (fun cdv A outer s H vs Q E hr h=>?_)
  · obtain ⟨x,r,rfl,zz⟩:=h
    rfl
  · obtain ⟨x,r,rfl,hx,q⟩:=h
    refine ⟨_,(pss_one (ps_ret (pe_cmpR op_in_seq (pe_ix ix_tup (pvA 0 (defScope YZ) ziW rfl rfl) pe_int (fun zz zz=>rfl)) (pe_tup (pa_cons pe_str (pa_cons pe_str pa_nil))) (by with_unfolding_all rfl)))),?_⟩
    try dsimp only [cxOf,Cx.nox]
    obtain ⟨t,ys,rfl,et⟩:=CF.za.tup hx
    refine ⟨_,rfl,t,_,_,_,rfl,rfl,SqT.of et,CF.z7,by first | decide | (simp only [List.length_cons,List.length_nil,List.length_append,List.length_map]; decide),fun p hp=>⟨p,_,rfl,.inr (SqT.of upd_same),rfl,rfl,?_⟩⟩
    rw [if_neg (show ¬ (false=true) by decide)]
    show Q (.bl (inV (.str r.kind) ((["from","of"] : List Str).map V.str))) _
    rw [ZC]
    have e : (["from","of"] : List Str).contains r.kind=r.yU:=by
      rw [← CF.za.WT r,Bool.eq_iff_iff,List.contains_iff_mem]
      simp only [List.mem_cons,List.not_mem_nil,or_false,Bool.or_eq_true,decide_eq_true_eq]
    rw [e]
    exact q _ (Same.zp hp)
theorem zfF {r : CF.za} (h : r.yU=false) (hg : r.Good) : ∃ g rs,r=CT.yd.rule g rs∧CF.za.yh rs∧rs.length≤16∧(∀ n,g = .some n→1≤n∧n≤16)∧CT.zj r=CT.yJ g :: (CT.zq rs ++ (["end"] : List Str))∧r.depth=CF.za.zC rs + 1:=by
  cases r with
  | leaf l=>cases h
  | z8 rs =>
    unfold CF.za.Good at hg
    exact ⟨.all,rs,rfl,hg.2.2,hg.2.1,(fun n z=>nomatch z),by unfold CT.zj; rfl,by unfold CF.za.depth; rfl⟩
  | z9 m rs =>
    unfold CF.za.Good at hg
    exact ⟨.some m,rs,rfl,hg.2.2,hg.2.1,(fun n z=>by have:=CT.yd.some.inj z; have:=hg.1; have:=hg.2.1; omega),by unfold CT.zj; rfl,by unfold CF.za.depth; rfl⟩
noncomputable def V7 (K : PySem.W.Frag) (vs : List V) (H : Hp) (Q : VK):=fun (t : Addr) (g : CT.yd) (v : V)=>L23.A4 (vs=[.ref t]) (SqT K H t (CT.ghV g ++ [v])) ((∀ n,g = .some n→1≤n∧n≤16)) (Q (.str (CT.yJ g)) H)
noncomputable def zb8 (K : PySem.W.Frag) : Sp:=fun vs H Q zz=>L23.E3 (V7 K vs H Q)
theorem zjR {f : Addr} {fd : FuncData} (F : Fun K "show_head" "show_head" vE f fd) (T : Txt K mg a) : FnOk P w K mg base CX0 1 f fd ["group"] (zb8 K):=by
  refine F.ok zi9 (fun vs H Q E h=>?_) (fun cdv A outer s H vs Q E hr h=>?_)
  · obtain ⟨t,g,v,rfl,zz⟩:=h
    rfl
  · obtain ⟨t,g,v,rfl,et,hg,q⟩:=h
    refine ⟨_,(pss_cons (ps_if (pt_cmpR op_eq (pe_ix ix_tup (pvA 0 (defScope vE) VF rfl rfl) pe_int (fun zz zz=>rfl)) pe_str (nomark _)) (pss_one (ps_ret pe_str)) pss_nil)
      (pss_cons (psN (i:=1) (sc:=defScope vE) (M:=VF) rfl rfl (by decide +kernel) (pe_ix ix_tup (pvA 0 (defScope vE) VF rfl rfl) pe_int (fun zz zz=>rfl)))
      (pss_one (ps_ret (zcW (jv pe_str (jv (zbn (pvA 1 (defScope vE) VF rfl rfl)) (jv pe_str zeP)))))))),?_⟩
    try dsimp only [cxOf,Cx.nox]
    have hs : sizeLine=16777216:=sizeLine_eq
    cases g with
    | all=>exact ⟨_,rfl,t,_,_,_,rfl,rfl,et,CF.z7,rfl,_,rfl,iteT q⟩
    | some n =>
      have hn:=hg n rfl
      have l3:=(yy (n:=n) (by omega) (CT.z5 (by omega))).most
      refine ⟨_,rfl,t,_,_,_,rfl,rfl,et,CF.z7,rfl,_,rfl,iteF ⟨_,rfl,t,_,_,_,rfl,rfl,et,atI_nat (j:=1) rfl,?_⟩⟩
      have lo : ("some " : Str).length=5:=by decide +kernel
      have lf : (" of" : Str).length=3:=by decide +kernel
      have le : Str.empty.length=0:=rfl
      refine ⟨_,rfl,by simp only [Str.length_append]; omega,_,rfl,wO (by omega) (CT.z5 (by omega)),_,rfl,by simp only [Str.length_append]; omega,_,rfl,by simp only [Str.length_append]; omega,by simp only [Str.length_append]; omega,?_⟩
      rw [Str.empty_append]
      exact q
noncomputable def Wm (K : PySem.W.Frag) (n : Nat) (vs : List V) (H : Hp) (Q : VK):=fun (x : V) (r : CF.za)=>L23.A6 (vs=[x]) (zc K H x r.data) (r.depth < n) (r.Good) ((CT.zj r).length≤1000) (∀ H' p,Same H H'→H p=none→H' p=some (.lst ((CT.zj r).map V.str))→Q (.ref p) H')
noncomputable def YF (K : PySem.W.Frag) (n : Nat) : Sp:=fun vs H Q zz=>L23.E2 (Wm K n vs H Q)
theorem zb9 {vs : List V} {H : Hp} {Q : VK} {E : XK} (h : YF K 0 vs H Q E) : False:=by
  obtain ⟨x,r,zz,zz,h,zz⟩:=h
  omega
theorem zg2 {n : Nat} {wj Xi yH ZQ ZR : FuncData} (T : Txt K mg a)
    (zca : FnOk P w K mg base CX0 1 a.YA Xi ["rule"] (zer K)) (Vg : Fun K "is_leaf" "is_leaf" YZ a.YA Xi) (zcb : Binds K Xi ["rule"] [])
    (wZ : FnOk P w K mg base CX0 1 a.xw yH ["group"] (YD K)) (xU : Fun K "rules_of" "rules_of" vC a.xw yH) (w6 : Binds K yH ["group"] [])
    (V8 : FnOk P w K mg base CX0 1 a.jY ZQ ["group"] (zb8 K)) (Xj : Fun K "show_head" "show_head" vE a.jY ZQ) (V9 : Binds K ZQ ["group"] [])
    (Ja : FnOk P w K mg base CX0 1 a.jX ZR ["leaf"] (zb7 K)) (Xk : Fun K "show_leaf" "show_leaf" yb a.jX ZR) (Jb : Binds K ZR ["leaf"] [])
    (Jc : FnOk P w K mg base CX0 (2 + n) a.yG wj ["rule"] (YF K n)) (jR : Fun K "rows_of_rule" "rows_of_rule" yE a.yG wj) (Z6 : Binds K wj ["rule"] []) : FnOk P w K mg base CX0 (2 + n + 1) a.yG wj ["rule"] (YF K (n + 1)):=by
  have F:=jR
  refine F.ok zja (fun vs H Q E h=>?_) (fun cdv A outer s H vs Q E hr h=>?_)
  · obtain ⟨x,r,rfl,zz⟩:=h
    rfl
  · obtain ⟨x,r,rfl,hx,hd,hg,hm,q⟩:=h
    refine ⟨_,(pss_cons (ps_if (pt_val (zh (sc:=defScope yE) zca (hr.mono (by omega)) rfl (by decide +kernel) T.zlx Vg.kp zcb .nil pass0 (pa_cons (pvA 0 (defScope yE) jb rfl rfl) pa_nil))) (pss_one (ps_ret (pe_lst (pa_cons (zh (sc:=defScope yE) Ja (hr.mono (by omega)) rfl (by decide +kernel) T.zkS Xk.kp Jb .nil pass0 (pa_cons (pvA 0 (defScope yE) jb rfl rfl) pa_nil)) pa_nil)))) pss_nil)
      (pss_cons (psN (i:=1) (sc:=defScope yE) (M:=jb) rfl rfl (by decide +kernel) (pe_lst (pa_cons (zh (sc:=defScope yE) V8 (hr.mono (by omega)) rfl (by decide +kernel) T.zkT Xj.kp V9 .nil pass0 (pa_cons (pvA 0 (defScope yE) jb rfl rfl) pa_nil)) pa_nil)))
      (pss_cons (ps_for PassesOwn.never rfl (pi_list (zh (sc:=defScope yE) wZ (hr.mono (by omega)) rfl (by decide +kernel) T.zaC xU.kp w6 .nil pass0 (pa_cons (pvA 0 (defScope yE) jb rfl rfl) pa_nil))) (pgN (i:=2) (sc:=defScope yE) (M:=jb) rfl rfl (by decide +kernel)) (pss_one (ps_expr (pe_bm PySem.F.plainAttrs_list PySem.F.slot_list_extend PySem.F.type_list_extend mt_extend (pvA 1 (defScope yE) jb rfl rfl) (pa_cons (zh (sc:=defScope yE) Jc (hr.mono (by omega)) rfl (by decide +kernel) T.zhq jR.kp Z6 .nil pass0 (pa_cons (pvA 2 (defScope yE) jb rfl rfl) pa_nil)) pa_nil)))))
      (pss_cons (ps_expr (pe_bm PySem.F.plainAttrs_list PySem.F.slot_list_append PySem.F.type_list_append mt_append (pvA 1 (defScope yE) jb rfl rfl) (pa_cons pe_str pa_nil)))
      (pss_one (ps_ret (pvA 1 (defScope yE) jb rfl rfl))))))),?_⟩
    try dsimp only [cxOf,Cx.nox]
    have hs : sizeLine=16777216:=sizeLine_eq
    refine ⟨_,rfl,_,r,rfl,hx,fun H1 s1=>⟨_,rfl,?_⟩⟩
    cases hl : r.yU with
    | true =>
      cases r with
      | z8 rs=>cases hl
      | z9 m rs=>cases hl
      | leaf l =>
        rw [show CT.zj (.leaf l)=[CT.xX l] by unfold CT.zj; rfl] at q
        unfold CF.za.data at hx
        unfold CF.za.Good at hg
        refine iteT ⟨_,rfl,_,l,rfl,zc.up hx s1,hg,fun H2 s2=>⟨by first | decide | (simp only [List.length_cons,List.length_nil,List.length_append,List.length_map]; decide),fun pl hpl=>?_⟩⟩
        have s3:=s1.trans s2
        exact q _ pl (s3.trans (Same.zp hpl)) (s3.free hpl) upd_same
    | false =>
      obtain ⟨g,rs,er,hgs,zdO,hgn,zes,zlE⟩:=zfF hl hg
      obtain ⟨t,p,xs,rfl,et,ep,hA⟩:=CF.za.grp hx hl
      have eh : r.head=CT.ghV g:=by rw [er]; exact CT.Wt g rs
      have eru : r.rules=rs:=by rw [er]; exact CT.W7 g rs
      rw [eh] at et
      rw [eru] at hA
      rw [zes] at q hm
      refine iteF ⟨_,rfl,t,g,.ref p,rfl,SqT.of (s1 _ _ et),hgn,by first | decide | (simp only [List.length_cons,List.length_nil,List.length_append,List.length_map]; decide),fun pl hpl=>?_⟩
      have npl : H pl=none:=s1.free hpl
      have s2:=s1.trans (Same.zp (o := .lst [V.str (CT.yJ g)]) hpl)
      have e2 : upd H1 pl (.lst [V.str (CT.yJ g)]) pl=some (.lst ((CT.yJ g :: CT.zq (rs.take 0)).map V.str)):=by
        rw [List.take_zero,CT.xh]
        exact upd_same
      generalize upd H1 pl (.lst [V.str (CT.yJ g)])=H2 at s2 e2 ⊢
      refine ⟨_,rfl,t,CT.ghV g,.ref p,rfl,SqT.of (s2 _ _ et),p,rfl,⟨_,.inl (Rd.same s2 ep)⟩,?_⟩
      have lx:=zb.length hA
      rw [CF.za.zX,List.length_map] at lx
      refine for_list (xs:=xs) (fun i σ H'=>∃ v,L23.A3 (σ=[some (.ref t),some (.ref pl),v]) (Same H H') (H' pl=some (.lst ((CT.yJ g :: CT.zq (rs.take i)).map V.str)))) ⟨_,rfl,s2,e2⟩ ?_ ?_ ?_
      · rintro i σ H' _ ⟨v,_,s,_⟩
        exact .inl (Rd.same s ep)
      · rintro i y σ H' hy ⟨v,rfl,s3,e3⟩
        obtain ⟨d,ed,hyd⟩:=zb.back hA hy
        rw [CF.za.zX,List.getElem?_map] at ed
        obtain ⟨r1,er1,rfl⟩:=Option.map_eq_some_iff.mp ed
        have hmem:=List.mem_of_getElem? er1
        have hd1:=CF.za.vW hmem
        have eT : CT.zq (rs.take (i + 1))=CT.zq (rs.take i) ++ CT.zj r1:=by
          rw [take_snoc er1,CT.wD,CT.XD]
        have hsum : (CT.zq (rs.take i)).length + (CT.zj r1).length≤(CT.zq rs).length:=by
          rw [← List.length_append,← eT]
          conv=>rhs; rw [← List.take_append_drop (i + 1) rs,CT.wD,List.length_append]
          exact Nat.le_add_right _ _
        rw [List.length_cons,List.length_append,List.length_singleton] at hm
        refine ⟨_,rfl,.inl ⟨rfl,_,SqL.of e3⟩,_,rfl,y,r1,rfl,zc.up hyd s3,by omega,CF.za.vR.mp hgs r1 hmem,by omega,fun H4 p4 s4 np4 e4=>?_⟩
        have e5:=s4 _ _ e3
        refine ⟨pl,p4,_,_,rfl,rfl,e5,e4,?_,_,rfl,Same.upd (s3.trans s4) npl,?_⟩
        · rw [List.length_map,List.length_map,List.length_cons]
          omega
        · rw [upd_same,eT,← List.map_append,List.cons_append]
      · rintro σ H' ⟨v,rfl,s3,e3⟩
        rw [lx,List.take_length] at e3
        refine ⟨_,rfl,.inl ⟨rfl,_,SqL.of e3⟩,pl,_,_,rfl,rfl,e3,?_,_,rfl,q _ pl (Same.upd s3 npl) npl ?_⟩
        · rw [List.length_cons,List.length_append,List.length_singleton] at hm
          rw [List.length_map,List.length_cons]
          omega
        · rw [upd_same,← List.cons_append,List.map_append]
          rfl
theorem zjS {wj Xi yH ZQ ZR : FuncData} (T : Txt K mg a)
    (zca : FnOk P w K mg base CX0 1 a.YA Xi ["rule"] (zer K)) (Vg : Fun K "is_leaf" "is_leaf" YZ a.YA Xi) (zcb : Binds K Xi ["rule"] [])
    (wZ : FnOk P w K mg base CX0 1 a.xw yH ["group"] (YD K)) (xU : Fun K "rules_of" "rules_of" vC a.xw yH) (w6 : Binds K yH ["group"] [])
    (V8 : FnOk P w K mg base CX0 1 a.jY ZQ ["group"] (zb8 K)) (Xj : Fun K "show_head" "show_head" vE a.jY ZQ) (V9 : Binds K ZQ ["group"] [])
    (Ja : FnOk P w K mg base CX0 1 a.jX ZR ["leaf"] (zb7 K)) (Xk : Fun K "show_leaf" "show_leaf" yb a.jX ZR) (Jb : Binds K ZR ["leaf"] [])
    (jR : Fun K "rows_of_rule" "rows_of_rule" yE a.yG wj) (Z6 : Binds K wj ["rule"] []) : FnOk P w K mg base CX0 10 a.yG wj ["rule"] (YF K 8):=by
  have h : ∀ n,FnOk P w K mg base CX0 (2 + n) a.yG wj ["rule"] (YF K n):=fun n=>by
    induction n with
    | zero=>exact ⟨fun vs H Q E h=>(zb9 h).elim,fun A outer s H args us vs Q E zz zz zz zz h=>(zb9 h).elim⟩
    | succ n ih=>exact zg2 T zca Vg zcb wZ xU w6 V8 Xj V9 Ja Xk Jb ih jR Z6
  exact h 8
noncomputable def WO (K : PySem.W.Frag) (vs : List V) (H : Hp) (Q : VK):=fun (x : V) (c : CF.yM) (D : Hp)=>L23.A5 (vs=[x]) (Same D H) (zc K D x c.data) (c.Good) (∀ H',Same H H'→Q (.str (Str.join "\n" (CT.zO c))) H')
noncomputable def zfG (K : PySem.W.Frag) : Sp:=fun vs H Q zz=>L23.E3 (WO K vs H Q)
theorem zjT {f : Addr} {fd wj : FuncData} (F : Fun K "show_course" "show_course" xC f fd) (T : Txt K mg a)
    (Jc : FnOk P w K mg base CX0 10 a.yG wj ["rule"] (YF K 8)) (jR : Fun K "rows_of_rule" "rows_of_rule" yE a.yG wj) (Z6 : Binds K wj ["rule"] []) : FnOk P w K mg base CX0 11 f fd ["course"] (zfG K):=by
  refine F.ok zjb (fun vs H Q E h=>?_) (fun cdv A outer s H vs Q E hr h=>?_)
  · obtain ⟨x,c,D,rfl,zz⟩:=h
    rfl
  · obtain ⟨x,c,D,rfl,sD,hx,hc,q⟩:=h
    refine ⟨_,(pss_cons (zgd (i:=1) (sc:=defScope xC) (M:=Y0) rfl rfl rfl (by decide +kernel) (N:=["field","often"]) (own:=2) (js:=[]) (X:=(cxOf CX0 P w K mg base Y0 "show_course" (defScope xC) f cdv A outer s H E).nox) (jW (defScope xC) Y0 rfl rfl (by decide +kernel)) (pi_list (pe_ix ix_tup (pvA 0 (defScope xC) Y0 rfl rfl) pe_int (fun zz zz=>rfl))) (fun fp0 sx0 Hx0=>(zhi (K:=K) rfl (pg_tup (n:=2) (by rfl) (pgs_cons (pgN (i:=0) (sc:=zD _ (defScope xC)) (M:=["field","often"]) rfl rfl (by decide +kernel)) (pgs_cons (pgN (i:=1) (sc:=zD _ (defScope xC)) (M:=["field","often"]) rfl rfl (by decide +kernel)) pgs_nil))))) (fun fp0 sx0 Hx0=>vc) (fun fp0 sx0 Hx0=>(zcW (jv pe_str (jv (zbn (pvN (i:=1) (sc:=zD _ (defScope xC)) (M:=["field","often"]) rfl rfl (by decide +kernel))) (jv pe_str (jv (zbn (pvN (i:=0) (sc:=zD _ (defScope xC)) (M:=["field","often"]) rfl rfl (by decide +kernel))) zeP)))))) rfl)
      (pss_one (ps_ret (pe_bm PySem.F.plainAttrs_str PySem.F.slot_str_join PySem.F.type_str_join Yw pe_str (pa_cons (pe_op op_cat (pvA 1 (defScope xC) Y0 rfl rfl) (zh (sc:=defScope xC) Jc (hr.mono (by decide)) rfl (by decide +kernel) T.zhq jR.kp Z6 .nil pass0 (pa_cons (pe_ix ix_tup (pvA 0 (defScope xC) Y0 rfl rfl) pe_int (fun zz zz=>rfl)) pa_nil))) pa_nil))))),?_⟩
    try dsimp only [cxOf,Cx.nox]
    have hs : sizeLine=16777216:=sizeLine_eq
    obtain ⟨t,po,y,rfl,et,⟨xs,hpo,hA⟩,zz,dy⟩:=V5 hx
    have hxl:=zb.length hA
    rw [List.length_map] at hxl
    have hfew:=hc.few
    refine ⟨_,rfl,t,_,_,_,rfl,rfl,SqT.of (sD _ _ et),rfl,po,rfl,⟨xs,.inl (Rd.same sD hpo)⟩,fun c0 hc0=>?_⟩
    refine Yx (K:=K) (D:=D) sD hc0 vv (fun σ=>L23.E2 fun a b=>σ=[a,b]) (c.zl.map fun p=>some (PyData.str (CT.xN p))) (by rw [List.length_map,hxl]) ⟨_,_,rfl⟩ (fun H' s' => .inl (Rd.same s' (Rd.same sD hpo))) (by omega) ?_ ?_
    · rintro i x r σ D1 H1 R1 R0 hx1 hr ⟨a1,a2,rfl⟩ G k1 k0
      obtain ⟨p,tt,hp,rfl,ett⟩:=zb3 (zb.up hA G.dd) hx1
      rw [List.getElem?_map,hp] at hr
      obtain rfl:=Option.some.inj hr
      have hm:=List.mem_of_getElem? hp
      have hw:=CW.yl.mp (hc.words p hm)
      have hn:=hc.nums p hm
      have l1:=hw.2.1
      have l3:=(yy (n:=p.2) (by omega) (CT.z5 (by omega))).most
      have lb : (" " : Str).length=1:=by decide +kernel
      have lo : ("often " : Str).length=6:=by decide +kernel
      have le : Str.empty.length=0:=rfl
      refine ⟨tt,_,rfl,SqT.of (G.dh _ _ ett),rfl,_,_,rfl,_,_,rfl,rfl,?_⟩
      refine ⟨_,rfl,by simp only [Str.length_append]; omega,_,rfl,wO (by omega) (CT.z5 (by omega)),_,rfl,by simp only [Str.length_append]; omega,_,rfl,by simp only [Str.length_append]; omega,_,rfl,by omega,_,rfl,by simp only [Str.length_append]; omega,by simp only [Str.length_append]; omega,?_⟩
      refine k1 _ _ _ _ _ rfl ⟨_,_,rfl⟩ (Gr.refl G.dh) ?_
      rw [Str.empty_append]
      exact zc.ofStr
    · intro D' H' ys G e n hA'
      rw [show (c.zl.map fun p=>some (PyData.str (CT.xN p)))=((c.zl.map CT.xN).map PyData.str).map some by simp,filterMap_some] at hA'
      rw [zb.Zs hA'] at e
      have hrw:=CT.YX hc.rule
      have hrl : (CT.zj c.rule).length≤16 * 13:=Nat.le_trans hrw (Nat.mul_le_mul hc.leaves (by have:=hc.deep; omega))
      obtain ⟨hro,hr3,zz⟩:=CT.Yh hc
      have et':=G.dh _ _ (G.dd _ _ et)
      refine ⟨rfl,_,rfl,_,rfl,t,_,_,_,rfl,rfl,SqT.of et',rfl,y,c.rule,rfl,zc.up (zc.gr dy G) G.dh,Nat.lt_succ_of_le (Nat.le_trans hc.deep (by decide)),hc.rule,by omega,fun H2 p2 s2 np2 e2=>?_⟩
      have e2':=s2 _ _ e
      refine ⟨c0,p2,_,_,rfl,rfl,e2',e2,?_,fun p3 hp3=>?_⟩
      · rw [List.length_map,List.length_map,List.length_map]
        omega
      have e3 : upd H2 p3 (.lst (List.map V.str (List.map CT.xN c.zl) ++ List.map V.str (CT.zj c.rule))) p3=some (.lst ((CT.zO c).map V.str)):=by
        rw [upd_same]
        unfold CT.zO
        rw [List.map_append]
      refine ⟨_,p3,_,rfl,rfl,SqL.of e3,YE (fun r hr=>?_) (by omega) (by decide +kernel),?_⟩
      · obtain ⟨ps,h⟩:=hro r hr
        exact h.len
      · rw [jx]
        exact q _ ((G.hh.trans s2).trans (Same.zp hp3))
theorem zcc : PySem.W.kitOne K (.type "NoneType") (.type "list")=some false:=by kernel_rfl
theorem zcP : PySem.W.kitOne K (.type "bool") (.type "list")=some false:=by kernel_rfl
theorem zcd : PySem.W.kitOne K (.type "int") (.type "list")=some false:=by kernel_rfl
theorem zce : PySem.W.kitOne K (.type "str") (.type "list")=some false:=by kernel_rfl
theorem jK : PySem.W.kitOne K (.type "tuple") (.type "list")=some false:=by kernel_rfl
theorem zas : PySem.W.kitOne K (.type "NoneType") (.type "tuple")=some false:=by kernel_rfl
theorem zcf : PySem.W.kitOne K (.type "bool") (.type "tuple")=some false:=by kernel_rfl
theorem zat : PySem.W.kitOne K (.type "int") (.type "tuple")=some false:=by kernel_rfl
theorem zau : PySem.W.kitOne K (.type "str") (.type "tuple")=some false:=by kernel_rfl
theorem YG : PySem.W.kitOne K (.type "list") (.type "tuple")=some false:=by kernel_rfl
theorem WE {H : Hp} {p : Addr} {xs : List V} (h : Rd H p (.lst xs)) : tyName K H (.ref p) "list":=by
  rcases h with h | ⟨o,h⟩
  · exact .inl ⟨rfl,.inl ⟨_,h⟩⟩
  · exact .inl ⟨rfl,.inr ⟨_,_,h⟩⟩
noncomputable def JQ (K : PySem.W.Frag) (n : Nat) (vs : List V) (H : Hp) (Q : VK):=fun (x : V) (d : PyData) (D : Hp)=>L23.A6 (vs=[x]) (Same D H) (zc K D x d) (d.depth < n) (CF.small d) (∀ r D' H',Gr D H D' H'→zc K D' r d→Q r H')
noncomputable def YH (K : PySem.W.Frag) (n : Nat) : Sp:=fun vs H Q zz=>L23.E3 (JQ K n vs H Q)
theorem zcg {vs : List V} {H : Hp} {Q : VK} {E : XK} (h : YH K 0 vs H Q E) : False:=by
  obtain ⟨x,r,D,zz,zz,zz,h,zz⟩:=h
  omega
theorem zg3 {n : Nat} {wk : FuncData} (T : Txt K mg a)
    (WG : FnOk P w K mg base CX0 (1 + n) a.xx wk ["_law_thing"] (YH K n)) (jc : Fun K "_law_copy" "_law_copy" ye a.xx wk) (Zq : Binds K wk ["_law_thing"] []) : FnOk P w K mg base CX0 (1 + n + 1) a.xx wk ["_law_thing"] (YH K (n + 1)):=by
  have F:=jc
  refine F.ok zjl (fun vs H Q E h=>?_) (fun cdv A outer s H vs Q E hr h=>?_)
  · obtain ⟨x,d,D,rfl,zz⟩:=h
    rfl
  · obtain ⟨x,d,D,rfl,sD,hx,hd,hsm,q⟩:=h
    refine ⟨_,(pss_cons (ps_if (pt_val (zf (sc:=defScope ye) yO rfl (by decide +kernel) T.zG zM (pa_cons (pvA 0 (defScope ye) jQ rfl rfl) (pa_cons (yP (v:=V.ty "list") (sc:=defScope ye) rfl (by decide +kernel) T.j0 Wq rfl) pa_nil)))) (pss_one (ps_ret (ju rfl (N:=["_law_one"]) (own:=1) (js:=[]) (X:=(cxOf CX0 P w K mg base jQ "_law_copy" (defScope ye) a.xx cdv A outer s H E).nox) (jW (defScope ye) jQ rfl rfl (by decide +kernel)) (pi_list (pvA 0 (defScope ye) jQ rfl rfl)) (fun fp0 sx0 Hx0=>(pgN (i:=0) (sc:=zD _ (defScope ye)) (M:=["_law_one"]) rfl rfl (by decide +kernel))) (fun fp0 sx0 Hx0=>vc) (fun fp0 sx0 Hx0=>(zh (sc:=zD _ (defScope ye)) WG (hr.mono (by omega)) rfl (by decide +kernel) T.zdN jc.kp Zq .nil pass0 (pa_cons (pvN (i:=0) (sc:=zD _ (defScope ye)) (M:=["_law_one"]) rfl rfl (by decide +kernel)) pa_nil)))))) pss_nil)
      (pss_cons (ps_if (pt_val (zf (sc:=defScope ye) yO rfl (by decide +kernel) T.zG zM (pa_cons (pvA 0 (defScope ye) jQ rfl rfl) (pa_cons (yP (v:=V.ty "tuple") (sc:=defScope ye) rfl (by decide +kernel) T.wN jw rfl) pa_nil)))) (pss_one (ps_ret (yk (sc:=defScope ye) call_tuple_of rfl (by decide +kernel) T.wN jw (pa_cons (ju rfl (N:=["_law_one"]) (own:=1) (js:=[]) (X:=(cxOf CX0 P w K mg base jQ "_law_copy" (defScope ye) a.xx cdv A outer s H E).nox) (jW (defScope ye) jQ rfl rfl (by decide +kernel)) (pi_tup (pvA 0 (defScope ye) jQ rfl rfl)) (fun fp0 sx0 Hx0=>(pgN (i:=0) (sc:=zD _ (defScope ye)) (M:=["_law_one"]) rfl rfl (by decide +kernel))) (fun fp0 sx0 Hx0=>vc) (fun fp0 sx0 Hx0=>(zh (sc:=zD _ (defScope ye)) WG (hr.mono (by omega)) rfl (by decide +kernel) T.zdN jc.kp Zq .nil pass0 (pa_cons (pvN (i:=0) (sc:=zD _ (defScope ye)) (M:=["_law_one"]) rfl rfl (by decide +kernel)) pa_nil)))) pa_nil)))) pss_nil)
      (pss_one (ps_ret (pvA 0 (defScope ye) jQ rfl rfl))))),?_⟩
    try dsimp only [cxOf,Cx.nox]
    have hs : sizeLine=16777216:=sizeLine_eq
    have step : ∀ (ds : List PyData) (xs : List V) (q0 : Addr) (H0 : Hp),Same D H0→True:=fun zz zz zz zz zz=>trivial
    cases d with
    | dict kvs=>unfold zc at hx; exact hx.elim
    | none =>
      have e : x = .non:=by unfold zc at hx; exact hx
      subst e
      exact ⟨_,rfl,_,"NoneType","list",false,rfl,rfl,zcc,_,rfl,iteF ⟨_,rfl,_,"NoneType","tuple",false,rfl,rfl,zas,_,rfl,iteF ⟨_,rfl,q _ D H (Gr.refl sD) hx⟩⟩⟩
    | bool b =>
      obtain rfl:=zc.bl hx
      exact ⟨_,rfl,_,"bool","list",false,rfl,rfl,zcP,_,rfl,iteF ⟨_,rfl,_,"bool","tuple",false,rfl,rfl,zcf,_,rfl,iteF ⟨_,rfl,q _ D H (Gr.refl sD) hx⟩⟩⟩
    | int b =>
      obtain rfl:=zc.int hx
      exact ⟨_,rfl,_,"int","list",false,rfl,rfl,zcd,_,rfl,iteF ⟨_,rfl,_,"int","tuple",false,rfl,rfl,zat,_,rfl,iteF ⟨_,rfl,q _ D H (Gr.refl sD) hx⟩⟩⟩
    | str b =>
      obtain rfl:=zc.str hx
      exact ⟨_,rfl,_,"str","list",false,rfl,rfl,zce,_,rfl,iteF ⟨_,rfl,_,"str","tuple",false,rfl,rfl,zau,_,rfl,iteF ⟨_,rfl,q _ D H (Gr.refl sD) hx⟩⟩⟩
    | list ds =>
      obtain ⟨p,xs,rfl,hp,hA⟩:=zc.lst hx
      have hp':=Rd.same sD hp
      have lx:=zb.length hA
      have Xl:=CF.Vx hsm
      refine ⟨_,rfl,_,"list","list",true,rfl,WE hp',j8 _,_,rfl,iteT ⟨_,rfl,p,rfl,⟨_,.inl hp'⟩,fun c hc=>?_⟩⟩
      refine Yx (K:=K) (D:=D) sD hc vv (fun σ=>∃ v,σ=[v]) (ds.map some) (by rw [List.length_map,lx]) ⟨_,rfl⟩ (fun H' s' => .inl (Rd.same s' hp')) (by omega) ?_ ?_
      · rintro i y r σ D3 H3 R1 R0 hy hr ⟨v,rfl⟩ G k1 k0
        obtain ⟨d1,hd1,hdy⟩:=zb.back hA hy
        rw [List.getElem?_map,hd1] at hr
        obtain rfl:=Option.some.inj hr
        have hm:=List.mem_of_getElem? hd1
        exact ⟨_,rfl,y,d1,D3,rfl,G.dh,hdy.gr G,CF.Z2 hm (by exact hd),Xl.2 d1 hm,fun r D4 H4 g4 hr4=>k1 d1 _ r D4 H4 rfl ⟨_,rfl⟩ g4 hr4⟩
      · intro D3 H3 ys G e n hy
        rw [filterMap_some] at hy
        exact q _ _ H3 (G.fix hc n e) (zc.mkL (D:=D3) hy upd_same (Same.zp n))
    | tuple ds =>
      obtain ⟨p,xs,rfl,hp,hA⟩:=zc.tup hx
      have hp':=sD _ _ hp
      have lx:=zb.length hA
      have Xl:=CF.WV hsm
      refine ⟨_,rfl,_,"tuple","list",false,rfl,.inr (.inl ⟨rfl,_,hp'⟩),jK,_,rfl,iteF ⟨_,rfl,_,"tuple","tuple",true,rfl,.inr (.inl ⟨rfl,_,hp'⟩),vV _,_,rfl,iteT ⟨_,rfl,p,rfl,⟨_,SqT.of hp'⟩,fun c hc=>?_⟩⟩⟩
      refine Yx (K:=K) (D:=D) sD hc zdh (fun σ=>∃ v,σ=[v]) (ds.map some) (by rw [List.length_map,lx]) ⟨_,rfl⟩ (fun H' s'=>SqT.of (s' _ _ hp')) (by omega) ?_ ?_
      · rintro i y r σ D3 H3 R1 R0 hy hr ⟨v,rfl⟩ G k1 k0
        obtain ⟨d1,hd1,hdy⟩:=zb.back hA hy
        rw [List.getElem?_map,hd1] at hr
        obtain rfl:=Option.some.inj hr
        have hm:=List.mem_of_getElem? hd1
        exact ⟨_,rfl,y,d1,D3,rfl,G.dh,hdy.gr G,CF.Z2 hm (by exact hd),Xl.2 d1 hm,fun r D4 H4 g4 hr4=>k1 d1 _ r D4 H4 rfl ⟨_,rfl⟩ g4 hr4⟩
      · intro D3 H3 ys G e n hy
        rw [filterMap_some] at hy
        refine ⟨c,ys,rfl,.inl ⟨SqL.of e,fun t ht=>?_⟩⟩
        exact q _ _ _ (G.trans (Gr.lay G.dh ht)) (zc.mkT (D:=D3) hy upd_same (Same.zp (zZ G.dh ht)))
theorem zjU {wk : FuncData} (T : Txt K mg a)
    (jc : Fun K "_law_copy" "_law_copy" ye a.xx wk) (Zq : Binds K wk ["_law_thing"] []) : FnOk P w K mg base CX0 21 a.xx wk ["_law_thing"] (YH K 20):=by
  have h : ∀ n,FnOk P w K mg base CX0 (1 + n) a.xx wk ["_law_thing"] (YH K n):=fun n=>by
    induction n with
    | zero=>exact ⟨fun vs H Q E h=>(zcg h).elim,fun A outer s H args us vs Q E zz zz zz zz h=>(zcg h).elim⟩
    | succ n ih=>exact zg3 T  ih jc Zq
  exact h 20
noncomputable def yI (k : Str) (n : Int) : Str:=if n=CT.leftOut k then Str.empty else " " ++ k ++ " " ++ CT.num n
theorem ZS (k : Str) (n : Int) (A : List Str) (hA : A≠[]) : Str.join " " (A ++ CT.zk k n)=Str.join " " A ++ yI k n:=by
  unfold CT.zk yI
  split
  · rw [List.append_nil,Str.append_empty]
  · rw [CT.jD _ A _ hA (by intro z; cases z),CT.ym,CT.join_one]
    simp only [Str.append_assoc]
noncomputable def jd : CF.ze→Str
  | .frm _ _ a _ _=>yI "level" a
  | .off ..=>Str.empty
noncomputable def wI : CF.ze→Int
  | .frm _ _ _ b _=>b
  | .off _ _ b _=>b
noncomputable def wQ : CF.ze→Int
  | .frm _ _ _ _ c=>c
  | .off _ _ _ c=>c
noncomputable def yc (l : CF.ze) : Str:=CT.num (CT.ze.want l) ++ " " ++ CT.ze.kind' l ++ " " ++ CT.yN l.words
theorem zg4 (l : CF.ze) : CT.xX l=yc l ++ jd l ++ yI "mark" (wI l) ++ yI "worth" (wQ l):=by
  have hb : Str.join " " [CT.num (CT.ze.want l),CT.ze.kind' l,CT.yN l.words]=yc l:=by
    unfold yc
    rw [CT.ym,CT.ym,CT.join_one]
    simp only [Str.append_assoc]
  rw [CT.XC]
  cases l with
  | frm n ws a b c =>
    unfold CT.zP
    rw [← List.append_assoc,← List.append_assoc,ZS _ _ _ (by simp),ZS _ _ _ (by simp),ZS _ _ _ (by simp),hb]
    rfl
  | off n ws b c =>
    unfold CT.zP
    rw [← List.append_assoc,ZS _ _ _ (by simp),ZS _ _ _ (by simp),hb]
    show _=yc _ ++ Str.empty ++ _ ++ _
    rw [Str.append_empty]
    rfl
theorem Jd : CT.leftOut "worth"=1:=by decide +kernel
theorem kind_len (l : CF.ze) : (CT.ze.kind' l).length≤4:=by
  cases l with
  | frm n ws a b c=>show ("from" : Str).length≤4; decide +kernel
  | off n ws b c=>show ("of" : Str).length≤4; decide +kernel
theorem JR {k kk : Str} {n : Int} (hk : kk=" " ++ k ++ " ") (h : n≠CT.leftOut k) : kk ++ CT.num n=yI k n:=by
  unfold yI
  rw [if_neg h,hk]
theorem zc8 {k : Str} {n : Int} (hk : k.length≤5) (h0 : 0≤n) (h1 : n < 10 ^ 60) : (yI k n).length≤67:=by
  unfold yI
  have ln : (CT.num n).length≤60:=(yy h0 h1).most
  have lb : (" " : Str).length=1:=by decide +kernel
  have le : Str.empty.length=0:=rfl
  split
  · omega
  · simp only [Str.length_append]
    omega
noncomputable def XE (K : PySem.W.Frag) (vs : List V) (H : Hp) (Q : VK):=fun (x : V) (l : CF.ze)=>L23.A4 (vs=[x]) (zc K H x l.data) (l.Good) (Q (.str (CT.xX l)) H)
noncomputable def zch (K : PySem.W.Frag) : Sp:=fun vs H Q zz=>L23.E2 (XE K vs H Q)
theorem zjV {f : Addr} {fd : FuncData} (F : Fun K "_law_leaf_line" "_law_leaf_line" zW f fd) (T : Txt K mg a) : FnOk P w K mg base CX0 1 f fd ["_law_leaf_here"] (zch K):=by
  refine F.ok zjj (fun vs H Q E h=>?_) (fun cdv A outer s H vs Q E hr h=>?_)
  · obtain ⟨x,l,rfl,zz⟩:=h
    rfl
  · obtain ⟨x,l,rfl,hx,hg,q⟩:=h
    refine ⟨_,(pss_cons (psN (i:=1) (sc:=defScope zW) (M:=yL) rfl rfl (by decide +kernel) (pe_op op_add_str (pe_op op_add_str (pe_op op_add_str (pe_op op_add_str (yk (sc:=defScope zW) call_str_int rfl (by decide +kernel) T.xQ xW (pa_cons (pe_ix ix_tup (pvA 0 (defScope zW) yL rfl rfl) pe_int (fun zz zz=>rfl)) pa_nil)) pe_str) (pe_ix ix_tup (pvA 0 (defScope zW) yL rfl rfl) pe_int (fun zz zz=>rfl))) pe_str) (pe_bm PySem.F.plainAttrs_str PySem.F.slot_str_join PySem.F.type_str_join Yw pe_str (pa_cons (pe_ix ix_tup (pvA 0 (defScope zW) yL rfl rfl) pe_int (fun zz zz=>rfl)) pa_nil))))
      (wJ (ps_if (pt_cmpR op_eq (zf (sc:=defScope zW) call_len rfl (by decide +kernel) T.zF zy (pa_cons (pe_ix ix_tup (pvA 0 (defScope zW) yL rfl rfl) pe_int (fun zz zz=>rfl)) pa_nil)) pe_int (nomark _)) (pss_one (psN (i:=1) (sc:=defScope zW) (M:=yL) rfl rfl (by decide +kernel) (pe_op op_add_str (pvA 1 (defScope zW) yL rfl rfl) pe_str))) pss_nil)
      (wJ (ps_if (PW.pt (pw_and (pt_cmpR op_eq (pe_ix ix_tup (pvA 0 (defScope zW) yL rfl rfl) pe_int (fun zz zz=>rfl)) pe_str (nomark _)) (pw_and1 (pt_cmpR op_ne (pe_ix ix_tup (pvA 0 (defScope zW) yL rfl rfl) pe_int (fun zz zz=>rfl)) pe_int (nomark _))))) (pss_one (psN (i:=1) (sc:=defScope zW) (M:=yL) rfl rfl (by decide +kernel) (pe_op op_add_str (pe_op op_add_str (pvA 1 (defScope zW) yL rfl rfl) pe_str) (yk (sc:=defScope zW) call_str_int rfl (by decide +kernel) T.xQ xW (pa_cons (pe_ix ix_tup (pvA 0 (defScope zW) yL rfl rfl) pe_int (fun zz zz=>rfl)) pa_nil))))) pss_nil)
      (wJ (ps_if (pt_cmpR op_ne (pe_ix ix_tup (pvA 0 (defScope zW) yL rfl rfl) (pe_un un_neg pe_int) (fun zz zz=>rfl)) pe_int (nomark _)) (pss_one (psN (i:=1) (sc:=defScope zW) (M:=yL) rfl rfl (by decide +kernel) (pe_op op_add_str (pe_op op_add_str (pvA 1 (defScope zW) yL rfl rfl) pe_str) (yk (sc:=defScope zW) call_str_int rfl (by decide +kernel) T.xQ xW (pa_cons (pe_ix ix_tup (pvA 0 (defScope zW) yL rfl rfl) (pe_un un_neg pe_int) (fun zz zz=>rfl)) pa_nil))))) pss_nil)
      (wJ (ps_if (pt_cmpR op_ne (pe_ix ix_tup (pvA 0 (defScope zW) yL rfl rfl) (pe_un un_neg pe_int) (fun zz zz=>rfl)) pe_int (nomark _)) (pss_one (psN (i:=1) (sc:=defScope zW) (M:=yL) rfl rfl (by decide +kernel) (pe_op op_add_str (pe_op op_add_str (pvA 1 (defScope zW) yL rfl rfl) pe_str) (yk (sc:=defScope zW) call_str_int rfl (by decide +kernel) T.xQ xW (pa_cons (pe_ix ix_tup (pvA 0 (defScope zW) yL rfl rfl) (pe_un un_neg pe_int) (fun zz zz=>rfl)) pa_nil))))) pss_nil)
      (pss_one (ps_ret (pvA 1 (defScope zW) yL rfl rfl)))))))),?_⟩
    try dsimp only [cxOf,Cx.nox]
    have hs : sizeLine=16777216:=sizeLine_eq
    obtain ⟨t,p,rfl,et,ep⟩:=CF.ze.tup hx
    rw [CT.zhm] at et
    have hw:=CT.zc7 hg
    have hwd:=CT.VE hg
    have lw : l.words.length≤8:=hwd.2.2
    have wl : ∀ r∈l.words,r.length≤60:=fun r hr=>by have:=(CW.yl.mp (hwd.1 r hr)).2.1; omega
    have lj:=CT.ZI " or " 60 l.words wl
    have lor : (" or " : Str).length=4:=by decide +kernel
    rw [lor] at lj
    have lj' : l.words.length * (60 + 4)≤8 * 64:=Nat.mul_le_mul_right _ lw
    have ln:=(yy hw.1 (CT.z5 hw.2)).most
    have lk : (CT.ze.kind' l).length≤4:=kind_len l
    have lb : (" " : Str).length=1:=by decide +kernel
    have i0 : atI (V.str (CT.ze.kind' l) :: .int (CT.ze.want l) :: V.ref p :: l.tl) 0=some (.str (CT.ze.kind' l)):=CF.z7
    have i1 : atI (V.str (CT.ze.kind' l) :: .int (CT.ze.want l) :: V.ref p :: l.tl) 1=some (.int (CT.ze.want l)):=atI_nat (j:=1) rfl
    have i2 : atI (V.str (CT.ze.kind' l) :: .int (CT.ze.want l) :: V.ref p :: l.tl) 2=some (.ref p):=atI_nat (j:=2) rfl
    have im : atI (V.str (CT.ze.kind' l) :: .int (CT.ze.want l) :: V.ref p :: l.tl) (-2)=some (.int (wI l)):=by cases l <;> rfl
    have iw : atI (V.str (CT.ze.kind' l) :: .int (CT.ze.want l) :: V.ref p :: l.tl) (-1)=some (.int (wQ l)):=by cases l <;> rfl
    have hmk : 0≤wI l∧wI l < 10 ^ 60:=by
      cases l with
      | frm n ws a b c=>exact hg.2.2.2.1
      | off n ws b c=>exact hg.2.2.2.1
    have hwo : 0≤wQ l∧wQ l < 10 ^ 60:=by
      cases l with
      | frm n ws a b c=>have h:=hg.2.2.2.2; exact ⟨by show 0≤c; omega,CT.z5 (by show c≤60; omega)⟩
      | off n ws b c=>have h:=hg.2.2.2.2; exact ⟨by show 0≤c; omega,CT.z5 (by show c≤60; omega)⟩
    have hS : SqL K H p (l.words.map V.str) := .inl ep
    rw [zg4] at q
    refine ⟨_,rfl,t,_,_,_,rfl,rfl,SqT.of et,i1,_,rfl,wO hw.1 (CT.z5 hw.2),_,_,rfl,rfl,?_,_,rfl,t,_,_,_,rfl,rfl,SqT.of et,i0,_,_,rfl,rfl,?_,_,_,rfl,rfl,?_,rfl,_,rfl,t,_,_,_,rfl,rfl,SqT.of et,i2,_,p,_,rfl,rfl,hS,?_,_,_,rfl,rfl,?_,?_⟩
    · rw [lb]; omega
    · rw [Str.length_append,lb]; omega
    · rw [Str.length_append,Str.length_append,lb]; omega
    · exact YE (fun r hr=>Nat.le_trans (wl r hr) (by decide)) (by omega) (by decide +kernel)
    · rw [jx]
      simp only [Str.length_append]
      omega
    have lbs : (yc l).length≤700:=by
      unfold yc CT.yN
      have : ("any" : Str).length=3:=by decide +kernel
      have ln' : (CT.num (CT.ze.want l)).length≤60:=ln
      split
      · simp only [Str.length_append]
        omega
      · simp only [Str.length_append]
        omega
    rw [jx]
    refine ⟨fun σ' H'=>σ'=[some (.ref t),some (.str (yc l))]∧H'=H,?_,?_⟩
    · refine ⟨_,rfl,t,_,_,_,rfl,rfl,SqT.of et,i2,.ref p,l.words.length,rfl,.inl ⟨_,hS,by rw [List.length_map]⟩,rfl,_,rfl,ite2 (fun z=>?_) (fun z=>?_)⟩
      · have zeq : l.words=[]:=List.eq_nil_of_length_eq_zero (by have:=V.int.inj (of_decide_eq_true z); omega)
        refine ⟨_,rfl,_,_,rfl,rfl,?_,?_,rfl⟩
        · have : ("any" : Str).length=3:=by decide +kernel
          simp only [Str.length_append]
          omega
        · unfold yc CT.yN
          rw [if_pos zeq,zeq]
          show _=[some (V.ref t),some (V.str _)]
          rw [show Str.join " or " []=Str.empty from rfl,Str.append_empty]
          rfl
      · have hne : l.words≠[]:=fun w=>z (by rw [w]; decide)
        refine ⟨?_,rfl⟩
        unfold yc CT.yN
        rw [if_neg hne]
        rfl
    rintro σ' H' ⟨rfl,rfl⟩
    refine ⟨fun σ' H''=>σ'=[some (.ref t),some (.str (yc l ++ jd l))]∧H''=H',?_,?_⟩
    · cases l with
      | off n ws b c =>
        refine ⟨_,rfl,t,_,_,_,rfl,rfl,SqT.of et,i0,rfl,_,rfl,iteF ⟨?_,rfl⟩⟩
        show _=[some (V.ref t),some (V.str (yc _ ++ Str.empty))]
        rw [Str.append_empty]
      | frm n ws a b c =>
        have ha : 0≤a∧a < 10 ^ 60:=hg.2.2.1
        have la:=(yy ha.1 ha.2).most
        have lt : (" level " : Str).length=7:=by decide +kernel
        refine ⟨_,rfl,t,_,_,_,rfl,rfl,SqT.of et,i0,rfl,_,rfl,iteT ⟨_,rfl,t,_,_,_,rfl,rfl,SqT.of et,atI_nat (j:=3) rfl,rfl,_,rfl,?_⟩⟩
        by_cases h0 : a=0
        · rw [decide_eq_true (show V.int a=V.int 0 by rw [h0])]
          refine iteF ⟨?_,rfl⟩
          show _=[some (V.ref t),some (V.str (yc _ ++ yI "level" a))]
          unfold yI
          rw [if_pos (by rw [CT.jE.1]; exact h0),Str.append_empty]
        · rw [decide_eq_false (show V.int a≠V.int 0 from fun z=>h0 (V.int.inj z))]
          refine iteT ⟨_,rfl,_,_,rfl,rfl,by omega,_,rfl,t,_,_,_,rfl,rfl,SqT.of et,atI_nat (j:=3) rfl,_,rfl,wO ha.1 ha.2,_,_,rfl,rfl,by rw [Str.length_append]; omega,?_,rfl⟩
          show [some (V.ref t),some (V.str (yc _ ++ " level " ++ CT.num a))]=[some (V.ref t),some (V.str (yc _ ++ yI "level" a))]
          rw [Str.append_assoc,JR (k:="level") (by decide +kernel) (by rw [CT.jE.1]; exact h0)]
    rintro σ' H'' ⟨rfl,rfl⟩
    have llev : (jd l).length≤67:=by
      cases l with
      | frm n ws a b c=>exact zc8 (by decide +kernel) hg.2.2.1.1 hg.2.2.1.2
      | off n ws b c=>exact Nat.zero_le _
    refine ⟨fun σ' H'=>σ'=[some (.ref t),some (.str (yc l ++ jd l ++ yI "mark" (wI l)))]∧H'=H'',?_,?_⟩
    · have la:=(yy hmk.1 hmk.2).most
      have lt : (" mark " : Str).length=6:=by decide +kernel
      refine ⟨_,rfl,_,rfl,t,_,_,_,rfl,rfl,SqT.of et,im,rfl,_,rfl,?_⟩
      by_cases h0 : wI l=0
      · rw [decide_eq_true (show V.int (wI l)=V.int 0 by rw [h0])]
        refine iteF ⟨?_,rfl⟩
        unfold yI
        rw [if_pos (by rw [CT.jE.2]; exact h0),Str.append_empty]
      · rw [decide_eq_false (show V.int (wI l)≠V.int 0 from fun z=>h0 (V.int.inj z))]
        refine iteT ⟨_,rfl,_,_,rfl,rfl,by rw [Str.length_append]; omega,_,rfl,_,rfl,t,_,_,_,rfl,rfl,SqT.of et,im,_,rfl,wO hmk.1 hmk.2,_,_,rfl,rfl,by simp only [Str.length_append]; omega,?_,rfl⟩
        show [some (V.ref t),some (V.str (yc l ++ jd l ++ " mark " ++ CT.num (wI l)))]=_
        rw [Str.append_assoc (yc l ++ jd l),JR (k:="mark") (by decide +kernel) (by rw [CT.jE.2]; exact h0)]
    rintro σ' H' ⟨rfl,rfl⟩
    have lmark:=zc8 (k:="mark") (by decide +kernel) hmk.1 hmk.2
    refine ⟨fun σ' H''=>σ'=[some (.ref t),some (.str (yc l ++ jd l ++ yI "mark" (wI l) ++ yI "worth" (wQ l)))]∧H''=H',?_,?_⟩
    · have la:=(yy hwo.1 hwo.2).most
      have lt : (" worth " : Str).length=7:=by decide +kernel
      refine ⟨_,rfl,_,rfl,t,_,_,_,rfl,rfl,SqT.of et,iw,rfl,_,rfl,?_⟩
      by_cases h0 : wQ l=1
      · rw [decide_eq_true (show V.int (wQ l)=V.int 1 by rw [h0])]
        refine iteF ⟨?_,rfl⟩
        unfold yI
        rw [if_pos (show wQ l=CT.leftOut "worth" by rw [Jd]; exact h0),Str.append_empty]
      · rw [decide_eq_false (show V.int (wQ l)≠V.int 1 from fun z=>h0 (V.int.inj z))]
        refine iteT ⟨_,rfl,_,_,rfl,rfl,by simp only [Str.length_append]; omega,_,rfl,_,rfl,t,_,_,_,rfl,rfl,SqT.of et,iw,_,rfl,wO hwo.1 hwo.2,_,_,rfl,rfl,by simp only [Str.length_append]; omega,?_,rfl⟩
        show [some (V.ref t),some (V.str (yc l ++ jd l ++ yI "mark" (wI l) ++ " worth " ++ CT.num (wQ l)))]=_
        rw [Str.append_assoc (yc l ++ jd l ++ yI "mark" (wI l)),JR (k:="worth") (by decide +kernel) (by rw [Jd]; exact h0)]
    rintro σ' H'' ⟨rfl,rfl⟩
    exact ⟨_,rfl,q⟩
noncomputable def Je (K : PySem.W.Frag) (n : Nat) (vs : List V) (H : Hp) (Q : VK):=fun (x : V) (r : CF.za)=>L23.A6 (vs=[x]) (zc K H x r.data) (r.depth < n) (r.Good) ((CT.zj r).length≤1000) (∀ H' p,Same H H'→H p=none→H' p=some (.lst ((CT.zj r).map V.str))→Q (.ref p) H')
noncomputable def YI (K : PySem.W.Frag) (n : Nat) : Sp:=fun vs H Q zz=>L23.E2 (Je K n vs H Q)
theorem zci {vs : List V} {H : Hp} {Q : VK} {E : XK} (h : YI K 0 vs H Q E) : False:=by
  obtain ⟨x,r,zz,zz,h,zz⟩:=h
  omega
theorem zg5 {n : Nat} {wm ZT : FuncData} (T : Txt K mg a)
    (Jf : FnOk P w K mg base CX0 1 a.wF ZT ["_law_leaf_here"] (zch K)) (Xm : Fun K "_law_leaf_line" "_law_leaf_line" zW a.wF ZT) (Jg : Binds K ZT ["_law_leaf_here"] [])
    (Jh : FnOk P w K mg base CX0 (2 + n) a.xP wm ["_law_rule_here"] (YI K n)) (jS : Fun K "_law_lines" "_law_lines" yw a.xP wm) (Z7 : Binds K wm ["_law_rule_here"] []) : FnOk P w K mg base CX0 (2 + n + 1) a.xP wm ["_law_rule_here"] (YI K (n + 1)):=by
  have F:=jS
  refine F.ok zjk (fun vs H Q E h=>?_) (fun cdv A outer s H vs Q E hr h=>?_)
  · obtain ⟨x,r,rfl,zz⟩:=h
    rfl
  · obtain ⟨x,r,rfl,hx,hd,hg,hm,q⟩:=h
    refine ⟨_,(pss_cons (ps_if (PW.pt (pw_or (pt_cmpR op_eq (pe_ix ix_tup (pvA 0 (defScope yw) wX rfl rfl) pe_int (fun zz zz=>rfl)) pe_str (nomark _)) (pw_or1 (pt_cmpR op_eq (pe_ix ix_tup (pvA 0 (defScope yw) wX rfl rfl) pe_int (fun zz zz=>rfl)) pe_str (nomark _))))) (pss_one (ps_ret (pe_lst (pa_cons (zh (sc:=defScope yw) Jf (hr.mono (by omega)) rfl (by decide +kernel) T.zkX Xm.kp Jg .nil pass0 (pa_cons (pvA 0 (defScope yw) wX rfl rfl) pa_nil)) pa_nil)))) pss_nil)
      (pss_cons (psN (i:=1) (sc:=defScope yw) (M:=wX) rfl rfl (by decide +kernel) (pe_lst (pa_cons pe_str pa_nil)))
      (wJ (ps_if (pt_cmpR op_eq (pe_ix ix_tup (pvA 0 (defScope yw) wX rfl rfl) pe_int (fun zz zz=>rfl)) pe_str (nomark _)) (pss_one (psN (i:=1) (sc:=defScope yw) (M:=wX) rfl rfl (by decide +kernel) (pe_lst (pa_cons (pe_op op_add_str (pe_op op_add_str pe_str (yk (sc:=defScope yw) call_str_int rfl (by decide +kernel) T.xQ xW (pa_cons (pe_ix ix_tup (pvA 0 (defScope yw) wX rfl rfl) pe_int (fun zz zz=>rfl)) pa_nil))) pe_str) pa_nil)))) pss_nil)
      (pss_cons (ps_for PassesOwn.never rfl (pi_list (pe_ix ix_tup (pvA 0 (defScope yw) wX rfl rfl) (pe_un un_neg pe_int) (fun zz zz=>rfl))) (pgN (i:=2) (sc:=defScope yw) (M:=wX) rfl rfl (by decide +kernel)) (pss_one (psN (i:=1) (sc:=defScope yw) (M:=wX) rfl rfl (by decide +kernel) (pe_op op_cat (pvA 1 (defScope yw) wX rfl rfl) (zh (sc:=defScope yw) Jh (hr.mono (by omega)) rfl (by decide +kernel) T.zht jS.kp Z7 .nil pass0 (pa_cons (pvA 2 (defScope yw) wX rfl rfl) pa_nil))))))
      (pss_one (ps_ret (pe_op op_cat (pvA 1 (defScope yw) wX rfl rfl) (pe_lst (pa_cons pe_str pa_nil))))))))),?_⟩
    try dsimp only [cxOf,Cx.nox]
    have hs : sizeLine=16777216:=sizeLine_eq
    obtain ⟨t,ys,rfl,et⟩:=CF.za.tup hx
    have hk:=CF.za.WT r
    refine xj (B:=r.yU=true→_) ?lf fun hL=>xj (B:=r.yU=false→_) ?gr fun hG=>⟨_,rfl,t,_,_,_,rfl,rfl,SqT.of et,CF.z7,rfl,_,rfl,ite2 (fun h1=>iteT (hL (by rw [← hk,decide_eq_true (V.str.inj (of_decide_eq_true h1)),Bool.true_or]))) (fun h1=>⟨_,rfl,t,_,_,_,rfl,rfl,SqT.of et,CF.z7,rfl,_,rfl,ite2 (fun h2=>hL (by rw [← hk,decide_eq_true (V.str.inj (of_decide_eq_true h2)),Bool.or_true])) (fun h2=>hG (by rw [← hk,decide_eq_false (fun z=>h1 (decide_eq_true (by rw [z]))),decide_eq_false (fun z=>h2 (decide_eq_true (by rw [z])))]; rfl))⟩)⟩
    case lf =>
      intro hl
      cases r with
      | z8 rs=>cases hl
      | z9 m rs=>cases hl
      | leaf l =>
        rw [show CT.zj (.leaf l)=[CT.xX l] by unfold CT.zj; rfl] at q
        unfold CF.za.data at hx
        unfold CF.za.Good at hg
        exact ⟨_,rfl,_,l,rfl,hx,hg,by first | decide | (simp only [List.length_cons,List.length_nil,List.length_append,List.length_map]; decide),fun p hp=>q _ p (Same.zp hp) hp upd_same⟩
    case gr =>
      intro hl
      obtain ⟨g,rs,er,hgs,zdO,hgn,zes,zlE⟩:=zfF hl hg
      obtain ⟨t',p,xs,e',et2,ep,hA⟩:=CF.za.grp hx hl
      cases e'
      have eh : r.head=CT.ghV g:=by rw [er]; exact CT.Wt g rs
      have eru : r.rules=rs:=by rw [er]; exact CT.W7 g rs
      rw [eh] at et2
      rw [eru] at hA
      rw [zes] at q hm
      rw [List.length_cons,List.length_append,List.length_singleton] at hm
      refine ⟨by first | decide | (simp only [List.length_cons,List.length_nil,List.length_append,List.length_map]; decide),fun p0 hp0=>?_⟩
      have s0:=Same.zp (o := .lst [V.str "all"]) hp0
      have e0 : upd H p0 (.lst [V.str "all"]) p0=some (.lst [V.str "all"]):=upd_same
      generalize upd H p0 (.lst [V.str "all"])=H0 at s0 e0 ⊢
      refine ⟨fun σ' H'=>∃ pl,L23.A4 (σ'=[some (.ref t),some (.ref pl),none]) (Same H H') (H pl=none) (H' pl=some (.lst [V.str (CT.yJ g)])),?_,?_⟩
      · cases g with
        | all=>exact ⟨_,rfl,t,_,_,_,rfl,rfl,SqT.of (s0 _ _ et2),CF.z7,rfl,_,rfl,iteF ⟨p0,rfl,s0,hp0,e0⟩⟩
        | some m =>
          have hn:=hgn m rfl
          have l3:=(yy (n:=m) (by omega) (CT.z5 (by omega))).most
          have lo : ("some " : Str).length=5:=by decide +kernel
          have lf : (" of" : Str).length=3:=by decide +kernel
          refine ⟨_,rfl,t,_,_,_,rfl,rfl,SqT.of (s0 _ _ et2),CF.z7,rfl,_,rfl,iteT ⟨_,rfl,t,_,_,_,rfl,rfl,SqT.of (s0 _ _ et2),atI_nat (j:=1) rfl,_,rfl,wO (by omega) (CT.z5 (by omega)),_,_,rfl,rfl,by omega,_,_,rfl,rfl,by rw [Str.length_append]; omega,by first | decide | (simp only [List.length_cons,List.length_nil,List.length_append,List.length_map]; decide),fun p1 hp1=>⟨p1,rfl,s0.trans (Same.zp hp1),s0.free hp1,upd_same⟩⟩⟩
      rintro σ' H1 ⟨pl,rfl,s1,npl,e1⟩
      refine ⟨_,rfl,_,rfl,t,_,_,_,rfl,rfl,SqT.of (s1 _ _ et2),atI_last _ _,p,rfl,⟨_,.inl (Rd.same s1 ep)⟩,?_⟩
      have lx:=zb.length hA
      rw [CF.za.zX,List.length_map] at lx
      refine for_list (xs:=xs) (fun i σ H'=>L23.E2 fun pf v=>L23.A4 (σ=[some (.ref t),some (.ref pf),v]) (Same H H') (H pf=none) (H' pf=some (.lst ((CT.yJ g :: CT.zq (rs.take i)).map V.str)))) ⟨pl,_,rfl,s1,npl,by rw [List.take_zero,CT.xh]; exact e1⟩ ?_ ?_ ?_
      · rintro i σ H' _ ⟨pf,v,_,s',_⟩
        exact .inl (Rd.same s' ep)
      · rintro i y σ H' hy ⟨pf,v,rfl,s3,npf,e3⟩
        obtain ⟨d,ed,hyd⟩:=zb.back hA hy
        rw [CF.za.zX,List.getElem?_map] at ed
        obtain ⟨r1,er1,rfl⟩:=Option.map_eq_some_iff.mp ed
        have hmem:=List.mem_of_getElem? er1
        have hd1:=CF.za.vW hmem
        have eT : CT.zq (rs.take (i + 1))=CT.zq (rs.take i) ++ CT.zj r1:=by
          rw [take_snoc er1,CT.wD,CT.XD]
        have hsum : (CT.zq (rs.take i)).length + (CT.zj r1).length≤(CT.zq rs).length:=by
          rw [← List.length_append,← eT]
          conv=>rhs; rw [← List.take_append_drop (i + 1) rs,CT.wD,List.length_append]
          exact Nat.le_add_right _ _
        refine ⟨_,rfl,_,rfl,y,r1,rfl,zc.up hyd s3,by omega,CF.za.vR.mp hgs r1 hmem,by omega,fun H4 p4 s4 np4 e4=>?_⟩
        refine ⟨pf,p4,_,_,rfl,rfl,s4 _ _ e3,e4,?_,fun p5 hp5=>⟨p5,_,rfl,(s3.trans s4).trans (Same.zp hp5),(s3.trans s4).free hp5,?_⟩⟩
        · rw [List.length_map,List.length_map,List.length_cons]
          omega
        · rw [upd_same,eT,← List.map_append,List.cons_append]
      · rintro σ H' ⟨pf,v,rfl,s3,npf,e3⟩
        rw [lx,List.take_length] at e3
        refine ⟨_,rfl,by first | decide | (simp only [List.length_cons,List.length_nil,List.length_append,List.length_map]; decide),fun pe hpe=>?_⟩
        have s4:=s3.trans (Same.zp (o := .lst [V.str "end"]) hpe)
        refine ⟨pf,pe,_,_,rfl,rfl,(Same.zp hpe) _ _ e3,upd_same,?_,fun p5 hp5=>q _ p5 (s4.trans (Same.zp hp5)) (s4.free hp5) ?_⟩
        · rw [List.length_map,List.length_cons,List.length_singleton]
          omega
        · rw [upd_same,← List.cons_append,List.map_append]
          rfl
theorem zjW {wm ZT : FuncData} (T : Txt K mg a)
    (Jf : FnOk P w K mg base CX0 1 a.wF ZT ["_law_leaf_here"] (zch K)) (Xm : Fun K "_law_leaf_line" "_law_leaf_line" zW a.wF ZT) (Jg : Binds K ZT ["_law_leaf_here"] [])
    (jS : Fun K "_law_lines" "_law_lines" yw a.xP wm) (Z7 : Binds K wm ["_law_rule_here"] []) : FnOk P w K mg base CX0 10 a.xP wm ["_law_rule_here"] (YI K 8):=by
  have h : ∀ n,FnOk P w K mg base CX0 (2 + n) a.xP wm ["_law_rule_here"] (YI K n):=fun n=>by
    induction n with
    | zero=>exact ⟨fun vs H Q E h=>(zci h).elim,fun A outer s H args us vs Q E zz zz zz zz h=>(zci h).elim⟩
    | succ n ih=>exact zg5 T Jf Xm Jg ih jS Z7
  exact h 8
inductive Pl : PyData→Prop
  | str (t : Str) : Pl (.str t)
  | int (n : Int) : Pl (.int n)
  | list (ds : List PyData) (h : ∀ d∈ds,Pl d) : Pl (.list ds)
  | tuple (ds : List PyData) (h : ∀ d∈ds,Pl d) : Pl (.tuple ds)
theorem zcj (l : List V) : l.filterMap (fun zz=>some (V.bl true))=(List.replicate l.length true).map V.bl:=by
  induction l with
  | nil=>rfl
  | cons a l ih =>
    rw [List.filterMap_cons,ih]
    rfl
theorem zc9 (k : Nat) : (List.replicate k true).all id=true:=by
  induction k with
  | zero=>rfl
  | succ k ih=>exact ih
theorem zg6 : PySem.W.kitAny K (.type "str") (["list","tuple"].map Value.type)=some false:=by kernel_rfl
theorem zg7 : PySem.W.kitAny K (.type "int") (["list","tuple"].map Value.type)=some false:=by kernel_rfl
theorem zfH : PySem.W.kitAny K (.type "list") (["list","tuple"].map Value.type)=some true:=by kernel_rfl
theorem zet : PySem.W.kitAny K (.type "tuple") (["list","tuple"].map Value.type)=some true:=by kernel_rfl
theorem Z9 : PySem.W.kitOne K (.type "int") (.type "str")=some false:=by kernel_rfl
theorem XN : PySem.W.kitOne K (.type "int") (.type "bool")=some false:=by kernel_rfl
noncomputable def Ji (K : PySem.W.Frag) (n : Nat) (vs : List V) (H : Hp) (Q : VK):=fun (x : V) (y : V) (d : PyData) (D : Hp)=>L23.A8 (vs=[x,y]) (Same D H) (zc K D x d) (zc K D y d) (d.depth < n) (CF.small d) (Pl d) (∀ H',Same H H'→Q (.bl true) H')
noncomputable def YJ (K : PySem.W.Frag) (n : Nat) : Sp:=fun vs H Q zz=>L23.E4 (Ji K n vs H Q)
theorem zck {vs : List V} {H : Hp} {Q : VK} {E : XK} (h : YJ K 0 vs H Q E) : False:=by
  obtain ⟨x,y,d,D,zz,zz,zz,zz,h,zz⟩:=h
  omega
theorem zg8 {n : Nat} {wu : FuncData} (T : Txt K mg a)
    (Xn : FnOk P w K mg base CX0 (1 + n) a.xr wu ["_law_found","_law_due"] (YJ K n)) (vI : Fun K "_law_alike" "_law_alike" zw a.xr wu) (jT : Binds K wu ["_law_found","_law_due"] []) : FnOk P w K mg base CX0 (1 + n + 1) a.xr wu ["_law_found","_law_due"] (YJ K (n + 1)):=by
  have F:=vI
  refine F.ok zjm (fun vs H Q E h=>?_) (fun cdv A outer s H vs Q E hr h=>?_)
  · obtain ⟨x,y,d,D,rfl,zz⟩:=h
    rfl
  · obtain ⟨x,y,d,D,rfl,sD,hx,hy,hd,hsm,hpl,q⟩:=h
    refine ⟨_,(pss_cons (ps_if (pt_val (zf (sc:=defScope zw) L9.zfa rfl (by decide +kernel) T.zG zM (pa_cons (pvA 1 (defScope zw) xq rfl rfl) (pa_cons (pe_tup (pa_cons (yP (v:=V.ty "list") (sc:=defScope zw) rfl (by decide +kernel) T.j0 Wq rfl) (pa_cons (yP (v:=V.ty "tuple") (sc:=defScope zw) rfl (by decide +kernel) T.wN jw rfl) pa_nil))) pa_nil)))) (pss_cons (ps_if (PW.pt (pw_or (pt_cmpR op_ne (zf (sc:=defScope zw) yO rfl (by decide +kernel) T.zG zM (pa_cons (pvA 0 (defScope zw) xq rfl rfl) (pa_cons (yP (v:=V.ty "list") (sc:=defScope zw) rfl (by decide +kernel) T.j0 Wq rfl) pa_nil))) (zf (sc:=defScope zw) yO rfl (by decide +kernel) T.zG zM (pa_cons (pvA 1 (defScope zw) xq rfl rfl) (pa_cons (yP (v:=V.ty "list") (sc:=defScope zw) rfl (by decide +kernel) T.j0 Wq rfl) pa_nil))) (nomark _)) (pw_or1 (pt_cmpR op_ne (zf (sc:=defScope zw) yO rfl (by decide +kernel) T.zG zM (pa_cons (pvA 0 (defScope zw) xq rfl rfl) (pa_cons (yP (v:=V.ty "tuple") (sc:=defScope zw) rfl (by decide +kernel) T.wN jw rfl) pa_nil))) (zf (sc:=defScope zw) yO rfl (by decide +kernel) T.zG zM (pa_cons (pvA 1 (defScope zw) xq rfl rfl) (pa_cons (yP (v:=V.ty "tuple") (sc:=defScope zw) rfl (by decide +kernel) T.wN jw rfl) pa_nil))) (nomark _))))) (pss_one (ps_ret pe_bl)) pss_nil)
      (pss_cons (ps_if (pt_cmpR op_ne (zf (sc:=defScope zw) call_len rfl (by decide +kernel) T.zF zy (pa_cons (pvA 0 (defScope zw) xq rfl rfl) pa_nil)) (zf (sc:=defScope zw) call_len rfl (by decide +kernel) T.zF zy (pa_cons (pvA 1 (defScope zw) xq rfl rfl) pa_nil)) (nomark _)) (pss_one (ps_ret pe_bl)) pss_nil)
      (pss_one (ps_ret (zf (sc:=defScope zw) (XI rfl) rfl (by decide +kernel) T.Y7 zbp (pa_cons (ju rfl (N:=["_law_k","_law_found","_law_due"]) (own:=1) (js:=[0,1]) (X:=(cxOf CX0 P w K mg base xq "_law_alike" (defScope zw) a.xr cdv A outer s H E).nox) (jW (defScope zw) xq rfl rfl (by decide +kernel)) (pi_range1 (glR (sc:=defScope zw) rfl (by decide +kernel)) T.jH (pa_cons (zf (sc:=defScope zw) call_len rfl (by decide +kernel) T.zF zy (pa_cons (pvA 1 (defScope zw) xq rfl rfl) pa_nil)) pa_nil)) (fun fp0 sx0 Hx0=>(pgN (i:=0) (sc:=zD _ (defScope zw)) (M:=["_law_k","_law_found","_law_due"]) rfl rfl (by decide +kernel))) (fun fp0 sx0 Hx0=>vc) (fun fp0 sx0 Hx0=>(zh (sc:=zD _ (defScope zw)) Xn (hr.mono (by omega)) rfl (by decide +kernel) T.zaE vI.kp jT .nil pass0 (pa_cons (pe_ix (kIx (r:=rIx) (K:=K) rfl ix_seq) (pvN (i:=1) (sc:=zD _ (defScope zw)) (M:=["_law_k","_law_found","_law_due"]) rfl rfl (by decide +kernel)) (pvN (i:=0) (sc:=zD _ (defScope zw)) (M:=["_law_k","_law_found","_law_due"]) rfl rfl (by decide +kernel)) (fun zz zz=>rfl)) (pa_cons (pe_ix (kIx (r:=rIx) (K:=K) rfl ix_seq) (pvN (i:=2) (sc:=zD _ (defScope zw)) (M:=["_law_k","_law_found","_law_due"]) rfl rfl (by decide +kernel)) (pvN (i:=0) (sc:=zD _ (defScope zw)) (M:=["_law_k","_law_found","_law_due"]) rfl rfl (by decide +kernel)) (fun zz zz=>rfl)) pa_nil))))) pa_nil)))))) pss_nil)
      (pss_cons (ps_if (pt_val (zf (sc:=defScope zw) yO rfl (by decide +kernel) T.zG zM (pa_cons (pvA 1 (defScope zw) xq rfl rfl) (pa_cons (yP (v:=V.ty "str") (sc:=defScope zw) rfl (by decide +kernel) T.xQ xW rfl) pa_nil)))) (pss_one (ps_ret (pe_and (zf (sc:=defScope zw) yO rfl (by decide +kernel) T.zG zM (pa_cons (pvA 0 (defScope zw) xq rfl rfl) (pa_cons (yP (v:=V.ty "str") (sc:=defScope zw) rfl (by decide +kernel) T.xQ xW rfl) pa_nil))) (pe_one (pe_cmpR op_eq (pvA 0 (defScope zw) xq rfl rfl) (pvA 1 (defScope zw) xq rfl rfl) (nomark _)))))) pss_nil)
      (pss_one (ps_ret (pe_and (zf (sc:=defScope zw) yO rfl (by decide +kernel) T.zG zM (pa_cons (pvA 0 (defScope zw) xq rfl rfl) (pa_cons (yP (v:=V.ty "int") (sc:=defScope zw) rfl (by decide +kernel) T.Wy zeR rfl) pa_nil))) (pe_and (pe_not (zf (sc:=defScope zw) yO rfl (by decide +kernel) T.zG zM (pa_cons (pvA 0 (defScope zw) xq rfl rfl) (pa_cons (yP (v:=V.ty "bool") (sc:=defScope zw) rfl (by decide +kernel) T.Wh zh1 rfl) pa_nil)))) (pe_one (pe_cmpR op_eq (pvA 0 (defScope zw) xq rfl rfl) (pvA 1 (defScope zw) xq rfl rfl) (nomark _))))))))),?_⟩
    try dsimp only [cxOf,Cx.nox]
    have hs : sizeLine=16777216:=sizeLine_eq
    cases hpl with
    | str z =>
      obtain rfl:=zc.str hx
      obtain rfl:=zc.str hy
      refine ⟨_,rfl,by first | decide | (simp only [List.length_cons,List.length_nil,List.length_append,List.length_map]; decide),fun tp htp=>?_⟩
      have s1:=Same.zp (o := .tup [V.ty "list",V.ty "tuple"]) htp
      refine ⟨_,"str",tp,["list","tuple"],false,rfl,rfl,upd_same,zg6,_,rfl,iteF ?_⟩
      refine ⟨_,rfl,_,"str","str",true,rfl,rfl,jO _,_,rfl,iteT ?_⟩
      refine ⟨_,rfl,_,"str","str",true,rfl,rfl,jO _,_,rfl,iteT ⟨_,rfl,_,rfl,rfl,?_⟩⟩
      rw [decide_eq_true rfl]
      exact q _ s1
    | int z =>
      obtain rfl:=zc.int hx
      obtain rfl:=zc.int hy
      refine ⟨_,rfl,by first | decide | (simp only [List.length_cons,List.length_nil,List.length_append,List.length_map]; decide),fun tp htp=>?_⟩
      have s1:=Same.zp (o := .tup [V.ty "list",V.ty "tuple"]) htp
      refine ⟨_,"int",tp,["list","tuple"],false,rfl,rfl,upd_same,zg7,_,rfl,iteF ?_⟩
      refine ⟨_,rfl,_,"int","str",false,rfl,rfl,Z9,_,rfl,iteF ?_⟩
      refine ⟨_,rfl,_,"int","int",true,rfl,rfl,zcJ _,_,rfl,iteT ⟨_,rfl,_,"int","bool",false,rfl,rfl,XN,_,rfl,_,rfl,iteT ⟨_,rfl,_,rfl,rfl,?_⟩⟩⟩
      rw [decide_eq_true rfl]
      exact q _ s1
    | list ds hds =>
      obtain ⟨px,xs,rfl,hpx,hAx⟩:=zc.lst hx
      obtain ⟨py,ys,rfl,hpy,hAy⟩:=zc.lst hy
      have lx:=zb.length hAx
      have ly:=zb.length hAy
      have Xl:=CF.Vx hsm
      have hl1:=Xl.1
      refine ⟨_,rfl,by first | decide | (simp only [List.length_cons,List.length_nil,List.length_append,List.length_map]; decide),fun tp htp=>?_⟩
      have s1:=Same.zp (o := .tup [V.ty "list",V.ty "tuple"]) htp
      have e1 : upd H tp (.tup [V.ty "list",V.ty "tuple"]) tp=some (.tup (["list","tuple"].map V.ty)):=upd_same
      generalize upd H tp (.tup [V.ty "list",V.ty "tuple"])=H1 at s1 e1 ⊢
      have sD1:=sD.trans s1
      have ex:=(Rd.same sD1 hpx)
      have ey:=(Rd.same sD1 hpy)
      refine ⟨_,"list",tp,["list","tuple"],true,rfl,(WE ey),e1,zfH,_,rfl,iteT ?_⟩
      refine ⟨_,rfl,_,"list","list",true,rfl,(WE ex),(j8 _),_,rfl,_,"list","list",true,rfl,(WE ey),(j8 _),rfl,_,rfl,iteF ?_⟩
      refine ⟨_,rfl,_,"list","tuple",false,rfl,(WE ex),YG,_,rfl,_,"list","tuple",false,rfl,(WE ey),YG,rfl,_,rfl,iteF ?_⟩
      refine ⟨_,rfl,.ref px,ds.length,rfl,.inl ⟨_,(Or.inl ex : SqL K _ _ _),lx.symm⟩,_,rfl,.ref py,ds.length,rfl,.inl ⟨_,(Or.inl ey : SqL K _ _ _),ly.symm⟩,rfl,_,rfl,?_⟩
      rw [decide_eq_true rfl]
      refine iteF ⟨_,rfl,.ref py,ds.length,rfl,.inl ⟨_,(Or.inl ey : SqL K _ _ _),ly.symm⟩,_,rfl,by omega,by omega,fun c hc=>?_⟩
      refine ZZ hc (XJ (P:=fun zz=>True)) (fun σ=>∃ v,σ=[v,some (.ref px),some (.ref py)]) (fun zz=>some (.bl true)) ⟨_,rfl⟩ (fun zz zz=>trivial) (by rw [List.length_map,List.length_range]; omega) ?_ ?_
      · rintro xv zs σ H2 R1 R0 hxv ⟨v,rfl⟩ s2 k1 k0
        obtain ⟨i,hi,rfl⟩:=List.mem_map.mp hxv
        rw [List.mem_range,Int.toNat_natCast] at hi
        rw [show (0 : Int) + (i : Nat)=(i : Nat) by omega]
        have hxi : xs[i]?=some (xs[i]'(by omega)):=List.getElem?_eq_getElem (by omega)
        have hyi : ys[i]?=some (ys[i]'(by omega)):=List.getElem?_eq_getElem (by omega)
        obtain ⟨d1,hd1,hdx⟩:=zb.back hAx hxi
        obtain ⟨d2,hd2,hdy⟩:=zb.back hAy hyi
        rw [hd1] at hd2
        obtain rfl:=Option.some.inj hd2
        have hm:=List.mem_of_getElem? hd1
        have ex2:=(Rd.same s2 ex)
        have ey2:=(Rd.same s2 ey)
        exact ⟨_,rfl,_,rfl,.inl ⟨px,_,_,_,rfl,rfl,(Or.inl ex2 : SqL K _ _ _),atI_nat (j:=i) hxi,_,rfl,_,rfl,.inl ⟨py,_,_,_,rfl,rfl,(Or.inl ey2 : SqL K _ _ _),atI_nat (j:=i) hyi,_,_,d1,D,rfl,sD1.trans s2,hdx,hdy,CF.Z2 hm (by exact hd),Xl.2 d1 hm,hds d1 hm,fun H3 s3=>k1 _ _ _ ⟨_,rfl⟩ rfl s3⟩⟩⟩
      · intro H2 s2 e2
        rw [zcj] at e2
        refine ⟨c,_,rfl,SqL.of e2,?_⟩
        rw [zc9]
        exact q _ (s1.trans s2)
    | tuple ds hds =>
      obtain ⟨px,xs,rfl,hpx,hAx⟩:=zc.tup hx
      obtain ⟨py,ys,rfl,hpy,hAy⟩:=zc.tup hy
      have lx:=zb.length hAx
      have ly:=zb.length hAy
      have Xl:=CF.WV hsm
      have hl1:=Xl.1
      refine ⟨_,rfl,by first | decide | (simp only [List.length_cons,List.length_nil,List.length_append,List.length_map]; decide),fun tp htp=>?_⟩
      have s1:=Same.zp (o := .tup [V.ty "list",V.ty "tuple"]) htp
      have e1 : upd H tp (.tup [V.ty "list",V.ty "tuple"]) tp=some (.tup (["list","tuple"].map V.ty)):=upd_same
      generalize upd H tp (.tup [V.ty "list",V.ty "tuple"])=H1 at s1 e1 ⊢
      have sD1:=sD.trans s1
      have ex:=(sD1 _ _ hpx)
      have ey:=(sD1 _ _ hpy)
      refine ⟨_,"tuple",tp,["list","tuple"],true,rfl,(.inr (.inl ⟨rfl,_,ey⟩)),e1,zet,_,rfl,iteT ?_⟩
      refine ⟨_,rfl,_,"tuple","list",false,rfl,(.inr (.inl ⟨rfl,_,ex⟩)),jK,_,rfl,_,"tuple","list",false,rfl,(.inr (.inl ⟨rfl,_,ey⟩)),jK,rfl,_,rfl,iteF ?_⟩
      refine ⟨_,rfl,_,"tuple","tuple",true,rfl,(.inr (.inl ⟨rfl,_,ex⟩)),(vV _),_,rfl,_,"tuple","tuple",true,rfl,(.inr (.inl ⟨rfl,_,ey⟩)),(vV _),rfl,_,rfl,iteF ?_⟩
      refine ⟨_,rfl,.ref px,ds.length,rfl,.inr ⟨_,(SqT.of ex),lx.symm⟩,_,rfl,.ref py,ds.length,rfl,.inr ⟨_,(SqT.of ey),ly.symm⟩,rfl,_,rfl,?_⟩
      rw [decide_eq_true rfl]
      refine iteF ⟨_,rfl,.ref py,ds.length,rfl,.inr ⟨_,(SqT.of ey),ly.symm⟩,_,rfl,by omega,by omega,fun c hc=>?_⟩
      refine ZZ hc (XJ (P:=fun zz=>True)) (fun σ=>∃ v,σ=[v,some (.ref px),some (.ref py)]) (fun zz=>some (.bl true)) ⟨_,rfl⟩ (fun zz zz=>trivial) (by rw [List.length_map,List.length_range]; omega) ?_ ?_
      · rintro xv zs σ H2 R1 R0 hxv ⟨v,rfl⟩ s2 k1 k0
        obtain ⟨i,hi,rfl⟩:=List.mem_map.mp hxv
        rw [List.mem_range,Int.toNat_natCast] at hi
        rw [show (0 : Int) + (i : Nat)=(i : Nat) by omega]
        have hxi : xs[i]?=some (xs[i]'(by omega)):=List.getElem?_eq_getElem (by omega)
        have hyi : ys[i]?=some (ys[i]'(by omega)):=List.getElem?_eq_getElem (by omega)
        obtain ⟨d1,hd1,hdx⟩:=zb.back hAx hxi
        obtain ⟨d2,hd2,hdy⟩:=zb.back hAy hyi
        rw [hd1] at hd2
        obtain rfl:=Option.some.inj hd2
        have hm:=List.mem_of_getElem? hd1
        have ex2:=(s2 _ _ ex)
        have ey2:=(s2 _ _ ey)
        exact ⟨_,rfl,_,rfl,.inr (.inl ⟨px,_,_,_,rfl,rfl,(SqT.of ex2),atI_nat (j:=i) hxi,_,rfl,_,rfl,.inr (.inl ⟨py,_,_,_,rfl,rfl,(SqT.of ey2),atI_nat (j:=i) hyi,_,_,d1,D,rfl,sD1.trans s2,hdx,hdy,CF.Z2 hm (by exact hd),Xl.2 d1 hm,hds d1 hm,fun H3 s3=>k1 _ _ _ ⟨_,rfl⟩ rfl s3⟩)⟩)⟩
      · intro H2 s2 e2
        rw [zcj] at e2
        refine ⟨c,_,rfl,SqL.of e2,?_⟩
        rw [zc9]
        exact q _ (s1.trans s2)
theorem zjX {wu : FuncData} (T : Txt K mg a)
    (vI : Fun K "_law_alike" "_law_alike" zw a.xr wu) (jT : Binds K wu ["_law_found","_law_due"] []) : FnOk P w K mg base CX0 21 a.xr wu ["_law_found","_law_due"] (YJ K 20):=by
  have h : ∀ n,FnOk P w K mg base CX0 (1 + n) a.xr wu ["_law_found","_law_due"] (YJ K n):=fun n=>by
    induction n with
    | zero=>exact ⟨fun vs H Q E h=>(zck h).elim,fun A outer s H args us vs Q E zz zz zz zz h=>(zck h).elim⟩
    | succ n ih=>exact zg8 T  ih vI jT
  exact h 20
theorem ziu (l : CF.ze) : Pl l.data:=by
  have hw : ∀ ws : List Str,Pl (.list (ws.map .str)):=fun ws => .list _ fun d hd=>by
    obtain ⟨t,zz,rfl⟩:=List.mem_map.mp hd
    exact .str t
  cases l with
  | frm n ws a b c =>
    refine .tuple _ fun d hd=>?_
    simp only [List.mem_cons,List.not_mem_nil,or_false] at hd
    rcases hd with rfl | rfl | rfl | rfl | rfl | rfl
    · exact .str _
    · exact .int _
    · exact hw ws
    · exact .int _
    · exact .int _
    · exact .int _
  | off n ws b c =>
    refine .tuple _ fun d hd=>?_
    simp only [List.mem_cons,List.not_mem_nil,or_false] at hd
    rcases hd with rfl | rfl | rfl | rfl | rfl
    · exact .str _
    · exact .int _
    · exact hw ws
    · exact .int _
    · exact .int _
mutual
theorem zda : ∀ r : CF.za,Pl r.data
  | .leaf l=>by unfold CF.za.data; exact ziu l
  | .z8 rs=>by
    unfold CF.za.data
    refine .tuple _ fun d hd=>?_
    simp only [List.mem_cons,List.not_mem_nil,or_false] at hd
    rcases hd with rfl | rfl
    · exact .str _
    · exact .list _ (Vh rs)
  | .z9 n rs=>by
    unfold CF.za.data
    refine .tuple _ fun d hd=>?_
    simp only [List.mem_cons,List.not_mem_nil,or_false] at hd
    rcases hd with rfl | rfl | rfl
    · exact .str _
    · exact .int _
    · exact .list _ (Vh rs)
theorem Vh : ∀ rs : List CF.za,∀ d∈CF.za.zQ rs,Pl d
  | [],d,hd=>by unfold CF.za.zQ at hd; cases hd
  | r :: rs,d,hd=>by
    unfold CF.za.zQ at hd
    rcases List.mem_cons.mp hd with rfl | hd
    · exact zda r
    · exact Vh rs d hd
end
theorem zfI (c : CF.yM) : Pl c.data:=by
  refine .tuple _ fun d hd=>?_
  simp only [List.mem_cons,List.not_mem_nil,or_false] at hd
  rcases hd with rfl | rfl
  · refine .list _ fun d hd=>?_
    obtain ⟨p,zz,rfl⟩:=List.mem_map.mp hd
    refine .tuple _ fun d hd=>?_
    simp only [List.mem_cons,List.not_mem_nil,or_false] at hd
    rcases hd with rfl | rfl
    · exact .str _
    · exact .int _
  · exact zda _
theorem zfJ {r : CF.za} (h : r.yU=true) : r.kind≠"all"∧r.kind≠"some":=by
  cases r with
  | z8 rs=>cases h
  | z9 m rs=>cases h
  | leaf l=>cases l with
    | frm n ws a b c=>show ("from" : Str)≠"all"∧("from" : Str)≠"some"; decide +kernel
    | off n ws b c=>show ("of" : Str)≠"all"∧("of" : Str)≠"some"; decide +kernel
theorem zg9 {r : CF.za} (h : r.yU=false) : r.kind="all"∨r.kind="some":=by
  cases r with
  | leaf l=>cases h
  | z8 rs=>exact .inl rfl
  | z9 m rs=>exact .inr rfl
theorem zhh : ("\n" : Str)=⟨#[10]⟩:=by decide +kernel
theorem zfK {c : CF.yM} (h : c.Good) : (Str.join "\n" (CT.zO c)).length≤1048576∧PySem.Txt.split (Str.join "\n" (CT.zO c)) "\n"=CT.zO c∧zfD (CT.zO c):=by
  obtain ⟨h1,h2,h3⟩:=CT.Yh h
  refine ⟨?_,?_,by omega,fun row JP=>?_⟩
  · have hl:=CT.ZI "\n" 2000 (CT.zO c) fun x hx=>by
      obtain ⟨ps,hp⟩:=h1 x hx
      exact hp.len
    rw [show ("\n" : Str).length=1 by decide +kernel] at hl
    have : (CT.zO c).length * 2001≤300 * 2001:=Nat.mul_le_mul_right _ h2
    omega
  · rw [zhh]
    exact Xz h3 (fun x hx=>by obtain ⟨ps,hp⟩:=h1 x hx; exact hp.zlw) rfl
  · obtain ⟨ps,hp⟩:=h1 row JP
    have:=hp.len
    have hf:=hp.few
    rw [hp.split]
    exact ⟨by omega,hp.ne,fun t ht=>⟨(hp.bare t ht).2.2.1,Nat.le_trans (hp.bare t ht).2.2.2 (by decide)⟩,by omega⟩
noncomputable def zfL (K : PySem.W.Frag) (vs : List V) (H : Hp) (Q : VK):=fun (a : Addr) (ns : List Int)=>L23.A4 (vs=[.ref a]) (SqL K H a (ns.map V.int)) (ns.length≤63) (∀ H',Q (.bl true) H')
noncomputable def Jj (K : PySem.W.Frag) : Sp:=fun vs H Q zz=>L23.E2 (zfL K vs H Q)
noncomputable def D0 : Hp:=fun zz=>none
theorem sD0 (H : Hp) : Same D0 H:=fun zz zz e=>nomatch e
theorem zjY {f : Addr} {fd wu wk zcl wm zcm zcn : FuncData} (F : Fun K "law" "law" zB f fd) (T : Txt K mg a)
    (Xn : FnOk P w K mg base CX0 21 a.xr wu ["_law_found","_law_due"] (YJ K 20)) (vI : Fun K "_law_alike" "_law_alike" zw a.xr wu) (jT : Binds K wu ["_law_found","_law_due"] [])
    (WG : FnOk P w K mg base CX0 21 a.xx wk ["_law_thing"] (YH K 20)) (jc : Fun K "_law_copy" "_law_copy" ye a.xx wk) (Zq : Binds K wk ["_law_thing"] [])
    (zeu : FnOk P w K mg base CX0 4 a.Y6 zcl ["_law_script"] (zfw K)) (Jk : Fun K "_law_course" "_law_course" yj a.Y6 zcl) (zew : Binds K zcl ["_law_script"] [])
    (Jh : FnOk P w K mg base CX0 10 a.xP wm ["_law_rule_here"] (YI K 8)) (jS : Fun K "_law_lines" "_law_lines" yw a.xP wm) (Z7 : Binds K wm ["_law_rule_here"] [])
    (zaJ : FnOk P w K mg base CX0 8 a.Yl zcm ["text"] (zfE K)) (WH : Fun K "read_course" "read_course" y9 a.Yl zcm) (zaK : Binds K zcm ["text"] [])
    (zex : FnOk P w K mg base CX0 11 a.Ym zcn ["course"] (zfG K)) (Jl : Fun K "show_course" "show_course" xC a.Ym zcn) (zey : Binds K zcn ["course"] []) : FnOk P w K mg base CX0 22 f fd ["_law_script"] (Jj K):=by
  refine F.ok zjn (fun vs H Q E h=>?_) (fun cdv A outer s H vs Q E hr h=>?_)
  · obtain ⟨ad,ns,rfl,zz⟩:=h
    rfl
  · obtain ⟨ad,ns,rfl,hS,hl,q⟩:=h
    refine ⟨_,(pss_cons (psN (i:=1) (sc:=defScope zB) (M:=yi) rfl rfl (by decide +kernel) (zh (sc:=defScope zB) zeu (hr.mono (by decide)) rfl (by decide +kernel) T.zkW Jk.kp zew .nil pass0 (pa_cons (pvA 0 (defScope zB) yi rfl rfl) pa_nil)))
      (pss_cons (psN (i:=2) (sc:=defScope zB) (M:=yi) rfl rfl (by decide +kernel) (pe_op op_cat (ju rfl (N:=["_law_one"]) (own:=1) (js:=[]) (X:=(cxOf CX0 P w K mg base yi "law" (defScope zB) f cdv A outer s H E).nox) (jW (defScope zB) yi rfl rfl (by decide +kernel)) (pi_list (pe_ix ix_tup (pvA 1 (defScope zB) yi rfl rfl) pe_int (fun zz zz=>rfl))) (fun fp0 sx0 Hx0=>(pgN (i:=0) (sc:=zD _ (defScope zB)) (M:=["_law_one"]) rfl rfl (by decide +kernel))) (fun fp0 sx0 Hx0=>vc) (fun fp0 sx0 Hx0=>(pe_op op_add_str (pe_op op_add_str (pe_op op_add_str pe_str (yk (sc:=zD _ (defScope zB)) call_str_int rfl (by decide +kernel) T.xQ xW (pa_cons (pe_ix (kIx (r:=rIxT) (K:=K) rfl ix_tup) (pvN (i:=0) (sc:=zD _ (defScope zB)) (M:=["_law_one"]) rfl rfl (by decide +kernel)) pe_int (fun zz zz=>rfl)) pa_nil))) pe_str) (pe_ix (kIx (r:=rIxT) (K:=K) rfl ix_tup) (pvN (i:=0) (sc:=zD _ (defScope zB)) (M:=["_law_one"]) rfl rfl (by decide +kernel)) pe_int (fun zz zz=>rfl))))) (zh (sc:=defScope zB) Jh (hr.mono (by decide)) rfl (by decide +kernel) T.zht jS.kp Z7 .nil pass0 (pa_cons (pe_ix ix_tup (pvA 1 (defScope zB) yi rfl rfl) pe_int (fun zz zz=>rfl)) pa_nil))))
      (pss_cons (psN (i:=3) (sc:=defScope zB) (M:=yi) rfl rfl (by decide +kernel) (zh (sc:=defScope zB) WG (hr.mono (by decide)) rfl (by decide +kernel) T.zdN jc.kp Zq .nil pass0 (pa_cons (pvA 1 (defScope zB) yi rfl rfl) pa_nil)))
      (pss_cons (psN (i:=4) (sc:=defScope zB) (M:=yi) rfl rfl (by decide +kernel) (zh (sc:=defScope zB) zex (hr.mono (by decide)) rfl (by decide +kernel) T.zkU Jl.kp zey .nil pass0 (pa_cons (pvA 3 (defScope zB) yi rfl rfl) pa_nil)))
      (pss_cons (ps_if (PW.pt (pw_or (pt_not (pt_val (zf (sc:=defScope zB) yO rfl (by decide +kernel) T.zG zM (pa_cons (pvA 4 (defScope zB) yi rfl rfl) (pa_cons (yP (v:=V.ty "str") (sc:=defScope zB) rfl (by decide +kernel) T.xQ xW rfl) pa_nil))))) (pw_or (pt_cmpR op_ne (pvA 4 (defScope zB) yi rfl rfl) (pe_bm PySem.F.plainAttrs_str PySem.F.slot_str_join PySem.F.type_str_join Yw pe_str (pa_cons (pvA 2 (defScope zB) yi rfl rfl) pa_nil)) (nomark _)) (pw_or1 (pt_not (pt_val (zh (sc:=defScope zB) Xn (hr.mono (by decide)) rfl (by decide +kernel) T.zaE vI.kp jT .nil pass0 (pa_cons (pvA 3 (defScope zB) yi rfl rfl) (pa_cons (pvA 1 (defScope zB) yi rfl rfl) pa_nil))))))))) (pss_one (ps_ret pe_bl)) pss_nil)
      (pss_cons (psN (i:=5) (sc:=defScope zB) (M:=yi) rfl rfl (by decide +kernel) (zh (sc:=defScope zB) zaJ (hr.mono (by decide)) rfl (by decide +kernel) T.zhp WH.kp zaK .nil pass0 (pa_cons (pvA 4 (defScope zB) yi rfl rfl) pa_nil)))
      (pss_cons (ps_if (pt_not (pt_val (zh (sc:=defScope zB) Xn (hr.mono (by decide)) rfl (by decide +kernel) T.zaE vI.kp jT .nil pass0 (pa_cons (pvA 5 (defScope zB) yi rfl rfl) (pa_cons (pvA 1 (defScope zB) yi rfl rfl) pa_nil))))) (pss_one (ps_ret pe_bl)) pss_nil)
      (pss_cons (ps_expr (pe_bm PySem.F.plainAttrs_list PySem.F.slot_list_append PySem.F.type_list_append mt_append (pe_ix ix_tup (pvA 5 (defScope zB) yi rfl rfl) pe_int (fun zz zz=>rfl)) (pa_cons (pe_tup (pa_cons pe_str (pa_cons pe_int pa_nil))) pa_nil)))
      (wJ (ps_if (PW.pt (pw_or (pt_cmpR op_eq (pe_ix ix_tup (pe_ix ix_tup (pvA 5 (defScope zB) yi rfl rfl) pe_int (fun zz zz=>rfl)) pe_int (fun zz zz=>rfl)) pe_str (nomark _)) (pw_or1 (pt_cmpR op_eq (pe_ix ix_tup (pe_ix ix_tup (pvA 5 (defScope zB) yi rfl rfl) pe_int (fun zz zz=>rfl)) pe_int (fun zz zz=>rfl)) pe_str (nomark _))))) (pss_one (ps_expr (pe_bm0 PySem.F.plainAttrs_list PySem.F.slot_list_clear PySem.F.type_list_clear mt_clear (pe_ix ix_tup (pe_ix ix_tup (pvA 5 (defScope zB) yi rfl rfl) pe_int (fun zz zz=>rfl)) (pe_un un_neg pe_int) (fun zz zz=>rfl))))) pss_nil)
      (pss_one (ps_ret (zh (sc:=defScope zB) Xn (hr.mono (by decide)) rfl (by decide +kernel) T.zaE vI.kp jT .nil pass0 (pa_cons (zh (sc:=defScope zB) zaJ (hr.mono (by decide)) rfl (by decide +kernel) T.zhp WH.kp zaK .nil pass0 (pa_cons (pvA 4 (defScope zB) yi rfl rfl) pa_nil)) (pa_cons (pvA 1 (defScope zB) yi rfl rfl) pa_nil)))))))))))))),?_⟩
    try dsimp only [cxOf,Cx.nox]
    have hs : sizeLine=16777216:=sizeLine_eq
    refine ⟨_,rfl,ad,ns,D0,rfl,hS,hl,sD0 H,fun c D1 H1 v1 G1 d1 hc=>?_⟩
    have hdp:=hc.depth
    have hpl:=zfI c
    obtain ⟨txl,txs,txr⟩:=zfK hc
    have zeo:=CT.zdG hc
    have hrw:=CT.YX hc.rule
    have hrl : (CT.zj c.rule).length≤16 * 13:=Nat.le_trans hrw (Nat.mul_le_mul hc.leaves (by have:=hc.deep; omega))
    obtain ⟨hro,hr3,zz⟩:=CT.Yh hc
    have hfew:=hc.few
    obtain ⟨t1,po,y1,rfl,et1,⟨xo,hpo,hAo⟩,zz,dy1⟩:=V5 d1
    have hxl:=zb.length hAo
    rw [List.length_map] at hxl
    refine ⟨_,rfl,t1,_,_,_,rfl,rfl,SqT.of (G1.dh _ _ et1),rfl,po,rfl,⟨xo,.inl (Rd.same G1.dh hpo)⟩,fun c0 hc0=>?_⟩
    refine Yx (K:=K) (D:=D1) G1.dh hc0 vv (fun σ=>∃ v,σ=[v]) (c.zl.map fun p=>some (PyData.str (CT.xN p))) (by rw [List.length_map,hxl]) ⟨_,rfl⟩ (fun H' s' => .inl (Rd.same s' (Rd.same G1.dh hpo))) (by omega) ?_ ?_
    · rintro i x r σ D2 H2 R1 R0 hx1 hr ⟨v,rfl⟩ G k1 k0
      obtain ⟨p,tt,hp,rfl,ett⟩:=zb3 (zb.up hAo G.dd) hx1
      rw [List.getElem?_map,hp] at hr
      obtain rfl:=Option.some.inj hr
      have hm:=List.mem_of_getElem? hp
      have hw:=CW.yl.mp (hc.words p hm)
      have hn:=hc.nums p hm
      have l1:=hw.2.1
      have l3:=(yy (n:=p.2) (by omega) (CT.z5 (by omega))).most
      have lb : (" " : Str).length=1:=by decide +kernel
      have lo : ("often " : Str).length=6:=by decide +kernel
      have zjZ:=G.dh _ _ ett
      refine ⟨_,rfl,tt,_,_,_,rfl,rfl,SqT.of zjZ,atI_nat (j:=1) rfl,_,rfl,wO (by omega) (CT.z5 (by omega)),_,_,rfl,rfl,by omega,_,_,rfl,rfl,by rw [Str.length_append]; omega,_,rfl,tt,_,_,_,rfl,rfl,SqT.of zjZ,CF.z7,_,_,rfl,rfl,by simp only [Str.length_append]; omega,?_⟩
      exact k1 _ _ _ _ _ rfl ⟨_,rfl⟩ (Gr.refl G.dh) zc.ofStr
    intro D2 H2 ys2 G2 e2 n2 hA2
    rw [show (c.zl.map fun p=>some (PyData.str (CT.xN p)))=((c.zl.map CT.xN).map PyData.str).map some by simp,filterMap_some] at hA2
    rw [zb.Zs hA2] at e2
    have sD2 : Same D1 H2:=G1.dh.trans G2.hh
    refine ⟨_,rfl,t1,_,_,_,rfl,rfl,SqT.of (sD2 _ _ et1),rfl,y1,c.rule,rfl,zc.up dy1 sD2,Nat.lt_succ_of_le (Nat.le_trans hc.deep (by decide)),hc.rule,by omega,fun H3 p3 s3 np3 e3=>?_⟩
    refine ⟨c0,p3,_,_,rfl,rfl,s3 _ _ e2,e3,?_,fun p4 hp4=>?_⟩
    · rw [List.length_map,List.length_map,List.length_map]
      omega
    have e4 : upd H3 p4 (.lst (List.map V.str (List.map CT.xN c.zl) ++ List.map V.str (CT.zj c.rule))) p4=some (.lst ((CT.zO c).map V.str)):=by
      rw [upd_same]
      unfold CT.zO
      rw [List.map_append]
    have sD4:=(sD2.trans s3).trans (Same.zp (o := .lst (List.map V.str (List.map CT.xN c.zl) ++ List.map V.str (CT.zj c.rule))) hp4)
    generalize upd H3 p4 (.lst (List.map V.str (List.map CT.xN c.zl) ++ List.map V.str (CT.zj c.rule)))=H4 at e4 sD4 ⊢
    clear e2 e3 s3 hA2 G2 sD2 n2 hAo hpo
    refine ⟨_,rfl,_,_,D1,rfl,sD4,d1,by omega,hc.small,fun v5 D5 H5 g5 d5=>?_⟩
    have d15:=zc.gr d1 g5
    refine ⟨_,rfl,v5,c,D5,rfl,g5.dh,d5,hc,fun H6 s6=>?_⟩
    have sD6:=g5.dh.trans s6
    have e6:=s6 _ _ (g5.hh _ _ e4)
    refine ⟨_,rfl,_,"str","str",true,rfl,rfl,jO _,_,rfl,⟨_,rfl,rfl,_,rfl,"\n",p4,_,rfl,rfl,SqL.of e6,YE (fun r hr=>?_) (by omega) (by decide +kernel),rfl,_,rfl,?_⟩⟩
    · obtain ⟨ps,h⟩:=hro r hr
      exact h.len
    rw [jx,decide_eq_true rfl]
    refine ⟨_,rfl,_,rfl,v5,.ref t1,c.data,D5,rfl,sD6,d5,d15,by omega,hc.small,hpl,fun H7 s7=>⟨_,rfl,?_⟩⟩
    have sD7:=sD6.trans s7
    have mk : ∀ {D' : Hp} {tt po : Addr} {xo : List V} {y : V},D' tt=some (.tup [.ref po,y])→D' po=some (.lst xo)→zb K D' xo (c.zl.map CF.yf)→zc K D' y c.rule.data→zc K D' (.ref tt) c.data:=fun {D' tt po xo y} e1 e2 h1 h2=>by
      have hw : zc K D' (.ref po) (.list (c.zl.map CF.yf)):=by unfold zc; exact ⟨po,_,rfl,.inl e2,h1⟩
      exact zc.mkT (zb.cons hw (zb.cons h2 zb.nil)) e1 (Same.refl _)
    refine ⟨_,rfl,_,_,D5,_,c.rule,rfl,sD7,txl,txs,txr,zeo,rfl,fun D8 H8 t8 po8 xo8 y8 G8 et8 zco zlF hA8 dy8 hg8=>?_⟩
    have d8:=mk et8 zco hA8 dy8
    have d18:=zc.gr d15 G8
    refine ⟨_,rfl,_,rfl,_,.ref t1,c.data,D8,rfl,G8.dh,d8,d18,by omega,hc.small,hpl,fun H9 s9=>⟨_,rfl,?_⟩⟩
    have sD9:=G8.dh.trans s9
    have nD5 : D5 po8=none:=zZ sD7 zlF
    have len8 : xo8.length=c.zl.length:=(zb.length hA8).trans (by rw [List.length_map])
    refine ⟨_,rfl,t8,_,_,_,rfl,rfl,SqT.of (sD9 _ _ et8),rfl,.inl ⟨rfl,_,SqL.of (sD9 _ _ zco)⟩,by first | decide | (simp only [List.length_cons,List.length_nil,List.length_append,List.length_map]; decide),fun p10 zd0=>?_⟩
    have s10:=sD9.trans (Same.zp (o := .tup [.str "other",.int 3]) zd0)
    refine ⟨po8,_,_,rfl,rfl,s10 _ _ zco,by omega,?_⟩
    have ne8 : t8≠po8:=fun z=>by rw [z,zco] at et8; cases et8
    obtain ⟨ty,ysy,rfl,ety⟩:=CF.za.tup dy8
    have ney : ty≠po8:=fun z=>by rw [z,zco] at ety; cases ety
    have s11 : Same D5 (upd (upd H9 p10 (.tup [.str "other",.int 3])) po8 (.lst (xo8 ++ [.ref p10]))):=xg (G8.dd.trans s10) nD5
    have t11 : upd (upd H9 p10 (.tup [.str "other",.int 3])) po8 (.lst (xo8 ++ [.ref p10])) t8=some (.tup [.ref po8,.ref ty]):=by rw [upd_ne ne8]; exact s10 _ _ et8
    have y11 : upd (upd H9 p10 (.tup [.str "other",.int 3])) po8 (.lst (xo8 ++ [.ref p10])) ty=some (.tup (.str c.rule.kind :: ysy)):=by rw [upd_ne ney]; exact s10 _ _ ety
    have g11 : c.rule.yU=false→∃ hd p xs,upd (upd H9 p10 (.tup [.str "other",.int 3])) po8 (.lst (xo8 ++ [.ref p10])) ty=some (.tup (hd ++ [.ref p]))∧upd (upd H9 p10 (.tup [.str "other",.int 3])) po8 (.lst (xo8 ++ [.ref p10])) p=some (.lst xs)∧D5 p=none:=fun hl=>by
      obtain ⟨ty',p,xs,ey,e1,e2,e3⟩:=hg8 hl
      cases ey
      refine ⟨c.rule.head,p,?_⟩
      by_cases hpp : p=po8
      · rw [hpp] at e1 ⊢
        exact ⟨_,by rw [upd_ne ney]; exact s10 _ _ e1,upd_same,nD5⟩
      · exact ⟨xs,by rw [upd_ne ney]; exact s10 _ _ e1,by rw [upd_ne hpp]; exact s10 _ _ e2,zZ sD7 e3⟩
    generalize upd (upd H9 p10 (.tup [.str "other",.int 3])) po8 (.lst (xo8 ++ [.ref p10]))=H11 at s11 t11 y11 g11 ⊢
    refine ⟨fun σ' H'=>σ'=[some (.ref ad),some (.ref t1),some (.ref p4),some v5,some (.str (Str.join "\n" (CT.zO c))),some (.ref t8)]∧Same D5 H',?_,?_⟩
    · cases hl : c.rule.yU with
      | true =>
        obtain ⟨k1,k2⟩:=zfJ hl
        refine ⟨_,rfl,t8,_,_,_,rfl,rfl,SqT.of t11,rfl,ty,_,_,_,rfl,rfl,SqT.of y11,CF.z7,rfl,_,rfl,?_⟩
        rw [decide_eq_false (fun z=>k1 (V.str.inj z))]
        refine iteF ⟨_,rfl,t8,_,_,_,rfl,rfl,SqT.of t11,rfl,ty,_,_,_,rfl,rfl,SqT.of y11,CF.z7,rfl,_,rfl,?_⟩
        rw [decide_eq_false (fun z=>k2 (V.str.inj z))]
        exact iteF ⟨rfl,s11⟩
      | false =>
        obtain ⟨hd,p,xs,ey,ep,np⟩:=g11 hl
        refine xj (B:=?B) ?main fun hM=>⟨_,rfl,t8,_,_,_,rfl,rfl,SqT.of t11,rfl,ty,_,_,_,rfl,rfl,SqT.of y11,CF.z7,rfl,_,rfl,ite2 (fun z=>iteT ?t) (fun z=>⟨_,rfl,t8,_,_,_,rfl,rfl,SqT.of t11,rfl,ty,_,_,_,rfl,rfl,SqT.of y11,CF.z7,rfl,_,rfl,?e⟩)⟩
        case t=>exact hM
        case e =>
          have k2 : c.rule.kind="some":=(zg9 hl).resolve_left fun w=>z (decide_eq_true (by rw [w]))
          rw [decide_eq_true (by rw [k2])]
          exact iteT hM
        case main =>
          exact ⟨_,rfl,t8,_,_,_,rfl,rfl,SqT.of t11,rfl,_,rfl,ty,_,_,_,rfl,rfl,SqT.of ey,atI_last _ _,.inl ⟨rfl,_,SqL.of ep⟩,p,_,rfl,rfl,ep,rfl,xg s11 np⟩
    rintro σ' H12 ⟨rfl,s12⟩
    refine ⟨_,rfl,_,_,D5,_,c.rule,rfl,s12,txl,txs,txr,zeo,rfl,fun D13 H13 t13 po13 xo13 y13 G13 zlG zli npo13 zlH zlI hg13=>?_⟩
    exact ⟨_,rfl,_,.ref t1,c.data,D13,rfl,G13.dh,mk zlG zli zlH zlI,zc.gr d15 G13,by omega,hc.small,hpl,fun H14 s14=>q _⟩
end
theorem all_mk {l : PySem.W.OpenLaw} {w : World} {K : PySem.W.Frag} {h : Heap} {mg : Str→Option Value} {fa : Addr} (X : K.In h) (G : h.Ns mainGlobals mg) (hfa : mg "law"=some (.ref fa))
    {zd : Addr}
    {zez : Addr} {od1 an1 : Option Addr} {sl1 : Array (Option Value)} {oc1 kV1 dc1 pm1 cd1 ct1 : Value}
    {zaL : Addr} {od2 an2 : Option Addr} {sl2 : Array (Option Value)} {oc2 kV2 dc2 pm2 cd2 ct2 : Value}
    {zaM : Addr} {od3 an3 : Option Addr} {sl3 : Array (Option Value)} {oc3 kV3 dc3 pm3 cd3 ct3 : Value}
    {zaN : Addr} {od4 an4 : Option Addr} {sl4 : Array (Option Value)} {oc4 kV4 dc4 pm4 cd4 ct4 : Value}
    {zaO : Addr} {od5 an5 : Option Addr} {sl5 : Array (Option Value)} {oc5 kV5 dc5 pm5 cd5 ct5 : Value}
    {zaP : Addr} {od6 an6 : Option Addr} {sl6 : Array (Option Value)} {oc6 kV6 dc6 pm6 cd6 ct6 : Value}
    {zeA : Addr} {od7 an7 : Option Addr} {sl7 : Array (Option Value)} {oc7 kV7 dc7 pm7 cd7 ct7 : Value}
    {zaQ : Addr} {od8 an8 : Option Addr} {sl8 : Array (Option Value)} {oc8 kV8 dc8 pm8 cd8 ct8 : Value}
    {zaR : Addr} {od9 an9 : Option Addr} {sl9 : Array (Option Value)} {oc9 kV9 dc9 pm9 cd9 ct9 : Value}
    {zaS : Addr} {zlJ zlK : Option Addr} {zlL : Array (Option Value)} {zlM zlN zlO zlP zj0 zlQ : Value}
    {zaT : Addr} {zlR zlS : Option Addr} {zlT : Array (Option Value)} {zlU zlV zlW zlX zj1 zlY : Value}
    {zaU : Addr} {zlZ zl0 : Option Addr} {zl1 : Array (Option Value)} {zl2 zl3 zl4 zl5 zj2 zl6 : Value}
    {zcp : Addr} {zl7 zl8 : Option Addr} {zl9 : Array (Option Value)} {zma zmb zmc zmd zj3 zme : Value}
    {zcq : Addr} {zmf zmg : Option Addr} {zmh : Array (Option Value)} {zmi zmj zmk zml zj4 zmm : Value}
    {zcr : Addr} {zmn zmo : Option Addr} {zmp : Array (Option Value)} {zmq zmr zms zmt zj5 zmu : Value}
    {zcs : Addr} {zmv zmw : Option Addr} {zmx : Array (Option Value)} {zmy zmz zmA zmB zj6 zmC : Value}
    {zct : Addr} {zmD zmE : Option Addr} {zmF : Array (Option Value)} {zmG zmH zmI zmJ zj7 zmK : Value}
    {zcu : Addr} {zmL zmM : Option Addr} {zmN : Array (Option Value)} {zmO zmP zmQ zmR zj8 zmS : Value}
    {zcv : Addr} {zmT zmU : Option Addr} {zmV : Array (Option Value)} {zmW zmX zmY zmZ zj9 zm0 : Value}
    {zcw : Addr} {zm1 zm2 : Option Addr} {zm3 : Array (Option Value)} {zm4 zm5 zm6 zm7 zka zm8 : Value}
    {zaV : Addr} {zm9 zna : Option Addr} {znb : Array (Option Value)} {znc znd zne znf zkb zng : Value}
    {zaW : Addr} {znh zni : Option Addr} {znj : Array (Option Value)} {znk znl znm znn zkc zno : Value}
    {zaX : Addr} {znp znq : Option Addr} {znr : Array (Option Value)} {zns znt znu znv zkd znw : Value}
    {zaY : Addr} {znx zny : Option Addr} {znz : Array (Option Value)} {znA znB znC znD zke znE : Value}
    {zaZ : Addr} {znF znG : Option Addr} {znH : Array (Option Value)} {znI znJ znK znL zkf znM : Value}
    {za0 : Addr} {znN znO : Option Addr} {znP : Array (Option Value)} {znQ znR znS znT zkg znU : Value}
    {za1 : Addr} {znV znW : Option Addr} {znX : Array (Option Value)} {znY znZ zn0 zn1 zkh zn2 : Value}
    {za2 : Addr} {zn3 zn4 : Option Addr} {zn5 : Array (Option Value)} {zn6 zn7 zn8 zn9 zki zoa : Value}
    {za3 : Addr} {zob zoc : Option Addr} {zod : Array (Option Value)} {zoe zof zog zoh zkj zoi : Value}
    {za4 : Addr} {zoj zok : Option Addr} {zol : Array (Option Value)} {zom zon zoo zop zkk zoq : Value}
    {za5 : Addr} {zor zos : Option Addr} {zot : Array (Option Value)} {zou zov zow zox zkl zoy : Value}
    {za6 : Addr} {zoz zoA : Option Addr} {zoB : Array (Option Value)} {zoC zoD zoE zoF zkm zoG : Value}
    {za7 : Addr} {zoH zoI : Option Addr} {zoJ : Array (Option Value)} {zoK zoL zoM zoN zkn zoO : Value}
    {za8 : Addr} {zoP zoQ : Option Addr} {zoR : Array (Option Value)} {zoS zoT zoU zoV zko zoW : Value}
    {za9 : Addr} {zoX zoY : Option Addr} {zoZ : Array (Option Value)} {zo0 zo1 zo2 zo3 zkp zo4 : Value}
    {zba : Addr} {zo5 zo6 : Option Addr} {zo7 : Array (Option Value)} {zo8 zo9 zpa zpb zkq zpc : Value}
    {zeB : Addr} {zpd zkr : Option Addr} {zpe : Array (Option Value)} {zpf zks zkt zku zha zkv : Value}
    {zfM : Tok}
    {Jm : Addr} {JS : Array DictEntry} {zdb : Nat} {Vi : Addr} {zfN : Option Addr} {Xo : Array Value} {zcx : Nat} {zfO : Array (Option Value)} {Vj : Addr} {zfP : Option Addr} {Xp : Array Value} {zcy : Nat} {zfQ : Array (Option Value)}
    {Yq : Addr} {zcz : Option Addr} {Zd : Array Value} {W0 : Nat} {zcA : Array (Option Value)}
    {Zr : Addr} {Yr : Array DictEntry} {W2 : Nat}
    {zfR : Tok}
    {JT : Tok}
    {zav : Tok}
    {zaw : Tok}
    {JU : Tok}
    {zcB : Tok}
    {zax : Tok}
    {zcC : Tok}
    {zcQ : Tok}
    {zcD : Tok}
    {vo : Addr} {je : Array DictEntry} {Z8 : Nat}
    (we : PySem.W.nsIn K mainGlobals "CourseReader"=some (some (.ref zd)))
    (a1 : PySem.W.nsIn K mainGlobals "is_leaf"=some (some (.ref zez))) (l1 : K.lookup zez=some ⟨oc1,od1,.func (PySem.W.fnOf "is_leaf" "is_leaf" (defArgs YZ) (defBody YZ) (defScope YZ) .none kV1 dc1 pm1 an1 cd1 ct1),sl1⟩) (c1 : PySem.W.codeIn K cd1 "is_leaf"=true) (k1 : PySem.W.keepIn K (.ref zez)=true)
    (a2 : PySem.W.nsIn K mainGlobals "rules_of"=some (some (.ref zaL))) (l2 : K.lookup zaL=some ⟨oc2,od2,.func (PySem.W.fnOf "rules_of" "rules_of" (defArgs vC) (defBody vC) (defScope vC) .none kV2 dc2 pm2 an2 cd2 ct2),sl2⟩) (c2 : PySem.W.codeIn K cd2 "rules_of"=true) (k2 : PySem.W.keepIn K (.ref zaL)=true)
    (a3 : PySem.W.nsIn K mainGlobals "only_of"=some (some (.ref zaM))) (l3 : K.lookup zaM=some ⟨oc3,od3,.func (PySem.W.fnOf "only_of" "only_of" (defArgs wB) (defBody wB) (defScope wB) .none kV3 dc3 pm3 an3 cd3 ct3),sl3⟩) (c3 : PySem.W.codeIn K cd3 "only_of"=true) (k3 : PySem.W.keepIn K (.ref zaM)=true)
    (a4 : PySem.W.nsIn K mainGlobals "is_word"=some (some (.ref zaN))) (l4 : K.lookup zaN=some ⟨oc4,od4,.func (PySem.W.fnOf "is_word" "is_word" (defArgs zV) (defBody zV) (defScope zV) .none kV4 dc4 pm4 an4 cd4 ct4),sl4⟩) (c4 : PySem.W.codeIn K cd4 "is_word"=true) (k4 : PySem.W.keepIn K (.ref zaN)=true)
    (a5 : PySem.W.nsIn K mainGlobals "is_number"=some (some (.ref zaO))) (l5 : K.lookup zaO=some ⟨oc5,od5,.func (PySem.W.fnOf "is_number" "is_number" (defArgs xO) (defBody xO) (defScope xO) .none kV5 dc5 pm5 an5 cd5 ct5),sl5⟩) (c5 : PySem.W.codeIn K cd5 "is_number"=true) (k5 : PySem.W.keepIn K (.ref zaO)=true)
    (a6 : PySem.W.nsIn K mainGlobals "read_number"=some (some (.ref zaP))) (l6 : K.lookup zaP=some ⟨oc6,od6,.func (PySem.W.fnOf "read_number" "read_number" (defArgs yZ) (defBody yZ) (defScope yZ) .none kV6 dc6 pm6 an6 cd6 ct6),sl6⟩) (c6 : PySem.W.codeIn K cd6 "read_number"=true) (k6 : PySem.W.keepIn K (.ref zaP)=true)
    (a7 : PySem.W.nsIn K mainGlobals "are_words"=some (some (.ref zeA))) (l7 : K.lookup zeA=some ⟨oc7,od7,.func (PySem.W.fnOf "are_words" "are_words" (defArgs xD) (defBody xD) (defScope xD) .none kV7 dc7 pm7 an7 cd7 ct7),sl7⟩) (c7 : PySem.W.codeIn K cd7 "are_words"=true) (k7 : PySem.W.keepIn K (.ref zeA)=true)
    (a8 : PySem.W.nsIn K mainGlobals "words_ahead"=some (some (.ref zaQ))) (l8 : K.lookup zaQ=some ⟨oc8,od8,.func (PySem.W.fnOf "words_ahead" "words_ahead" (defArgs yQ) (defBody yQ) (defScope yQ) .none kV8 dc8 pm8 an8 cd8 ct8),sl8⟩) (c8 : PySem.W.codeIn K cd8 "words_ahead"=true) (k8 : PySem.W.keepIn K (.ref zaQ)=true)
    (a9 : PySem.W.nsIn K mainGlobals "read_values"=some (some (.ref zaR))) (l9 : K.lookup zaR=some ⟨oc9,od9,.func (PySem.W.fnOf "read_values" "read_values" (defArgs zS) (defBody zS) (defScope zS) .none kV9 dc9 pm9 an9 cd9 ct9),sl9⟩) (c9 : PySem.W.codeIn K cd9 "read_values"=true) (k9 : PySem.W.keepIn K (.ref zaR)=true)
    (a10 : PySem.W.nsIn K mainGlobals "read_leaf"=some (some (.ref zaS))) (l10 : K.lookup zaS=some ⟨zlM,zlJ,.func (PySem.W.fnOf "read_leaf" "read_leaf" (defArgs zJ) (defBody zJ) (defScope zJ) .none zlN zlO zlP zlK zj0 zlQ),zlL⟩) (c10 : PySem.W.codeIn K zj0 "read_leaf"=true) (k10 : PySem.W.keepIn K (.ref zaS)=true)
    (a11 : PySem.W.nsIn K mainGlobals "read_group"=some (some (.ref zaT))) (l11 : K.lookup zaT=some ⟨zlU,zlR,.func (PySem.W.fnOf "read_group" "read_group" (defArgs xB) (defBody xB) (defScope xB) .none zlV zlW zlX zlS zj1 zlY),zlT⟩) (c11 : PySem.W.codeIn K zj1 "read_group"=true) (k11 : PySem.W.keepIn K (.ref zaT)=true)
    (a12 : PySem.W.nsIn K mainGlobals "least_rules"=some (some (.ref zaU))) (l12 : K.lookup zaU=some ⟨zl2,zlZ,.func (PySem.W.fnOf "least_rules" "least_rules" (defArgs Zn) (defBody Zn) (defScope Zn) .none zl3 zl4 zl5 zl0 zj2 zl6),zl1⟩) (c12 : PySem.W.codeIn K zj2 "least_rules"=true) (k12 : PySem.W.keepIn K (.ref zaU)=true)
    (a13 : PySem.W.findIn K (.ref zd) "__init__"=some (some (.ref zcp))) (l13 : K.lookup zcp=some ⟨zma,zl7,.func (PySem.W.fnOf "__init__" "CourseReader.__init__" (defArgs ZJ) (defBody ZJ) (defScope ZJ) .none zmb zmc zmd zl8 zj3 zme),zl9⟩) (c13 : PySem.W.codeIn K zj3 "CourseReader.__init__"=true) (k13 : PySem.W.keepIn K (.ref zcp)=true)
    (a14 : PySem.W.findIn K (.ref zd) "take"=some (some (.ref zcq))) (l14 : K.lookup zcq=some ⟨zmi,zmf,.func (PySem.W.fnOf "take" "CourseReader.take" (defArgs xE) (defBody xE) (defScope xE) .none zmj zmk zml zmg zj4 zmm),zmh⟩) (c14 : PySem.W.codeIn K zj4 "CourseReader.take"=true) (k14 : PySem.W.keepIn K (.ref zcq)=true)
    (a15 : PySem.W.findIn K (.ref zd) "take_often"=some (some (.ref zcr))) (l15 : K.lookup zcr=some ⟨zmq,zmn,.func (PySem.W.fnOf "take_often" "CourseReader.take_often" (defArgs yo) (defBody yo) (defScope yo) .none zmr zms zmt zmo zj5 zmu),zmp⟩) (c15 : PySem.W.codeIn K zj5 "CourseReader.take_often"=true) (k15 : PySem.W.keepIn K (.ref zcr)=true)
    (a16 : PySem.W.findIn K (.ref zd) "take_group"=some (some (.ref zcs))) (l16 : K.lookup zcs=some ⟨zmy,zmv,.func (PySem.W.fnOf "take_group" "CourseReader.take_group" (defArgs v9) (defBody v9) (defScope v9) .none zmz zmA zmB zmw zj6 zmC),zmx⟩) (c16 : PySem.W.codeIn K zj6 "CourseReader.take_group"=true) (k16 : PySem.W.keepIn K (.ref zcs)=true)
    (a17 : PySem.W.findIn K (.ref zd) "take_end"=some (some (.ref zct))) (l17 : K.lookup zct=some ⟨zmG,zmD,.func (PySem.W.fnOf "take_end" "CourseReader.take_end" (defArgs wU) (defBody wU) (defScope wU) .none zmH zmI zmJ zmE zj7 zmK),zmF⟩) (c17 : PySem.W.codeIn K zj7 "CourseReader.take_end"=true) (k17 : PySem.W.keepIn K (.ref zct)=true)
    (a18 : PySem.W.findIn K (.ref zd) "take_leaf"=some (some (.ref zcu))) (l18 : K.lookup zcu=some ⟨zmO,zmL,.func (PySem.W.fnOf "take_leaf" "CourseReader.take_leaf" (defArgs vK) (defBody vK) (defScope vK) .none zmP zmQ zmR zmM zj8 zmS),zmN⟩) (c18 : PySem.W.codeIn K zj8 "CourseReader.take_leaf"=true) (k18 : PySem.W.keepIn K (.ref zcu)=true)
    (a19 : PySem.W.findIn K (.ref zd) "has_room"=some (some (.ref zcv))) (l19 : K.lookup zcv=some ⟨zmW,zmT,.func (PySem.W.fnOf "has_room" "CourseReader.has_room" (defArgs ja) (defBody ja) (defScope ja) .none zmX zmY zmZ zmU zj9 zm0),zmV⟩) (c19 : PySem.W.codeIn K zj9 "CourseReader.has_room"=true) (k19 : PySem.W.keepIn K (.ref zcv)=true)
    (a20 : PySem.W.findIn K (.ref zd) "put_rule"=some (some (.ref zcw))) (l20 : K.lookup zcw=some ⟨zm4,zm1,.func (PySem.W.fnOf "put_rule" "CourseReader.put_rule" (defArgs vL) (defBody vL) (defScope vL) .none zm5 zm6 zm7 zm2 zka zm8),zm3⟩) (c20 : PySem.W.codeIn K zka "CourseReader.put_rule"=true) (k20 : PySem.W.keepIn K (.ref zcw)=true)
    (a21 : PySem.W.nsIn K mainGlobals "read_course"=some (some (.ref zaV))) (l21 : K.lookup zaV=some ⟨znc,zm9,.func (PySem.W.fnOf "read_course" "read_course" (defArgs y9) (defBody y9) (defScope y9) .none znd zne znf zna zkb zng),znb⟩) (c21 : PySem.W.codeIn K zkb "read_course"=true) (k21 : PySem.W.keepIn K (.ref zaV)=true)
    (a22 : PySem.W.nsIn K mainGlobals "show_leaf"=some (some (.ref zaW))) (l22 : K.lookup zaW=some ⟨znk,znh,.func (PySem.W.fnOf "show_leaf" "show_leaf" (defArgs yb) (defBody yb) (defScope yb) .none znl znm znn zni zkc zno),znj⟩) (c22 : PySem.W.codeIn K zkc "show_leaf"=true) (k22 : PySem.W.keepIn K (.ref zaW)=true)
    (a23 : PySem.W.nsIn K mainGlobals "show_head"=some (some (.ref zaX))) (l23 : K.lookup zaX=some ⟨zns,znp,.func (PySem.W.fnOf "show_head" "show_head" (defArgs vE) (defBody vE) (defScope vE) .none znt znu znv znq zkd znw),znr⟩) (c23 : PySem.W.codeIn K zkd "show_head"=true) (k23 : PySem.W.keepIn K (.ref zaX)=true)
    (a24 : PySem.W.nsIn K mainGlobals "rows_of_rule"=some (some (.ref zaY))) (l24 : K.lookup zaY=some ⟨znA,znx,.func (PySem.W.fnOf "rows_of_rule" "rows_of_rule" (defArgs yE) (defBody yE) (defScope yE) .none znB znC znD zny zke znE),znz⟩) (c24 : PySem.W.codeIn K zke "rows_of_rule"=true) (k24 : PySem.W.keepIn K (.ref zaY)=true)
    (a25 : PySem.W.nsIn K mainGlobals "show_course"=some (some (.ref zaZ))) (l25 : K.lookup zaZ=some ⟨znI,znF,.func (PySem.W.fnOf "show_course" "show_course" (defArgs xC) (defBody xC) (defScope xC) .none znJ znK znL znG zkf znM),znH⟩) (c25 : PySem.W.codeIn K zkf "show_course"=true) (k25 : PySem.W.keepIn K (.ref zaZ)=true)
    (a26 : PySem.W.nsIn K mainGlobals "_law_cell_at"=some (some (.ref za0))) (l26 : K.lookup za0=some ⟨znQ,znN,.func (PySem.W.fnOf "_law_cell_at" "_law_cell_at" (defArgs vF) (defBody vF) (defScope vF) .none znR znS znT znO zkg znU),znP⟩) (c26 : PySem.W.codeIn K zkg "_law_cell_at"=true) (k26 : PySem.W.keepIn K (.ref za0)=true)
    (a27 : PySem.W.nsIn K mainGlobals "_law_word"=some (some (.ref za1))) (l27 : K.lookup za1=some ⟨znY,znV,.func (PySem.W.fnOf "_law_word" "_law_word" (defArgs yF) (defBody yF) (defScope yF) .none znZ zn0 zn1 znW zkh zn2),znX⟩) (c27 : PySem.W.codeIn K zkh "_law_word"=true) (k27 : PySem.W.keepIn K (.ref za1)=true)
    (a28 : PySem.W.nsIn K mainGlobals "_law_number"=some (some (.ref za2))) (l28 : K.lookup za2=some ⟨zn6,zn3,.func (PySem.W.fnOf "_law_number" "_law_number" (defArgs jP) (defBody jP) (defScope jP) .none zn7 zn8 zn9 zn4 zki zoa),zn5⟩) (c28 : PySem.W.codeIn K zki "_law_number"=true) (k28 : PySem.W.keepIn K (.ref za2)=true)
    (a29 : PySem.W.nsIn K mainGlobals "_law_leaf"=some (some (.ref za3))) (l29 : K.lookup za3=some ⟨zoe,zob,.func (PySem.W.fnOf "_law_leaf" "_law_leaf" (defArgs zE) (defBody zE) (defScope zE) .none zof zog zoh zoc zkj zoi),zod⟩) (c29 : PySem.W.codeIn K zkj "_law_leaf"=true) (k29 : PySem.W.keepIn K (.ref za3)=true)
    (a30 : PySem.W.nsIn K mainGlobals "_law_closed"=some (some (.ref za4))) (l30 : K.lookup za4=some ⟨zom,zoj,.func (PySem.W.fnOf "_law_closed" "_law_closed" (defArgs yR) (defBody yR) (defScope yR) .none zon zoo zop zok zkk zoq),zol⟩) (c30 : PySem.W.codeIn K zkk "_law_closed"=true) (k30 : PySem.W.keepIn K (.ref za4)=true)
    (a31 : PySem.W.nsIn K mainGlobals "_law_rule"=some (some (.ref za5))) (l31 : K.lookup za5=some ⟨zou,zor,.func (PySem.W.fnOf "_law_rule" "_law_rule" (defArgs zx) (defBody zx) (defScope zx) .none zov zow zox zos zkl zoy),zot⟩) (c31 : PySem.W.codeIn K zkl "_law_rule"=true) (k31 : PySem.W.keepIn K (.ref za5)=true)
    (a32 : PySem.W.nsIn K mainGlobals "_law_course"=some (some (.ref za6))) (l32 : K.lookup za6=some ⟨zoC,zoz,.func (PySem.W.fnOf "_law_course" "_law_course" (defArgs yj) (defBody yj) (defScope yj) .none zoD zoE zoF zoA zkm zoG),zoB⟩) (c32 : PySem.W.codeIn K zkm "_law_course"=true) (k32 : PySem.W.keepIn K (.ref za6)=true)
    (a33 : PySem.W.nsIn K mainGlobals "_law_leaf_line"=some (some (.ref za7))) (l33 : K.lookup za7=some ⟨zoK,zoH,.func (PySem.W.fnOf "_law_leaf_line" "_law_leaf_line" (defArgs zW) (defBody zW) (defScope zW) .none zoL zoM zoN zoI zkn zoO),zoJ⟩) (c33 : PySem.W.codeIn K zkn "_law_leaf_line"=true) (k33 : PySem.W.keepIn K (.ref za7)=true)
    (a34 : PySem.W.nsIn K mainGlobals "_law_lines"=some (some (.ref za8))) (l34 : K.lookup za8=some ⟨zoS,zoP,.func (PySem.W.fnOf "_law_lines" "_law_lines" (defArgs yw) (defBody yw) (defScope yw) .none zoT zoU zoV zoQ zko zoW),zoR⟩) (c34 : PySem.W.codeIn K zko "_law_lines"=true) (k34 : PySem.W.keepIn K (.ref za8)=true)
    (a35 : PySem.W.nsIn K mainGlobals "_law_copy"=some (some (.ref za9))) (l35 : K.lookup za9=some ⟨zo0,zoX,.func (PySem.W.fnOf "_law_copy" "_law_copy" (defArgs ye) (defBody ye) (defScope ye) .none zo1 zo2 zo3 zoY zkp zo4),zoZ⟩) (c35 : PySem.W.codeIn K zkp "_law_copy"=true) (k35 : PySem.W.keepIn K (.ref za9)=true)
    (a36 : PySem.W.nsIn K mainGlobals "_law_alike"=some (some (.ref zba))) (l36 : K.lookup zba=some ⟨zo8,zo5,.func (PySem.W.fnOf "_law_alike" "_law_alike" (defArgs zw) (defBody zw) (defScope zw) .none zo9 zpa zpb zo6 zkq zpc),zo7⟩) (c36 : PySem.W.codeIn K zkq "_law_alike"=true) (k36 : PySem.W.keepIn K (.ref zba)=true)
    (a37 : PySem.W.nsIn K mainGlobals "law"=some (some (.ref zeB))) (l37 : K.lookup zeB=some ⟨zpf,zpd,.func (PySem.W.fnOf "law" "law" (defArgs zB) (defBody zB) (defScope zB) .none zks zkt zku zkr zha zkv),zpe⟩) (c37 : PySem.W.codeIn K zha "law"=true) (k37 : PySem.W.keepIn K (.ref zeB)=true)
    (jf : PySem.W.plainGet K zd Str.empty=true) (jg : PySem.W.hasDictIn K zd=true) (jh : PySem.W.plainOver K zd=true) (ji : PySem.W.findIn K (.ref zd) "__setattr__"=some (some (.builtin "object.__setattr__")))
    (vO : PySem.W.makesIn K zd=true) (zeC : PySem.W.isFn K (.ref zcp)=true) (jj : PySem.W.keepIn K (.ref zd)=true)
    (zeD : PySem.W.isFn K (.ref zcq)=true)
    (zeE : PySem.W.isFn K (.ref zcr)=true)
    (zeF : PySem.W.isFn K (.ref zcs)=true)
    (zeG : PySem.W.isFn K (.ref zct)=true)
    (zeH : PySem.W.isFn K (.ref zcu)=true)
    (zeI : PySem.W.isFn K (.ref zcv)=true)
    (zeJ : PySem.W.isFn K (.ref zcw)=true)
    (zH : PySem.W.findIn K (.ref zd) "oftens"=some none)
    (zm : PySem.W.findIn K (.ref zd) "groups"=some none)
    (zL : PySem.W.findIn K (.ref zd) "leaves"=some none)
    (zK : PySem.W.findIn K (.ref zd) "rule"=some none)
    (Y7 : PySem.W.nsIn K mainGlobals "all"=some none)
    (Wh : PySem.W.nsIn K mainGlobals "bool"=some none)
    (vB : PySem.W.nsIn K mainGlobals "enumerate"=some none)
    (Wy : PySem.W.nsIn K mainGlobals "int"=some none)
    (zG : PySem.W.nsIn K mainGlobals "isinstance"=some none)
    (zF : PySem.W.nsIn K mainGlobals "len"=some none)
    (j0 : PySem.W.nsIn K mainGlobals "list"=some none)
    (jH : PySem.W.nsIn K mainGlobals "range"=some none)
    (VI : PySem.W.nsIn K mainGlobals "set"=some none)
    (xQ : PySem.W.nsIn K mainGlobals "str"=some none)
    (wN : PySem.W.nsIn K mainGlobals "tuple"=some none)
    (VJ : PySem.W.nsIn K mainGlobals "zip"=some none)
    (Xq : PySem.W.nsIn K mainGlobals "FIGURES"=some (some (.str "0123456789" zfM)))
    (JV : PySem.W.nsIn K mainGlobals "KEYS"=some (some (.ref Jm))) (JW : K.lookup Jm=some ⟨.type "dict",none,.dict JS zdb,#[]⟩) (JX : (Jm == sysModules)=false) (JY : JS.toList.map L9.Yy=([("from",V.ref Vi),("of",V.ref Vj)] : List (Str × V)).map some)
    (Wn : K.lookup Vi=some ⟨.type "tuple",zfN,.seq Xo zcx,zfO⟩) (Xr : Xo.toList.map absV=[V.str "level",V.str "mark",V.str "worth"].map some)
    (Wo : K.lookup Vj=some ⟨.type "tuple",zfP,.seq Xp zcy,zfQ⟩) (Xs : Xp.toList.map absV=[V.str "mark",V.str "worth"].map some)
    (ZU : PySem.W.nsIn K mainGlobals "KEY_WORDS"=some (some (.ref Yq))) (ZV : K.lookup Yq=some ⟨.type "tuple",zcz,.seq Zd W0,zcA⟩) (jU : Zd.toList.map absV=[V.str "often",V.str "all",V.str "some",V.str "of",V.str "from",V.str "any",V.str "or",V.str "level",V.str "mark",V.str "worth",V.str "end"].map some)
    (Ys : PySem.W.nsIn K mainGlobals "LEFT_OUT"=some (some (.ref Zr))) (Yt : K.lookup Zr=some ⟨.type "dict",none,.dict Yr W2,#[]⟩) (Yu : (Zr == sysModules)=false) (Yv : Yr.toList.map L9.Yy=([("level",V.int 0),("mark",V.int 0),("worth",V.int 1)] : List (Str × V)).map some)
    (Xu : PySem.W.nsIn K mainGlobals "LETTERS"=some (some (.str "abcdefghijklmnopqrstuvwxyz" zfR)))
    (jk : PySem.W.nsIn K mainGlobals "MOST_FIGURES"=some (some (.int 60 JT)))
    (jL : PySem.W.nsIn K mainGlobals "MOST_GROUPS"=some (some (.int 6 zav)))
    (jM : PySem.W.nsIn K mainGlobals "MOST_LEAVES"=some (some (.int 16 zaw)))
    (jl : PySem.W.nsIn K mainGlobals "MOST_LETTERS"=some (some (.int 12 JU)))
    (Ze : PySem.W.nsIn K mainGlobals "MOST_OFTEN"=some (some (.int 9 zcB)))
    (jN : PySem.W.nsIn K mainGlobals "MOST_OFTENS"=some (some (.int 16 zax)))
    (Zf : PySem.W.nsIn K mainGlobals "MOST_RULES"=some (some (.int 16 zcC)))
    (ZW : PySem.W.nsIn K mainGlobals "MOST_WANT"=some (some (.int 60 zcQ)))
    (Zg : PySem.W.nsIn K mainGlobals "MOST_WORDS"=some (some (.int 8 zcD)))
    (jm : PySem.W.nsIn K mainGlobals "MOST_WRITTEN"=some (some (.ref vo))) (jn : K.lookup vo=some ⟨.type "dict",none,.dict je Z8,#[]⟩) (jo : (vo == sysModules)=false) (jq : je.toList.map L9.Yy=([("level",V.int 999999999999999999999999999999999999999999999999999999999999),("mark",V.int 999999999999999999999999999999999999999999999999999999999999),("worth",V.int 9)] : List (Str × V)).map some) :
    ∃ fd : FuncData,(∀ (s : Shared) (v : Value),BindsTo s fd ⟨[v],[]⟩ [("_law_script",v)])∧∀ base : Heap,K.In base→base.Ns mainGlobals mg→FnOk l.prog w K mg base CX0 22 fa fd ["_law_script"] (Jj K):=by
  have e:=hfa.symm.trans (PySem.W.mg_of X G a37)
  cases e
  have T : Txt K mg ⟨zez,zaL,zaM,zaN,zaO,zaP,zeA,zaQ,zaR,zaS,zaT,zaU,zcp,zcq,zcr,zcs,zct,zcu,zcv,zcw,zaV,zaW,zaX,zaY,zaZ,za0,za1,za2,za3,za4,za5,za6,za7,za8,za9,zba,zd,Jm,Yq,Zr,vo,Vi,Vj⟩:=⟨PySem.W.mg_of X G a1,PySem.W.mg_of X G a2,PySem.W.mg_of X G a3,PySem.W.mg_of X G a4,PySem.W.mg_of X G a5,PySem.W.mg_of X G a6,PySem.W.mg_of X G a7,PySem.W.mg_of X G a8,PySem.W.mg_of X G a9,PySem.W.mg_of X G a10,PySem.W.mg_of X G a11,PySem.W.mg_of X G a12,PySem.W.mg_of X G a21,PySem.W.mg_of X G a22,PySem.W.mg_of X G a23,PySem.W.mg_of X G a24,PySem.W.mg_of X G a25,PySem.W.mg_of X G a26,PySem.W.mg_of X G a27,PySem.W.mg_of X G a28,PySem.W.mg_of X G a29,PySem.W.mg_of X G a30,PySem.W.mg_of X G a31,PySem.W.mg_of X G a32,PySem.W.mg_of X G a33,PySem.W.mg_of X G a34,PySem.W.mg_of X G a35,PySem.W.mg_of X G a36,PySem.W.mg_of X G we,⟨jf,jg,jh,ji⟩,⟨vO,a13,zeC,jj⟩,⟨a14,zeD,k14⟩,⟨a15,zeE,k15⟩,⟨a16,zeF,k16⟩,⟨a17,zeG,k17⟩,⟨a18,zeH,k18⟩,⟨a19,zeI,k19⟩,⟨a20,zeJ,k20⟩,zH,zm,zL,zK,PySem.W.mg_none_of X G Y7,PySem.W.mg_none_of X G Wh,PySem.W.mg_none_of X G vB,PySem.W.mg_none_of X G Wy,PySem.W.mg_none_of X G zG,PySem.W.mg_none_of X G zF,PySem.W.mg_none_of X G j0,PySem.W.mg_none_of X G jH,PySem.W.mg_none_of X G VI,PySem.W.mg_none_of X G xQ,PySem.W.mg_none_of X G wN,PySem.W.mg_none_of X G VJ,⟨_,PySem.W.mg_of X G Xq⟩,PySem.W.mg_of X G JV,⟨JX,_,JS,zdb,JW,⟨rfl,rfl,rfl⟩,rfl,L9.Yb JY⟩,fun H => .inr ⟨_,Xo,zcx,Wn,rfl,rfl,(by have e:=congrArg List.length Xr; simp at e; rw [sizeLine_eq]; omega),Jq Xr⟩,fun H => .inr ⟨_,Xp,zcy,Wo,rfl,rfl,(by have e:=congrArg List.length Xs; simp at e; rw [sizeLine_eq]; omega),Jq Xs⟩,PySem.W.mg_of X G ZU,fun H => .inr ⟨_,Zd,W0,ZV,rfl,rfl,(by have e:=congrArg List.length jU; simp at e; rw [sizeLine_eq]; omega),Jq jU⟩,PySem.W.mg_of X G Ys,⟨Yu,_,Yr,W2,Yt,⟨rfl,rfl,rfl⟩,rfl,L9.Yb Yv⟩,⟨_,PySem.W.mg_of X G Xu⟩,⟨_,PySem.W.mg_of X G jk⟩,⟨_,PySem.W.mg_of X G jL⟩,⟨_,PySem.W.mg_of X G jM⟩,⟨_,PySem.W.mg_of X G jl⟩,⟨_,PySem.W.mg_of X G Ze⟩,⟨_,PySem.W.mg_of X G jN⟩,⟨_,PySem.W.mg_of X G Zf⟩,⟨_,PySem.W.mg_of X G ZW⟩,⟨_,PySem.W.mg_of X G Zg⟩,PySem.W.mg_of X G jm,⟨jo,_,je,Z8,jn,⟨rfl,rfl,rfl⟩,rfl,L9.Yb jq⟩⟩
  have Vg:=fun_mk (st:=YZ) l1 c1 k1
  have zcb:=Vg.binds (ps:=["rule"]) fun zz zz zz zz zz zz us hl=>L23.ls us hl fun zz us hl=>L23.lz us hl rfl
  have xU:=fun_mk (st:=vC) l2 c2 k2
  have w6:=xU.binds (ps:=["group"]) fun zz zz zz zz zz zz us hl=>L23.ls us hl fun zz us hl=>L23.lz us hl rfl
  have Zp:=fun_mk (st:=wB) l3 c3 k3
  have Xe:=Zp.binds (ps:=["text","signs"]) fun zz zz zz zz zz zz us hl=>L23.ls us hl fun zz us hl=>L23.ls us hl fun zz us hl=>L23.lz us hl rfl
  have Z5:=fun_mk (st:=zV) l4 c4 k4
  have WD:=Z5.binds (ps:=["thing"]) fun zz zz zz zz zz zz us hl=>L23.ls us hl fun zz us hl=>L23.lz us hl rfl
  have VU:=fun_mk (st:=xO) l5 c5 k5
  have zdU:=VU.binds (ps:=["text"]) fun zz zz zz zz zz zz us hl=>L23.ls us hl fun zz us hl=>L23.lz us hl rfl
  have wY:=fun_mk (st:=yZ) l6 c6 k6
  have vH:=wY.binds (ps:=["text","least","most"]) fun zz zz zz zz zz zz us hl=>L23.ls us hl fun zz us hl=>L23.ls us hl fun zz us hl=>L23.ls us hl fun zz us hl=>L23.lz us hl rfl
  have zb2:=fun_mk (st:=xD) l7 c7 k7
  have zgN:=zb2.binds (ps:=["words"]) fun zz zz zz zz zz zz us hl=>L23.ls us hl fun zz us hl=>L23.lz us hl rfl
  have V1:=fun_mk (st:=yQ) l8 c8 k8
  have zdZ:=V1.binds (ps:=["parts"]) fun zz zz zz zz zz zz us hl=>L23.ls us hl fun zz us hl=>L23.lz us hl rfl
  have V0:=fun_mk (st:=zS) l9 c9 k9
  have zdX:=V0.binds (ps:=["parts","keys"]) fun zz zz zz zz zz zz us hl=>L23.ls us hl fun zz us hl=>L23.ls us hl fun zz us hl=>L23.lz us hl rfl
  have V4:=fun_mk (st:=zJ) l10 c10 k10
  have zeh:=V4.binds (ps:=["parts"]) fun zz zz zz zz zz zz us hl=>L23.ls us hl fun zz us hl=>L23.lz us hl rfl
  have V3:=fun_mk (st:=xB) l11 c11 k11
  have zef:=V3.binds (ps:=["parts"]) fun zz zz zz zz zz zz us hl=>L23.ls us hl fun zz us hl=>L23.lz us hl rfl
  have V2:=fun_mk (st:=Zn) l12 c12 k12
  have zd5:=V2.binds (ps:=["group"]) fun zz zz zz zz zz zz us hl=>L23.ls us hl fun zz us hl=>L23.lz us hl rfl
  have zem:=fun_mk (st:=ZJ) l13 c13 k13
  have zgY:=zem.binds (ps:=["self"]) fun zz zz zz zz zz zz us hl=>L23.ls us hl fun zz us hl=>L23.lz us hl rfl
  have zen:=fun_mk (st:=xE) l14 c14 k14
  have zg0:=zen.binds (ps:=["self","row"]) fun zz zz zz zz zz zz us hl=>L23.ls us hl fun zz us hl=>L23.ls us hl fun zz us hl=>L23.lz us hl rfl
  have zed:=fun_mk (st:=yo) l15 c15 k15
  have zgV:=zed.binds (ps:=["self","parts"]) fun zz zz zz zz zz zz us hl=>L23.ls us hl fun zz us hl=>L23.ls us hl fun zz us hl=>L23.lz us hl rfl
  have zeb:=fun_mk (st:=v9) l16 c16 k16
  have zgR:=zeb.binds (ps:=["self","group"]) fun zz zz zz zz zz zz us hl=>L23.ls us hl fun zz us hl=>L23.ls us hl fun zz us hl=>L23.lz us hl rfl
  have zea:=fun_mk (st:=wU) l17 c17 k17
  have zgP:=zea.binds (ps:=["self"]) fun zz zz zz zz zz zz us hl=>L23.ls us hl fun zz us hl=>L23.lz us hl rfl
  have zec:=fun_mk (st:=vK) l18 c18 k18
  have zgT:=zec.binds (ps:=["self","leaf"]) fun zz zz zz zz zz zz us hl=>L23.ls us hl fun zz us hl=>L23.ls us hl fun zz us hl=>L23.lz us hl rfl
  have JK:=fun_mk (st:=ja) l19 c19 k19
  have JL:=JK.binds (ps:=["self"]) fun zz zz zz zz zz zz us hl=>L23.ls us hl fun zz us hl=>L23.lz us hl rfl
  have JN:=fun_mk (st:=vL) l20 c20 k20
  have JO:=JN.binds (ps:=["self","rule"]) fun zz zz zz zz zz zz us hl=>L23.ls us hl fun zz us hl=>L23.ls us hl fun zz us hl=>L23.lz us hl rfl
  have WH:=fun_mk (st:=y9) l21 c21 k21
  have zaK:=WH.binds (ps:=["text"]) fun zz zz zz zz zz zz us hl=>L23.ls us hl fun zz us hl=>L23.lz us hl rfl
  have Xk:=fun_mk (st:=yb) l22 c22 k22
  have Jb:=Xk.binds (ps:=["leaf"]) fun zz zz zz zz zz zz us hl=>L23.ls us hl fun zz us hl=>L23.lz us hl rfl
  have Xj:=fun_mk (st:=vE) l23 c23 k23
  have V9:=Xj.binds (ps:=["group"]) fun zz zz zz zz zz zz us hl=>L23.ls us hl fun zz us hl=>L23.lz us hl rfl
  have jR:=fun_mk (st:=yE) l24 c24 k24
  have Z6:=jR.binds (ps:=["rule"]) fun zz zz zz zz zz zz us hl=>L23.ls us hl fun zz us hl=>L23.lz us hl rfl
  have Jl:=fun_mk (st:=xC) l25 c25 k25
  have zey:=Jl.binds (ps:=["course"]) fun zz zz zz zz zz zz us hl=>L23.ls us hl fun zz us hl=>L23.lz us hl rfl
  have Xc:=fun_mk (st:=vF) l26 c26 k26
  have VR:=Xc.binds (ps:=["_law_script","_law_k"]) fun zz zz zz zz zz zz us hl=>L23.ls us hl fun zz us hl=>L23.ls us hl fun zz us hl=>L23.lz us hl rfl
  have Zo:=fun_mk (st:=yF) l27 c27 k27
  have Xb:=Zo.binds (ps:=["_law_cell","_law_k"]) fun zz zz zz zz zz zz us hl=>L23.ls us hl fun zz us hl=>L23.ls us hl fun zz us hl=>L23.lz us hl rfl
  have Y9:=fun_mk (st:=jP) l28 c28 k28
  have VN:=Y9.binds (ps:=["_law_cell"]) fun zz zz zz zz zz zz us hl=>L23.ls us hl fun zz us hl=>L23.lz us hl rfl
  have WB:=fun_mk (st:=zE) l29 c29 k29
  have zaI:=WB.binds (ps:=["_law_head","_law_cell"]) fun zz zz zz zz zz zz us hl=>L23.ls us hl fun zz us hl=>L23.ls us hl fun zz us hl=>L23.lz us hl rfl
  have WA:=fun_mk (st:=yR) l30 c30 k30
  have zaG:=WA.binds (ps:=["_law_frames","_law_cell"]) fun zz zz zz zz zz zz us hl=>L23.ls us hl fun zz us hl=>L23.ls us hl fun zz us hl=>L23.lz us hl rfl
  have VS:=fun_mk (st:=zx) l31 c31 k31
  have zdS:=VS.binds (ps:=["_law_head","_law_cells"]) fun zz zz zz zz zz zz us hl=>L23.ls us hl fun zz us hl=>L23.ls us hl fun zz us hl=>L23.lz us hl rfl
  have Jk:=fun_mk (st:=yj) l32 c32 k32
  have zew:=Jk.binds (ps:=["_law_script"]) fun zz zz zz zz zz zz us hl=>L23.ls us hl fun zz us hl=>L23.lz us hl rfl
  have Xm:=fun_mk (st:=zW) l33 c33 k33
  have Jg:=Xm.binds (ps:=["_law_leaf_here"]) fun zz zz zz zz zz zz us hl=>L23.ls us hl fun zz us hl=>L23.lz us hl rfl
  have jS:=fun_mk (st:=yw) l34 c34 k34
  have Z7:=jS.binds (ps:=["_law_rule_here"]) fun zz zz zz zz zz zz us hl=>L23.ls us hl fun zz us hl=>L23.lz us hl rfl
  have jc:=fun_mk (st:=ye) l35 c35 k35
  have Zq:=jc.binds (ps:=["_law_thing"]) fun zz zz zz zz zz zz us hl=>L23.ls us hl fun zz us hl=>L23.lz us hl rfl
  have vI:=fun_mk (st:=zw) l36 c36 k36
  have jT:=vI.binds (ps:=["_law_found","_law_due"]) fun zz zz zz zz zz zz us hl=>L23.ls us hl fun zz us hl=>L23.ls us hl fun zz us hl=>L23.lz us hl rfl
  have zlj:=fun_mk (st:=zB) l37 c37 k37
  refine ⟨PySem.W.fnOf "law" "law" (defArgs zB) (defBody zB) (defScope zB) .none zks zkt zku zkr zha zkv,fun s v => .of_eq rfl,fun base zz zz=>?_⟩
  have zca:=zlh (P:=l.prog) (w:=w) (base:=base) Vg T
  have wZ:=zjK (P:=l.prog) (w:=w) (base:=base) xU T
  have Xd:=zjx (P:=l.prog) (w:=w) (base:=base) Zp T
  have WC:=zjy (P:=l.prog) (w:=w) (base:=base) Z5 T Xd Zp Xe
  have zdT:=zjz (P:=l.prog) (w:=w) (base:=base) VU T Xd Zp Xe
  have vG:=zjA (P:=l.prog) (w:=w) (base:=base) wY T zdT VU zdU
  have zgM:=zk2 (P:=l.prog) (w:=w) (base:=base) zb2 T WC Z5 WD
  have zdY:=zjB (P:=l.prog) (w:=w) (base:=base) V1 T
  have zdW:=zjC (P:=l.prog) (w:=w) (base:=base) V0 T vG wY vH
  have zeg:=zjF (P:=l.prog) (w:=w) (base:=base) V4 T zgM zb2 zgN vG wY vH zdW V0 zdX zdY V1 zdZ
  have zee:=zjI (P:=l.prog) (w:=w) (base:=base) V3 T vG wY vH
  have zd4:=zjJ (P:=l.prog) (w:=w) (base:=base) V2 T
  have zgX:=zle (P:=l.prog) (w:=w) (base:=base) zem T
  have JM:=zk8 (P:=l.prog) (w:=w) (base:=base) JN T wZ xU w6
  have zgO:=zlb (P:=l.prog) (w:=w) (base:=base) zea T JM JN JO zd4 V2 zd5 wZ xU w6
  have JJ:=zk7 (P:=l.prog) (w:=w) (base:=base) JK T wZ xU w6
  have zgQ:=zla (P:=l.prog) (w:=w) (base:=base) zeb T JJ JK JL
  have zgS:=zk9 (P:=l.prog) (w:=w) (base:=base) zec T JJ JK JL JM JN JO
  have zgU:=zlc (P:=l.prog) (w:=w) (base:=base) zed T WC Z5 WD vG wY vH
  have zgZ:=zld (P:=l.prog) (w:=w) (base:=base) zen T zgO zea zgP zgQ zeb zgR zgS zec zgT zgU zed zgV zee V3 zef zeg V4 zeh
  have zaJ:=zjO (P:=l.prog) (w:=w) (base:=base) WH T zgX zem zgY zgZ zen zg0
  have Ja:=zjQ (P:=l.prog) (w:=w) (base:=base) Xk T
  have V8:=zjR (P:=l.prog) (w:=w) (base:=base) Xj T
  have Jc:=zjS (P:=l.prog) (w:=w) (base:=base) T zca Vg zcb wZ xU w6 V8 Xj V9 Ja Xk Jb jR Z6
  have zex:=zjT (P:=l.prog) (w:=w) (base:=base) Jl T Jc jR Z6
  have VQ:=zjo (P:=l.prog) (w:=w) (base:=base) Xc T
  have Xa:=zjp (P:=l.prog) (w:=w) (base:=base) Zo T
  have VM:=zjq (P:=l.prog) (w:=w) (base:=base) Y9 T
  have zaH:=zjr (P:=l.prog) (w:=w) (base:=base) WB T VM Y9 VN Xa Zo Xb
  have zaF:=zju (P:=l.prog) (w:=w) (base:=base) WA T
  have zdR:=zjv (P:=l.prog) (w:=w) (base:=base) VS T zaF WA zaG zaH WB zaI
  have zeu:=zjw (P:=l.prog) (w:=w) (base:=base) Jk T VQ Xc VR zdR VS zdS Xa Zo Xb
  have Jf:=zjV (P:=l.prog) (w:=w) (base:=base) Xm T
  have Jh:=zjW (P:=l.prog) (w:=w) (base:=base) T Jf Xm Jg jS Z7
  have WG:=zjU (P:=l.prog) (w:=w) (base:=base) T  jc Zq
  have Xn:=zjX (P:=l.prog) (w:=w) (base:=base) T  vI jT
  exact zjY zlj T Xn vI jT WG jc Zq zeu Jk zew Jh jS Z7 zaJ WH zaK zex Jl zey
theorem walk {l : PySem.W.OpenLaw} {q : Program} {loose : List Str} {XP : (Str→Option Value)→Heap→Prop} {YP : World→Heap→Prop} {d : DefRec} {K : Params→PySem.W.Frag} (hn : l.most=some 63) (hdf : d.params.defaults=[])
    (hY : ∀ (w : World) (h : Heap),YP w h→(K w.params).In h)
    (F : ∀ (w : World) (mg : Str→Option Value) (fa : Addr) (h : Heap),(K w.params).In h→h.Ns mainGlobals mg→mg d.name=some (.ref fa) →
      ∃ fd : FuncData,(∀ (s : Shared) (u : Value),BindsTo s fd ⟨[u],[]⟩ [("_law_script",u)])∧∀ base : Heap,(K w.params).In base→base.Ns mainGlobals mg→FnOk l.prog w (K w.params) mg base CX0 22 fa fd ["_law_script"] (Jj (K w.params))) :
    PySem.W.WalkO q loose XP YP l.row.toRowW d [] (fun f vs=>PySem.call f vs) :=
  L2.walk_of (n:=63) (k:=22) (x:="_law_script") (CX:=fun zz=>CX0) (sp:=fun w=>Jj (K w.params)) hn (by decide) hdf ⟨rfl,by decide,by decide⟩ hY F (fun zz zz a ns hl zz hS=>⟨a,ns,rfl,hS,hl,fun zz=>rfl⟩) fun zz zz zz zz zz z=>z
end K21
open PySem PySem.W PyProof.Rows
set_option maxRecDepth 100000 in
set_option maxHeartbeats 0 in
theorem PySem.Challenge.cw_court_k21_whole_courses_read_back_holds : PySem.Challenge.rw_court_k21_whole_courses_read_back.Holds := by
  w_on; o_law; k_head; (case hw => w_witness2)
  k_fill
  refine K21.walk (l:=PySem.Challenge.rw_court_k21_whole_courses_read_back) rfl rfl (fun w h Y=>PySem.W.kIn_of Y) ?F
  case F =>
    intro w mg fa h KX G hmg
    refine' K21.all_mk KX G hmg ?we ?a1 ?l1 ?c1 ?k1 ?a2 ?l2 ?c2 ?k2 ?a3 ?l3 ?c3 ?k3 ?a4 ?l4 ?c4 ?k4 ?a5 ?l5 ?c5 ?k5 ?a6 ?l6 ?c6 ?k6 ?a7 ?l7 ?c7 ?k7 ?a8 ?l8 ?c8 ?k8 ?a9 ?l9 ?c9 ?k9 ?a10 ?l10 ?c10 ?k10 ?a11 ?l11 ?c11 ?k11 ?a12 ?l12 ?c12 ?k12 ?a13 ?l13 ?c13 ?k13 ?a14 ?l14 ?c14 ?k14 ?a15 ?l15 ?c15 ?k15 ?a16 ?l16 ?c16 ?k16 ?a17 ?l17 ?c17 ?k17 ?a18 ?l18 ?c18 ?k18 ?a19 ?l19 ?c19 ?k19 ?a20 ?l20 ?c20 ?k20 ?a21 ?l21 ?c21 ?k21 ?a22 ?l22 ?c22 ?k22 ?a23 ?l23 ?c23 ?k23 ?a24 ?l24 ?c24 ?k24 ?a25 ?l25 ?c25 ?k25 ?a26 ?l26 ?c26 ?k26 ?a27 ?l27 ?c27 ?k27 ?a28 ?l28 ?c28 ?k28 ?a29 ?l29 ?c29 ?k29 ?a30 ?l30 ?c30 ?k30 ?a31 ?l31 ?c31 ?k31 ?a32 ?l32 ?c32 ?k32 ?a33 ?l33 ?c33 ?k33 ?a34 ?l34 ?c34 ?k34 ?a35 ?l35 ?c35 ?k35 ?a36 ?l36 ?c36 ?k36 ?a37 ?l37 ?c37 ?k37 ?jf ?jg ?jh ?ji ?vO ?zeC ?jj ?zeD ?zeE ?zeF ?zeG ?zeH ?zeI ?zeJ ?zH ?zm ?zL ?zK ?Y7 ?Wh ?vB ?Wy ?zG ?zF ?j0 ?jH ?VI ?xQ ?wN ?VJ ?Xq ?JV ?JW ?JX ?JY ?Wn ?Xr ?Wo ?Xs ?ZU ?ZV ?jU ?Ys ?Yt ?Yu ?Yv ?Xu ?jk ?jL ?jM ?jl ?Ze ?jN ?Zf ?ZW ?Zg ?jm ?jn ?jo ?jq
    (case we=>k_is)
    (case a1=>k_is)
    (case l1=>k_is)
    (case c1=>k_is)
    (case k1=>k_is)
    (case a2=>k_is)
    (case l2=>k_is)
    (case c2=>k_is)
    (case k2=>k_is)
    (case a3=>k_is)
    (case l3=>k_is)
    (case c3=>k_is)
    (case k3=>k_is)
    (case a4=>k_is)
    (case l4=>k_is)
    (case c4=>k_is)
    (case k4=>k_is)
    (case a5=>k_is)
    (case l5=>k_is)
    (case c5=>k_is)
    (case k5=>k_is)
    (case a6=>k_is)
    (case l6=>k_is)
    (case c6=>k_is)
    (case k6=>k_is)
    (case a7=>k_is)
    (case l7=>k_is)
    (case c7=>k_is)
    (case k7=>k_is)
    (case a8=>k_is)
    (case l8=>k_is)
    (case c8=>k_is)
    (case k8=>k_is)
    (case a9=>k_is)
    (case l9=>k_is)
    (case c9=>k_is)
    (case k9=>k_is)
    (case a10=>k_is)
    (case l10=>k_is)
    (case c10=>k_is)
    (case k10=>k_is)
    (case a11=>k_is)
    (case l11=>k_is)
    (case c11=>k_is)
    (case k11=>k_is)
    (case a12=>k_is)
    (case l12=>k_is)
    (case c12=>k_is)
    (case k12=>k_is)
    (case a13=>k_is)
    (case l13=>k_is)
    (case c13=>k_is)
    (case k13=>k_is)
    (case a14=>k_is)
    (case l14=>k_is)
    (case c14=>k_is)
    (case k14=>k_is)
    (case a15=>k_is)
    (case l15=>k_is)
    (case c15=>k_is)
    (case k15=>k_is)
    (case a16=>k_is)
    (case l16=>k_is)
    (case c16=>k_is)
    (case k16=>k_is)
    (case a17=>k_is)
    (case l17=>k_is)
    (case c17=>k_is)
    (case k17=>k_is)
    (case a18=>k_is)
    (case l18=>k_is)
    (case c18=>k_is)
    (case k18=>k_is)
    (case a19=>k_is)
    (case l19=>k_is)
    (case c19=>k_is)
    (case k19=>k_is)
    (case a20=>k_is)
    (case l20=>k_is)
    (case c20=>k_is)
    (case k20=>k_is)
    (case a21=>k_is)
    (case l21=>k_is)
    (case c21=>k_is)
    (case k21=>k_is)
    (case a22=>k_is)
    (case l22=>k_is)
    (case c22=>k_is)
    (case k22=>k_is)
    (case a23=>k_is)
    (case l23=>k_is)
    (case c23=>k_is)
    (case k23=>k_is)
    (case a24=>k_is)
    (case l24=>k_is)
    (case c24=>k_is)
    (case k24=>k_is)
    (case a25=>k_is)
    (case l25=>k_is)
    (case c25=>k_is)
    (case k25=>k_is)
    (case a26=>k_is)
    (case l26=>k_is)
    (case c26=>k_is)
    (case k26=>k_is)
    (case a27=>k_is)
    (case l27=>k_is)
    (case c27=>k_is)
    (case k27=>k_is)
    (case a28=>k_is)
    (case l28=>k_is)
    (case c28=>k_is)
    (case k28=>k_is)
    (case a29=>k_is)
    (case l29=>k_is)
    (case c29=>k_is)
    (case k29=>k_is)
    (case a30=>k_is)
    (case l30=>k_is)
    (case c30=>k_is)
    (case k30=>k_is)
    (case a31=>k_is)
    (case l31=>k_is)
    (case c31=>k_is)
    (case k31=>k_is)
    (case a32=>k_is)
    (case l32=>k_is)
    (case c32=>k_is)
    (case k32=>k_is)
    (case a33=>k_is)
    (case l33=>k_is)
    (case c33=>k_is)
    (case k33=>k_is)
    (case a34=>k_is)
    (case l34=>k_is)
    (case c34=>k_is)
    (case k34=>k_is)
    (case a35=>k_is)
    (case l35=>k_is)
    (case c35=>k_is)
    (case k35=>k_is)
    (case a36=>k_is)
    (case l36=>k_is)
    (case c36=>k_is)
    (case k36=>k_is)
    (case a37=>k_is)
    (case l37=>k_is)
    (case c37=>k_is)
    (case k37=>k_is)
    (case Y7=>k_is)
    (case Wh=>k_is)
    (case vB=>k_is)
    (case Wy=>k_is)
    (case zG=>k_is)
    (case zF=>k_is)
    (case j0=>k_is)
    (case jH=>k_is)
    (case VI=>k_is)
    (case xQ=>k_is)
    (case wN=>k_is)
    (case VJ=>k_is)
    (case Xq=>k_is)
    (case JV=>k_is)
    (case JW=>k_is)
    (case ZU=>k_is)
    (case ZV=>k_is)
    (case Ys=>k_is)
    (case Yt=>k_is)
    (case Xu=>k_is)
    (case jk=>k_is)
    (case jL=>k_is)
    (case jM=>k_is)
    (case jl=>k_is)
    (case Ze=>k_is)
    (case jN=>k_is)
    (case Zf=>k_is)
    (case ZW=>k_is)
    (case Zg=>k_is)
    (case jm=>k_is)
    (case jn=>k_is)
    (case jf=>first | k_is | kernel_rfl)
    (case jg=>first | k_is | kernel_rfl)
    (case jh=>first | k_is | kernel_rfl)
    (case ji=>first | k_is | kernel_rfl)
    (case vO=>first | k_is | kernel_rfl)
    (case zeC=>first | k_is | kernel_rfl)
    (case jj=>first | k_is | kernel_rfl)
    (case zeD=>first | k_is | kernel_rfl)
    (case zeE=>first | k_is | kernel_rfl)
    (case zeF=>first | k_is | kernel_rfl)
    (case zeG=>first | k_is | kernel_rfl)
    (case zeH=>first | k_is | kernel_rfl)
    (case zeI=>first | k_is | kernel_rfl)
    (case zeJ=>first | k_is | kernel_rfl)
    (case zH=>first | k_is | kernel_rfl)
    (case zm=>first | k_is | kernel_rfl)
    (case zL=>first | k_is | kernel_rfl)
    (case zK=>first | k_is | kernel_rfl)
    (case jU=>rfl)
    (case JX=>rfl)
    (case JY=>rfl)
    (case Wn=>k_is)
    (case Xr=>rfl)
    (case Wo=>k_is)
    (case Xs=>rfl)
    (case Yu=>rfl)
    (case Yv=>rfl)
    (case jo=>rfl)
    (case jq=>rfl)
#print axioms PySem.Challenge.cw_court_k21_whole_courses_read_back_holds
