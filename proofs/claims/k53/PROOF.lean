import PyProof.Rows.All
import Wide.All
import OpenK.AllK
import Wide.FinOn
import Lean
import PyProof.EqAt
import PyProof.EqKinds
import PyProof.TupleCall
import KE.KSortTup
import KE.KRevIter
import KE.KDictSum
import PySem.Challenge.RW_court_k53_whole_dealt_and_shown
set_option Elab.async false
set_option linter.all false
set_option maxRecDepth 100000
namespace L2
open PySem PySem.Spec PyProof.Rows
noncomputable abbrev Key:=Sum Int Str
noncomputable def keyIs : Key→Value→Bool
  | .inl k,v=>Value.isInt k v
  | .inr x,v=>Value.isStrOf x v
noncomputable def keyH (w : World) : Key→Int
  | .inl k=>hashInt k
  | .inr x=>hashStr w x
theorem keyIs_shape : ∀ {k : Key} {v : Value},keyIs k v=true→(∃ i t,k=Sum.inl i∧v=Value.int i t)∨(∃ x t,k=Sum.inr x∧v=Value.str x t)
  | .inl i,v,h=>by
    obtain ⟨t,e⟩:=Value.isInt_shape (k:=i) (v:=v) h
    exact .inl ⟨i,t,rfl,e⟩
  | .inr x,v,h=>by
    obtain ⟨t,e⟩:=Value.isStrOf_shape (x:=x) (v:=v) h
    exact .inr ⟨x,t,rfl,e⟩
theorem keyIs_int (i : Int) (t : Tok) : keyIs (.inl i) (.int i t)=true:=by simp [keyIs,Value.isInt]
theorem keyIs_str (x : Str) (t : Tok) : keyIs (.inr x) (.str x t)=true:=by simp [keyIs,Value.isStrOf]
theorem key_ll (a b : Int) : decide ((Sum.inl a : Key)=Sum.inl b)=(a == b):=by
  by_cases e : a=b
  · subst e; simp
  · have h : ¬ (Sum.inl a : Key)=Sum.inl b:=fun q=>e (Sum.inl.inj q)
    rw [decide_eq_false h]
    exact (beq_eq_false_iff_ne.mpr e).symm
theorem key_rr (a b : Str) : decide ((Sum.inr a : Key)=Sum.inr b)=decide (a=b):=by
  by_cases e : a=b
  · subst e; simp
  · have h : ¬ (Sum.inr a : Key)=Sum.inr b:=fun q=>e (Sum.inr.inj q)
    rw [decide_eq_false h,decide_eq_false e]
theorem key_lr (a : Int) (b : Str) : decide ((Sum.inl a : Key)=Sum.inr b)=false:=decide_eq_false (fun q=>nomatch q)
theorem key_rl (a : Str) (b : Int) : decide ((Sum.inr a : Key)=Sum.inl b)=false:=decide_eq_false (fun q=>nomatch q)
noncomputable def mixKind (prog : Program) (w : World) : PySem.KeyKind prog w Key where
  is:=keyIs
  hash:=keyH w
  inj:=fun v a b ha hb=>by
    rcases keyIs_shape ha with ⟨i,t,rfl,rfl⟩ | ⟨x,t,rfl,rfl⟩
    · rcases keyIs_shape hb with ⟨j,u,rfl,e⟩ | ⟨y,u,rfl,e⟩
      · injection e with e1 _; rw [e1]
      · exact nomatch e
    · rcases keyIs_shape hb with ⟨j,u,rfl,e⟩ | ⟨y,u,rfl,e⟩
      · exact nomatch e
      · injection e with e1 _; rw [e1]
  byValue:=fun k v h=>by
    rcases keyIs_shape h with ⟨i,t,rfl,rfl⟩ | ⟨x,t,rfl,rfl⟩ <;> rfl
  pyHash:=fun hv h=>by
    rcases keyIs_shape hv with ⟨i,t,rfl,rfl⟩ | ⟨x,t,rfl,rfl⟩
    · exact wpAny_pyHash_int h
    · exact wpAny_pyHash_str h
  eqBool:=fun hu hv h=>by
    rcases keyIs_shape hu with ⟨i,t,rfl,rfl⟩ | ⟨x,t,rfl,rfl⟩
    · rcases keyIs_shape hv with ⟨j,u,rfl,rfl⟩ | ⟨y,u,rfl,rfl⟩
      · rw [key_ll] at h; exact wpAny_eqBool_int h
      · rw [key_lr] at h; exact SeqAt.EqAt.int_str i t y u _ _ _ _ h
    · rcases keyIs_shape hv with ⟨j,u,rfl,rfl⟩ | ⟨y,u,rfl,rfl⟩
      · rw [key_rl] at h; exact SeqAt.EqAt.str_int x t j u _ _ _ _ h
      · rw [key_rr] at h; exact wpAny_eqBool_str h
  «strs»:=fun k x t v h=>by
    rcases keyIs_shape h with ⟨i,u,rfl,e⟩ | ⟨y,u,rfl,e⟩
    · exact nomatch e
    · injection e with e1 _
      subst e1
      cases v <;> rfl
theorem mixKind_int (prog : Program) (w : World) (i : Int) (t : Tok) : (mixKind prog w).is (.inl i) (.int i t)=true:=keyIs_int i t
theorem mixKind_str (prog : Program) (w : World) (x : Str) (t : Tok) : (mixKind prog w).is (.inr x) (.str x t)=true:=keyIs_str x t
end L2
namespace L2
open PySem PySem.Spec PyProof.Rows
inductive V where
  | non | bl (b : Bool) | int (i : Int) | str (x : Str) | byt (b : Array UInt8) | flt (b : UInt64) | ref (a : Addr) | ty (n : String)
  deriving DecidableEq
noncomputable def RelV : V→Value→Prop
  | .non,u=>u=Value.none
  | .bl b,u=>u=Value.bool b
  | .int i,u=>∃ t,u=Value.int i t
  | .str x,u=>∃ t,u=Value.str x t
  | .byt b,u=>∃ t,u=Value.bytes b t
  | .flt b,u=>∃ t,u=Value.float b t
  | .ref a,u=>u=Value.ref a
  | .ty n,u=>u=Value.type n
noncomputable abbrev Vals : List V→List Value→Prop:=Paired RelV
theorem Vals.length {xs : List V} {us : List Value} (r : Vals xs us) : xs.length=us.length:=Paired.length r
theorem Vals.get : ∀ {xs : List V} {us : List Value} {i : Nat} {x : V},Vals xs us→xs[i]?=some x→∃ u,us[i]?=some u∧RelV x u
  | _,_,_,_,.nil,e=>by simp at e
  | _,_,0,_,.cons r _,e=>by simp at e; subst e; exact ⟨_,rfl,r⟩
  | _,_,i + 1,x,.cons _ t,e=>by
    obtain ⟨u,h1,h2⟩:=Vals.get (i:=i) (x:=x) t (by simpa using e)
    exact ⟨u,by simpa using h1,h2⟩
theorem Vals.set {x : V} {u : Value} (r : RelV x u) : ∀ {xs : List V} {us : List Value} (i : Nat),Vals xs us→Vals (xs.set i x) (us.set i u)
  | _,_,_,.nil => .nil
  | _,_,0,.cons _ t => .cons r t
  | _,_,i + 1,.cons q t => .cons q (Vals.set r i t)
theorem Vals.append : ∀ {xs ys : List V} {us ws : List Value},Vals xs us→Vals ys ws→Vals (xs ++ ys) (us ++ ws)
  | _,_,_,_,.nil,s=>s
  | _,_,_,_,.cons r t,s => .cons r (Vals.append t s)
theorem Vals.take : ∀ {xs : List V} {us : List Value} (n : Nat),Vals xs us→Vals (xs.take n) (us.take n)
  | _,_,0,_ => .nil
  | _,_,_ + 1,.nil => .nil
  | _,_,n + 1,.cons r t => .cons r (Vals.take n t)
theorem Vals.drop : ∀ {xs : List V} {us : List Value} (n : Nat),Vals xs us→Vals (xs.drop n) (us.drop n)
  | _,_,0,r=>r
  | _,_,_ + 1,.nil => .nil
  | _,_,n + 1,.cons _ t=>Vals.drop n t
theorem Vals.none_of : ∀ {xs : List V} {us : List Value} {i : Nat},Vals xs us→xs[i]?=none→us[i]?=none:=fun {xs us i} r e=>by
  have h1:=r.length
  have h2 : xs.length≤i:=List.getElem?_eq_none_iff.mp e
  exact List.getElem?_eq_none_iff.mpr (by omega)
noncomputable def RelO : Option V→Option Value→Prop
  | some v,some u=>RelV v u
  | none,none=>True
  | _,_=>False
noncomputable def KV {κ : Type} : List (κ × V)→List (κ × Value)→Prop:=Paired fun (p : κ × V) (q : κ × Value)=>p.1=q.1∧RelV p.2 q.2
noncomputable def kV : Key→V
  | .inl i => .int i
  | .inr x => .str x
inductive HO where
    | lst (xs : List V)
    | tup (xs : List V)
    | dK (kvs : List (Key × V)) | dT (kvs : List (List Key × V))
    | set (S : Int→Bool) (n : Nat)
    | ins (C dx : Addr) (fs : List (Str × V))
    | own (x : Addr)
    | xd (fs : List (Str × V))
    | met (f x : Addr)
    | rng (lo hi : Int)
    | frz (o : Obj) (u : HO)
    | tbl (ps : Array Value)
    | ext (φ : Heap→Prop)
noncomputable abbrev Hp:=Addr→Option HO
noncomputable def upd (H : Hp) (a : Addr) (o : HO) : Hp:=fun b=>if b=a then some o else H b
theorem upd_same {H : Hp} {a : Addr} {o : HO} : upd H a o a=some o:=by unfold upd; rw [if_pos rfl]
theorem upd_ne {H : Hp} {a b : Addr} {o : HO} (h : b≠a) : upd H a o b=H b:=by unfold upd; rw [if_neg h]
theorem ne_of {H : Hp} {a b : Addr} {o u : HO} (h : H a=some o) (h' : H b=some u) (d : o≠u) : a≠b:=by
  intro e; subst e; rw [h] at h'; exact d (Option.some.inj h')
theorem ne_of_none {H : Hp} {a b : Addr} {o : HO} (h : H a=some o) (h' : H b=none) : a≠b:=by
  intro e; subst e; rw [h] at h'; cases h'
section
variable (P : Program) (w : World)
noncomputable def ObjOk (H : Hp) (h : Heap) (a : Addr) : HO→Prop
  | .lst xs=>xs.length≤sizeLine∧∃ (its : List Value) (n : Nat),Vals xs its∧h.get? a=some { cls := .type "list",data := .seq its.toArray n }
  | .tup xs=>xs.length≤sizeLine∧∃ its : List Value,Vals xs its∧IsTup h a its.toArray
  | .dK kvs=>kvs.length≤sizeLine∧(a == sysModules)=false∧∃ vs,KV kvs vs∧h.DictOf (mixKind P w) a vs
  | .dT kvs=>kvs.length≤sizeLine∧(a == sysModules)=false∧∃ xs : List (List Key × Addr × Value),
      Paired (fun (p : List Key × V) (q : List Key × Addr × Value)=>p.1=q.1∧H q.2.1=some (.tup (p.1.map kV))∧RelV p.2 q.2.2) kvs xs ∧
      ∃ o es ep,h.get? a=some o∧o.ExactDict∧o.data = .dict es ep∧es.toList=xs.map (entryOfKey (tupleKind (mixKind P w)))∧(xs.map (·.1)).Nodup
  | .set S n=>h.SetOf (intKind P w) a S n
  | .ins C dx fs=>H dx=some (.own a)∧fs.length≤1000∧dx≠a∧h.get? a=some (PySem.W.instObj C dx) ∧
      ∃ mA,h.Ns1 dx mA∧(∀ f,RelO (fs.lookup f) (mA f))∧PySem.Within mA (fs.map (·.1))
  | .own _=>∃ o,h.get? a=some o
  | .xd fs=>∃ mA,h.Ns1 a mA∧∀ f,RelO (fs.lookup f) (mA f)
  | .rng lo hi=>∃ t u v,h.get? a=some { cls := .type "range",data := .fields #[.int lo t,.int hi u,.int 1 v] }
  | .frz o u=>h.get? a=some o∧ObjOk H h a u
  | .tbl ps=>h.get? a=some { cls := .none,data := .fields ps }
  | .met f x=>h.get? a=some (PySem.W.methodObj (.ref f) (.ref x))
  | .ext φ=>φ h∧(∃ o,h.get? a=some o)∧∀ h1 h2 : Heap,φ h1→(∀ o,h1.get? a=some o→h2.get? a=some o)→φ h2
noncomputable def HOk (H : Hp) (h : Heap) : Prop:=∀ a o,H a=some o→ObjOk P w H h a o
end
section
variable {P : Program} {w : World} {H H' : Hp} {h h' : Heap} {a : Addr} {o : HO}
theorem ObjOk.lt (x : ObjOk P w H h a o) : a < h.objs.size:=by
  cases o with
  | lst xs=>obtain ⟨_,_,_,_,e⟩:=x; exact Heap.lt_size e
  | tup xs=>obtain ⟨_,_,_,p⟩:=x; exact p.lt
  | dK kvs=>obtain ⟨_,_,_,_,o,_,_,e,_⟩:=x; exact Heap.lt_size e
  | dT kvs=>obtain ⟨_,_,_,_,o,_,_,e,_⟩:=x; exact Heap.lt_size e
  | set S n=>obtain ⟨o,_,_,_,e,_⟩:=x; exact Heap.lt_size e
  | ins C dx fs=>obtain ⟨_,_,_,e,_⟩:=x; exact Heap.lt_size e
  | own y=>obtain ⟨_,e⟩:=x; exact Heap.lt_size e
  | xd fs=>obtain ⟨_,⟨_,_,_,e,_⟩,_⟩:=x; exact Heap.lt_size e
  | rng lo hi=>obtain ⟨_,_,_,e⟩:=x; exact Heap.lt_size e
  | frz ob u=>obtain ⟨e,_⟩:=x; exact Heap.lt_size e
  | tbl ps=>exact Heap.lt_size (show h.get? a=some _ from x)
  | met f y=>exact Heap.lt_size (show h.get? a=some _ from x)
  | ext φ=>obtain ⟨_,⟨_,e⟩,_⟩:=x; exact Heap.lt_size e
theorem Paired.mapP {α β : Type} {F G : α→β→Prop} : ∀ {l₁ : List α} {l₂ : List β},Paired F l₁ l₂→(∀ a b,F a b→G a b)→Paired G l₁ l₂
  | _,_,.nil,_ => .nil
  | _,_,.cons r t,f => .cons (f _ _ r) (Paired.mapP t f)
theorem ObjOk.stay (x : ObjOk P w H h a o) (k : ∀ b u,(b=a∨H b=some (.own a))→h.get? b=some u→h'.get? b=some u)
    (ho : ∀ b,H b=some (.own a)→H' b=some (.own a)) (ht : ∀ b xs,H b=some (.tup xs)→H' b=some (.tup xs)) : ObjOk P w H' h' a o:=by
  induction o with
  | lst xs=>obtain ⟨z,its,n,r,e⟩:=x; exact ⟨z,its,n,r,k _ _ (.inl rfl) e⟩
  | tup xs=>obtain ⟨z,its,r,ob,e,c⟩:=x; exact ⟨z,its,r,ob,k _ _ (.inl rfl) e,c⟩
  | dK kvs=>obtain ⟨z,y,vs,r,ob,es,ep,e,c⟩:=x; exact ⟨z,y,vs,r,ob,es,ep,k _ _ (.inl rfl) e,c⟩
  | dT kvs =>
    obtain ⟨z,y,xs,r,ob,es,ep,e,c⟩:=x
    exact ⟨z,y,xs,Paired.mapP r fun p q z=>⟨z.1,ht _ _ z.2.1,z.2.2⟩,ob,es,ep,k _ _ (.inl rfl) e,c⟩
  | set S n=>obtain ⟨ob,es,ep,t,e,c⟩:=x; exact ⟨ob,es,ep,t,k _ _ (.inl rfl) e,c⟩
  | ins C dx fs =>
    obtain ⟨d,z,ne,e,mA,⟨od,es,ep,e2,c⟩,r⟩:=x
    exact ⟨ho _ d,z,ne,k _ _ (.inl rfl) e,mA,⟨od,es,ep,k _ _ (.inr d) e2,c⟩,r⟩
  | own y=>obtain ⟨ob,e⟩:=x; exact ⟨ob,k _ _ (.inl rfl) e⟩
  | xd fs=>obtain ⟨mA,⟨od,es,ep,e,c⟩,r⟩:=x; exact ⟨mA,⟨od,es,ep,k _ _ (.inl rfl) e,c⟩,r⟩
  | rng lo hi=>obtain ⟨t,u,v,e⟩:=x; exact ⟨t,u,v,k _ _ (.inl rfl) e⟩
  | frz ob u ih=>obtain ⟨e,q⟩:=x; exact ⟨k _ _ (.inl rfl) e,ih q⟩
  | tbl ps =>
    have e : h.get? a=some { cls := .none,data := .fields ps }:=x
    show h'.get? a=some { cls := .none,data := .fields ps }
    exact k a _ (.inl rfl) e
  | met f y =>
    have e : h.get? a=some (PySem.W.methodObj (.ref f) (.ref y)):=x
    show h'.get? a=some (PySem.W.methodObj (.ref f) (.ref y))
    exact k a _ (.inl rfl) e
  | ext φ=>obtain ⟨p,⟨o,e⟩,st⟩:=x; exact ⟨st _ _ p fun o q=>k _ _ (.inl rfl) q,⟨o,k _ _ (.inl rfl) e⟩,st⟩
theorem HOk.lt (x : HOk P w H h) (e : H a=some o) : a < h.objs.size:=(x a o e).lt
theorem HOk.fresh (x : HOk P w H h) (e : h.objs.size≤a) : H a=none:=by
  cases q : H a with
  | none=>rfl
  | some u=>exact absurd (Nat.lt_of_lt_of_le (x.lt q) e) (Nat.lt_irrefl _)
theorem HOk.kept (x : HOk P w H h) (k : ∀ b u,h.get? b=some u→h'.get? b=some u) : HOk P w H h':=fun a o e =>
  (x a o e).stay (fun b u _ q=>k b u q) (fun _ q=>q) fun _ _ q=>q
theorem HOk.laid (x : HOk P w H h) (k : ∀ b u,h.get? b=some u→h'.get? b=some u) (hp : h.objs.size≤a) (new : ObjOk P w (upd H a o) h' a o) : HOk P w (upd H a o) h':=fun b u e=>by
  have hn:=x.fresh hp
  by_cases hb : b=a
  · subst hb; rw [upd_same] at e; cases e; exact new
  · rw [upd_ne hb] at e
    exact (x b u e).stay (fun c v _ q=>k c v q) (fun c q=>by rw [upd_ne (ne_of_none q hn)]; exact q) fun c xs q=>by rw [upd_ne (ne_of_none q hn)]; exact q
end
noncomputable def Rd (H : Hp) (a : Addr) (u : HO) : Prop:=H a=some u∨∃ o,H a=some (.frz o u)
theorem Rd.of {H : Hp} {a : Addr} {u : HO} (h : H a=some u) : Rd H a u := .inl h
theorem Rd.ok {P : Program} {w : World} {H : Hp} {h : Heap} {a : Addr} {u : HO} (r : Rd H a u) (x : HOk P w H h) : ObjOk P w H h a u:=by
  rcases r with r | ⟨o,r⟩
  · exact x a u r
  · obtain ⟨_,q⟩:=x a _ r
    exact q
noncomputable def Mut : Option HO→Prop
  | some (.lst _)=>True
  | some (.dK _)=>True
  | some (.dT _)=>True
  | some (.set _ _)=>True
  | some (.ins _ _ _)=>True
  | some (.ext _)=>True
  | _=>False
section
variable {P : Program} {w : World} {H : Hp} {h h' : Heap} {x e : Addr} {o' : HO}
theorem HOk.write (ok : HOk P w H h) (mu : Mut (H x)) (he : e=x∨H e=some (.own x)) (k : ∀ b u,b≠e→h.get? b=some u→h'.get? b=some u) (heo : ∃ u,h'.get? e=some u)
    (new : ObjOk P w (upd H x o') h' x o') : HOk P w (upd H x o') h':=fun b u q=>by
  have nown : ∀ c y,H c=some (.own y)→c≠x:=fun c y r z=>by subst z; rw [r] at mu; exact mu
  have ntup : ∀ c xs,H c=some (.tup xs)→c≠x:=fun c xs r z=>by subst z; rw [r] at mu; exact mu
  by_cases hb : b=x
  · subst hb; rw [upd_same] at q; cases q; exact new
  · rw [upd_ne hb] at q
    by_cases hbe : b=e
    · have q' : H b=some (.own x):=by
        rcases he with z | z
        · exact absurd (hbe.trans z) hb
        · rw [hbe]; exact z
      rw [q] at q'; cases q'
      obtain ⟨v,hv⟩:=heo
      exact ⟨v,by rw [hbe]; exact hv⟩
    · refine (ok b u q).stay (fun c v hc r=>k c v ?_ r) (fun c r=>by rw [upd_ne (nown c b r)]; exact r) fun c xs r=>by rw [upd_ne (ntup c xs r)]; exact r
      rcases hc with rfl | hc
      · exact hbe
      · rintro rfl
        rcases he with z | z
        · exact nown c b hc z
        · rw [hc] at z; cases z; exact hb rfl
end
structure Un (fs ex : List Addr) (H H' : Hp) (h h' : Heap) : Prop where
  keep : ∀ b o,h.get? b=some o→H b=none→b∉fs→b∉ex→h'.get? b=some o
  slot : ∀ b o,h.get? b=some o→H b=none→b∈fs→b∉ex→∃ sl,h'.get? b=some { o with slots:=sl }
  free : ∀ b o,h.get? b=some o→H b=none→b∉ex→H' b=none
  there : ∀ b o,h.get? b=some o→b∉ex→∃ o',h'.get? b=some o'
  tups : ∀ b xs,H b=some (.tup xs)→H' b=some (.tup xs)
  frzs : ∀ b o u,H b=some (.frz o u)→H' b=some (.frz o u)
  tbls : ∀ b ps,H b=some (.tbl ps)→∃ more,H' b=some (.tbl (ps ++ more))
section
variable {fs fs' ex ex' : List Addr} {H H1 H2 : Hp} {h h1 h2 h' : Heap} {a x e : Addr} {o : HO}
theorem Un.any (u : Un fs ex H H1 h h1) {b : Addr} {ob : Obj} (q : h.get? b=some ob) (n : H b=none) (hx : b∉ex) : ∃ sl,h1.get? b=some { ob with slots:=sl }:=by
  by_cases hb : b∈fs
  · exact u.slot b ob q n hb hx
  · exact ⟨ob.slots,u.keep b ob q n hb hx⟩
theorem Un.kept (k : ∀ b u,h.get? b=some u→h'.get? b=some u) : Un fs ex H H h h' :=
  ⟨fun b ob q _ _ _=>k b ob q,fun b ob q _ _ _=>⟨ob.slots,k b ob q⟩,fun _ _ _ n _=>n,fun b ob q _=>⟨ob,k b ob q⟩,fun _ _ q=>q,fun _ _ _ q=>q,fun _ ps q=>⟨#[],by rw [q]; simp⟩⟩
theorem Un.refl : Un fs ex H H h h:=Un.kept fun _ _ q=>q
theorem Un.laid (k : ∀ b u,h.get? b=some u→h'.get? b=some u) (hp : h.objs.size≤a) (hn : H a=none) : Un fs ex H (upd H a o) h h' where
  keep:=fun b u q _ _ _=>k b u q
  slot:=fun b u q _ _ _=>⟨u.slots,k b u q⟩
  free:=fun b u q n _=>by rw [upd_ne (Nat.ne_of_lt (Nat.lt_of_lt_of_le (Heap.lt_size q) hp))]; exact n
  there:=fun b u q _=>⟨u,k b u q⟩
  tups:=fun b xs q=>by rw [upd_ne (ne_of_none q hn)]; exact q
  frzs:=fun b u xs q=>by rw [upd_ne (ne_of_none q hn)]; exact q
  tbls:=fun b ps q=>⟨#[],by rw [upd_ne (ne_of_none q hn),q]; simp⟩
theorem Un.write (mu : Mut (H x)) (he : e=x∨H e=some (.own x)) (k : ∀ b u,b≠e→h.get? b=some u→h'.get? b=some u) (heo : ∃ u,h'.get? e=some u) : Un fs ex H (upd H x o) h h':=by
  have hx : ∀ b,H b=none→b≠x:=fun b n z=>by subst z; rw [n] at mu; exact mu
  have hb : ∀ b,H b=none→b≠e:=fun b n z=>by
    subst z
    rcases he with r | r
    · exact hx b n r
    · rw [n] at r; cases r
  have hm : ∀ b u,H b=some u→¬ Mut (some u)→b≠x:=fun b u q nm z=>by subst z; rw [q] at mu; exact nm mu
  refine ⟨fun b u q n _ _=>k b u (hb b n) q,fun b u q n _ _=>⟨u.slots,k b u (hb b n) q⟩,fun b u q n _=>by rw [upd_ne (hx b n)]; exact n,fun b u q _=>?_,
    fun b xs q=>by rw [upd_ne (hm b _ q fun z=>z)]; exact q,fun b u xs q=>by rw [upd_ne (hm b _ q fun z=>z)]; exact q,fun b ps q=>⟨#[],by rw [upd_ne (hm b _ q fun z=>z),q]; simp⟩⟩
  by_cases hbe : b=e
  · subst hbe; exact heo
  · exact ⟨u,k b u hbe q⟩
end
noncomputable def trk (h : Heap) (H : Hp) : List Addr:=(List.range h.objs.size).filter fun a=>(H a).isSome
noncomputable def hidT (h : Heap) (H : Hp) : Heap:=PySem.W.hideAll h (trk h H)
theorem hidT_size (h : Heap) (H : Hp) : (hidT h H).objs.size=h.objs.size:=PySem.W.hideAll_size _ _
theorem hidT_get {h : Heap} {H : Hp} {b : Addr} {o : Obj} (e : h.get? b=some o) (n : H b=none) : (hidT h H).get? b=some o :=
  PySem.W.hideAll_get _ e fun hm=>by
    have q : (H b).isSome=true:=(List.mem_filter.mp hm).2
    rw [n] at q; simp at q
theorem of_hidT {h : Heap} {H : Hp} {b : Addr} {o : Obj} (e : (hidT h H).get? b=some o) : h.get? b=some o∧H b=none:=by
  have e' : h.get? b=some o:=PySem.W.of_hideAll (trk h H) e
  refine ⟨e',?_⟩
  cases q : H b with
  | none=>rfl
  | some x =>
    have hm : b∈trk h H:=List.mem_filter.mpr ⟨List.mem_range.mpr (Heap.lt_size e'),by simp [q]⟩
    have z : (hidT h H).get? b=none:=PySem.W.hideAll_none (trk h H) hm
    rw [z] at e; cases e
noncomputable def allNews (g h : Heap) (L : Addr) : List (Addr × Obj):=(List.range h.objs.size).filterMap fun a=>if a=L∨(g.get? a).isSome=true then none else (h.get? a).map fun o=>(a,o)
theorem of_mem_allNews {g h : Heap} {L : Addr} {p : Addr × Obj} (hp : p∈allNews g h L) : p.1≠L∧g.get? p.1=none∧h.get? p.1=some p.2:=by
  obtain ⟨b,_,e⟩:=List.mem_filterMap.mp hp
  split at e
  · cases e
  · rename_i hn
    cases q : h.get? b with
    | none=>rw [q] at e; simp at e
    | some u =>
      rw [q] at e
      simp only [Option.map_some,Option.some.injEq] at e
      subst e
      refine ⟨fun z=>hn (.inl z),?_,q⟩
      show g.get? b=none
      cases r : g.get? b with
      | none=>rfl
      | some v=>exact (hn (.inr (by simp [r]))).elim
noncomputable def rest (g h : Heap) (L d : Addr) : List (Addr × Obj):=(allNews g h L).filter fun p=>decide (p.1≠d)
theorem news_all {g h : Heap} {L : Addr} : News g L h (allNews g h L):=fun p hp=>let ⟨a,b,c⟩:=of_mem_allNews hp; ⟨c,a,b⟩
end L2
namespace L2
open PySem PySem.Spec PyProof.Rows
structure Mod (K : PySem.W.Frag) (mg : Str→Option Value) (base : Heap) : Prop where
  kin : K.In base
  glob : base.Ns mainGlobals mg
  blt : ∃ mb,base.Ns builtinsNs mb∧∀ x : Str,x≠"__name__"→mb x=bootBuiltins x
  nolimit : base.NoLimit
structure Cx where
  prog : Program
  w : World
  K : PySem.W.Frag
  mg : Str→Option Value
  base : Heap
  A : Around
  N : List Str
  s₀ : Shared
  H₀ : Hp
  env : Env
  outer : List Env
  stack : List Env
  ex : List Addr
  fn : Str→Bool
  calm : Bool
  pn : List (Addr × Obj)
  xe : Value→Shared→Prop
noncomputable def frs (l : List Env) : List Addr:=l.filterMap (·.frame)
noncomputable abbrev Cx.fs (X : Cx) : List Addr:=frs X.outer
noncomputable def Vis (sc : Scope) (x : Str) : Prop:=sc.names.lookup x=some .local∨sc.names.lookup x=some .cell∨sc.names.lookup x=some .free
noncomputable def Loc (sc : Scope) (x : Str) : Prop:=sc.names.lookup x=some .local∨sc.names.lookup x=some .cell
noncomputable def Look (env : Env) (h : Heap) (m : Str→Option Value) (x : Str) (u : Value) : Prop :=
  (env.kindOf x=some .local∧m x=some u)∨((env.kindOf x=some .cell∨env.kindOf x=some .free)∧∃ c,env.cells.lookup x=some c∧h.IsCell c (some u))
structure Cx.Ok (X : Cx) : Prop where
  mod : Mod X.K X.mg X.base
  kind : X.env.scope.kind = .function
  glob : X.env.globals=mainGlobals
  blt : X.env.builtins=builtinsNs
  above : X.s₀.heap.objs.size≤X.env.locals
  inj : ∀ x y c,X.env.cells.lookup x=some c→X.env.cells.lookup y=some c→x=y
  has : ∀ x,(X.env.kindOf x=some .cell∨X.env.kindOf x=some .free)→∃ c,X.env.cells.lookup x=some c
  cab : ∀ x c,X.fn x=true→X.env.cells.lookup x=some c→X.s₀.heap.objs.size≤c
  hd : X.calm=true→X.A.handled=none
  frames : X.A.frames=some X.stack
  stk : X.stack=X.outer∨(X.stack=X.env :: X.outer∧X.env.frame=some X.env.locals)
  exf : ∀ b∈X.ex,b≠X.env.locals∧∀ x c,X.env.cells.lookup x=some c→c≠b
  bs : ∀ b o,X.base.get? b=some o→X.s₀.heap.get? b=some o∧X.H₀ b=none
  bsz : X.base.objs.size≤X.s₀.heap.objs.size
  noex : ∀ b o,X.base.get? b=some o→b∉X.ex
  exfs : ∀ b∈X.ex,b∉X.fs
  funs : X.s₀.heap.FunFrames X.base X.outer
  frf : ∀ b∈X.fs,X.H₀ b=none
structure Inv (X : Cx) (pins : List (Addr × Obj)) (σ : List (Option V)) (H : Hp) (s : Shared) : Prop where
  ok : X.Ok
  os : s.os=X.s₀.os
  bare : AllBare s.gens
  base : Un X.fs X.ex X.H₀ H X.s₀.heap s.heap
  loc : ∃ m,s.heap.Ns X.env.locals m∧∀ (i : Nat) (x : Str) (v : V),X.N[i]?=some x→σ[i]?=some (some v)→Vis X.env.scope x→∃ u,RelV v u∧Look X.env s.heap m x u
  cell : ∀ x c,X.env.cells.lookup x=some c→∃ v,s.heap.IsCell c v
  free : H X.env.locals=none
  freeC : ∀ x c,X.env.cells.lookup x=some c→H c=none
  pin : ∀ p∈X.pn ++ pins,s.heap.get? p.1=some p.2∧H p.1=none∧p.1≠X.env.locals∧p.1∉X.fs∧∀ v,p.2.data ≠ .cell v
  hok : HOk X.prog X.w H s.heap
  len : σ.length=X.N.length
section
variable {X : Cx} {pins : List (Addr × Obj)} {σ : List (Option V)} {H H' : Hp} {s : Shared} {h' : Heap}
theorem Cx.Ok.nofr (ok : X.Ok) {b : Addr} {o : Obj} (e : X.base.get? b=some o) : b∉X.fs:=fun hb=>by
  have:=(ok.funs.mem hb).1
  rw [e] at this; cases this
theorem Inv.bs (I : Inv X pins σ H s) : ∀ b o,X.base.get? b=some o→s.heap.get? b=some o∧H b=none:=fun b o e =>
  ⟨I.base.keep b o (I.ok.bs b o e).1 (I.ok.bs b o e).2 (I.ok.nofr e) (I.ok.noex b o e),I.base.free b o (I.ok.bs b o e).1 (I.ok.bs b o e).2 (I.ok.noex b o e)⟩
theorem Inv.bk (I : Inv X pins σ H s) : ∀ b o,X.base.get? b=some o→s.heap.get? b=some o:=fun b o e=>(I.bs b o e).1
theorem Inv.mod (I : Inv X pins σ H s) : Mod X.K X.mg X.base:=I.ok.mod
theorem Inv.kIn (I : Inv X pins σ H s) : X.K.In s.heap:=I.ok.mod.kin.keeps I.bk
theorem Inv.nolimit (I : Inv X pins σ H s) : s.heap.NoLimit:=I.ok.mod.nolimit.keeps I.bk
theorem Inv.lt (I : Inv X pins σ H s) : X.env.locals < s.heap.objs.size:=let ⟨_,hn,_⟩:=I.loc; hn.lt
theorem Inv.sz (I : Inv X pins σ H s) : X.s₀.heap.objs.size≤s.heap.objs.size:=Nat.le_trans I.ok.above (Nat.le_of_lt I.lt)
theorem Inv.nofs (I : Inv X pins σ H s) {a : Addr} (h : s.heap.objs.size≤a) : a∉X.fs:=fun hb=>by
  obtain ⟨_,o,ho,_⟩:=I.ok.funs.mem hb
  exact absurd (Nat.lt_of_lt_of_le (Heap.lt_size ho) (Nat.le_trans I.sz h)) (Nat.lt_irrefl _)
theorem Inv.cne (I : Inv X pins σ H s) : ∀ x c,X.env.cells.lookup x=some c→c≠X.env.locals:=fun x c e z=>by
  obtain ⟨v,o,ho,hd⟩:=I.cell x c e
  obtain ⟨m,⟨o',es,ep,ho',hd',_⟩,_⟩:=I.loc
  rw [z,ho'] at ho; cases ho; rw [hd'] at hd; cases hd
theorem Inv.funs (I : Inv X pins σ H s) : s.heap.FunFrames X.base X.outer:=by
  have all : ∀ (l : List Env),(∀ b∈frs l,b∈X.fs)→X.s₀.heap.FunFrames X.base l→s.heap.FunFrames X.base l:=by
    intro l
    induction l with
    | nil=>intro _ _; trivial
    | cons env r ih =>
      intro hs hl
      obtain ⟨hk,⟨L,o,hf,hn,ho,hd⟩,hr⟩:=hl
      have hL : L∈X.fs:=hs L (by unfold frs; rw [List.filterMap_cons,hf]; exact List.mem_cons_self)
      obtain ⟨sl,e⟩:=I.base.slot L o ho (I.ok.frf L hL) hL fun z=>I.ok.exfs L z hL
      exact ⟨hk,⟨L,_,hf,hn,e,hd⟩,ih (fun b hb=>hs b (by unfold frs; rw [List.filterMap_cons,hf]; exact List.mem_cons_of_mem _ hb)) hr⟩
  exact all X.outer (fun _ hb=>hb) I.ok.funs
theorem Inv.stack (I : Inv X pins σ H s) : s.heap.FunFrames X.base X.stack:=by
  rcases I.ok.stk with e | ⟨e,hf⟩
  · rw [e]; exact I.funs
  · rw [e]
    obtain ⟨m,hn,_⟩:=I.loc
    refine .cons (by rw [I.ok.kind]; decide) hf hn ?_ I.funs
    exact Heap.get?_none_of_le (Nat.le_trans I.ok.bsz I.ok.above)
theorem Inv.stkSub (I : Inv X pins σ H s) : ∀ b∈frs X.stack,b∈X.env.locals :: X.fs:=fun b hb=>by
  rcases I.ok.stk with e | ⟨e,hf⟩
  · rw [e] at hb; exact List.mem_cons_of_mem _ hb
  · rw [e] at hb
    unfold frs at hb
    rw [List.filterMap_cons,hf] at hb
    exact hb
theorem Inv.stkFree (I : Inv X pins σ H s) : ∀ b∈frs X.stack,H b=none:=fun b hb=>by
  rcases List.mem_cons.mp (I.stkSub b hb) with e | hb
  · rw [e]; exact I.free
  · obtain ⟨_,o,ho,_⟩:=I.ok.funs.mem hb
    exact I.base.free b o ho (I.ok.frf b hb) fun z=>I.ok.exfs b z hb
theorem Inv.step {g' : Array GenState} {t' : Nat} {d' : Drawn} {ch : List Addr} (I : Inv X pins σ H s)
    (hch : ∀ b∈ch,(b∈X.ex∨X.s₀.heap.objs.size≤b)∧b≠X.env.locals∧(∀ x c,X.env.cells.lookup x=some c→c≠b)∧∀ p∈X.pn ++ pins,p.1≠b)
    (keep : ∀ b o,b≠X.env.locals→b∉X.fs→b∉ch→s.heap.get? b=some o→H b=none→h'.get? b=some o)
    (slot : ∀ b o,b≠X.env.locals→b∈X.fs→b∉ch→s.heap.get? b=some o→H b=none→∃ sl,h'.get? b=some { o with slots:=sl }) (free : ∀ b o,b∉ch→s.heap.get? b=some o→H b=none→H' b=none)
    (there : ∀ b o,b∉ch→s.heap.get? b=some o→∃ o',h'.get? b=some o')
    (tups : ∀ b xs,H b=some (.tup xs)→H' b=some (.tup xs)) (frzs : ∀ b o u,H b=some (.frz o u)→H' b=some (.frz o u)) (tbls : ∀ b ps,H b=some (.tbl ps)→∃ more,H' b=some (.tbl (ps ++ more)))
    (ns : ∀ m,s.heap.Ns X.env.locals m→h'.Ns X.env.locals m) (hok : HOk X.prog X.w H' h') (hg : AllBare g') :
    Inv X pins σ H' { s with heap:=h',gens:=g',drawn:=d',toks:=t' }:=by
  have neL : ∀ b o,X.s₀.heap.get? b=some o→b≠X.env.locals:=fun b o e=>Nat.ne_of_lt (Nat.lt_of_lt_of_le (Heap.lt_size e) I.ok.above)
  have neC : ∀ b o,X.s₀.heap.get? b=some o→b∉X.ex→b∉ch:=fun b o e hx hb=>by
    rcases (hch b hb).1 with z | z
    · exact hx z
    · exact absurd (Nat.lt_of_lt_of_le (Heap.lt_size e) z) (Nat.lt_irrefl _)
  have cellK : ∀ x c,X.env.cells.lookup x=some c→∀ v,s.heap.IsCell c v→h'.IsCell c v:=fun x c e v ⟨o,ho,hd⟩=>by
    have nch : c∉ch:=fun z=>(hch c z).2.2.1 x c e rfl
    by_cases hc : c∈X.fs
    · obtain ⟨sl,q⟩:=slot c o (I.cne x c e) hc nch ho (I.freeC x c e)
      exact ⟨_,q,hd⟩
    · exact ⟨o,keep c o (I.cne x c e) hc nch ho (I.freeC x c e),hd⟩
  refine ⟨I.ok,I.os,hg,⟨fun b o e n hb hx=>?_,fun b o e n hb hx=>?_,fun b o e n hx=>?_,fun b o e hx=>?_,fun b xs e=>tups b xs (I.base.tups b xs e),fun b o xs e=>frzs b o xs (I.base.frzs b o xs e),fun b ps e=>?_⟩,?_,fun x c e=>?_,?_,fun x c e=>?_,fun p hp=>?_,hok,I.len⟩
  · exact keep b o (neL b o e) hb (neC b o e hx) (I.base.keep b o e n hb hx) (I.base.free b o e n hx)
  · obtain ⟨sl,e1⟩:=I.base.slot b o e n hb hx
    obtain ⟨sl',e2⟩:=slot b _ (neL b o e) hb (neC b o e hx) e1 (I.base.free b o e n hx)
    exact ⟨sl',e2⟩
  · obtain ⟨o',e1⟩:=I.base.there b o e hx
    exact free b o' (neC b o e hx) e1 (I.base.free b o e n hx)
  · obtain ⟨o',e1⟩:=I.base.there b o e hx
    exact there b o' (neC b o e hx) e1
  · obtain ⟨m1,e1⟩:=I.base.tbls b ps e
    obtain ⟨m2,e2⟩:=tbls b _ e1
    exact ⟨m1 ++ m2,by rw [e2,Array.append_assoc]⟩
  · obtain ⟨m,hn,hl⟩:=I.loc
    refine ⟨m,ns m hn,fun i x v e1 e2 e3=>?_⟩
    obtain ⟨u,r,l⟩:=hl i x v e1 e2 e3
    refine ⟨u,r,?_⟩
    rcases l with l | ⟨k,c,e,z⟩
    · exact .inl l
    · exact .inr ⟨k,c,e,cellK x c e _ z⟩
  · obtain ⟨v,z⟩:=I.cell x c e
    exact ⟨v,cellK x c e v z⟩
  · obtain ⟨m,⟨o,_,_,ho,_⟩,_⟩:=I.loc
    exact free _ o (fun z=>(hch _ z).2.1 rfl) ho I.free
  · obtain ⟨v,o,ho,hd⟩:=I.cell x c e
    exact free c o (fun z=>(hch c z).2.2.1 x c e rfl) ho (I.freeC x c e)
  · obtain ⟨e,n,ne,nf,d⟩:=I.pin p hp
    have nch : p.1∉ch:=fun z=>(hch p.1 z).2.2.2 p hp rfl
    exact ⟨keep p.1 p.2 ne nf nch e n,free p.1 p.2 nch e n,ne,nf,d⟩
theorem Inv.un {t' : Nat} (I : Inv X pins σ H s) (u : Un X.fs [] H H' s.heap h') (hok : HOk X.prog X.w H' h') : Inv X pins σ H' { s with heap:=h',toks:=t' }:=by
  obtain ⟨m,⟨o,es,ep,ho,r⟩,_⟩:=id I.loc
  obtain ⟨sl,hL⟩:=u.any ho I.free (by simp)
  exact I.step (g':=s.gens) (d':=s.drawn) (ch:=[]) (fun _ z=>nomatch z) (fun b o _ hb _ e n=>u.keep b o e n hb (by simp)) (fun b o _ hb _ e n=>u.slot b o e n hb (by simp)) (fun b o _ e n=>u.free b o e n (by simp)) (fun b o _ e=>u.there b o e (by simp)) u.tups u.frzs u.tbls (fun m' hm=>by
    obtain ⟨o',es',ep',ho',r'⟩:=hm
    rw [ho] at ho'; cases ho'
    exact ⟨_,es',ep',hL,r'⟩) hok I.bare
theorem Inv.call {g' : Array GenState} {t' : Nat} {d' : Drawn} {ch : List Addr} (I : Inv X pins σ H s) (u : Un (frs X.stack) ch H H' s.heap h') (hok : HOk X.prog X.w H' h') (hg : AllBare g')
    (hch : ∀ b∈ch,(b∈X.ex∨X.s₀.heap.objs.size≤b)∧b≠X.env.locals∧(∀ x c,X.env.cells.lookup x=some c→c≠b)∧∀ p∈X.pn ++ pins,p.1≠b) :
    Inv X pins σ H' { s with heap:=h',gens:=g',drawn:=d',toks:=t' }:=by
  obtain ⟨m,⟨o,es,ep,ho,r⟩,_⟩:=id I.loc
  obtain ⟨sl,hL⟩:=u.any ho I.free fun z=>(hch _ z).2.1 rfl
  exact I.step (ch:=ch) hch (fun b o hL hb hc e n=>u.keep b o e n (fun z=>(List.mem_cons.mp (I.stkSub b z)).elim hL hb) hc) (fun b o _ _ hc e n=>u.any e n hc) (fun b o hc e n=>u.free b o e n hc) (fun b o hc e=>u.there b o e hc) u.tups u.frzs u.tbls (fun m' hm=>by
    obtain ⟨o',es',ep',ho',r'⟩:=hm
    rw [ho] at ho'; cases ho'
    exact ⟨_,es',ep',hL,r'⟩) hok hg
theorem Inv.turned {t' : Nat} {it : Addr} (I : Inv X pins σ H s) (k : ∀ b o,b≠it→s.heap.get? b=some o→h'.get? b=some o) (hn : H it=none) (hL : it≠X.env.locals)
    (h1 : it∈X.ex∨X.s₀.heap.objs.size≤it) (h2 : ∀ x c,X.env.cells.lookup x=some c→c≠it) (h3 : ∀ p∈X.pn ++ pins,p.1≠it) : Inv X pins σ H { s with heap:=h',toks:=t' }:=by
  have nit : ∀ b u,H b=some u→b≠it:=fun b u e z=>by rw [z,hn] at e; cases e
  refine I.step (g':=s.gens) (d':=s.drawn) (ch:=[it]) (fun b hb=>?_) (fun b o _ _ hc e _=>k b o (fun z=>hc (by simp [z])) e) (fun b o _ _ hc e _=>⟨o.slots,k b o (fun z=>hc (by simp [z])) e⟩) (fun _ _ _ _ n=>n)
    (fun b o hc e=>⟨o,k b o (fun z=>hc (by simp [z])) e⟩) (fun _ _ e=>e) (fun _ _ _ e=>e) (fun b ps e=>⟨#[],by rw [e]; simp⟩) (fun m hm=>?_) (fun b u e=>?_) I.bare
  · have e : b=it:=by simpa using hb
    subst e
    exact ⟨h1,hL,h2,h3⟩
  · obtain ⟨o,es,ep,ho,r⟩:=hm
    exact ⟨o,es,ep,k _ o (Ne.symm hL) ho,r⟩
  · refine (I.hok b u e).stay (fun c v hc q=>k c v ?_ q) (fun _ q=>q) fun _ _ q=>q
    rcases hc with z | z
    · rw [z]; exact nit b u e
    · exact nit c _ z
theorem Inv.tok (I : Inv X pins σ H s) (t : Nat) : Inv X pins σ H { s with toks:=t }:=I.un (h':=s.heap) (t':=t) Un.refl I.hok
theorem Inv.kept {t' : Nat} (I : Inv X pins σ H s) (k : ∀ b u,s.heap.get? b=some u→h'.get? b=some u) : Inv X pins σ H { s with heap:=h',toks:=t' }:=I.un (Un.kept k) (I.hok.kept k)
theorem Inv.laid {a : Addr} {o : HO} {t' : Nat} (I : Inv X pins σ H s) (k : ∀ b u,s.heap.get? b=some u→h'.get? b=some u) (hp : s.heap.objs.size≤a) (new : ObjOk X.prog X.w (upd H a o) h' a o) :
    Inv X pins σ (upd H a o) { s with heap:=h',toks:=t' }:=I.un (Un.laid k hp (I.hok.fresh hp)) (I.hok.laid k hp new)
theorem Inv.write {x e : Addr} {o : HO} {t' : Nat} (I : Inv X pins σ H s) (mu : Mut (H x)) (he : e=x∨H e=some (.own x)) (k : ∀ b u,b≠e→s.heap.get? b=some u→h'.get? b=some u) (heo : ∃ u,h'.get? e=some u)
    (new : ObjOk X.prog X.w (upd H x o) h' x o) : Inv X pins σ (upd H x o) { s with heap:=h',toks:=t' }:=I.un (Un.write mu he k heo) (I.hok.write mu he k heo new)
theorem Inv.weak {σ' : List (Option V)} (I : Inv X pins σ H s) (hl : σ'.length=σ.length) (w : ∀ (i : Nat) v,σ'[i]?=some (some v)→σ[i]?=some (some v)) : Inv X pins σ' H s :=
  ⟨I.ok,I.os,I.bare,I.base,let ⟨m,hn,hl'⟩:=I.loc; ⟨m,hn,fun i x v e1 e2 e3=>hl' i x v e1 (w i v e2) e3⟩,I.cell,I.free,I.freeC,I.pin,I.hok,hl.trans I.len⟩
theorem Inv.pins_of {pins' : List (Addr × Obj)} (I : Inv X pins σ H s) (h : ∀ p∈pins',s.heap.get? p.1=some p.2∧H p.1=none∧p.1≠X.env.locals∧p.1∉X.fs∧∀ v,p.2.data ≠ .cell v) : Inv X pins' σ H s :=
  ⟨I.ok,I.os,I.bare,I.base,I.loc,I.cell,I.free,I.freeC,fun p hp=>(List.mem_append.mp hp).elim (fun z=>I.pin p (List.mem_append_left _ z)) (h p),I.hok,I.len⟩
theorem nodup_ix {N : List Str} (hN : N.Nodup) {i j : Nat} {x : Str} (a : N[i]?=some x) (b : N[j]?=some x) : i=j:=by
  obtain ⟨h1,e1⟩:=List.getElem?_eq_some_iff.mp a
  obtain ⟨h2,e2⟩:=List.getElem?_eq_some_iff.mp b
  exact (List.getElem_inj hN).mp (e1.trans e2.symm)
theorem store_ok2 {M : Model} {A : Around} {E : Value→Shared→Prop} {i : Nat} {x : Str} {v : V} {u : Value} {Q : Unit→Shared→Prop} (I : Inv X pins σ H s) (hN : X.N.Nodup) (hi : X.N[i]?=some x) (hx : Loc X.env.scope x) (r : RelV v u)
    (h : ∀ s',Inv X pins (σ.set i (some v)) H s'→(∃ a,Heap.SameBut a s.heap s'.heap∧(a=X.env.locals∨X.env.cells.lookup x=some a))→Q () s') (hf : X.fn x=true∨X.env.scope.names.lookup x=some .local:=by first | exact .inl rfl | exact .inr rfl | assumption) : wpAny M A (storeName X.env x u) Q E s:=by
  obtain ⟨m,hn,hl⟩:=id I.loc
  have hcls : (X.env.scope.kind == .class || (X.env.scope.kind == .module && X.env.locals != X.env.globals))=false:=by rw [I.ok.kind]; rfl
  have hiσ : i < σ.length:=by rw [I.len]; exact (List.getElem?_eq_some_iff.mp hi).1
  have cne:=I.cne
  have tracked : ∀ {a : Addr} {h' : Heap},(∃ o,s.heap.get? a=some o∧H a=none)→Heap.SameBut a s.heap h'→HOk X.prog X.w H h':=fun {a h'} ha hs b ob e=>by
    obtain ⟨_,_,hfree⟩:=ha
    refine (I.hok b ob e).stay (fun c w' hc q=>(hs.2 c ?_).trans q) (fun _ q=>q) fun _ _ q=>q
    rintro rfl
    rcases hc with rfl | hc
    · rw [hfree] at e; cases e
    · rw [hfree] at hc; cases hc
  rcases hx with hk | hk
  · refine wpAny_storeName_local hk hn (fun h' hn' hs=>?_) hcls
    obtain ⟨oL,_,_,hoL,_⟩:=id hn
    refine h _ ⟨I.ok,I.os,I.bare,⟨fun b o e n hb hx=>?_,fun b o e n hb hx=>?_,I.base.free,fun b o e hx=>?_,I.base.tups,I.base.frzs,I.base.tbls⟩,⟨_,hn',fun j y v' e1 e2 e3=>?_⟩,fun y c e=>?_,I.free,I.freeC,fun p hp=>?_,tracked ⟨oL,hoL,I.free⟩ hs,by simpa using I.len⟩ ⟨_,hs,.inl rfl⟩
    · exact (hs.2 b (Nat.ne_of_lt (Nat.lt_of_lt_of_le (Heap.lt_size e) I.ok.above))).trans (I.base.keep b o e n hb hx)
    · obtain ⟨sl,e1⟩:=I.base.slot b o e n hb hx
      exact ⟨sl,(hs.2 b (Nat.ne_of_lt (Nat.lt_of_lt_of_le (Heap.lt_size e) I.ok.above))).trans e1⟩
    · obtain ⟨o',e1⟩:=I.base.there b o e hx
      exact ⟨o',(hs.2 b (Nat.ne_of_lt (Nat.lt_of_lt_of_le (Heap.lt_size e) I.ok.above))).trans e1⟩
    · by_cases hj : j=i
      · subst hj
        rw [hi] at e1; cases e1
        rw [List.getElem?_set_self hiσ] at e2
        cases e2
        exact ⟨u,r,.inl ⟨hk,by simp⟩⟩
      · rw [List.getElem?_set_ne (Ne.symm hj)] at e2
        obtain ⟨u',r',q⟩:=hl j y v' e1 e2 e3
        refine ⟨u',r',?_⟩
        rcases q with ⟨k,e⟩ | ⟨k,c,e,z⟩
        · refine .inl ⟨k,?_⟩
          have : y≠x:=fun e=>hj (nodup_ix hN e1 (e ▸ hi))
          simp [this,e]
        · exact .inr ⟨k,c,e,z.sameBut hs (cne y c e)⟩
    · obtain ⟨w',z⟩:=I.cell y c e
      exact ⟨w',z.sameBut hs (cne y c e)⟩
    · obtain ⟨e,n,ne,nf,d⟩:=I.pin p hp
      exact ⟨(hs.2 p.1 ne).trans e,n,ne,nf,d⟩
  · have hfn : X.fn x=true:=by
      rcases hf with z | z
      · exact z
      · rw [z] at hk; cases hk
    obtain ⟨c,hc⟩:=I.ok.has x (.inl hk)
    obtain ⟨w',z⟩:=I.cell x c hc
    refine wpAny_storeName_cell I.ok.kind hk hc z (fun h' hc' hs=>?_)
    obtain ⟨oc,hoc,hocd⟩:=id z
    refine h { s with heap:=h' } ⟨I.ok,I.os,I.bare,⟨fun b o e n hb hx=>?_,fun b o e n hb hx=>?_,I.base.free,fun b o e hx=>?_,I.base.tups,I.base.frzs,I.base.tbls⟩,⟨m,hn.sameBut hs (Ne.symm (cne x c hc)),fun j y v' e1 e2 e3=>?_⟩,fun y c' e=>?_,I.free,I.freeC,fun p hp=>?_,tracked ⟨oc,hoc,I.freeC x c hc⟩ hs,by simpa using I.len⟩ ⟨c,hs,.inr hc⟩
    · exact (hs.2 b (Nat.ne_of_lt (Nat.lt_of_lt_of_le (Heap.lt_size e) (I.ok.cab x c hfn hc)))).trans (I.base.keep b o e n hb hx)
    · obtain ⟨sl,e1⟩:=I.base.slot b o e n hb hx
      exact ⟨sl,(hs.2 b (Nat.ne_of_lt (Nat.lt_of_lt_of_le (Heap.lt_size e) (I.ok.cab x c hfn hc)))).trans e1⟩
    · obtain ⟨o',e1⟩:=I.base.there b o e hx
      exact ⟨o',(hs.2 b (Nat.ne_of_lt (Nat.lt_of_lt_of_le (Heap.lt_size e) (I.ok.cab x c hfn hc)))).trans e1⟩
    · by_cases hj : j=i
      · subst hj
        rw [hi] at e1; cases e1
        rw [List.getElem?_set_self hiσ] at e2
        cases e2
        exact ⟨u,r,.inr ⟨.inl hk,c,hc,hc'⟩⟩
      · rw [List.getElem?_set_ne (Ne.symm hj)] at e2
        obtain ⟨u',r',q⟩:=hl j y v' e1 e2 e3
        refine ⟨u',r',?_⟩
        rcases q with q | ⟨k,c',e,z'⟩
        · exact .inl q
        · refine .inr ⟨k,c',e,z'.sameBut hs ?_⟩
          rintro rfl
          exact hj (nodup_ix hN e1 (I.ok.inj _ _ _ e hc ▸ hi))
    · by_cases hcc : c'=c
      · subst hcc; exact ⟨_,hc'⟩
      · obtain ⟨w2,z2⟩:=I.cell y c' e
        exact ⟨w2,z2.sameBut hs hcc⟩
    · obtain ⟨e,n,ne,nf,d⟩:=I.pin p hp
      refine ⟨(hs.2 p.1 ?_).trans e,n,ne,nf,d⟩
      intro q
      rw [q,hoc] at e
      have q' : oc=p.2:=Option.some.inj e
      exact d w' (by rw [← q']; exact hocd)
theorem store_ok {M : Model} {A : Around} {E : Value→Shared→Prop} {i : Nat} {x : Str} {v : V} {u : Value} {Q : Unit→Shared→Prop} (I : Inv X pins σ H s) (hN : X.N.Nodup) (hi : X.N[i]?=some x) (hx : Loc X.env.scope x) (r : RelV v u)
    (h : ∀ s',Inv X pins (σ.set i (some v)) H s'→Q () s') (hf : X.fn x=true∨X.env.scope.names.lookup x=some .local:=by first | exact .inl rfl | exact .inr rfl | assumption) : wpAny M A (storeName X.env x u) Q E s :=
  store_ok2 I hN hi hx r (fun s' I' _=>h s' I') hf
theorem Inv.call' {s' : Shared} {ch : List Addr} (I : Inv X pins σ H s) (ho : s'.os=s.os) (u : Un (frs X.stack) ch H H' s.heap s'.heap) (hok : HOk X.prog X.w H' s'.heap) (hg : AllBare s'.gens)
    (hch : ∀ b∈ch,(b∈X.ex∨X.s₀.heap.objs.size≤b)∧b≠X.env.locals∧(∀ x c,X.env.cells.lookup x=some c→c≠b)∧∀ p∈X.pn ++ pins,p.1≠b) : Inv X pins σ H' s':=by
  obtain ⟨h',g',d',t',o'⟩:=s'
  have e : o'=s.os:=ho
  subst e
  exact I.call (g':=g') (t':=t') (d':=d') u hok hg hch
end
noncomputable abbrev XK:=Value→Option Addr→Hp→Prop
noncomputable abbrev St:=List (Option V)
noncomputable abbrev VK:=V→Hp→Prop
noncomputable abbrev TE:=St→Hp→VK→Prop
noncomputable abbrev TT:=St→Hp→(Bool→Hp→Prop)→Prop
noncomputable abbrev TA:=St→Hp→(List V→Hp→Prop)→Prop
structure Ends where
  nx : St→Hp→Prop
  rt : VK
  bk : St→Hp→Prop:=fun _ _=>False
  ct : St→Hp→Prop:=fun _ _=>False
noncomputable abbrev TS:=Ends→St→Hp→Prop
noncomputable def EP (X : Cx) (pins : List (Addr × Obj)) (σ : St) (Q : VK) (u : Value) (s' : Shared) : Prop:=∃ v H',Inv X pins σ H' s'∧RelV v u∧Q v H'
noncomputable def TP (X : Cx) (pins : List (Addr × Obj)) (σ : St) (Q : Bool→Hp→Prop) (b : Bool) (s' : Shared) : Prop:=∃ H',Inv X pins σ H' s'∧Q b H'
noncomputable def AP (X : Cx) (pins : List (Addr × Obj)) (σ : St) (Q : List V→Hp→Prop) (us : List Value) (s' : Shared) : Prop:=∃ vs H',Inv X pins σ H' s'∧Vals vs us∧Q vs H'
noncomputable def SP (X : Cx) (pins : List (Addr × Obj)) (D : Ends) (f : Flow) (s' : Shared) : Prop :=
  match f with
  | .next=>∃ σ' H',Inv X pins σ' H' s'∧D.nx σ' H'
  | .brk=>∃ σ' H',Inv X pins σ' H' s'∧D.bk σ' H'
  | .cont=>∃ σ' H',Inv X pins σ' H' s'∧D.ct σ' H'
  | .ret u=>∃ v σ' H',Inv X pins σ' H' s'∧RelV v u∧D.rt v H'
noncomputable def PE (X : Cx) (e : Expr) (t : TE) : Prop :=
  ∀ (pins : List (Addr × Obj)) (s : Shared) (σ : St) (H : Hp) (Q : VK),Inv X pins σ H s→t σ H Q→wpAny (model X.prog X.w) X.A (eval e X.env) (EP X pins σ Q) X.xe s
noncomputable def PT (X : Cx) (e : Expr) (t : TT) : Prop :=
  ∀ (pins : List (Addr × Obj)) (s : Shared) (σ : St) (H : Hp) (Q : Bool→Hp→Prop),Inv X pins σ H s→t σ H Q→wpAny (model X.prog X.w) X.A (isTrue e X.env (eval e X.env)) (TP X pins σ Q) X.xe s
noncomputable def PW (X : Cx) (e : Expr) (t : TT) : Prop :=
  ∀ (whole : Sem Value) (pins : List (Addr × Obj)) (s : Shared) (σ : St) (H : Hp) (Q : Bool→Hp→Prop),Inv X pins σ H s→t σ H Q→wpAny (model X.prog X.w) X.A (isTrue e X.env whole) (TP X pins σ Q) X.xe s
theorem PW.pt {X : Cx} {e : Expr} {t : TT} (h : PW X e t) : PT X e t:=h _
noncomputable def PA (X : Cx) (es : List Expr) (t : TA) : Prop :=
  ∀ (pos : Pos) (pins : List (Addr × Obj)) (s : Shared) (σ : St) (H : Hp) (Q : List V→Hp→Prop),Inv X pins σ H s→t σ H Q→wpAny (model X.prog X.w) X.A (spliced (backTo pos (starEach es X.env))) (AP X pins σ Q) X.xe s
noncomputable def PS (X : Cx) (st : Stmt) (t : TS) : Prop :=
  ∀ (pins : List (Addr × Obj)) (s : Shared) (σ : St) (H : Hp) (D : Ends),Inv X pins σ H s→t D σ H→wpAny (model X.prog X.w) X.A (exec st X.env) (SP X pins D) X.xe s
noncomputable def PSs (X : Cx) (st : List Stmt) (t : TS) : Prop :=
  ∀ (pins : List (Addr × Obj)) (s : Shared) (σ : St) (H : Hp) (D : Ends),Inv X pins σ H s→t D σ H→wpAny (model X.prog X.w) X.A (execs st X.env) (SP X pins D) X.xe s
theorem thn {α : Type} {t : Sem α} {Q Q' : α→Shared→Prop} {M : Model} {A : Around} {E : Value→Shared→Prop} {s : Shared} (h : wpAny M A t Q E s) (hQ : ∀ a s,Q a s→Q' a s) : wpAny M A t Q' E s:=wpAny_mono h hQ fun _ _ x=>x
end L2
namespace L2
open PySem PySem.Spec PyProof.Rows
section
variable {X : Cx}
noncomputable def tVar (i : Nat) : TE:=fun σ H Q=>∃ v,σ[i]?=some (some v)∧Q v H
noncomputable def tC (v : V) : TE:=fun _ H Q=>Q v H
theorem pe_var {i : Nat} {x : Str} {pos : Pos} (hN : X.N[i]?=some x) (hv : Vis X.env.scope x) (hd : (x == ("__debug__" : Str))=false:=by decide) (hcd : (x == ("__classdict__" : Str))=false:=by decide) : PE X (.Name x pos) (tVar i):=by
  intro pins s σ H Q I h
  obtain ⟨v,e,h⟩:=h
  obtain ⟨m,hn,hl⟩:=I.loc
  obtain ⟨u,r,l⟩:=hl i x v hN e hv
  have fin : EP X pins σ Q u s:=⟨v,H,I,r,h⟩
  rcases l with ⟨hk,hm⟩ | ⟨hk,c,hc,hcell⟩
  · exact wpAny_Name (wpAny_loadName_local I.ok.kind hk hn hm fin) hd
  · rcases hk with hk | hk
    · exact wpAny_Name (wpAny_loadName_cell I.ok.kind hk hc hcell fin) hd
    · exact wpAny_Name (wpAny_loadName_free I.ok.kind hk hc hcell fin hcd) hd
theorem pe_int {i j pos} : PE X (.Constant (.int i) j pos) (tC (.int i)):=fun _ _ _ H _ I h=>wpAny_Constant_int ⟨.int i,H,I.tok _,⟨_,rfl⟩,h⟩
theorem pe_bl {b j pos} : PE X (.Constant (.bool b) j pos) (tC (.bl b)):=fun _ _ _ H _ I h=>Constant_bool ⟨.bl b,H,I,rfl,h⟩
theorem pe_non {j pos} : PE X (.Constant .none j pos) (tC .non):=fun _ _ _ H _ I h=>Constant_none ⟨.non,H,I,rfl,h⟩
noncomputable def Gl (X : Cx) (x : Str) : Prop:=X.env.kindOf x=some .globalImplicit
theorem ld_glob {E : Value→Shared→Prop} {pins : List (Addr × Obj)} {s : Shared} {σ : St} {H : Hp} {x : Str} {u : Value} {pos : Pos} {Q : Value→Shared→Prop} (I : Inv X pins σ H s) (hg : Gl X x) (hm : X.mg x=some u) (h : Q u s)
    (hd : (x == ("__debug__" : Str))=false:=by decide) : wpAny (model X.prog X.w) X.A (eval (.Name x pos) X.env) Q E s :=
  Calls.Name_function_global I.ok.kind hg (Calls.loadGlobal_global (by rw [I.ok.glob]; exact I.mod.glob.keeps I.bk) hm h) hd
theorem ld_blt {E : Value→Shared→Prop} {pins : List (Addr × Obj)} {s : Shared} {σ : St} {H : Hp} {x : Str} {u : Value} {pos : Pos} {Q : Value→Shared→Prop} (I : Inv X pins σ H s) (hg : Gl X x) (hm : X.mg x=none) (hv : bootBuiltins x=some u) (h : Q u s)
    (hn : x≠"__name__":=by decide) (hd : (x == ("__debug__" : Str))=false:=by decide) : wpAny (model X.prog X.w) X.A (eval (.Name x pos) X.env) Q E s:=by
  obtain ⟨mb,h1,h2⟩:=I.mod.blt
  exact Calls.Name_function_global I.ok.kind hg (Calls.loadGlobal_builtin (by rw [I.ok.glob]; exact I.mod.glob.keeps I.bk) hm (by rw [I.ok.blt]; exact h1.keeps I.bk) ((h2 x hn).trans hv) h) hd
theorem pe_bltn {x : Str} {v : V} {u : Value} {pos : Pos} (hg : Gl X x) (hm : X.mg x=none) (hv : bootBuiltins x=some u) (r : RelV v u) (hn : x≠"__name__":=by decide) (hd : (x == ("__debug__" : Str))=false:=by decide) : PE X (.Name x pos) (tC v) :=
  fun _ _ _ H _ I h=>ld_blt I hg hm hv ⟨v,H,I,r,h⟩ hn hd
variable {a b : Expr} {ta tb : TE} {pos : Pos}
noncomputable def PC (X : Cx) (op : CmpOp) (a b : Expr) (t : TE) : Prop :=
  ∀ (pins : List (Addr × Obj)) (s : Shared) (σ : St) (H : Hp) (Q : VK),Inv X pins σ H s→t σ H Q →
    wpAny (model X.prog X.w) X.A (eval a X.env) (fun v s₁=>wpAny (model X.prog X.w) X.A (eval b X.env) (fun u s₂=>wpAny (model X.prog X.w) X.A (compareOp op v u) (EP X pins σ Q) X.xe s₂) X.xe s₁) X.xe s
theorem nobehind (b : Expr) {op : CmpOp} (h : op ≠ .In) (h2 : op ≠ .NotIn) : behindInMarks op b=false:=by
  have e1 : (op == CmpOp.In)=false:=by cases op <;> first | rfl | exact absurd rfl h
  have e2 : (op == CmpOp.NotIn)=false:=by cases op <;> first | rfl | exact absurd rfl h2
  cases b <;> simp [behindInMarks,e1,e2]
noncomputable def tB (t : TE) : TT:=fun σ H Q=>t σ H fun x H1=>∃ c,x = .bl c∧Q c H1
theorem pt_cmp {op : CmpOp} {t : TE} (h : PC X op a b t) (h1 : behindInMarks op b=false:=by first | exact nobehind _ (by decide) (by decide) | rfl) : PT X (.Compare a [op] [b] pos) (tB t):=by
  intro pins s σ H Q I hw
  refine wpAny_isTrue_Compare1 (thn (h pins s σ H _ I hw) fun v s1 h1=>thn h1 fun u s2 h2=>thn h2 fun c s3 ⟨x,H1,I1,r1,q1⟩=>?_) h1
  obtain ⟨d,rfl,q⟩:=q1
  cases r1
  exact wpAny_truthy_bool ⟨H1,I1,q⟩
theorem pt_val {e : Expr} {t : TE} (h : PE X e t) (he : ∀ whole,isTrue e X.env whole=(do let v ← whole; standAt e.pos; holding [v] (truthy v)):=by intro _; rfl) : PT X e (tB t):=by
  intro pins s σ H Q I hw
  refine isTrue_plain (thn (h pins s σ H _ I hw) fun v s1 ⟨x,H1,I1,r1,q1⟩=>?_) (he _)
  obtain ⟨d,rfl,q⟩:=q1
  cases r1
  exact wpAny_truthy_bool ⟨H1,I1,q⟩
variable {tA tB' : TT} {rest : List Expr}
noncomputable def tAnd (t u : TT) : TT:=fun σ H Q=>t σ H fun c H1=>if c=true then u σ H1 Q else Q false H1
noncomputable def tOr (t u : TT) : TT:=fun σ H Q=>t σ H fun c H1=>if c=true then Q true H1 else u σ H1 Q
noncomputable def tNot (t : TT) : TT:=fun σ H Q=>t σ H fun c H1=>Q (!c) H1
theorem pw_and1 (ha : PT X a tA) : PW X (.BoolOp .And [a] pos) tA:=by
  intro wh pins s σ H Q I h
  refine isTrue_and (thn (ha pins s σ H Q I h) fun c s1 e=>?_)
  cases c with
  | true=>exact isTrue_and_nil e
  | false=>exact e
theorem pw_or1 (ha : PT X a tA) : PW X (.BoolOp .Or [a] pos) tA:=by
  intro wh pins s σ H Q I h
  refine isTrue_or (thn (ha pins s σ H Q I h) fun c s1 e=>?_)
  cases c with
  | false=>exact isTrue_or_nil e
  | true=>exact e
theorem pw_and (ha : PT X a tA) (hb : PW X (.BoolOp .And (b :: rest) pos) tB') : PW X (.BoolOp .And (a :: b :: rest) pos) (tAnd tA tB'):=by
  intro wh pins s σ H Q I h
  refine isTrue_and (thn (ha pins s σ H _ I h) fun c s1 ⟨H1,I1,q1⟩=>?_)
  cases c with
  | true=>exact hb wh pins s1 σ H1 Q I1 q1
  | false=>exact ⟨H1,I1,q1⟩
theorem pw_or (ha : PT X a tA) (hb : PW X (.BoolOp .Or (b :: rest) pos) tB') : PW X (.BoolOp .Or (a :: b :: rest) pos) (tOr tA tB'):=by
  intro wh pins s σ H Q I h
  refine isTrue_or (thn (ha pins s σ H _ I h) fun c s1 ⟨H1,I1,q1⟩=>?_)
  cases c with
  | true=>exact ⟨H1,I1,q1⟩
  | false=>exact hb wh pins s1 σ H1 Q I1 q1
theorem pt_not (ha : PT X a tA) : PT X (.UnaryOp .Not a pos) (tNot tA):=by
  intro pins s σ H Q I h
  exact isTrue_not (ha pins s σ H (fun c H1=>Q (!c) H1) I h)
noncomputable def tAndV (ta tb : TE) : TE:=fun σ H Q=>ta σ H fun x H1=>∃ c,x = .bl c∧if c=true then tb σ H1 Q else Q (.bl false) H1
theorem pe_one {op} {t : TE} (h : PE X a t) : PE X (.BoolOp op [a] pos) t:=fun pins s σ H Q I hw=>BoolOp_one (h pins s σ H Q I hw)
theorem pe_and (ha : PE X a ta) (hb : PE X (.BoolOp .And (b :: rest) pos) tb) : PE X (.BoolOp .And (a :: b :: rest) pos) (tAndV ta tb):=by
  intro pins s σ H Q I h
  refine BoolOp_and (thn (ha pins s σ H _ I h) fun v s1 ⟨x,H1,I1,r1,q1⟩=>?_)
  obtain ⟨c,rfl,q1⟩:=q1
  cases r1
  refine wpAny_truthy_bool ?_
  cases c with
  | true=>exact hb pins s1 σ H1 Q I1 q1
  | false=>exact ⟨.bl false,H1,I1,rfl,q1⟩
end
end L2
namespace L2
open PySem PySem.Spec PyProof.Rows
noncomputable def SqL (K : PySem.W.Frag) (H : Hp) (a : Addr) (xs : List V) : Prop :=
  Rd H a (.lst xs) ∨
    ∃ (o : Obj) (its : Array Value) (n : Nat),K.lookup a=some o∧o.cls = .type "list"∧o.dict=none∧o.data = .seq its n∧its.size≤sizeLine∧Vals xs its.toList
noncomputable def SqT (K : PySem.W.Frag) (H : Hp) (a : Addr) (xs : List V) : Prop :=
  Rd H a (.tup xs) ∨
    ∃ (o : Obj) (its : Array Value) (n : Nat),K.lookup a=some o∧o.cls = .type "tuple"∧o.data = .seq its n∧its.size≤sizeLine∧Vals xs its.toList
noncomputable def absV : Value→Option V
  | .none=>some .non
  | .bool b=>some (.bl b)
  | .int i _=>some (.int i)
  | .str x _=>some (.str x)
  | .bytes b _=>some (.byt b)
  | .float b _=>some (.flt b)
  | .ref a=>some (.ref a)
  | .type n=>some (.ty n)
  | _=>none
theorem RelV.abs {x : V} {u : Value} (r : RelV x u) : absV u=some x:=by
  cases x with
  | non=>cases r; rfl
  | bl _=>cases r; rfl
  | int _=>obtain ⟨t,rfl⟩:=r; rfl
  | str _=>obtain ⟨t,rfl⟩:=r; rfl
  | byt _=>obtain ⟨t,rfl⟩:=r; rfl
  | flt _=>obtain ⟨t,rfl⟩:=r; rfl
  | ref _=>cases r; rfl
  | ty _=>cases r; rfl
theorem RelV.inj {x y : V} {u : Value} (r : RelV x u) (q : RelV y u) : x=y:=Option.some.inj (r.abs.symm.trans q.abs)
theorem Vals.inj : ∀ {xs ys : List V} {us : List Value},Vals xs us→Vals ys us→xs=ys
  | _,_,_,.nil,.nil=>rfl
  | _,_,_,.cons r t,.cons r' t'=>by rw [r.inj r',Vals.inj t t']
section
variable {X : Cx} {pins : List (Addr × Obj)} {σ : St} {H : Hp} {s : Shared} {a : Addr} {xs ys : List V}
theorem SqL.of {K : PySem.W.Frag} (h : H a=some (.lst xs)) : SqL K H a xs := .inl (.inl h)
theorem SqT.of {K : PySem.W.Frag} (h : H a=some (.tup xs)) : SqT K H a xs := .inl (.inl h)
theorem Inv.list (I : Inv X pins σ H s) (h : SqL X.K H a xs) : ∃ its : List Value,Vals xs its∧PlainL s.heap a its.toArray∧xs.length≤sizeLine:=by
  rcases h with h | ⟨o,its,n,hk,hc,hd,hs,hz,r⟩
  · obtain ⟨z,its,n,r,e⟩:=h.ok I.hok
    exact ⟨its,r,⟨_,n,e,rfl,rfl,rfl⟩,z⟩
  · refine ⟨its.toList,r,⟨o,n,I.kIn a o hk,hc,hd,by simpa using hs⟩,?_⟩
    have e:=r.length
    simp only [Array.length_toList] at e
    omega
theorem Inv.tuple (I : Inv X pins σ H s) (h : SqT X.K H a xs) : ∃ its : List Value,Vals xs its∧IsTup s.heap a its.toArray∧xs.length≤sizeLine:=by
  rcases h with h | ⟨o,its,n,hk,hc,hs,hz,r⟩
  · obtain ⟨z,its,r,p⟩:=h.ok I.hok
    exact ⟨its,r,p,z⟩
  · refine ⟨its.toList,r,⟨o,I.kIn a o hk,hc,n,by simpa using hs⟩,?_⟩
    have e:=r.length
    simp only [Array.length_toList] at e
    omega
theorem Inv.list_inj (I : Inv X pins σ H s) (h : SqL X.K H a xs) (h' : SqL X.K H a ys) : xs=ys:=by
  obtain ⟨its,r,⟨o,n,e,_,_,d⟩,_⟩:=I.list h
  obtain ⟨its',r',⟨o',n',e',_,_,d'⟩,_⟩:=I.list h'
  rw [e] at e'; cases e'
  rw [d] at d'
  injection d' with d1 _
  have : its=its':=by simpa using congrArg Array.toList d1
  subst this
  exact r.inj r'
theorem Inv.tuple_inj (I : Inv X pins σ H s) (h : SqT X.K H a xs) (h' : SqT X.K H a ys) : xs=ys:=by
  obtain ⟨its,r,⟨o,e,_,n,d⟩,_⟩:=I.tuple h
  obtain ⟨its',r',⟨o',e',_,n',d'⟩,_⟩:=I.tuple h'
  rw [e] at e'; cases e'
  rw [d] at d'
  injection d' with d1 _
  have : its=its':=by simpa using congrArg Array.toList d1
  subst this
  exact r.inj r'
end
noncomputable abbrev Cx.wish (X : Cx) (E : Value→Shared→Prop) : Cx:={ X with xe:=E }
noncomputable abbrev Cx.nox (X : Cx) : Cx:=X.wish fun _ _=>False
theorem Cx.Ok.wish {X : Cx} (ok : X.Ok) (E : Value→Shared→Prop) : (X.wish E).Ok :=
  ⟨ok.mod,ok.kind,ok.glob,ok.blt,ok.above,ok.inj,ok.has,ok.cab,ok.hd,ok.frames,ok.stk,ok.exf,ok.bs,ok.bsz,ok.noex,ok.exfs,ok.funs,ok.frf⟩
theorem Cx.Ok.unwish {X : Cx} {E : Value→Shared→Prop} (ok : (X.wish E).Ok) : X.Ok :=
  ⟨ok.mod,ok.kind,ok.glob,ok.blt,ok.above,ok.inj,ok.has,ok.cab,ok.hd,ok.frames,ok.stk,ok.exf,ok.bs,ok.bsz,ok.noex,ok.exfs,ok.funs,ok.frf⟩
section
variable {X : Cx} {pins : List (Addr × Obj)} {σ : St} {H : Hp} {s : Shared} {E : Value→Shared→Prop}
theorem Inv.wish (I : Inv X pins σ H s) (E : Value→Shared→Prop) : Inv (X.wish E) pins σ H s:=⟨I.ok.wish E,I.os,I.bare,I.base,I.loc,I.cell,I.free,I.freeC,I.pin,I.hok,I.len⟩
theorem Inv.unwish (I : Inv (X.wish E) pins σ H s) : Inv X pins σ H s:=⟨I.ok.unwish,I.os,I.bare,I.base,I.loc,I.cell,I.free,I.freeC,I.pin,I.hok,I.len⟩
theorem SP.unwish {D : Ends} {f : Flow} {s' : Shared} (h : SP (X.wish E) pins D f s') : SP X pins D f s':=by
  cases f with
  | next=>obtain ⟨σ',H',I,q⟩:=h; exact ⟨σ',H',I.unwish,q⟩
  | brk=>obtain ⟨σ',H',I,q⟩:=h; exact ⟨σ',H',I.unwish,q⟩
  | cont=>obtain ⟨σ',H',I,q⟩:=h; exact ⟨σ',H',I.unwish,q⟩
  | ret u=>obtain ⟨v,σ',H',I,r,q⟩:=h; exact ⟨v,σ',H',I.unwish,r,q⟩
theorem PE.nox {e : Expr} {t : TE} (h : PE X.nox e t) : PE X e t:=fun pins s σ H Q I hw =>
  wpAny_mono (h pins s σ H Q (I.wish _) hw) (fun _ _ ⟨v,H',I',r,q⟩=>⟨v,H',I'.unwish,r,q⟩) fun _ _ z=>False.elim z
theorem PT.nox {e : Expr} {t : TT} (h : PT X.nox e t) : PT X e t:=fun pins s σ H Q I hw =>
  wpAny_mono (h pins s σ H Q (I.wish _) hw) (fun _ _ ⟨H',I',q⟩=>⟨H',I'.unwish,q⟩) fun _ _ z=>False.elim z
theorem PSs.nox {st : List Stmt} {t : TS} (h : PSs X.nox st t) : PSs X st t:=fun pins s σ H D I hw =>
  wpAny_mono (h pins s σ H D (I.wish _) hw) (fun _ _ q=>q.unwish) fun _ _ z=>False.elim z
end
section
variable {X : Cx} {st : Stmt} {rest : List Stmt} {t u : TS} {e : Expr} {te : TE} {pos : Pos}
noncomputable def tNext : TS:=fun D σ H=>D.nx σ H
noncomputable def tSeq (t u : TS) : TS:=fun D σ H=>t { D with nx:=u D } σ H
theorem pss_nil : PSs X [] tNext:=fun _ _ σ H _ I h=>wpAny_execs_nil ⟨σ,H,I,h⟩
theorem pss_cons (h1 : PS X st t) (h2 : PSs X rest u) : PSs X (st :: rest) (tSeq t u):=by
  intro pins s σ H D I h
  refine wpAny_execs_cons (thn (h1 pins s σ H { D with nx:=u D } I h) fun f s1 q=>?_)
  cases f with
  | next =>
    obtain ⟨σ',H',I',q⟩:=q
    exact h2 pins s1 σ' H' D I' q
  | ret v=>exact q
  | brk=>exact q
  | cont=>exact q
theorem pss_one (h1 : PS X st t) : PSs X [st] t:=by
  intro pins s σ H D I h
  refine wpAny_execs_cons (thn (h1 pins s σ H D I h) fun f s1 q=>?_)
  cases f with
  | next=>exact wpAny_execs_nil q
  | ret v=>exact q
  | brk=>exact q
  | cont=>exact q
theorem Inv.quiet {pins : List (Addr × Obj)} {σ : St} {H : Hp} {s : Shared} (I : Inv X pins σ H s) : interactive X.env=false:=by simp [interactive,I.ok.kind]
noncomputable def tDrop (te : TE) : TS:=fun D σ H=>te σ H fun _ H1=>D.nx σ H1
theorem ps_expr (he : PE X e te) (hs : swapsWith e none pos.line X.env=pure false:=by rfl) : PS X (.Expr e pos) (tDrop te):=by
  intro pins s σ H D I h
  exact wpAny_Expr_any (thn (he pins s σ H _ I h) fun v s1 ⟨x,H1,I1,r1,q1⟩=>⟨σ,H1,I1,q1⟩) I.quiet hs
noncomputable def tRet (te : TE) : TS:=fun D σ H=>te σ H D.rt
theorem ps_ret (he : PE X e te) : PS X (.Return (some e) pos) (tRet te):=by
  intro pins s σ H D I h
  exact wpAny_Return_some (thn (he pins s σ H _ I h) fun v s1 ⟨x,H1,I1,r1,q1⟩=>⟨x,σ,H1,I1,r1,q1⟩)
noncomputable def tIfS (c : TT) (t u : TS) : TS:=fun D σ H=>c σ H fun b H1=>if b=true then t D σ H1 else u D σ H1
theorem ps_if {c : Expr} {a b : List Stmt} {tc : TT} (hc : PT X c tc) (ha : PSs X a t) (hb : PSs X b u) : PS X (.If c a b pos) (tIfS tc t u):=by
  intro pins s σ H D I h
  refine wpAny_If (thn (hc pins s σ H _ I h) fun d s1 ⟨H1,I1,q1⟩=>?_)
  cases d with
  | true=>exact ha pins s1 σ H1 D I1 q1
  | false=>exact hb pins s1 σ H1 D I1 q1
end
noncomputable abbrev TG:=V→St→Hp→(St→Hp→Prop)→Prop
noncomputable abbrev TGs:=List V→St→Hp→(St→Hp→Prop)→Prop
noncomputable def PG (X : Cx) (target : Expr) (t : TG) : Prop :=
  ∀ (pins : List (Addr × Obj)) (s : Shared) (σ : St) (H : Hp) (v : V) (u : Value) (Q : St→Hp→Prop),Inv X pins σ H s→RelV v u→t v σ H Q →
    wpAny (model X.prog X.w) X.A (assign target X.env u) (fun _ s'=>∃ σ' H',Inv X pins σ' H' s'∧Q σ' H') X.xe s
noncomputable def PGs (X : Cx) (ts : List Expr) (t : TGs) : Prop :=
  ∀ (pins : List (Addr × Obj)) (s : Shared) (σ : St) (H : Hp) (vs : List V) (us : List Value) (Q : St→Hp→Prop),Inv X pins σ H s→Vals vs us→t vs σ H Q →
    wpAny (model X.prog X.w) X.A (assignInOrder ((assignEach ts X.env).map (·.2)) us) (fun _ s'=>∃ σ' H',Inv X pins σ' H' s'∧Q σ' H') X.xe s
noncomputable abbrev TSet:=V→V→V→Hp→(Hp→Prop)→Prop
noncomputable def PSet (X : Cx) (t : TSet) : Prop :=
  ∀ (pins : List (Addr × Obj)) (s : Shared) (σ : St) (H : Hp) (o i v : V) (ov iv u : Value) (Q : Hp→Prop),Inv X pins σ H s→RelV o ov→RelV i iv→RelV v u→t o i v H Q →
    wpAny (model X.prog X.w) X.A (setItem ov iv u) (fun _ s'=>∃ H',Inv X pins σ H' s'∧Q H') X.xe s
section
variable {X : Cx} {pos : Pos}
noncomputable def gName (i : Nat) : TG:=fun v σ H Q=>Q (σ.set i (some v)) H
theorem pg_name {i : Nat} {x : Str} (hN : X.N.Nodup) (hi : X.N[i]?=some x) (hx : Loc X.env.scope x) (hf : X.fn x=true∨X.env.scope.names.lookup x=some .local:=by first | exact .inl rfl | exact .inr rfl | assumption) : PG X (.Name x pos) (gName i):=by
  intro pins s σ H v u Q I r h
  exact wpAny_assign_Name (store_ok I hN hi hx r (fun s' I'=>⟨_,H,I',h⟩) hf)
noncomputable def gNil : TGs:=fun vs σ H Q=>vs=[]∧Q σ H
noncomputable def gCons (t : TG) (u : TGs) : TGs:=fun vs σ H Q=>∃ v r,vs=v :: r∧t v σ H fun σ' H'=>u r σ' H' Q
theorem pgs_nil : PGs X [] gNil:=by
  intro pins s σ H vs us Q I r h
  obtain ⟨e,h⟩:=h
  subst e
  cases r
  exact assignInOrder_nil ⟨σ,H,I,h⟩
theorem pgs_cons {e : Expr} {es : List Expr} {t : TG} {u : TGs} (h1 : PG X e t) (h2 : PGs X es u)
    (hs : (assignEach (e :: es) X.env).map (·.2)=assign e X.env :: (assignEach es X.env).map (·.2):=by rfl) : PGs X (e :: es) (gCons t u):=by
  intro pins s σ H vs us Q I r h
  obtain ⟨v,vr,e1,h⟩:=h
  subst e1
  cases r with
  | cons r rr =>
    rw [hs]
    refine assignInOrder_cons (thn (h1 pins s σ H _ _ _ I r h) fun _ s1 ⟨σ1,H1,I1,q1⟩=>?_)
    exact h2 pins s1 σ1 H1 _ _ Q I1 rr q1
noncomputable def gTup (K : PySem.W.Frag) (n : Nat) (t : TGs) : TG:=fun v σ H Q=>∃ a xs,v = .ref a∧SqT K H a xs∧xs.length=n∧t xs σ H Q
theorem pg_tup {es : List Expr} {k : Nat} {t : TGs} {n : Nat} (hc : X.calm=true) (h : PGs X es t)
    (hn : (assignEach es X.env).length=n:=by rfl) (hst : (assignEach es X.env).findIdx? (·.1)=none:=by rfl) : PG X (.Tuple es k pos) (gTup X.K n t):=by
  intro pins s σ H v u Q I r hw
  obtain ⟨a,xs,e1,hq,hl,hw⟩:=hw
  subst e1
  cases r
  obtain ⟨its,rv,ht,hz⟩:=I.tuple hq
  refine assign_Tuple_tuple (I.ok.hd hc) ht (by simp [hn,← hl,rv.length]) hst fun h' hx=>?_
  have I1 : Inv X pins σ H { s with heap:=h' }:=I.kept (t':=s.toks) fun b o e=>hx b o (Nat.ne_of_lt (Heap.lt_size e)) e
  exact h pins _ σ H xs _ Q I1 (by simpa using rv) hw
noncomputable def gSub (to ti : TE) (t : TSet) : TG:=fun v σ H Q=>to σ H fun o H1=>ti σ H1 fun i H2=>t o i v H2 fun H3=>Q σ H3
theorem pg_sub {o i : Expr} {to ti : TE} {t : TSet} (ho : PE X o to) (hi : PE X i ti) (hs : PSet X t)
    (ha : ∀ v,assign (.Subscript o i pos) X.env v=(do
      let ov ← holding [v] (eval o X.env)
      let iv ← holding [v,ov] (eval i X.env)
      standAt pos
      holding [v,ov,iv] (setItem ov iv v)
      release [v,ov,iv] []):=by intro _; rfl) : PG X (.Subscript o i pos) (gSub to ti t):=by
  intro pins s σ H v u Q I r h
  rw [ha]
  refine wpAny_bind (wpAny_holding (thn (ho pins s σ H _ I h) fun ov s1 ⟨x,H1,I1,r1,q1⟩=>?_))
  refine wpAny_bind (wpAny_holding (thn (hi pins s1 σ H1 _ I1 q1) fun iv s2 ⟨y,H2,I2,r2,q2⟩=>?_))
  refine wpAny_bind (wpAny_standAt (wpAny_bind (wpAny_holding (thn (hs pins s2 σ H2 x y v ov iv u _ I2 r1 r2 r q2) fun _ s3 ⟨H3,I3,q3⟩=>?_))))
  exact wpAny_release ⟨σ,H3,I3,q3⟩
noncomputable def tAsg (te : TE) (g : TG) : TS:=fun D σ H=>te σ H fun x H1=>g x σ H1 D.nx
theorem ps_asg {tg e : Expr} {te : TE} {g : TG} (he : PE X e te) (hg : PG X tg g) (hs : swapsWithSole [tg] e pos.line X.env=pure false:=by rfl) (hw : swappedStores [tg] e X.env=pure none:=by rfl)
    (h1 : (assignEach [tg] X.env).map (·.2)=[assign tg X.env]:=by rfl) : PS X (.Assign [tg] e pos) (tAsg te g):=by
  intro pins s σ H D I h
  refine wpAny_Assign_stores (thn (he pins s σ H _ I h) fun v s1 ⟨x,H1,I1,r1,q1⟩=>?_) hs hw
  rw [h1]
  exact thn (hg pins s1 σ H1 x v _ I1 r1 q1) fun _ s2 q=>q
theorem ps_set {i : Nat} {x : Str} {e : Expr} {te : TE} {pos' : Pos} (hN : X.N.Nodup) (hi : X.N[i]?=some x) (hx : Loc X.env.scope x) (he : PE X e te) (hs : swapsWith e (some (.Name x pos')) pos.line X.env=pure false:=by rfl) (hf : X.fn x=true∨X.env.scope.names.lookup x=some .local:=by first | exact .inl rfl | exact .inr rfl | assumption) :
    PS X (.Assign [.Name x pos'] e pos) (tAsg te (gName i)):=by
  intro pins s σ H D I h
  refine wpAny_Assign_Name (thn (he pins s σ H _ I h) fun v s1 ⟨y,H1,I1,r1,q1⟩=>?_) hs
  exact store_ok I1 hN hi hx r1 (fun s2 I2=>⟨_,H1,I2,q1⟩) hf
end
section
variable {X : Cx} {pos : Pos}
noncomputable def tWhile (c : TT) (tb : TS) : TS:=fun D σ H=>∃ W : Nat→St→Hp→Prop,(∃ m,W m σ H)∧∀ m σ H,W m σ H →
  c σ H fun b H1=>if b=true then ∃ N : St→Hp→Prop,(∀ σ' H',N σ' H'→∃ m',m' < m∧W m' σ' H')∧tb { D with nx:=N,ct:=N,bk:=D.nx } σ H1 else D.nx σ H1
theorem ps_while {c : Expr} {body : List Stmt} {tc : TT} {tb : TS} (hp : PassesOwn (model X.prog X.w) X.A X.env X.xe) (hc : PT X c tc) (hb : PSs X body tb) : PS X (.While c body [] pos) (tWhile tc tb):=by
  intro pins s σ H D I h
  obtain ⟨W,⟨m0,w0⟩,turn⟩:=h
  refine wpAny_While (codeAny_whileLoop (fun n s'=>∃ σ' H',Inv X pins σ' H' s'∧W n σ' H') ?_ m0 ⟨σ,H,I,w0⟩)
  rintro n s1 ⟨σ1,H1,I1,w1⟩
  refine wpAny_passesOwn hp (thn (hc pins s1 σ1 H1 _ I1 (turn n σ1 H1 w1)) fun b s2 ⟨H2,I2,q2⟩=>?_)
  cases b with
  | true =>
    obtain ⟨N,hN,q2⟩:=q2
    rw [if_pos rfl]
    refine wpAny_passesOwn hp (thn (hb pins s2 σ1 H2 _ I2 q2) fun f s3 q3=>?_)
    cases f with
    | next =>
      obtain ⟨σ3,H3,I3,n3⟩:=q3
      obtain ⟨m',hm,w3⟩:=hN σ3 H3 n3
      exact ⟨m',hm,σ3,H3,I3,w3⟩
    | cont =>
      obtain ⟨σ3,H3,I3,n3⟩:=q3
      obtain ⟨m',hm,w3⟩:=hN σ3 H3 n3
      exact ⟨m',hm,σ3,H3,I3,w3⟩
    | brk=>exact q3
    | ret v=>exact q3
  | false =>
    rw [if_neg Bool.false_ne_true]
    exact wpAny_execs_nil ⟨σ1,H2,I2,q2⟩
end
structure It where
  go : Nat→Hp→Prop
  yld : Nat→Hp→V→Hp→Prop
  stop : Nat→Hp→Prop
noncomputable def FpOk (X : Cx) (pins : List (Addr × Obj)) (H : Hp) (b : Addr) : Prop :=
  H b=none∧b≠X.env.locals∧b∉X.fs∧(b∈X.ex∨X.s₀.heap.objs.size≤b)∧(∀ x c,X.env.cells.lookup x=some c→c≠b)∧∀ p∈X.pn ++ pins,p.1≠b
theorem Inv.fpOk {X : Cx} {pins : List (Addr × Obj)} {σ : St} {H H' : Hp} {s : Shared} {b : Addr} (I : Inv X pins σ H s) (hb : s.heap.objs.size≤b) (hn : H' b=none) : FpOk X pins H' b:=by
  refine ⟨hn,Nat.ne_of_gt (Nat.lt_of_lt_of_le I.lt hb),I.nofs hb,.inr (Nat.le_trans I.sz hb),fun x c e z=>?_,fun p hp z=>?_⟩
  · obtain ⟨v,q⟩:=I.cell x c e
    exact absurd (Nat.lt_of_lt_of_le q.lt (by rw [z]; exact hb)) (Nat.lt_irrefl _)
  · exact absurd (Nat.lt_of_lt_of_le (Heap.lt_size (I.pin p hp).1) (by rw [z]; exact hb)) (Nat.lt_irrefl _)
structure Turn (P : Program) (w : World) (K : PySem.W.Frag) (tg : Expr) (J : It) (fp : List Addr) (it : Addr) (tn : Nat→Heap→Prop) : Prop where
  mem : it∈fp
  obj : ∀ i h,tn i h→∀ b∈fp,∃ o,h.get? b=some o∧∀ v,o.data ≠ .cell v
  keep : ∀ i h h',tn i h→(∀ b∈fp,∀ o,h.get? b=some o→h'.get? b=some o)→tn i h'
  item : ∀ (X : Cx),X.prog=P→X.w=w→X.K=K→X.calm=true→∀ (i : Nat) (pins : List (Addr × Obj)) (s : Shared) (σ : St) (H : Hp) (E : Value→Shared→Prop),Inv X pins σ H s→(∀ b∈fp,FpOk X pins H b)→tn i s.heap→J.go i H →
    wpAny (model P w) X.A (pyNext (.ref it)) (fun r s1=>∃ u,r=some u ∧
      wpAny (model P w) X.A (letOwnedTupleGo tg (.ref it) u) (fun _ s2=>∃ x H',Inv X pins σ H' s2∧RelV x u∧J.yld i H x H'∧tn (i + 1) s2.heap∧∀ b∈fp,H' b=none) E s1) E s
  done : ∀ (X : Cx),X.prog=P→X.w=w→X.K=K→X.calm=true→∀ (i : Nat) (pins : List (Addr × Obj)) (s : Shared) (σ : St) (H : Hp) (E : Value→Shared→Prop),Inv X pins σ H s→(∀ b∈fp,FpOk X pins H b)→tn i s.heap→J.stop i H →
    wpAny (model P w) X.A (pyNext (.ref it)) (fun r s1=>r=none∧Inv X pins σ H s1) E s
  self : ∀ (A : Around) (i : Nat) (s : Shared) (Q : Value→Shared→Prop) (E : Value→Shared→Prop),tn i s.heap→Q (.ref it) s→wpAny (model P w) A (pyIter (.ref it)) Q E s
noncomputable abbrev TI:=St→Hp→(It→Hp→Prop)→Prop
noncomputable def PIE (X : Cx) (pins : List (Addr × Obj)) (σ : St) (tg : Expr) (R : It→Hp→Prop) (itv : Value) (s2 : Shared) : Prop :=
  ∃ (it : Addr) (fp : List Addr) (tn : Nat→Heap→Prop) (J : It) (H' : Hp),itv = .ref it∧Inv X pins σ H' s2∧Turn X.prog X.w X.K tg J fp it tn∧tn 0 s2.heap∧(∀ b∈fp,FpOk X pins H' b)∧R J H'
noncomputable def PI (X : Cx) (tg iter : Expr) (wi : TI) : Prop :=
  ∀ (pins : List (Addr × Obj)) (s : Shared) (σ : St) (H : Hp) (R : It→Hp→Prop),Inv X pins σ H s→wi σ H R →
    wpAny (model X.prog X.w) X.A (eval iter X.env) (fun v s1=>wpAny (model X.prog X.w) X.A (pyIter v) (PIE X pins σ tg R) X.xe s1) X.xe s
theorem go_of {M : Model} {A : Around} {E : Value→Shared→Prop} {s : Shared} {tg : Expr} {it : Addr} {u : Value} {o : Obj} {n : String} {vs : Array Value} {Q : Unit→Shared→Prop} (ho : s.heap.get? it=some o) (hc : o.cls = .type n) (hd : o.data = .fields vs)
    (hn : ["enumerate","zip","dict_itemiterator","dict_reverseitemiterator","odict_iterator","itertools.zip_longest","itertools.pairwise"].contains n=false) (hQ : Q () s) : wpAny M A (letOwnedTupleGo tg (.ref it) u) Q E s:=by
  unfold letOwnedTupleGo
  cases tg <;> first
    | exact wpAny_pure hQ
    | (cases u <;> first
        | exact wpAny_pure hQ
        | (refine wpAny_bind (wpAny_load ho ?_)
           rw [hc,hd]
           show wpAny M A (if (["enumerate","zip","dict_itemiterator","dict_reverseitemiterator","odict_iterator","itertools.zip_longest","itertools.pairwise"].contains n && vs[0]? == some (rawInt _))=true then _ else _) Q E s
           rw [if_neg (by intro h; rw [hn,Bool.false_and] at h; cases h)]
           exact wpAny_pure hQ))
noncomputable def Itl (K : PySem.W.Frag) (a : Addr) : It :=
  ⟨fun i H=>∃ xs x,SqL K H a xs∧xs[i]?=some x,fun i H x H'=>H'=H∧∀ xs,SqL K H a xs→xs[i]?=some x,fun i H=>∃ xs,SqL K H a xs∧xs.length≤i⟩
noncomputable def Itt (K : PySem.W.Frag) (a : Addr) : It :=
  ⟨fun i H=>∃ xs x,SqT K H a xs∧xs[i]?=some x,fun i H x H'=>H'=H∧∀ xs,SqT K H a xs→xs[i]?=some x,fun i H=>∃ xs,SqT K H a xs∧xs.length≤i⟩
noncomputable def Itr (lo : Int) (n : Nat) : It:=⟨fun i _=>i < n,fun i H x H'=>H'=H∧x = .int (lo + i),fun i _=>n≤i⟩
theorem turn_list {P : Program} {w : World} {K : PySem.W.Frag} {tg : Expr} (a it : Addr) : Turn P w K tg (Itl K a) [it] it (fun i h=>h.IsListIter it a i) where
  mem:=by simp
  obj:=fun i h st b hb=>by
    have e : b=it:=by simpa using hb
    subst e
    obtain ⟨o,e,c,d⟩:=st
    exact ⟨o,e,fun v z=>by rw [d] at z; cases z⟩
  keep:=fun i h h' st k=>st.at fun o e=>k it (by simp) o e
  item:=by
    intro X hP hw hK hc i pins s σ H E I hf st hg
    subst hP hw hK
    obtain ⟨xs,x,hq,hx⟩:=hg
    obtain ⟨its,rv,p,hz⟩:=I.list hq
    obtain ⟨u,hu,ru⟩:=rv.get hx
    obtain ⟨f0,f1,f2,f3,f4,f5⟩:=hf it (by simp)
    refine wpAny_pyNext_list_item st p.isList (x:=u) (by simpa using hu) fun h' st' sb=>?_
    have I1 : Inv X pins σ H { s with heap:=h' }:=I.turned (t':=s.toks) (fun b o hb e=>(sb.2 b hb).trans e) f0 f1 f3 f4 f5
    obtain ⟨o,e,c,d⟩:=id st'
    exact ⟨u,rfl,go_of (s:={ s with heap:=h' }) e c d (by decide) ⟨x,H,I1,ru,⟨rfl,fun ys hy=>by rw [I.list_inj hy hq]; exact hx⟩,st',fun b hb=>(hf b hb).1⟩⟩
  done:=by
    intro X hP hw hK hc i pins s σ H E I hf st hg
    subst hP hw hK
    obtain ⟨xs,hq,hx⟩:=hg
    obtain ⟨its,rv,p,hz⟩:=I.list hq
    obtain ⟨f0,f1,f2,f3,f4,f5⟩:=hf it (by simp)
    have hl:=rv.length
    exact wpAny_pyNext_list_end (I.ok.hd hc) st p.isList (by simp; omega) fun h' eb=>⟨rfl,I.turned (t':=s.toks) (fun b o hb e=>eb b o hb e) f0 f1 f3 f4 f5⟩
  self:=fun _ _ _ _ _ st h=>wpAny_pyIter_listiter st h
theorem turn_tuple {P : Program} {w : World} {K : PySem.W.Frag} {tg : Expr} (a it : Addr) : Turn P w K tg (Itt K a) [it] it (fun i h=>h.IsTupleIter it a i) where
  mem:=by simp
  obj:=fun i h st b hb=>by
    have e : b=it:=by simpa using hb
    subst e
    obtain ⟨o,e,c,d⟩:=st
    exact ⟨o,e,fun v z=>by rw [d] at z; cases z⟩
  keep:=fun i h h' st k=>st.at fun o e=>k it (by simp) o e
  item:=by
    intro X hP hw hK hc i pins s σ H E I hf st hg
    subst hP hw hK
    obtain ⟨xs,x,hq,hx⟩:=hg
    obtain ⟨its,rv,p,hz⟩:=I.tuple hq
    obtain ⟨u,hu,ru⟩:=rv.get hx
    obtain ⟨f0,f1,f2,f3,f4,f5⟩:=hf it (by simp)
    refine wpAny_pyNext_tuple_item st (show s.heap.IsTuple a its.toArray from p) (x:=u) (by simpa using hu) fun h' st' sb=>?_
    have I1 : Inv X pins σ H { s with heap:=h' }:=I.turned (t':=s.toks) (fun b o hb e=>(sb.2 b hb).trans e) f0 f1 f3 f4 f5
    obtain ⟨o,e,c,d⟩:=id st'
    exact ⟨u,rfl,go_of (s:={ s with heap:=h' }) e c d (by decide) ⟨x,H,I1,ru,⟨rfl,fun ys hy=>by rw [I.tuple_inj hy hq]; exact hx⟩,st',fun b hb=>(hf b hb).1⟩⟩
  done:=by
    intro X hP hw hK hc i pins s σ H E I hf st hg
    subst hP hw hK
    obtain ⟨xs,hq,hx⟩:=hg
    obtain ⟨its,rv,p,hz⟩:=I.tuple hq
    obtain ⟨f0,f1,f2,f3,f4,f5⟩:=hf it (by simp)
    have hl:=rv.length
    exact wpAny_pyNext_tuple_end (I.ok.hd hc) st (show s.heap.IsTuple a its.toArray from p) (by simp; omega) fun h' eb=>⟨rfl,I.turned (t':=s.toks) (fun b o hb e=>eb b o hb e) f0 f1 f3 f4 f5⟩
  self:=fun _ _ _ _ _ st h=>wpAny_pyIter_tupleiter st h
theorem turn_range {P : Program} {w : World} {K : PySem.W.Frag} {tg : Expr} (it : Addr) (lo : Int) (n : Nat) : Turn P w K tg (Itr lo n) [it] it (fun i h=>IsRangeIter h it (lo + (i : Nat) * 1) ((n : Int) - (i : Nat)) 1) where
  mem:=by simp
  obj:=fun i h st b hb=>by
    have e : b=it:=by simpa using hb
    subst e
    exact ⟨_,st,fun v z=>by
      have z' : Data.fields _=Data.cell v:=z
      cases z'⟩
  keep:=fun i h h' st k=>k it (by simp) _ st
  item:=by
    intro X hP hw hK hc i pins s σ H E I hf st hg
    subst hP hw hK
    obtain ⟨f0,f1,f2,f3,f4,f5⟩:=hf it (by simp)
    have W:=Walks.range (prog:=X.prog) (w:=X.w) (I.ok.hd hc) it lo 1 n
    refine W.item i s _ _ hg st fun v h' tk hv st' kk=>?_
    obtain ⟨t,rfl⟩:=hv
    have I1 : Inv X pins σ H { s with heap:=h',toks:=tk }:=I.turned (fun b o hb e=>kk b o (by simpa using hb) e) f0 f1 f3 f4 f5
    refine ⟨_,rfl,go_of (s:={ s with heap:=h',toks:=tk }) (n:="range_iterator") st' rfl rfl (by decide) ⟨.int (lo + i),H,I1,⟨t,?_⟩,⟨rfl,rfl⟩,st',fun b hb=>(hf b hb).1⟩⟩
    rw [Int.mul_one]
  done:=by
    intro X hP hw hK hc i pins s σ H E I hf st hg
    subst hP hw hK
    obtain ⟨f0,f1,f2,f3,f4,f5⟩:=hf it (by simp)
    exact wpAny_pyNext_range_end (I.ok.hd hc) st (by have : n≤i:=hg; omega) fun h' eb=>⟨rfl,I.turned (t':=s.toks) (fun b o hb e=>eb b o hb e) f0 f1 f3 f4 f5⟩
  self:=fun _ _ _ _ _ st h=>wpAny_pyIter_rangeiter st h
end L2
namespace L2
open PySem PySem.Spec PyProof.Rows
section
variable {X : Cx} {tg : Expr}
noncomputable def iList (K : PySem.W.Frag) (tl : TE) : TI:=fun σ H R=>tl σ H fun x H1=>∃ a,x = .ref a∧(∃ xs,SqL K H1 a xs)∧R (Itl K a) H1
noncomputable def iTup (K : PySem.W.Frag) (tl : TE) : TI:=fun σ H R=>tl σ H fun x H1=>∃ a,x = .ref a∧(∃ xs,SqT K H1 a xs)∧R (Itt K a) H1
theorem pi_list {l : Expr} {tl : TE} (hl : PE X l tl) : PI X tg l (iList X.K tl):=by
  intro pins s σ H R I h
  refine thn (hl pins s σ H _ I h) fun v s1 ⟨x,H1,I1,r1,q1⟩=>?_
  obtain ⟨a,e,⟨xs,hq⟩,q⟩:=q1
  subst e
  cases r1
  obtain ⟨its,rv,p,hz⟩:=I1.list hq
  refine wpAny_pyIter_list p.isList ?_
  refine ⟨s1.heap.objs.size,[s1.heap.objs.size],_,_,H1,rfl,I1.kept (t':=s1.toks) fun b o e=>Heap.get?_push_of_some _ e,turn_list a _,⟨_,Heap.get?_push_size _ rfl,rfl,rfl⟩,fun b hb=>?_,q⟩
  have e : b=s1.heap.objs.size:=by simpa using hb
  subst e
  exact I1.fpOk (Nat.le_refl _) (I1.hok.fresh (Nat.le_refl _))
theorem pi_tup {l : Expr} {tl : TE} (hl : PE X l tl) : PI X tg l (iTup X.K tl):=by
  intro pins s σ H R I h
  refine thn (hl pins s σ H _ I h) fun v s1 ⟨x,H1,I1,r1,q1⟩=>?_
  obtain ⟨a,e,⟨xs,hq⟩,q⟩:=q1
  subst e
  cases r1
  obtain ⟨its,rv,p,hz⟩:=I1.tuple hq
  refine wpAny_pyIter_tuple (show s1.heap.IsTuple a its.toArray from p) ?_
  refine ⟨s1.heap.objs.size,[s1.heap.objs.size],_,_,H1,rfl,I1.kept (t':=s1.toks) fun b o e=>Heap.get?_push_of_some _ e,turn_tuple a _,⟨_,Heap.get?_push_size _ rfl,rfl,rfl⟩,fun b hb=>?_,q⟩
  have e : b=s1.heap.objs.size:=by simpa using hb
  subst e
  exact I1.fpOk (Nat.le_refl _) (I1.hok.fresh (Nat.le_refl _))
theorem range_it {pins : List (Addr × Obj)} {σ : St} {H : Hp} {s : Shared} {R : It→Hp→Prop} {E : Value→Shared→Prop} {lo hi : Int} {t u v : Tok} {tk : Nat} (I : Inv X pins σ H s) (h1 : -(2 ^ 62)≤lo) (h2 : lo < 2 ^ 62) (h3 : -(2 ^ 62)≤hi) (h4 : hi < 2 ^ 62)
    (q : R (Itr lo (hi - lo).toNat) H) : wpAny (model X.prog X.w) X.A (pyIter (.ref s.heap.objs.size)) (PIE X pins σ tg R) E { s with heap:=s.heap.push { cls := .type "range",data := .fields #[.int lo t,.int hi u,.int 1 v] },toks:=tk }:=by
  refine wpAny_pyIter_range (IsRange.new ..) (small_one h1 h2 h3 h4) ?_
  have I1 : Inv X pins σ H { s with heap:=s.heap.push { cls := .type "range",data := .fields #[.int lo t,.int hi u,.int 1 v] },toks:=tk }:=I.kept fun b o e=>Heap.get?_push_of_some _ e
  refine ⟨(s.heap.push { cls := .type "range",data := .fields #[.int lo t,.int hi u,.int 1 v] }).objs.size,[(s.heap.push { cls := .type "range",data := .fields #[.int lo t,.int hi u,.int 1 v] }).objs.size],_,_,H,rfl,
    I1.kept (t':=tk) fun b o e=>Heap.get?_push_of_some _ e,turn_range _ lo (hi - lo).toNat,?_,fun b hb=>?_,q⟩
  · have e1 : lo + ((0 : Nat) : Int) * 1=lo:=by simp
    have e2 : (((hi - lo).toNat : Nat) : Int) - ((0 : Nat) : Int)=Builtin.Range.rangeSize lo hi 1:=by rw [rangeSize_one]; split <;> omega
    show IsRangeIter _ _ (lo + ((0 : Nat) : Int) * 1) ((((hi - lo).toNat : Nat) : Int) - ((0 : Nat) : Int)) 1
    rw [e1,e2]
    exact Heap.get?_push_size _ rfl
  · have e : b=(s.heap.push { cls := .type "range",data := .fields #[.int lo t,.int hi u,.int 1 v] }).objs.size:=by simpa using hb
    subst e
    exact I1.fpOk (Nat.le_refl _) (I1.hok.fresh (Nat.le_refl _))
noncomputable def iRng1 (ta : TA) : TI:=fun σ H R=>ta σ H fun vs H1=>∃ j : Int,vs=[.int j] ∧ -(2 ^ 62)≤j∧j < 2 ^ 62∧R (Itr 0 j.toNat) H1
theorem pi_range1 {a : Expr} {ta : TA} {p pos : Pos} (hg : Gl X "range") (hm : X.mg "range"=none) (ha : PA X [a] ta) (hs : starEach [a] X.env=[(false,eval a X.env)]:=by rfl) : PI X tg (.Call (.Name "range" p) [a] [] pos) (iRng1 ta):=by
  intro pins s σ H R I h
  refine Call_ (ld_blt I hg hm boot_range (PyProof.Rows.callWith_type1 (thn (ha pos pins s σ H _ I h) fun us s1 ⟨vs,H1,I1,r1,q1⟩=>?_) hs rfl))
  obtain ⟨j,e,q1,q2,q⟩:=q1
  subst e
  cases r1 with
  | cons r rr =>
    cases rr
    obtain ⟨t,rfl⟩:=r
    exact call_range_1 (range_it I1 (by omega) (by omega) q1 q2 (by simpa using q))
noncomputable def tFor (wi : TI) (g : TG) (tb : TS) : TS:=fun D σ H=>wi σ H fun J H1=>∃ W : Nat→Nat→St→Hp→Prop,(∃ m,W 0 m σ H1)∧∀ i m σ H,W i m σ H →
  (J.stop i H∧D.nx σ H)∨(J.go i H∧∃ N : St→Hp→Prop,(∀ σ' H',N σ' H'→∃ m',m' < m∧W (i + 1) m' σ' H')∧∀ x H',J.yld i H x H'→g x σ H' fun σ2 H2=>tb { D with nx:=N,ct:=N,bk:=D.nx } σ2 H2)
noncomputable def pinsAt (fp : List Addr) (h : Heap) : List (Addr × Obj):=fp.filterMap fun b=>(h.get? b).map fun o=>(b,o)
theorem mem_pinsAt {fp : List Addr} {h : Heap} {b : Addr} {o : Obj} (hb : b∈fp) (e : h.get? b=some o) : (b,o)∈pinsAt fp h:=List.mem_filterMap.mpr ⟨b,hb,by rw [e]; rfl⟩
theorem of_pinsAt {fp : List Addr} {h : Heap} {p : Addr × Obj} (hp : p∈pinsAt fp h) : p.1∈fp∧h.get? p.1=some p.2:=by
  obtain ⟨b,hb,e⟩:=List.mem_filterMap.mp hp
  cases q : h.get? b with
  | none=>rw [q] at e; cases e
  | some o =>
    rw [q] at e
    have e' : (b,o)=p:=Option.some.inj e
    subst e'
    exact ⟨hb,q⟩
theorem Inv.pinned {pins : List (Addr × Obj)} {σ : St} {H : Hp} {s : Shared} {fp : List Addr} (I : Inv X pins σ H s) (hf : ∀ b∈fp,FpOk X pins H b) (ho : ∀ b∈fp,∃ o,s.heap.get? b=some o∧∀ v,o.data ≠ .cell v) : Inv X (pins ++ pinsAt fp s.heap) σ H s :=
  I.pins_of fun p hp=>(List.mem_append.mp hp).elim (fun z=>I.pin p (List.mem_append_right _ z)) fun z=>by
    obtain ⟨hb,e⟩:=of_pinsAt z
    obtain ⟨f0,f1,f2,_⟩:=hf p.1 hb
    obtain ⟨o,e',d⟩:=ho p.1 hb
    rw [e] at e'; cases e'
    exact ⟨e,f0,f1,f2,d⟩
theorem Inv.unpinned {pins pl : List (Addr × Obj)} {σ : St} {H : Hp} {s : Shared} (I : Inv X (pins ++ pl) σ H s) : Inv X pins σ H s:=I.pins_of fun p hp=>I.pin p (List.mem_append_right _ (List.mem_append_left _ hp))
theorem ps_for {iter : Expr} {body : List Stmt} {wi : TI} {g : TG} {tb : TS} {pos : Pos} (hp : PassesOwn (model X.prog X.w) X.A X.env X.xe) (hc : X.calm=true) (hi : PI X tg iter wi) (hg : PG X tg g) (hb : PSs X body tb)
    (hs : ∀ x,foldedSetIterable iter X.env x=pure x:=by intro _; rfl) : PS X (.For tg iter body [] pos) (tFor wi g tb):=by
  intro pins s σ H D I h
  refine wpAny_For (thn (hi pins s σ H _ I h) fun v s1 h1=>thn h1 fun itv s2 h2=>?_) hs
  obtain ⟨it,fp,tn,J,H2,e,I2,T,st2,f2,W,⟨m0,w0⟩,turn⟩:=h2
  subst e
  have stat : ∀ {H' : Hp},(∀ b∈fp,H' b=none)→∀ b∈fp,FpOk X pins H' b:=fun hn b hb=>⟨hn b hb,(f2 b hb).2⟩
  refine codeAny_forLoop_any (fun n s'=>∃ i σ' H',Inv X pins σ' H' s'∧tn i s'.heap∧(∀ b∈fp,H' b=none)∧W i n σ' H') ?_ m0 ⟨0,σ,H2,I2,st2,fun b hb=>(f2 b hb).1,w0⟩
  rintro n s3 ⟨i,σ3,H3,I3,st3,fr3,w3⟩
  rcases turn i n σ3 H3 w3 with ⟨stop,qn⟩ | ⟨go,N,hN,step⟩
  · refine wpAny_passesOwn hp (thn (T.done X rfl rfl rfl hc i pins s3 σ3 H3 X.xe I3 (stat fr3) st3 stop) fun r s4 ⟨hr,I4⟩=>?_)
    subst hr
    exact wpAny_execs_nil ⟨σ3,H3,I4,qn⟩
  · refine wpAny_passesOwn hp (thn (T.item X rfl rfl rfl hc i pins s3 σ3 H3 X.xe I3 (stat fr3) st3 go) fun r s4 ⟨u,hr,h4⟩=>?_)
    subst hr
    refine wpAny_passesOwn hp (thn h4 fun _ s5 ⟨x,H5,I5,r5,y5,st5,fr5⟩=>?_)
    have I5':=I5.pinned (stat fr5) (T.obj _ _ st5)
    refine wpAny_passesOwn hp (thn (hg _ s5 σ3 H5 x u _ I5' r5 (step x H5 y5)) fun _ s6 ⟨σ6,H6,I6,q6⟩=>?_)
    refine wpAny_passesOwn hp (thn (hb _ s6 σ6 H6 _ I6 q6) fun f s7 q7=>?_)
    have again : ∀ {σ7 : St} {H7 : Hp},Inv X (pins ++ pinsAt fp s5.heap) σ7 H7 s7→N σ7 H7→∃ m,m < n∧∃ i σ' H',Inv X pins σ' H' s7∧tn i s7.heap∧(∀ b∈fp,H' b=none)∧W i m σ' H':=fun {σ7 H7} I7 n7=>by
      obtain ⟨m',hm,w7⟩:=hN σ7 H7 n7
      refine ⟨m',hm,i + 1,σ7,H7,I7.unpinned,T.keep _ _ _ st5 fun b hb o e=>(I7.pin (b,o) (List.mem_append_right _ (List.mem_append_right _ (mem_pinsAt hb e)))).1,fun b hb=>?_,w7⟩
      obtain ⟨o,e,d⟩:=T.obj _ _ st5 b hb
      exact (I7.pin (b,o) (List.mem_append_right _ (List.mem_append_right _ (mem_pinsAt hb e)))).2.1
    cases f with
    | next=>obtain ⟨σ7,H7,I7,n7⟩:=q7; exact again I7 n7
    | cont=>obtain ⟨σ7,H7,I7,n7⟩:=q7; exact again I7 n7
    | brk=>obtain ⟨σ7,H7,I7,q7⟩:=q7; exact ⟨σ7,H7,I7.unpinned,q7⟩
    | ret v=>obtain ⟨x7,σ7,H7,I7,r7,q7⟩:=q7; exact ⟨x7,σ7,H7,I7.unpinned,r7,q7⟩
end
theorem for_list {K : PySem.W.Frag} {a : Addr} {xs : List V} {g : TG} {tb : TS} {D : Ends} {σ : St} {H : Hp} (Pv : Nat→St→Hp→Prop) (h0 : Pv 0 σ H) (hl : ∀ i σ H,i≤xs.length→Pv i σ H→SqL K H a xs)
    (hs : ∀ i x σ H,xs[i]?=some x→Pv i σ H→g x σ H fun σ2 H2=>tb { D with nx:=Pv (i + 1),ct:=Pv (i + 1),bk:=D.nx } σ2 H2) (hd : ∀ σ H,Pv xs.length σ H→D.nx σ H) :
    ∃ W : Nat→Nat→St→Hp→Prop,(∃ m,W 0 m σ H)∧∀ i m σ H,W i m σ H →
      ((Itl K a).stop i H∧D.nx σ H)∨((Itl K a).go i H∧∃ N : St→Hp→Prop,(∀ σ' H',N σ' H'→∃ m',m' < m∧W (i + 1) m' σ' H')∧∀ x H',(Itl K a).yld i H x H'→g x σ H' fun σ2 H2=>tb { D with nx:=N,ct:=N,bk:=D.nx } σ2 H2):=by
  refine ⟨fun i m σ H=>m=xs.length - i∧i≤xs.length∧Pv i σ H,⟨xs.length,by simp,Nat.zero_le _,h0⟩,?_⟩
  rintro i m σ H ⟨rfl,hi,p⟩
  have q:=hl i σ H hi p
  by_cases hlt : i < xs.length
  · refine .inr ⟨⟨xs,xs[i],q,by simp [hlt]⟩,Pv (i + 1),fun σ' H' p'=>⟨xs.length - (i + 1),by omega,rfl,hlt,p'⟩,fun x H' y=>?_⟩
    obtain ⟨e,y⟩:=y
    subst e
    exact hs i x σ _ (y xs q) p
  · have e : i=xs.length:=by omega
    subst e
    exact .inl ⟨⟨xs,q,Nat.le_refl _⟩,hd σ H p⟩
theorem for_tup {K : PySem.W.Frag} {a : Addr} {xs : List V} {g : TG} {tb : TS} {D : Ends} {σ : St} {H : Hp} (Pv : Nat→St→Hp→Prop) (h0 : Pv 0 σ H) (hl : ∀ i σ H,i≤xs.length→Pv i σ H→SqT K H a xs)
    (hs : ∀ i x σ H,xs[i]?=some x→Pv i σ H→g x σ H fun σ2 H2=>tb { D with nx:=Pv (i + 1),ct:=Pv (i + 1),bk:=D.nx } σ2 H2) (hd : ∀ σ H,Pv xs.length σ H→D.nx σ H) :
    ∃ W : Nat→Nat→St→Hp→Prop,(∃ m,W 0 m σ H)∧∀ i m σ H,W i m σ H →
      ((Itt K a).stop i H∧D.nx σ H)∨((Itt K a).go i H∧∃ N : St→Hp→Prop,(∀ σ' H',N σ' H'→∃ m',m' < m∧W (i + 1) m' σ' H')∧∀ x H',(Itt K a).yld i H x H'→g x σ H' fun σ2 H2=>tb { D with nx:=N,ct:=N,bk:=D.nx } σ2 H2):=by
  refine ⟨fun i m σ H=>m=xs.length - i∧i≤xs.length∧Pv i σ H,⟨xs.length,by simp,Nat.zero_le _,h0⟩,?_⟩
  rintro i m σ H ⟨rfl,hi,p⟩
  have q:=hl i σ H hi p
  by_cases hlt : i < xs.length
  · refine .inr ⟨⟨xs,xs[i],q,by simp [hlt]⟩,Pv (i + 1),fun σ' H' p'=>⟨xs.length - (i + 1),by omega,rfl,hlt,p'⟩,fun x H' y=>?_⟩
    obtain ⟨e,y⟩:=y
    subst e
    exact hs i x σ _ (y xs q) p
  · have e : i=xs.length:=by omega
    subst e
    exact .inl ⟨⟨xs,q,Nat.le_refl _⟩,hd σ H p⟩
theorem for_range {lo : Int} {n : Nat} {g : TG} {tb : TS} {D : Ends} {σ : St} {H : Hp} (Pv : Nat→St→Hp→Prop) (h0 : Pv 0 σ H)
    (hs : ∀ i σ H,i < n→Pv i σ H→g (.int (lo + i)) σ H fun σ2 H2=>tb { D with nx:=Pv (i + 1),ct:=Pv (i + 1),bk:=D.nx } σ2 H2) (hd : ∀ σ H,Pv n σ H→D.nx σ H) :
    ∃ W : Nat→Nat→St→Hp→Prop,(∃ m,W 0 m σ H)∧∀ i m σ H,W i m σ H →
      ((Itr lo n).stop i H∧D.nx σ H)∨((Itr lo n).go i H∧∃ N : St→Hp→Prop,(∀ σ' H',N σ' H'→∃ m',m' < m∧W (i + 1) m' σ' H')∧∀ x H',(Itr lo n).yld i H x H'→g x σ H' fun σ2 H2=>tb { D with nx:=N,ct:=N,bk:=D.nx } σ2 H2):=by
  refine ⟨fun i m σ H=>m=n - i∧i≤n∧Pv i σ H,⟨n,by simp,Nat.zero_le _,h0⟩,?_⟩
  rintro i m σ H ⟨rfl,hi,p⟩
  by_cases hlt : i < n
  · refine .inr ⟨hlt,Pv (i + 1),fun σ' H' p'=>⟨n - (i + 1),by omega,rfl,hlt,p'⟩,fun x H' y=>?_⟩
    obtain ⟨e,y⟩:=y
    subst e y
    exact hs i σ _ hlt p
  · have e : i=n:=by omega
    subst e
    exact .inl ⟨Nat.le_refl _,hd σ H p⟩
end L2
namespace L2
open PySem PySem.Spec PyProof.Rows
noncomputable abbrev R2:=V→V→Hp→VK→Prop
noncomputable def OpR (X : Cx) (f : Value→Value→Sem Value) (r : R2) : Prop :=
  ∀ (pins : List (Addr × Obj)) (s : Shared) (σ : St) (H : Hp) (x y : V) (v u : Value) (Q : VK),Inv X pins σ H s→RelV x v→RelV y u→r x y H Q →
    wpAny (model X.prog X.w) X.A (f v u) (EP X pins σ Q) X.xe s
noncomputable def UnR (X : Cx) (f : Value→Sem Value) (r : V→Hp→VK→Prop) : Prop :=
  ∀ (pins : List (Addr × Obj)) (s : Shared) (σ : St) (H : Hp) (x : V) (v : Value) (Q : VK),Inv X pins σ H s→RelV x v→r x H Q →
    wpAny (model X.prog X.w) X.A (f v) (EP X pins σ Q) X.xe s
noncomputable def CallR (X : Cx) (f : Value) (r : List V→Hp→VK→Prop) : Prop :=
  ∀ (pins : List (Addr × Obj)) (s : Shared) (σ : St) (H : Hp) (xs : List V) (us : List Value) (Q : VK),Inv X pins σ H s→Vals xs us→r xs H Q →
    wpAny (model X.prog X.w) X.A (call f us) (EP X pins σ Q) X.xe s
noncomputable def tOp (r : R2) (ta tb : TE) : TE:=fun σ H Q=>ta σ H fun x H1=>tb σ H1 fun y H2=>r x y H2 Q
noncomputable def tUn (r : V→Hp→VK→Prop) (ta : TE) : TE:=fun σ H Q=>ta σ H fun x H1=>r x H1 Q
noncomputable def rI (C : Int→Int→Prop) (g : Int→Int→V) : R2:=fun x y H Q=>∃ i j,x = .int i∧y = .int j∧C i j∧Q (g i j) H
noncomputable def rI0 (g : Int→Int→V) : R2:=fun x y H Q=>∃ i j,x = .int i∧y = .int j∧Q (g i j) H
noncomputable def rU (g : Int→V) : V→Hp→VK→Prop:=fun x H Q=>∃ i,x = .int i∧Q (g i) H
section
variable {X : Cx} {a b c : Expr} {ta tb tc : TE} {pos : Pos}
theorem binT (ha : PE X a ta) (hb : PE X b tb) {pins : List (Addr × Obj)} {s : Shared} {σ : St} {H : Hp} {R : V→V→Hp→Prop} (I : Inv X pins σ H s)
    (h : ta σ H fun x H1=>tb σ H1 fun y H2=>R x y H2) {Q : Value→Shared→Prop} {f : Value→Value→Sem Value}
    (hf : ∀ v u s2 x y H2,Inv X pins σ H2 s2→RelV x v→RelV y u→R x y H2→wpAny (model X.prog X.w) X.A (f v u) Q X.xe s2) :
    wpAny (model X.prog X.w) X.A (eval a X.env) (fun v s₁=>wpAny (model X.prog X.w) X.A (eval b X.env) (fun u s₂=>wpAny (model X.prog X.w) X.A (f v u) Q X.xe s₂) X.xe s₁) X.xe s:=by
  refine thn (ha pins s σ H _ I h) fun v s1 ⟨x,H1,I1,r1,q1⟩=>?_
  refine thn (hb pins s1 σ H1 _ I1 q1) fun u s2 ⟨y,H2,I2,r2,q2⟩=>?_
  exact hf v u s2 x y H2 I2 r1 r2 q2
theorem pe_op {op : Operator} {r : R2} (ho : OpR X (binaryOp op) r) (ha : PE X a ta) (hb : PE X b tb) : PE X (.BinOp a op b pos) (tOp r ta tb):=by
  intro pins s σ H Q I h
  exact wpAny_BinOp (binT ha hb I h fun v u s2 x y H2 I2 rx ry q=>ho pins s2 σ H2 x y v u Q I2 rx ry q)
theorem pe_un {op : UnaryOp} {r : V→Hp→VK→Prop} (ho : UnR X (unaryOp op) r) (ha : PE X a ta) : PE X (.UnaryOp op a pos) (tUn r ta):=by
  intro pins s σ H Q I h
  exact UnaryOp_ (thn (ha pins s σ H _ I h) fun v s1 ⟨x,H1,I1,r1,q1⟩=>ho pins s1 σ H1 x v Q I1 r1 q1)
theorem opI {f : Value→Value→Sem Value} {C : Int→Int→Prop} {g : Int→Int→Int}
    (rule : ∀ (i j : Int) (t u : Tok) (s : Shared) (Q : Value→Shared→Prop) (E : Value→Shared→Prop),C i j→Q (.int (g i j) s.toks) { s with toks:=s.toks + 1 }→wpAny (model X.prog X.w) X.A (f (.int i t) (.int j u)) Q E s) :
    OpR X f (rI C fun i j => .int (g i j)):=by
  intro pins s σ H x y v u Q I rx ry h
  obtain ⟨i,j,rfl,rfl,hc,q⟩:=h
  obtain ⟨t,rfl⟩:=rx
  obtain ⟨t',rfl⟩:=ry
  exact rule i j t t' s _ _ hc ⟨.int (g i j),H,I.tok _,⟨_,rfl⟩,q⟩
theorem opI0 {f : Value→Value→Sem Value} {g : Int→Int→Int}
    (rule : ∀ (i j : Int) (t u : Tok) (s : Shared) (Q : Value→Shared→Prop) (E : Value→Shared→Prop),Q (.int (g i j) s.toks) { s with toks:=s.toks + 1 }→wpAny (model X.prog X.w) X.A (f (.int i t) (.int j u)) Q E s) :
    OpR X f (rI0 fun i j => .int (g i j)):=by
  intro pins s σ H x y v u Q I rx ry h
  obtain ⟨i,j,rfl,rfl,q⟩:=h
  obtain ⟨t,rfl⟩:=rx
  obtain ⟨t',rfl⟩:=ry
  exact rule i j t t' s _ _ ⟨.int (g i j),H,I.tok _,⟨_,rfl⟩,q⟩
theorem opB0 {f : Value→Value→Sem Value} {g : Int→Int→Bool}
    (rule : ∀ (i j : Int) (t u : Tok) (s : Shared) (Q : Value→Shared→Prop) (E : Value→Shared→Prop),Q (.bool (g i j)) s→wpAny (model X.prog X.w) X.A (f (.int i t) (.int j u)) Q E s) :
    OpR X f (rI0 fun i j => .bl (g i j)):=by
  intro pins s σ H x y v u Q I rx ry h
  obtain ⟨i,j,rfl,rfl,q⟩:=h
  obtain ⟨t,rfl⟩:=rx
  obtain ⟨t',rfl⟩:=ry
  exact rule i j t t' s _ _ ⟨.bl (g i j),H,I,rfl,q⟩
noncomputable def CDiv (i j : Int) : Prop:=0 < j∧j < 1073741824
noncomputable def CPow (i j : Int) : Prop:=0≤j∧j≤1000000∧i.natAbs < 2 ^ 64
noncomputable def CMul (i j : Int) : Prop:=(-(2 ^ 64) < i∧i < 2 ^ 64)∨(-(2 ^ 64) < j∧j < 2 ^ 64)
theorem CMul.ok {i j : Int} (h : CMul i j) : IntMulOk i j:=by
  rcases h with ⟨h1,h2⟩ | ⟨h1,h2⟩
  · exact .of_left (intBits_le_64 h1 h2)
  · exact .of_right (intBits_le_64 h1 h2)
theorem two_pow_nn (k : Nat) : (0 : Int)≤2 ^ k:=by
  rw [two_pow_cast]
  exact Int.natCast_nonneg _
theorem op_add : OpR X (binaryOp .Add) (rI0 fun i j => .int (i + j)):=opI0 fun _ _ _ _ _ _ _ q=>add_int q
theorem op_sub : OpR X (binaryOp .Sub) (rI0 fun i j => .int (i - j)):=opI0 fun _ _ _ _ _ _ _ q=>sub_int q
theorem op_mul : OpR X (binaryOp .Mult) (rI CMul fun i j => .int (i * j)):=opI fun _ _ _ _ _ _ _ hc q=>mul_int q hc.ok
theorem op_fdiv : OpR X (binaryOp .FloorDiv) (rI CDiv fun i j => .int (i / j)):=opI fun i j _ _ _ _ _ hc q=>by
  have h1 : (0 : Int) < j:=hc.1
  have h2 : j < 1073741824:=hc.2
  exact floordiv_int (by omega) (by rw [Int.fdiv_eq_ediv_of_nonneg i (by omega)]; exact q) (.inl (PyProof.noPylong_small (by omega)))
theorem op_mod : OpR X (binaryOp .Mod) (rI (fun _ j=>0 < j) fun i j => .int (i % j)):=opI fun i j _ _ _ _ _ hc q=>by
  have h1 : (0 : Int) < j:=hc
  exact mod_int' (by omega) (by rw [Int.fmod_eq_emod_of_nonneg i (by omega)]; exact q)
theorem op_shl : OpR X (binaryOp .LShift) (rI CPow fun i j => .int (i * 2 ^ j.toNat)):=opI fun _ _ _ _ _ _ _ hc q=>lshift_int_small hc.1 hc.2.1 hc.2.2 q
theorem op_shr : OpR X (binaryOp .RShift) (rI (fun _ j=>0≤j) fun i j => .int (i / 2 ^ j.toNat)):=opI fun i j _ _ _ _ _ hc q =>
  rshift_int hc (by rw [Int.fdiv_eq_ediv_of_nonneg i (two_pow_nn _)]; exact q)
theorem op_and : OpR X (binaryOp .BitAnd) (rI0 fun i j => .int (Builtin.bitAnd i j)):=opI0 fun _ _ _ _ _ _ _ q=>and_int q
theorem op_or : OpR X (binaryOp .BitOr) (rI0 fun i j => .int (Builtin.bitOr i j)):=opI0 fun _ _ _ _ _ _ _ q=>or_int q
theorem unI {f : Value→Sem Value} {g : Int→Int}
    (rule : ∀ (i : Int) (t : Tok) (s : Shared) (Q : Value→Shared→Prop) (E : Value→Shared→Prop),Q (.int (g i) s.toks) { s with toks:=s.toks + 1 }→wpAny (model X.prog X.w) X.A (f (.int i t)) Q E s) :
    UnR X f (rU fun i => .int (g i)):=by
  intro pins s σ H x v Q I rx h
  obtain ⟨i,rfl,q⟩:=h
  obtain ⟨t,rfl⟩:=rx
  exact rule i t s _ _ ⟨.int (g i),H,I.tok _,⟨_,rfl⟩,q⟩
theorem un_neg : UnR X (unaryOp .USub) (rU fun i => .int (-i)):=unI fun _ _ _ _ _ q=>neg_int q
theorem un_inv : UnR X (unaryOp .Invert) (rU fun i => .int (Builtin.bitNot i)):=unI fun _ _ _ _ _ q=>invert_int q
end
noncomputable def scal : V→V→Bool
  | .non,.non=>true | .non,.int _=>true | .int _,.non=>true | .non,.bl _=>true | .bl _,.non=>true | .non,.str _=>true | .str _,.non=>true
  | .int _,.int _=>true | .bl _,.bl _=>true | .str _,.str _=>true | .byt _,.byt _=>true
  | .int _,.str _=>true | .str _,.int _=>true | .bl _,.str _=>true | .str _,.bl _=>true
  | _,_=>false
noncomputable def rEq : R2:=fun x y H Q=>scal x y=true∧Q (.bl (decide (x=y))) H
noncomputable def rNe : R2:=fun x y H Q=>scal x y=true∧Q (.bl (!decide (x=y))) H
theorem dec_int {i j : Int} : decide (V.int i=V.int j)=(i == j):=by
  rw [Bool.eq_iff_iff]
  simp
theorem dec_bl {i j : Bool} : decide (V.bl i=V.bl j)=(i == j):=by
  rw [Bool.eq_iff_iff]
  simp
theorem dec_str {i j : Str} : decide (V.str i=V.str j)=(i == j):=by
  rw [Bool.eq_iff_iff]
  simp
theorem dec_byt {i j : Array UInt8} : decide (V.byt i=V.byt j)=(i.toList == j.toList):=by
  rw [Bool.eq_iff_iff]
  cases i
  cases j
  simp
section
variable {X : Cx} {a b c : Expr} {ta tb tc : TE} {pos : Pos}
theorem fin_bl {pins : List (Addr × Obj)} {σ : St} {H : Hp} {s : Shared} {Q : VK} {k k' : Bool} (I : Inv X pins σ H s) (q : Q (.bl k) H) (e : k=k') : EP X pins σ Q (.bool k') s:=by
  subst e
  exact ⟨.bl k,H,I,rfl,q⟩
theorem op_eq : OpR X (compareOp .Eq) rEq:=by
  intro pins s σ H x y v u Q I rx ry h
  obtain ⟨hs,q⟩:=h
  cases x with
  | non =>
    cases rx
    cases y with
    | non=>cases ry; exact PySem.EqNone.eq_none_none (fin_bl I q (by simp))
    | bl j=>cases ry; exact PySem.EqNone.eq_none_bool (fin_bl I q (by simp))
    | int j=>obtain ⟨t',rfl⟩:=ry; exact PySem.EqNone.eq_none_int (fin_bl I q (by simp))
    | str j=>obtain ⟨t',rfl⟩:=ry; exact PySem.EqNone.eq_none_str (fin_bl I q (by simp))
    | _=>exact absurd (show false=true from hs) Bool.false_ne_true
  | bl i =>
    cases rx
    cases y with
    | non=>cases ry; exact PySem.EqNone.eq_bool_none (fin_bl I q (by simp))
    | bl j=>cases ry; exact eq_bool (fin_bl I q dec_bl)
    | str j=>obtain ⟨t',rfl⟩:=ry; exact PySem.EqMixed.eq_bool_str (fin_bl I q (by simp))
    | _=>exact absurd (show false=true from hs) Bool.false_ne_true
  | int i =>
    obtain ⟨t,rfl⟩:=rx
    cases y with
    | non=>cases ry; exact PySem.EqNone.eq_int_none (fin_bl I q (by simp))
    | int j=>obtain ⟨t',rfl⟩:=ry; exact eq_int (fin_bl I q dec_int)
    | str j=>obtain ⟨t',rfl⟩:=ry; exact PySem.EqMixed.eq_int_str (fin_bl I q (by simp))
    | _=>exact absurd (show false=true from hs) Bool.false_ne_true
  | str i =>
    obtain ⟨t,rfl⟩:=rx
    cases y with
    | non=>cases ry; exact PySem.EqNone.eq_str_none (fin_bl I q (by simp))
    | bl j=>cases ry; exact PySem.EqMixed.eq_str_bool (fin_bl I q (by simp))
    | int j=>obtain ⟨t',rfl⟩:=ry; exact PySem.EqMixed.eq_str_int (fin_bl I q (by simp))
    | str j=>obtain ⟨t',rfl⟩:=ry; exact eq_str (fin_bl I q dec_str)
    | _=>exact absurd (show false=true from hs) Bool.false_ne_true
  | byt i =>
    obtain ⟨t,rfl⟩:=rx
    cases y with
    | byt j=>obtain ⟨t',rfl⟩:=ry; exact PySem.W.eq_bytes (fin_bl I q dec_byt)
    | _=>exact absurd (show false=true from hs) Bool.false_ne_true
  | _=>cases y <;> exact absurd (show false=true from hs) Bool.false_ne_true
theorem op_ne : OpR X (compareOp .NotEq) rNe:=by
  intro pins s σ H x y v u Q I rx ry h
  obtain ⟨hs,q⟩:=h
  cases x with
  | non =>
    cases rx
    cases y with
    | non=>cases ry; exact PySem.EqNone.ne_none_none (fin_bl I q (by simp))
    | bl j=>cases ry; exact PySem.EqNone.ne_none_bool (fin_bl I q (by simp))
    | int j=>obtain ⟨t',rfl⟩:=ry; exact PySem.EqNone.ne_none_int (fin_bl I q (by simp))
    | str j=>obtain ⟨t',rfl⟩:=ry; exact PySem.EqNone.ne_none_str (fin_bl I q (by simp))
    | _=>exact absurd (show false=true from hs) Bool.false_ne_true
  | bl i =>
    cases rx
    cases y with
    | non=>cases ry; exact PySem.EqNone.ne_bool_none (fin_bl I q (by simp))
    | bl j=>cases ry; exact ne_bool (fin_bl I q (congrArg not dec_bl))
    | str j=>obtain ⟨t',rfl⟩:=ry; exact PySem.EqMixed.ne_bool_str (fin_bl I q (by simp))
    | _=>exact absurd (show false=true from hs) Bool.false_ne_true
  | int i =>
    obtain ⟨t,rfl⟩:=rx
    cases y with
    | non=>cases ry; exact PySem.EqNone.ne_int_none (fin_bl I q (by simp))
    | int j=>obtain ⟨t',rfl⟩:=ry; exact ne_int (fin_bl I q (congrArg not dec_int))
    | str j=>obtain ⟨t',rfl⟩:=ry; exact PySem.EqMixed.ne_int_str (fin_bl I q (by simp))
    | _=>exact absurd (show false=true from hs) Bool.false_ne_true
  | str i =>
    obtain ⟨t,rfl⟩:=rx
    cases y with
    | non=>cases ry; exact PySem.EqNone.ne_str_none (fin_bl I q (by simp))
    | bl j=>cases ry; exact PySem.EqMixed.ne_str_bool (fin_bl I q (by simp))
    | int j=>obtain ⟨t',rfl⟩:=ry; exact PySem.EqMixed.ne_str_int (fin_bl I q (by simp))
    | str j=>obtain ⟨t',rfl⟩:=ry; exact ne_str (fin_bl I q (congrArg not dec_str))
    | _=>exact absurd (show false=true from hs) Bool.false_ne_true
  | byt i =>
    obtain ⟨t,rfl⟩:=rx
    cases y with
    | byt j=>obtain ⟨t',rfl⟩:=ry; exact PySem.W.ne_bytes (fin_bl I q (congrArg not dec_byt))
    | _=>exact absurd (show false=true from hs) Bool.false_ne_true
  | _=>cases y <;> exact absurd (show false=true from hs) Bool.false_ne_true
theorem op_lt : OpR X (compareOp .Lt) (rI0 fun i j => .bl (decide (i < j))):=opB0 fun _ _ _ _ _ _ _ q=>lt_int q
theorem op_le : OpR X (compareOp .LtE) (rI0 fun i j => .bl (decide (i≤j))):=opB0 fun _ _ _ _ _ _ _ q=>le_int q
theorem op_gt : OpR X (compareOp .Gt) (rI0 fun i j => .bl (decide (j < i))):=opB0 fun _ _ _ _ _ _ _ q=>gt_int q
theorem op_ge : OpR X (compareOp .GtE) (rI0 fun i j => .bl (decide (j≤i))):=opB0 fun _ _ _ _ _ _ _ q=>ge_int q
theorem op_notN : OpR X (compareOp .IsNot) (fun x y H Q=>y = .non∧Q (.bl (!decide (x = .non))) H):=by
  intro pins s σ H x y v u Q I rx ry h
  obtain ⟨rfl,q⟩:=h
  cases ry
  refine isnot_none_gen (fin_bl I q ?_)
  cases x <;> first
    | (cases rx; rfl)
    | (obtain ⟨t,rfl⟩:=rx; rfl)
theorem nomark (b : Expr) {op : CmpOp} (h : op ≠ .In:=by decide) (h2 : op ≠ .NotIn:=by decide) : behindInMarks op b=false:=by
  have e1 : (op == CmpOp.In)=false:=by cases op <;> first | rfl | exact absurd rfl h
  have e2 : (op == CmpOp.NotIn)=false:=by cases op <;> first | rfl | exact absurd rfl h2
  cases b <;> simp [behindInMarks,e1,e2]
theorem pe_cmpR {op : CmpOp} {r : R2} (ho : OpR X (compareOp op) r) (ha : PE X a ta) (hb : PE X b tb) (hm : behindInMarks op b=false) : PE X (.Compare a [op] [b] pos) (tOp r ta tb):=by
  intro pins s σ H Q I h
  exact wpAny_Compare1 (binT ha hb I h fun v u s2 x y H2 I2 rx ry q=>ho pins s2 σ H2 x y v u Q I2 rx ry q) hm
noncomputable def tTest (t : TE) : TT:=fun σ H Q=>t σ H fun x H'=>∃ k,x = .bl k∧Q k H'
theorem pt_cmpR {op : CmpOp} {r : R2} (ho : OpR X (compareOp op) r) (ha : PE X a ta) (hb : PE X b tb) (hm : behindInMarks op b=false) : PT X (.Compare a [op] [b] pos) (tTest (tOp r ta tb)):=by
  intro pins s σ H Q I h
  refine wpAny_isTrue_Compare1 (thn (ha pins s σ H _ I h) fun v s1 ⟨x,H1,I1,r1,q1⟩=>thn (hb pins s1 σ H1 _ I1 q1) fun u s2 ⟨y,H2,I2,r2,q2⟩ =>
    thn (ho pins s2 σ H2 x y v u _ I2 r1 r2 q2) fun c s3 ⟨z,H3,I3,r3,k,e,q3⟩=>?_) hm
  subst e
  cases r3
  exact wpAny_truthy_bool ⟨H3,I3,q3⟩
noncomputable def tChain (r r' : R2) (ta tb tc : TE) : TE:=fun σ H Q=>ta σ H fun x H1=>tb σ H1 fun y H2=>r x y H2 fun z H3=>∃ k,z = .bl k ∧
  (if k=true then tc σ H3 fun w' H4=>r' y w' H4 Q else Q (.bl false) H3)
theorem pt_chain {op op' : CmpOp} {r r' : R2} (ho : OpR X (compareOp op) r) (ho' : OpR X (compareOp op') r') (ha : PE X a ta) (hb : PE X b tb) (hc : PE X c tc)
    (hm : lastMarks [op,op'] [b,c]=false:=by with_unfolding_all rfl) : PT X (.Compare a [op,op'] [b,c] pos) (tTest (tChain r r' ta tb tc)):=by
  intro pins s σ H Q I h
  refine isTrue_chain (thn (ha pins s σ H _ I h) fun v s1 ⟨x,H1,I1,r1,q1⟩=>test_link (thn (hb pins s1 σ H1 _ I1 q1) fun u s2 ⟨y,H2,I2,r2,q2⟩ =>
    thn (ho pins s2 σ H2 x y v u _ I2 r1 r2 q2) fun d s3 ⟨z,H3,I3,r3,k,e,q3⟩=>?_)) hm
  subst e
  cases r3
  refine wpAny_truthy_bool ?_
  cases k with
  | false =>
    obtain ⟨k',e',q'⟩:=q3
    cases e'
    exact ite_ff ⟨H3,I3,q'⟩
  | true =>
    refine ite_tt (test_last (thn (hc pins s3 σ H3 _ I3 q3) fun w' s4 ⟨z',H4,I4,r4,q4⟩=>thn (ho' pins s4 σ H4 y z' u w' _ I4 r2 r4 q4) fun d' s5 ⟨z2,H5,I5,r5,k2,e2,q5⟩=>?_))
    subst e2
    cases r5
    exact wpAny_truthy_bool ⟨H5,I5,q5⟩
theorem line63 : (sizeLine : Nat) < 2 ^ 63:=by rw [sizeLine_eq]; decide
theorem vals1 {x : V} {us : List Value} (r : Vals [x] us) : ∃ u,us=[u]∧RelV x u:=by
  cases r with
  | cons r1 r2=>cases r2; exact ⟨_,rfl,r1⟩
theorem vals2 {x y : V} {us : List Value} (r : Vals [x,y] us) : ∃ u w',us=[u,w']∧RelV x u∧RelV y w':=by
  cases r with
  | cons r1 r2 =>
    cases r2 with
    | cons r3 r4=>cases r4; exact ⟨_,_,rfl,r1,r3⟩
theorem call_min2 (hc : X.calm=true) : CallR X (.builtin "min") (fun xs H Q=>∃ i j,xs=[.int i,.int j]∧Q (.int (if j < i then j else i)) H):=by
  intro pins s σ H xs us Q I r h
  obtain ⟨i,j,rfl,q⟩:=h
  obtain ⟨u,w',rfl,⟨t,rfl⟩,⟨t',rfl⟩⟩:=vals2 r
  refine min_two_ints (I.ok.hd hc) fun h' tk k=>⟨_,H,I.kept k,?_,q⟩
  by_cases hj : j < i
  · rw [if_pos hj,if_pos hj]; exact ⟨_,rfl⟩
  · rw [if_neg hj,if_neg hj]; exact ⟨_,rfl⟩
noncomputable def LenV (K : PySem.W.Frag) (x : V) (H : Hp) (n : Nat) : Prop :=
  match x with
  | .str y=>y.length≤sizeLine∧n=y.length
  | .byt y=>y.size≤sizeLine∧n=y.size
  | .ref p=>(∃ xs,SqL K H p xs∧n=xs.length)∨∃ xs,SqT K H p xs∧n=xs.length
  | _=>False
theorem call_len : CallR X (.builtin "len") (fun xs H Q=>∃ x n,xs=[x]∧LenV X.K x H n∧Q (.int n) H):=by
  intro pins s σ H xs us Q I r h
  obtain ⟨x,n,rfl,e,q⟩:=h
  obtain ⟨u,rfl,rx⟩:=vals1 r
  have hl:=line63
  have hs : sizeLine=16777216:=sizeLine_eq
  cases x with
  | str y =>
    obtain ⟨t,rfl⟩:=rx
    obtain ⟨hy,e'⟩ : y.length≤sizeLine∧n=y.length:=e
    subst e'
    exact len_str (by omega) ⟨.int _,H,I.tok _,⟨_,rfl⟩,q⟩
  | byt y =>
    obtain ⟨t,rfl⟩:=rx
    obtain ⟨hy,e'⟩ : y.size≤sizeLine∧n=y.size:=e
    subst e'
    exact PySem.W.len_bytes (by omega) ⟨.int _,H,I.tok _,⟨_,rfl⟩,q⟩
  | ref p =>
    cases rx
    have e' : (∃ xs,SqL X.K H p xs∧n=xs.length)∨∃ xs,SqT X.K H p xs∧n=xs.length:=e
    rcases e' with ⟨xs,hx,e'⟩ | ⟨xs,hx,e'⟩
    · subst e'
      obtain ⟨its,r',pl,hz⟩:=I.list hx
      have hlen:=r'.length
      exact Calls.call_len_list pl.isList (by simp only [List.size_toArray]; omega) ⟨.int xs.length,H,I.tok _,⟨_,by simp only [List.size_toArray]; rw [hlen]⟩,q⟩
    · subst e'
      obtain ⟨its,r',pl,hz⟩:=I.tuple hx
      have hlen:=r'.length
      exact len_tuple pl (by simp only [List.size_toArray]; omega) ⟨.int xs.length,H,I.tok _,⟨_,by simp only [List.size_toArray]; rw [hlen]⟩,q⟩
  | _=>exact (show False from e).elim
end
end L2
namespace L2
open PySem PySem.Spec PyProof.Rows
structure ObjM (h : Heap) (x dx C : Addr) (mA : Str→Option Value) : Prop where
  obj : h.get? x=some (PySem.W.instObj C dx)
  ns : h.Ns1 dx mA
  ne : dx≠x
theorem lookIn_ns {h : Heap} {dx : Addr} {mA : Str→Option Value} (n : h.Ns1 dx mA) : ∃ od,h.get? dx=some od∧∀ name,PySem.W.lookIn name od=some (mA name):=by
  obtain ⟨o,es,ep,ho,hd,hk,_,hm⟩:=n
  refine ⟨o,ho,fun name=>?_⟩
  have e:=hm name
  unfold nsFind findBy at e
  rw [← Array.find?_toList] at e
  unfold PySem.W.lookIn
  rw [hd]
  dsimp only
  split
  · rename_i y q
    rw [q] at e
    exact congrArg some e
  · rename_i q
    rw [q] at e
    have a : es.toList.any (·.refKey)=false:=by
      rw [List.any_eq_false]
      intro y hy
      obtain ⟨z,t,hkey⟩:=hk y (Array.mem_toList_iff.mp hy)
      simp [DictEntry.refKey,hkey]
    have a' : ¬ es.toList.any (·.refKey)=true:=by rw [a]; exact Bool.false_ne_true
    rw [if_neg a']
    exact congrArg some e
theorem ObjM.look {h : Heap} {x dx C : Addr} {mA : Str→Option Value} (I : ObjM h x dx C mA) : ∃ od,PySem.W.InstAt h x (PySem.W.instObj C dx) C (some od)∧∀ name,PySem.W.lookIn name od=some (mA name) :=
  let ⟨od,ho,hl⟩:=lookIn_ns I.ns
  ⟨od,⟨I.obj,rfl,rfl,ho⟩,hl⟩
section
variable {prog : Program} {w : World} {A : Around} {E : Value→Shared→Prop} {s : Shared} {K : PySem.W.Frag} {x dx C f : Addr} {mA : Str→Option Value} {name : Str} {v : Value}
theorem get_map {expr : Bool} {Q : Value→Shared→Prop} (X : K.In s.heap) (I : ObjM s.heap x dx C mA) (hg : PySem.W.plainGet K C name=true) (hh : PySem.W.hasDictIn K C=true)
    (ha : PySem.W.findIn K (.ref C) name=some none) (hv : mA name=some v) (hv' : PySem.W.handedIn v=true) (h : Q v { s with toks:=s.toks + 1 }) :
    wpAny (model prog w) A (getAttr (.ref x) name expr) Q E s:=by
  obtain ⟨od,J,hl⟩:=I.look
  exact PySem.W.get_value X J (PySem.W.plainGet_of hg).1 (PySem.W.findObj_own hh ha rfl (by rw [hl,hv])) hv' h
theorem get_meth {pl : Sem Bool} {Q : Value × List Value→Shared→Prop} (X : K.In s.heap) (I : ObjM s.heap x dx C mA) (hg : PySem.W.plainGet K C name=true)
    (hf : PySem.W.findIn K (.ref C) name=some (some (.ref f))) (ht : PySem.W.isFn K (.ref f)=true) (hv : mA name=none) (h : Q (.ref f,[.ref x]) s) :
    wpAny (model prog w) A (getMethod (.ref x) name pl) Q E s:=by
  obtain ⟨od,J,hl⟩:=I.look
  exact PySem.W.method_fn X J (PySem.W.plainGet_of hg).1 (PySem.W.plainGet_of hg).2 hf (beq_iff_eq.mp ht) (by show (PySem.W.lookIn name od).map (·.isSome)=some false; rw [hl,hv]; rfl) h
theorem set_map {ns : List Str} {Q : Unit→Shared→Prop} (X : K.In s.heap) (I : ObjM s.heap x dx C mA)
    (hs : PySem.W.findIn K (.ref C) "__setattr__"=some (some (.builtin "object.__setattr__"))) (hp : PySem.W.plainOver K C=true) (ht : PySem.W.takerIn K C name=some none) (hh : PySem.W.hasDictIn K C=true)
    (hw : PySem.Within mA ns) (hsz : ns.length≤sizeLine)
    (h : ∀ h',ObjM h' x dx C (fun y=>if y=name then some v else mA y)→Heap.SameBut dx s.heap h'→Q () { s with heap:=h',toks:=s.toks + 2 }) :
    wpAny (model prog w) A (setAttr (.ref x) name v) Q E s:=by
  obtain ⟨od,J,hl⟩:=I.look
  refine PySem.W.set_plain X J hs (PySem.W.osa_open (s:={ s with toks:=s.toks + 1 }) (r:=none) X J hp ht fun b=>?_)
  obtain ⟨cd,hc,hd'⟩:=PySem.W.any_some hh
  have hx : s.heap.get? x=some ⟨.ref C,some dx,.plain,#[]⟩:=I.obj
  refine wpAny_bind (wpAny_pure (wpAny_bind (wpAny_bind (wpAny_loadPart hx (wpAny_bind (PySem.W.Looks.here (s:={ s with toks:=s.toks + 1 }) (PySem.W.looks_clsIn X hc) ?_))))))
  rw [hd']
  refine wpAny_pure (a:=some dx) (wpAny_bind (wpAny_pure (wpAny_bind ?_)))
  refine wpAny_nsSet1 (s:={ s with toks:=s.toks + 1 }) I.ns fun h' hn2 hs2=>?_
  obtain ⟨oD,esD,epD,hoD,hdD,hcD⟩:=hn2.count (PySem.Within.cons name v hw)
  refine wpAny_bind (wpAny_lookBehind hoD (by rw [hdD]; exact pastItsLine_dict (Nat.le_trans hcD (by rw [List.length_cons]; omega))) ?_)
  exact wpAny_pure (h _ ⟨(hs2.2 _ (Ne.symm I.ne)).trans I.obj,hn2,I.ne⟩ hs2)
theorem make_map {R : Result→Shared→Prop} {vs : List Value} {kw : List (Str × Value)} (X : K.In s.heap) (hm : PySem.W.makesIn K C=true)
    (hi : PySem.W.findIn K (.ref C) "__init__"=some (some (.ref f))) (hf : PySem.W.typeIn K (.ref f)=some (.type "function"))
    (h : codeAny (model prog w) (A.under (.builtin "type.__call__" ⟨.ref C :: vs,kw⟩)) (.call (.ref f) ⟨.ref (s.heap.objs.size + 1) :: vs,kw⟩) (PySem.W.InitBack (s.heap.objs.size + 1) R)
      { s with heap:=(s.heap.push PySem.W.emptyDict).push (PySem.W.instObj C s.heap.objs.size) }) :
    codeAny (model prog w) A (.call (.ref C) ⟨vs,kw⟩) R s:=by
  obtain ⟨hh,g,d,t,os⟩:=s
  exact PySem.W.make_core (PySem.W.makes_of X hm) (PySem.W.looks_findIn X hi) (fun self=>PySem.W.bind_fn X self hf) (.inl rfl) h
end
noncomputable def putF (f : Str) (v : V) : List (Str × V)→List (Str × V)
  | []=>[(f,v)]
  | (g,x) :: r=>if g=f then (g,v) :: r else (g,x) :: putF f v r
theorem lookup_putF (f g : Str) (v : V) : ∀ fs : List (Str × V),(putF f v fs).lookup g=if g=f then some v else fs.lookup g
  | []=>by
    show List.lookup g [(f,v)]=_
    by_cases h : g=f
    · have hb : (g == f)=true:=beq_iff_eq.mpr h
      simp only [List.lookup,hb,if_pos h]
    · have hb : (g == f)=false:=beq_eq_false_iff_ne.mpr h
      simp only [List.lookup,hb,if_neg h]
  | (k,x) :: r=>by
    have ih:=lookup_putF f g v r
    rw [show putF f v ((k,x) :: r)=(if k=f then (k,v) :: r else (k,x) :: putF f v r) from rfl]
    by_cases hk : k=f
    · rw [if_pos hk]
      by_cases h : g=k
      · have hb : (g == k)=true:=beq_iff_eq.mpr h
        simp only [List.lookup,hb,if_pos (h.trans hk)]
      · have hb : (g == k)=false:=beq_eq_false_iff_ne.mpr h
        simp only [List.lookup,hb,if_neg (fun e : g=f=>h (e.trans hk.symm))]
    · rw [if_neg hk]
      by_cases h : g=k
      · have hb : (g == k)=true:=beq_iff_eq.mpr h
        simp only [List.lookup,hb,if_neg (fun e : g=f=>hk (h.symm.trans e))]
      · have hb : (g == k)=false:=beq_eq_false_iff_ne.mpr h
        simp only [List.lookup,hb]
        exact ih
theorem keys_putF (f : Str) (v : V) : ∀ fs : List (Str × V),f∈(putF f v fs).map (·.1)∧∀ g,g∈fs.map (·.1)→g∈(putF f v fs).map (·.1)
  | []=>⟨by simp [putF],fun g h=>by simp at h⟩
  | (k,x) :: r=>by
    obtain ⟨i1,i2⟩:=keys_putF f v r
    rw [show putF f v ((k,x) :: r)=(if k=f then (k,v) :: r else (k,x) :: putF f v r) from rfl]
    by_cases hk : k=f
    · rw [if_pos hk]
      subst hk
      exact ⟨by simp,fun g h=>by simpa using h⟩
    · rw [if_neg hk]
      refine ⟨?_,fun g h=>?_⟩
      · rw [List.map_cons]
        exact List.mem_cons_of_mem _ i1
      · rw [List.map_cons] at h ⊢
        rcases List.mem_cons.mp h with e | e
        · exact List.mem_cons.mpr (.inl e)
        · exact List.mem_cons_of_mem _ (i2 g e)
theorem length_putF (f : Str) (v : V) : ∀ fs : List (Str × V),(putF f v fs).length≤fs.length + 1
  | []=>by simp [putF]
  | (k,x) :: r=>by
    have ih:=length_putF f v r
    rw [show putF f v ((k,x) :: r)=(if k=f then (k,v) :: r else (k,x) :: putF f v r) from rfl]
    by_cases hk : k=f
    · rw [if_pos hk,List.length_cons,List.length_cons]; omega
    · rw [if_neg hk,List.length_cons,List.length_cons]; omega
theorem RelO.some_of {v : V} {o : Option Value} (r : RelO (some v) o) : ∃ u,o=some u∧RelV v u:=by
  cases o with
  | none=>exact (show False from r).elim
  | some u=>exact ⟨u,rfl,r⟩
theorem RelO.none_of {o : Option Value} (r : RelO none o) : o=none:=by
  cases o with
  | none=>rfl
  | some u=>exact (show False from r).elim
theorem handed_of {v : V} {u : Value} (r : RelV v u) : PySem.W.handedIn u=true:=by
  cases v with
  | non=>cases (show u=Value.none from r); rfl
  | bl b=>cases (show u=Value.bool b from r); rfl
  | int i=>obtain ⟨t,e⟩:=(show ∃ t,u=Value.int i t from r); cases e; rfl
  | str x=>obtain ⟨t,e⟩:=(show ∃ t,u=Value.str x t from r); cases e; rfl
  | byt b=>obtain ⟨t,e⟩:=(show ∃ t,u=Value.bytes b t from r); cases e; rfl
  | flt b=>obtain ⟨t,e⟩:=(show ∃ t,u=Value.float b t from r); cases e; rfl
  | ref a=>cases (show u=Value.ref a from r); rfl
  | ty n=>cases (show u=Value.type n from r); rfl
section
variable {P : Program} {w : World} {H H' : Hp} {h h' : Heap} {a C dx : Addr} {fs fs' : List (Str × V)}
theorem ins_get (hok : HOk P w H h) (e : H a=some (.ins C dx fs)) : ∃ mA,ObjM h a dx C mA∧(∀ f,RelO (fs.lookup f) (mA f))∧PySem.Within mA (fs.map (·.1))∧fs.length≤1000∧H dx=some (.own a):=by
  obtain ⟨d,z,ne,ob,mA,n,r,q⟩:=(show ObjOk P w H h a (.ins C dx fs) from hok a _ e)
  exact ⟨mA,⟨ob,n,ne⟩,r,q,z,d⟩
end
structure Cls (K : PySem.W.Frag) (C : Addr) : Prop where
  pg : PySem.W.plainGet K C Str.empty=true
  hd : PySem.W.hasDictIn K C=true
  po : PySem.W.plainOver K C=true
  sa : PySem.W.findIn K (.ref C) "__setattr__"=some (some (.builtin "object.__setattr__"))
theorem Cls.get {K : PySem.W.Frag} {C : Addr} (c : Cls K C) (f : Str) : PySem.W.plainGet K C f=true:=c.pg
noncomputable def NoAttr (K : PySem.W.Frag) (C : Addr) (f : Str) : Prop:=PySem.W.findIn K (.ref C) f=some none
theorem NoAttr.taker {K : PySem.W.Frag} {C : Addr} {f : Str} (n : NoAttr K C f) : PySem.W.takerIn K C f=some none:=by
  unfold PySem.W.takerIn
  rw [show PySem.W.findIn K (.ref C) f=some none from n]
  rfl
structure Con (K : PySem.W.Frag) (C : Addr) (f : Str) (v : V) (u : Value) : Prop where
  at_ : PySem.W.findIn K (.ref C) f=some (some u)
  rel : RelV v u
  get : PySem.W.specialIn K u "__get__"=some none
  cp : PySem.W.copiedNames.contains f=false
structure Meth (K : PySem.W.Frag) (C : Addr) (m : Str) (f : Addr) : Prop where
  at_ : PySem.W.findIn K (.ref C) m=some (some (.ref f))
  fn : PySem.W.isFn K (.ref f)=true
  kp : PySem.W.keepIn K (.ref f)=true
section
variable {X : Cx} {pins : List (Addr × Obj)} {σ : St} {H : Hp} {s : Shared} {a C dx : Addr} {fs : List (Str × V)} {f : Str} {v : V} {A : Around} {E : Value→Shared→Prop}
theorem getattr_ok {b : Bool} {Q : Value→Shared→Prop} (I : Inv X pins σ H s) (e : H a=some (.ins C dx fs)) (c : Cls X.K C) (n : NoAttr X.K C f) (l : fs.lookup f=some v)
    (h : ∀ u s',Inv X pins σ H s'→RelV v u→Q u s') : wpAny (model X.prog X.w) A (getAttr (.ref a) f b) Q E s:=by
  obtain ⟨mA,O,r,_,_,_⟩:=ins_get I.hok e
  obtain ⟨u,hu,ru⟩:=RelO.some_of (v:=v) (o:=mA f) (by rw [← l]; exact r f)
  exact get_map I.kIn O (c.get f) c.hd n hu (handed_of ru) (h u _ (I.tok _) ru)
theorem getmeth_ok {m : Str} {g : Addr} {pl : Sem Bool} {Q : Value × List Value→Shared→Prop} (I : Inv X pins σ H s) (e : H a=some (.ins C dx fs)) (c : Cls X.K C) (k : Meth X.K C m g) (l : fs.lookup m=none)
    (h : Q (.ref g,[.ref a]) s) : wpAny (model X.prog X.w) A (getMethod (.ref a) m pl) Q E s:=by
  obtain ⟨mA,O,r,_,_,_⟩:=ins_get I.hok e
  have hn : mA m=none:=RelO.none_of (by rw [← l]; exact r m)
  exact get_meth I.kIn O (c.get m) k.at_ k.fn hn h
theorem setattr_ok {y : V} {u : Value} {Q : Unit→Shared→Prop} (I : Inv X pins σ H s) (e : H a=some (.ins C dx fs)) (c : Cls X.K C) (n : NoAttr X.K C f) (hl : fs.length < 1000) (ry : RelV y u)
    (h : ∀ s',Inv X pins σ (upd H a (.ins C dx (putF f y fs))) s'→Q () s') : wpAny (model X.prog X.w) A (setAttr (.ref a) f u) Q E s:=by
  obtain ⟨mA,O,r,wi,_,ho⟩:=ins_get I.hok e
  have hz : (fs.map (·.1)).length≤sizeLine:=by rw [List.length_map,sizeLine_eq]; omega
  refine set_map I.kIn O c.sa c.po n.taker c.hd wi hz fun h' O' sb=>h _ ?_
  have hd : ∃ o,h'.get? dx=some o:=let ⟨o,_,_,e',_⟩:=O'.ns; ⟨o,e'⟩
  refine I.write (x:=a) (e:=dx) (by rw [e]; exact True.intro) (.inr ho) (fun b q hb z=>(sb.2 b hb).trans z) hd ?_
  refine ⟨by rw [upd_ne O.ne]; exact ho,?_,O.ne,O'.obj,_,O'.ns,fun g=>?_,fun g hg=>?_⟩
  · have:=length_putF f y fs; omega
  · show RelO ((putF f y fs).lookup g) (if g=f then some u else mA g)
    rw [lookup_putF]
    by_cases q : g=f
    · rw [if_pos q,if_pos q]; exact ry
    · rw [if_neg q,if_neg q]; exact r g
  · by_cases q : g=f
    · rw [q]; exact (keys_putF f y fs).1
    · refine (keys_putF f y fs).2 g (wi g fun z=>hg ?_)
      show (if g=f then some u else mA g)=none
      rw [if_neg q]; exact z
theorem Inv.made (I : Inv X pins σ H s) : Inv X pins σ (upd (upd H s.heap.objs.size (.own (s.heap.objs.size + 1))) (s.heap.objs.size + 1) (.ins C s.heap.objs.size []))
    { s with heap:=(s.heap.push PySem.W.emptyDict).push (PySem.W.instObj C s.heap.objs.size) }:=by
  have e1 : (s.heap.push PySem.W.emptyDict).get? s.heap.objs.size=some PySem.W.emptyDict:=Heap.get?_push_size s.heap rfl
  have e2 : ((s.heap.push PySem.W.emptyDict).push (PySem.W.instObj C s.heap.objs.size)).get? (s.heap.objs.size + 1)=some (PySem.W.instObj C s.heap.objs.size):=by
    have:=Heap.get?_push_size (s.heap.push PySem.W.emptyDict) (o:=PySem.W.instObj C s.heap.objs.size) rfl
    rwa [Heap.size_push] at this
  have e3 : (s.heap.push PySem.W.emptyDict).Ns s.heap.objs.size (fun _=>none):=⟨PySem.W.emptyDict,#[],_,e1,rfl,(fun e he=>absurd he (by simp)),fun _=>rfl⟩
  have I1:=I.laid (a:=s.heap.objs.size) (o := .own (s.heap.objs.size + 1)) (h':=s.heap.push PySem.W.emptyDict) (t':=s.toks) (fun b u q=>Heap.get?_push_of_some _ q) (Nat.le_refl _) ⟨_,e1⟩
  refine I1.laid (a:=s.heap.objs.size + 1) (o := .ins C s.heap.objs.size []) (t':=s.toks) (fun b u q=>Heap.get?_push_of_some _ q) (Nat.le_of_eq (Heap.size_push _ _)) ?_
  have ne : s.heap.objs.size≠s.heap.objs.size + 1:=Nat.ne_of_lt (Nat.lt_succ_self _)
  refine ⟨by rw [upd_ne ne,upd_same],Nat.zero_le _,ne,e2,fun _=>none,(Heap.Ns1.of_empty e3).at fun o q=>Heap.get?_push_of_some _ q,fun _=>True.intro,fun y hy=>absurd rfl hy⟩
theorem attr_of {prog : Program} {w : World} {env : Env} {e : Expr} {f : Str} {pos : Pos} {s : Shared} {Q : Value→Shared→Prop} (hb : attributeBase e f env (eval e env)=eval e env)
    (h : wpAny (model prog w) A (eval e env) (fun o s₁=>wpAny (model prog w) A (getAttr o f true) Q E s₁) E s) : wpAny (model prog w) A (eval (.Attribute e f pos) env) Q E s :=
  Attribute_any_ h (by rw [arm_eval_Attribute,hb])
end
noncomputable def tFld (K : PySem.W.Frag) (ta : TE) (f : Str) : TE:=fun σ H Q=>ta σ H fun x H1=>∃ a C dx fs v,x = .ref a∧H1 a=some (.ins C dx fs)∧Cls K C∧NoAttr K C f∧fs.lookup f=some v∧Q v H1
noncomputable def sFld (K : PySem.W.Frag) (ta tv : TE) (f : Str) : TS:=fun D σ H=>tv σ H fun y H1=>ta σ H1 fun x H2=>∃ a C dx fs,x = .ref a∧H2 a=some (.ins C dx fs)∧Cls K C∧NoAttr K C f∧fs.length < 1000 ∧
  D.nx σ (upd H2 a (.ins C dx (putF f y fs)))
section
variable {X : Cx} {o e value : Expr} {f : Str} {pos pos' tpos : Pos} {ta tv : TE}
theorem pe_fld (he : PE X e ta) (hb : attributeBase e f X.env (eval e X.env)=eval e X.env) : PE X (.Attribute e f pos) (tFld X.K ta f):=by
  intro pins s σ H Q I h
  refine attr_of hb (thn (he pins s σ H _ I h) fun u s1 ⟨x,H1,I1,rx,a,C,dx,fs,v,ex,ea,c,n,l,q⟩=>?_)
  subst ex
  obtain rfl : u=Value.ref a:=rx
  exact getattr_ok I1 ea c n l fun u' s2 I2 ru=>⟨v,H1,I2,ru,q⟩
theorem ps_fld (ha : PE X o ta) (hv : PE X value tv) (hs : swapsWith value (some (.Attribute o f pos')) pos.line X.env=pure false) : PS X (.Assign [.Attribute o f pos'] value pos) (sFld X.K ta tv f):=by
  intro pins s σ H D I h
  refine plainObj_wpAny_Assign_Attribute (thn (hv pins s σ H _ I h) fun u s1 ⟨y,H1,I1,ry,q⟩=>thn (ha pins s1 σ H1 _ I1 q) fun ov s2 ⟨x,H2,I2,rx,a,C,dx,fs,ex,ea,c,n,l,q2⟩=>?_) hs
  subst ex
  obtain rfl : ov=Value.ref a:=rx
  exact setattr_ok I2 ea c n l ry fun s3 I3=>⟨σ,_,I3,q2⟩
end
section
variable {X : Cx} {pins : List (Addr × Obj)} {σ : St} {H : Hp} {s : Shared} {A : Around} {E : Value→Shared→Prop} {Q : Value→Shared→Prop} {c : Value} {b : Bool}
inductive TyOf (K : PySem.W.Frag) (H : Hp) : V→Value→Prop where
  | non : TyOf K H .non (.type "NoneType")
  | bl (x : Bool) : TyOf K H (.bl x) (.type "bool")
  | int (i : Int) : TyOf K H (.int i) (.type "int")
  | str (x : Str) : TyOf K H (.str x) (.type "str")
  | flt (x : UInt64) : TyOf K H (.flt x) (.type "float")
  | lst {a : Addr} {xs : List V} (e : H a=some (.lst xs)) : TyOf K H (.ref a) (.type "list")
  | frz {a : Addr} {o : Obj} {xs : List V} (e : H a=some (.frz o (.lst xs))) : TyOf K H (.ref a) (.type "list")
  | tup {a : Addr} {xs : List V} (e : H a=some (.tup xs)) : TyOf K H (.ref a) (.type "tuple")
  | dK {a : Addr} {kvs : List (Key × V)} (e : H a=some (.dK kvs)) : TyOf K H (.ref a) (.type "dict")
  | dT {a : Addr} {kvs : List (List Key × V)} (e : H a=some (.dT kvs)) : TyOf K H (.ref a) (.type "dict")
  | ins {a C dx : Addr} {fs : List (Str × V)} (e : H a=some (.ins C dx fs)) (cl : Cls K C) (ha : PySem.W.findIn K (.ref C) "__class__"=some (some (.builtin "object.__class__")))
      (hn : PySem.W.specialIn K (.builtin "object.__class__") "__get__"=some (some (.builtin "getset_descriptor.__get__"))) (htk : PySem.W.takesIn K (.builtin "object.__class__")=some true)
      (hm : PySem.W.mroIn K C (.type "object")=some true) : TyOf K H (.ref a) (.ref C)
theorem isinst_ok {x : V} {u t : Value} (I : Inv X pins σ H s) (rx : RelV x u) (ty : TyOf X.K H x t) (e : PySem.W.kitOne X.K t c=some b) (h : ∀ tk,Q (.bool b) { s with toks:=tk }) :
    wpAny (model X.prog X.w) A (call (.builtin "isinstance") [u,c]) Q E s:=by
  cases ty with
  | non=>cases (show u=Value.none from rx); exact PySem.W.kia_one PySem.W.kitx_none I.kIn True.intro e (fun z=>nomatch z) h
  | bl y=>cases (show u=Value.bool y from rx); exact PySem.W.kia_one PySem.W.kitx_bool I.kIn True.intro e (fun z=>nomatch z) h
  | int i=>obtain ⟨t,q⟩:=(show ∃ t,u=Value.int i t from rx); cases q; exact PySem.W.kia_one PySem.W.kitx_int I.kIn True.intro e (fun z=>nomatch z) h
  | str y=>obtain ⟨t,q⟩:=(show ∃ t,u=Value.str y t from rx); cases q; exact PySem.W.kia_one PySem.W.kitx_str I.kIn True.intro e (fun z=>nomatch z) h
  | flt y=>obtain ⟨t,q⟩:=(show ∃ t,u=Value.float y t from rx); cases q; exact PySem.W.kia_one PySem.W.kitx_float I.kIn True.intro e (fun z=>nomatch z) h
  | @lst a xs ea =>
    cases (show u=Value.ref a from rx)
    obtain ⟨_,_,n,_,h1⟩:=(show ObjOk X.prog X.w H s.heap a (.lst xs) from I.hok a _ ea)
    exact PySem.W.kia_one PySem.W.kitx_list I.kIn ⟨_,h1,rfl⟩ e (fun z=>nomatch z) h
  | @frz a ob xs ea =>
    cases (show u=Value.ref a from rx)
    obtain ⟨_,_,_,n,_,h1⟩:=(show ObjOk X.prog X.w H s.heap a (.frz ob (.lst xs)) from I.hok a _ ea)
    exact PySem.W.kia_one PySem.W.kitx_list I.kIn ⟨_,h1,rfl⟩ e (fun z=>nomatch z) h
  | @tup a xs ea =>
    cases (show u=Value.ref a from rx)
    obtain ⟨_,_,_,p⟩:=(show ObjOk X.prog X.w H s.heap a (.tup xs) from I.hok a _ ea)
    obtain ⟨o,h1,h2,_⟩:=p
    exact PySem.W.kia_one PySem.W.kitx_tuple I.kIn ⟨o,h1,h2⟩ e (fun z=>nomatch z) h
  | @dK a kvs ea =>
    cases (show u=Value.ref a from rx)
    obtain ⟨_,_,vs,_,p⟩:=(show ObjOk X.prog X.w H s.heap a (.dK kvs) from I.hok a _ ea)
    obtain ⟨o,es,ep,h1,h2,_⟩:=p
    exact PySem.W.kia_one PySem.W.kitx_dict I.kIn ⟨o,h1,h2.1⟩ e (fun z=>nomatch z) h
  | @dT a kvs ea =>
    cases (show u=Value.ref a from rx)
    obtain ⟨_,_,xs,_,o,es,ep,h1,h2,_⟩:=(show ObjOk X.prog X.w H s.heap a (.dT kvs) from I.hok a _ ea)
    exact PySem.W.kia_one PySem.W.kitx_dict I.kIn ⟨o,h1,h2.1⟩ e (fun z=>nomatch z) h
  | @ins a C dx fs ea cl ha hn htk hm =>
    cases (show u=Value.ref a from rx)
    obtain ⟨mA,O,_⟩:=ins_get I.hok ea
    obtain ⟨od,J,_⟩:=O.look
    exact PySem.W.kia_one (PySem.W.kitx_own (cl.get _) cl.hd ha hn htk hm) I.kIn J e (fun z=>nomatch z) h
end
end L2
namespace L2
open PySem PySem.Spec PyProof.Rows
structure Room (k : Nat) (A : Around) : Prop where
  hd : A.handled=none
  dp : A.depth + 3 * k + 5 < recursionLimit
  un : A.units + 16 * k + 200 < cLine
theorem Room.mono {j k : Nat} {A : Around} (r : Room k A) (h : j≤k) : Room j A:=⟨r.hd,by have:=r.dp; omega,by have:=r.un; omega⟩
theorem Room.deeper {k : Nat} {A : Around} (r : Room (k + 1) A) (env : Env) : Room k (A.deeper env) :=
  ⟨r.hd,by have:=r.dp; show A.depth + 1 + 3 * k + 5 < _; omega,by have:=r.un; show A.units + 3 + 16 * k + 200 < _; omega⟩
theorem Room.in1 {k : Nat} {A : Around} (r : Room (k + 1) A) : Room k A.in1 :=
  ⟨r.hd,by have:=r.dp; show A.depth + 3 * k + 5 < _; omega,by have:=r.un; show A.units + 1 + 16 * k + 200 < _; omega⟩
theorem make_depth {A : Around} {C : Addr} {us : List Value} {kw : List (Str × Value)} : (A.under (.builtin "type.__call__" ⟨.ref C :: us,kw⟩)).depth=A.depth + 1:=by
  first | rfl | simp [Around.under,Code.weight,Code.isCreation,Code.isGuard,Code.isCaller,Code.frames,Code.isFrame,guardIds]
theorem make_units {A : Around} {C : Addr} {us : List Value} {kw : List (Str × Value)} : (A.under (.builtin "type.__call__" ⟨.ref C :: us,kw⟩)).units=A.units + 1:=by
  first | rfl | simp [Around.under,Code.cUnits,Code.frames,Code.isFrame]
theorem Room.make {k : Nat} {A : Around} (r : Room (k + 1) A) (C : Addr) (us : List Value) (kw : List (Str × Value)) : Room k (A.under (.builtin "type.__call__" ⟨.ref C :: us,kw⟩)) :=
  ⟨r.hd,by have:=r.dp; rw [make_depth]; omega,by have:=r.un; rw [make_units]; omega⟩
theorem Room.depth {k : Nat} {A : Around} (r : Room k A) : A.depth < recursionLimit:=by have:=r.dp; omega
theorem Room.units {k : Nat} {A : Around} (r : Room k A) : A.units + 64 < cLine:=by have:=r.un; omega
noncomputable def tNil : TA:=fun _ H Q=>Q [] H
noncomputable def tCons (ta : TE) (tr : TA) : TA:=fun σ H Q=>ta σ H fun x H1=>tr σ H1 fun xs H2=>Q (x :: xs) H2
section
variable {X : Cx} {e : Expr} {es : List Expr} {te : TE} {t : TA} {pos : Pos}
theorem pa_nil : PA X [] tNil:=fun _ _ _ _ H Q I h=>Calls.spliced_nil ⟨[],H,I,.nil,h⟩
theorem pa_cons (ha : PE X e te) (hr : PA X es t) (hs : starEach (e :: es) X.env=(false,eval e X.env) :: starEach es X.env:=by rfl) : PA X (e :: es) (tCons te t):=by
  intro pos pins s σ H Q I h
  rw [hs]
  show wpAny _ _ (spliced ((false,eval e X.env) :: backTo pos (starEach es X.env))) _ _ s
  refine Calls.spliced_cons (thn (ha pins s σ H _ I h) fun u s1 ⟨x,H1,I1,r1,q1⟩=>?_)
  exact thn (hr pos pins s1 σ H1 _ I1 q1) fun us s2 ⟨xs,H2,I2,r2,q2⟩=>⟨x :: xs,H2,I2,.cons r1 r2,q2⟩
noncomputable def tTup (t : TA) : TE:=fun σ H Q=>t σ H fun xs H1=>xs.length≤sizeLine∧∀ p,H1 p=none→Q (.ref p) (upd H1 p (.tup xs))
noncomputable def tLst (t : TA) : TE:=fun σ H Q=>t σ H fun xs H1=>xs.length≤sizeLine∧∀ p,H1 p=none→Q (.ref p) (upd H1 p (.lst xs))
theorem pe_tup {x1} (h : PA X es t) : PE X (.Tuple es x1 pos) (tTup t):=by
  intro pins s σ H Q I hq
  refine wpAny_Tuple_spliced (thn (h pos pins s σ H _ I hq) fun us s1 ⟨xs,H1,I1,r,z,q⟩=>⟨by rw [← r.length]; exact z,?_⟩)
  have hf : H1 s1.heap.objs.size=none:=I1.hok.fresh (Nat.le_refl _)
  refine ⟨.ref s1.heap.objs.size,upd H1 s1.heap.objs.size (.tup xs),I1.laid (t':=s1.toks) (fun b u e=>Heap.get?_push_of_some _ e) (Nat.le_refl _) ?_,rfl,q _ hf⟩
  exact ⟨z,us,r,⟨_,Heap.get?_push_size _ rfl,rfl,_,rfl⟩⟩
theorem pe_lst (h : PA X es t) : PE X (.List es pos) (tLst t):=by
  intro pins s σ H Q I hq
  refine wpAny_List_spliced (thn (h pos pins s σ H _ I hq) fun us s1 ⟨xs,H1,I1,r,z,q⟩=>⟨by rw [← r.length]; exact z,?_⟩)
  have hf : H1 s1.heap.objs.size=none:=I1.hok.fresh (Nat.le_refl _)
  refine ⟨.ref s1.heap.objs.size,upd H1 s1.heap.objs.size (.lst xs),I1.laid (t':=s1.toks) (fun b u e=>Heap.get?_push_of_some _ e) (Nat.le_refl _) ?_,rfl,q _ hf⟩
  exact ⟨z,us,0,r,Heap.get?_push_size _ rfl⟩
end
noncomputable abbrev Sp:=List V→Hp→VK→XK→Prop
noncomputable abbrev CXT:=List Env→Hp→Shared→XK→Value→Shared→Prop
structure Env0 (P : Program) (w : World) (K : PySem.W.Frag) (mg : Str→Option Value) (base : Heap) (A : Around) (outer : List Env) (s : Shared) (H : Hp) : Prop where
  frames : A.frames=some outer
  mod : Mod K mg base
  bs : ∀ b o,base.get? b=some o→s.heap.get? b=some o∧H b=none
  bsz : base.objs.size≤s.heap.objs.size
  funs : s.heap.FunFrames base outer
  frf : ∀ b∈frs outer,H b=none
  hok : HOk P w H s.heap
  bare : AllBare s.gens
noncomputable def CE (outer : List Env) (P : Program) (w : World) (H : Hp) (s : Shared) (Q : VK) (u : Value) (s' : Shared) : Prop :=
  ∃ v H',s'.os=s.os∧AllBare s'.gens∧Un (frs outer) [] H H' s.heap s'.heap∧HOk P w H' s'.heap∧RelV v u∧Q v H'
noncomputable def CR (CX : CXT) (outer : List Env) (P : Program) (w : World) (H : Hp) (s : Shared) (Q : VK) (E : XK) (r : Result) (s' : Shared) : Prop :=
  match r with
  | .ok (.ret u)=>CE outer P w H s Q u s'
  | .ok _=>False
  | .error e=>CX outer H s E e s'
structure FnOk (P : Program) (w : World) (K : PySem.W.Frag) (mg : Str→Option Value) (base : Heap) (CX : CXT) (k : Nat) (f : Addr) (fd : FuncData) (ps : List Str) (sp : Sp) : Prop where
  len : ∀ vs H Q E,sp vs H Q E→vs.length=ps.length
  run : ∀ (A : Around) (outer : List Env) (s : Shared) (H : Hp) (args : Args) (us : List Value) (vs : List V) (Q : VK) (E : XK),Room k A→Env0 P w K mg base A outer s H→BindsTo s fd args (ps.zip us)→Vals vs us→sp vs H Q E →
    codeAny (model P w) A (.call (.ref f) args) (CR CX outer P w H s Q E) s
theorem Env0.make {P : Program} {w : World} {K : PySem.W.Frag} {mg : Str→Option Value} {base : Heap} {A : Around} {outer : List Env} {s : Shared} {H : Hp} (e : Env0 P w K mg base A outer s H) (C : Addr) (us : List Value) (kw : List (Str × Value)) :
    Env0 P w K mg base (A.under (.builtin "type.__call__" ⟨.ref C :: us,kw⟩)) outer s H:=⟨by first | exact e.frames | (simpa [Around.under,Code.envs,Code.isFrame,pushEnvs] using e.frames),e.mod,e.bs,e.bsz,e.funs,e.frf,e.hok,e.bare⟩
theorem Env0.in1 {P : Program} {w : World} {K : PySem.W.Frag} {mg : Str→Option Value} {base : Heap} {A : Around} {outer : List Env} {s : Shared} {H : Hp} (e : Env0 P w K mg base A outer s H) :
    Env0 P w K mg base A.in1 outer s H:=⟨e.frames,e.mod,e.bs,e.bsz,e.funs,e.frf,e.hok,e.bare⟩
section
variable {X : Cx} {pins : List (Addr × Obj)} {σ : St} {H : Hp} {s s' : Shared}
theorem Inv.env0 (I : Inv X pins σ H s) : Env0 X.prog X.w X.K X.mg X.base X.A X.stack s H :=
  ⟨I.ok.frames,I.ok.mod,I.bs,Nat.le_trans I.ok.bsz I.sz,I.stack,I.stkFree,I.hok,I.bare⟩
theorem Inv.after {Q : VK} {u : Value} (I : Inv X pins σ H s) (h : CE X.stack X.prog X.w H s Q u s') : EP X pins σ Q u s':=by
  obtain ⟨v,H',os,bare,un,hok,r,q⟩:=h
  obtain ⟨hh,g,d,t,os'⟩:=s'
  obtain rfl : os'=s.os:=os
  exact ⟨v,H',I.call (h':=hh) (g':=g) (d':=d) (t':=t) (ch:=[]) un hok bare (fun b z=>absurd z (by simp)),r,q⟩
end
noncomputable def tCall (sp : Sp) (dvs : List V) (E : XK) (t : TA) : TE:=fun σ H Q=>t σ H fun vs H1=>sp (vs ++ dvs) H1 Q E
noncomputable def tMeth (C : Addr) (m : Str) (sp : Sp) (dvs : List V) (E : XK) (ta : TE) (t : TA) : TE:=fun σ H Q=>ta σ H fun x H1=>∃ a dx fs,x = .ref a∧H1 a=some (.ins C dx fs)∧fs.lookup m=none ∧
  t σ H1 fun vs H2=>sp (x :: (vs ++ dvs)) H2 Q E
noncomputable def tMake (C : Addr) (sp : Sp) (dvs : List V) (E : XK) (t : TA) : TE:=fun σ H Q=>t σ H fun vs H1=>∀ x dx,H1 x=none→H1 dx=none→dx≠x →
  sp (.ref x :: (vs ++ dvs)) (upd (upd H1 dx (.own x)) x (.ins C dx [])) (fun v H2=>v = .non∧Q (.ref x) H2) E
noncomputable def Binds (K : PySem.W.Frag) (fd : FuncData) (ps : List Str) (ds : List Value) : Prop :=
  ∀ (s : Shared) (us : List Value),K.In s.heap→(us ++ ds).length=ps.length→BindsTo s fd ⟨us,[]⟩ (ps.zip (us ++ ds))
theorem Binds.all {K : PySem.W.Frag} {fd : FuncData} {ps : List Str} (h : ∀ us : List Value,us.length=ps.length→bindArgs fd ⟨us,[]⟩=pure (ps.zip us)) : Binds K fd ps []:=fun s us _ hl=>by
  rw [List.append_nil] at hl ⊢
  exact .of_eq (h us hl)
noncomputable def Passes (CX : CXT) (X : Cx) (E : XK) : Prop:=∀ (pins : List (Addr × Obj)) (σ : St) (H : Hp) (s : Shared) (e : Value) (s' : Shared),Inv X pins σ H s→CX X.stack H s E e s'→X.xe e s'
section
variable {X : Cx} {CX : CXT} {k : Nat} {f C : Addr} {fd : FuncData} {ps : List Str} {sp : Sp} {dvs : List V} {ds : List Value} {E : XK} {x m : Str} {p pos apos : Pos} {e o : Expr} {es : List Expr} {ta : TE} {t : TA}
theorem run_fn {pins : List (Addr × Obj)} {σ : St} {H : Hp} {s : Shared} {Q : VK} {us : List Value} {vs : List V} (F : FnOk X.prog X.w X.K X.mg X.base CX k f fd ps sp) (hr : Room k X.A) (hb : Binds X.K fd ps ds) (hd : Vals dvs ds) (hx : Passes CX X E)
    (I : Inv X pins σ H s) (r : Vals vs us) (h : sp (vs ++ dvs) H Q E) : wpAny (model X.prog X.w) X.A (call (.ref f) us) (EP X pins σ Q) X.xe s:=by
  have r2 : Vals (vs ++ dvs) (us ++ ds):=r.append hd
  have hl : (us ++ ds).length=ps.length:=by rw [← r2.length]; exact F.len _ _ _ _ h
  refine wpAny_call (codeAny_mono (F.run X.A X.stack s H ⟨us,[]⟩ (us ++ ds) (vs ++ dvs) Q E hr I.env0 (hb s us I.kIn hl) r2 h) fun r s' hq=>?_)
  cases r with
  | error e=>exact hx pins σ H s e s' I hq
  | ok fl =>
    cases fl with
    | ret u=>exact I.after hq
    | next=>exact False.elim hq
    | brk=>exact False.elim hq
    | cont=>exact False.elim hq
theorem pe_call (F : FnOk X.prog X.w X.K X.mg X.base CX k f fd ps sp) (hr : Room k X.A) (hg : Gl X x) (hm : X.mg x=some (.ref f)) (hk : PySem.W.keepIn X.K (.ref f)=true) (hb : Binds X.K fd ps ds) (hd : Vals dvs ds) (hx : Passes CX X E)
    (ha : PA X (e :: es) t) (hdb : (x == ("__debug__" : Str))=false:=by decide) (he : starEach (e :: es) X.env=(false,eval e X.env) :: starEach es X.env:=by rfl) (hpl : (backTo pos (starEach es X.env)).any (·.1)=false:=by rfl) :
    PE X (.Call (.Name x p) (e :: es) [] pos) (tCall sp dvs E t):=by
  intro pins s σ H Q I h
  refine wpAny_Call_Name_kw (ld_glob I hg hm ?_ hdb)
  refine PySem.W.callWith_K (h₀:=X.base) I.ok.mod.kin hk (thn (ha pos pins s σ H _ I h) fun us s1 ⟨vs,H1,I1,r,q⟩=>⟨I1.kIn,?_⟩) he hpl
  exact run_fn F hr hb hd hx I1 r q
theorem pe_meth {pl : Sem Bool} (he : PE X o ta) (c : Cls X.K C) (hm : Meth X.K C m f) (F : FnOk X.prog X.w X.K X.mg X.base CX k f fd ps sp) (hr : Room k X.A) (hb : Binds X.K fd ps ds) (hd : Vals dvs ds) (hx : Passes CX X E) (ha : PA X (e :: es) t)
    (hst : starEach (e :: es) X.env=(false,eval e X.env) :: starEach es X.env:=by rfl) (hpl : (backTo pos (starEach es X.env)).any (·.1)=false:=by rfl)
    (ht : eval (.Call (.Attribute o m apos) (e :: es) [] pos) X.env=(do
      let ov ← eval o X.env
      standAt apos.atName
      let (f,first) ← holding [ov] (getMethod ov m pl)
      callWith pos f first (backTo pos (starEach (e :: es) X.env)) (backToKw pos (keywordEach [] X.env))):=by rfl) :
    PE X (.Call (.Attribute o m apos) (e :: es) [] pos) (tMeth C m sp dvs E ta t):=by
  intro pins s σ H Q I h
  refine PySem.W.methodCall_KW (pl:=pl) (thn (he pins s σ H _ I h) fun u s1 ⟨x,H1,I1,rx,a,dx,fs,ex,ea,l,q⟩=>?_) ht
  subst ex
  obtain rfl : u=Value.ref a:=rx
  refine getmeth_ok I1 ea c hm l ?_
  refine PySem.W.callWith_K (first:=[.ref a]) (h₀:=X.base) I.ok.mod.kin hm.kp (thn (ha pos pins s1 σ H1 _ I1 q) fun us s2 ⟨vs,H2,I2,r,q2⟩=>⟨I2.kIn,?_⟩) hst hpl
  exact run_fn (us := .ref a :: us) (vs := .ref a :: vs) F hr hb hd hx I2 (.cons rfl r) q2
theorem pe_meth0 {pl : Sem Bool} (he : PE X o ta) (c : Cls X.K C) (hm : Meth X.K C m f) (F : FnOk X.prog X.w X.K X.mg X.base CX k f fd ps sp) (hr : Room k X.A) (hb : Binds X.K fd ps ds) (hd : Vals dvs ds) (hx : Passes CX X E)
    (ht : eval (.Call (.Attribute o m apos) [] [] pos) X.env=(do
      let ov ← eval o X.env
      standAt apos.atName
      let (f,first) ← holding [ov] (getMethod ov m pl)
      callWith pos f first (backTo pos (starEach [] X.env)) (backToKw pos (keywordEach [] X.env))):=by rfl) :
    PE X (.Call (.Attribute o m apos) [] [] pos) (tMeth C m sp dvs E ta tNil):=by
  intro pins s σ H Q I h
  refine PySem.W.methodCall_KW (pl:=pl) (thn (he pins s σ H _ I h) fun u s1 ⟨x,H1,I1,rx,a,dx,fs,ex,ea,l,q⟩=>?_) ht
  subst ex
  obtain rfl : u=Value.ref a:=rx
  refine getmeth_ok I1 ea c hm l ?_
  exact PySem.W.callWith_K0 (first:=[.ref a]) I1.kIn hm.kp (run_fn (us:=[.ref a]) (vs:=[.ref a]) F hr hb hd hx I1 (.cons rfl .nil) q)
structure Mk (K : PySem.W.Frag) (C f : Addr) : Prop where
  makes : PySem.W.makesIn K C=true
  init : PySem.W.findIn K (.ref C) "__init__"=some (some (.ref f))
  fn : PySem.W.isFn K (.ref f)=true
  kp : PySem.W.keepIn K (.ref C)=true
theorem run_make {pins : List (Addr × Obj)} {σ : St} {H : Hp} {s : Shared} {Q : VK} {us : List Value} {vs : List V} (M : Mk X.K C f) (F : FnOk X.prog X.w X.K X.mg X.base CX k f fd ps sp) (hr : Room (k + 1) X.A) (hb : Binds X.K fd ps ds) (hd : Vals dvs ds)
    (hx : Passes CX X E) (I : Inv X pins σ H s) (r : Vals vs us)
    (h : ∀ x dx,H x=none→H dx=none→dx≠x→sp (.ref x :: (vs ++ dvs)) (upd (upd H dx (.own x)) x (.ins C dx [])) (fun v H2=>v = .non∧Q (.ref x) H2) E) :
    wpAny (model X.prog X.w) X.A (call (.ref C) us) (EP X pins σ Q) X.xe s:=by
  have hq:=h (s.heap.objs.size + 1) s.heap.objs.size (I.hok.fresh (Nat.le_succ _)) (I.hok.fresh (Nat.le_refl _)) (Nat.ne_of_lt (Nat.lt_succ_self _))
  have I2:=Inv.made (C:=C) I
  have r2 : Vals (V.ref (s.heap.objs.size + 1) :: (vs ++ dvs)) (Value.ref (s.heap.objs.size + 1) :: (us ++ ds)) := .cons rfl (r.append hd)
  have hl : (Value.ref (s.heap.objs.size + 1) :: us ++ ds).length=ps.length:=by
    have e:=r2.length
    rw [F.len _ _ _ _ hq] at e
    exact e.symm
  refine wpAny_call (make_map (f:=f) I.kIn M.makes M.init (beq_iff_eq.mp M.fn) (codeAny_mono (F.run _ X.stack _ _ ⟨Value.ref (s.heap.objs.size + 1) :: us,[]⟩ (Value.ref (s.heap.objs.size + 1) :: (us ++ ds)) _ _ E (hr.make C us [])
    (I2.env0.make C us []) (hb _ (Value.ref (s.heap.objs.size + 1) :: us) I2.kIn hl) r2 hq) fun r s' hq'=>?_))
  cases r with
  | error e=>exact hx pins σ _ _ e s' I2 hq'
  | ok fl =>
    cases fl with
    | ret u =>
      obtain ⟨v,H',I3,rv,ev,q3⟩:=I2.after hq'
      subst ev
      exact ⟨rv,⟨V.ref (s.heap.objs.size + 1),H',I3,rfl,q3⟩⟩
    | next=>exact False.elim hq'
    | brk=>exact False.elim hq'
    | cont=>exact False.elim hq'
theorem pe_make (M : Mk X.K C f) (F : FnOk X.prog X.w X.K X.mg X.base CX k f fd ps sp) (hr : Room (k + 1) X.A) (hg : Gl X x) (hm : X.mg x=some (.ref C)) (hb : Binds X.K fd ps ds) (hd : Vals dvs ds) (hx : Passes CX X E)
    (ha : PA X (e :: es) t) (hdb : (x == ("__debug__" : Str))=false:=by decide) (he : starEach (e :: es) X.env=(false,eval e X.env) :: starEach es X.env:=by rfl) (hpl : (backTo pos (starEach es X.env)).any (·.1)=false:=by rfl) :
    PE X (.Call (.Name x p) (e :: es) [] pos) (tMake C sp dvs E t):=by
  intro pins s σ H Q I h
  refine wpAny_Call_Name_kw (ld_glob I hg hm ?_ hdb)
  refine PySem.W.callWith_K (h₀:=X.base) I.ok.mod.kin M.kp (thn (ha pos pins s σ H _ I h) fun us s1 ⟨vs,H1,I1,r,q⟩=>⟨I1.kIn,?_⟩) he hpl
  exact run_make M F hr hb hd hx I1 r q
end
section
variable {X : Cx} {CX : CXT} {k : Nat} {f C : Addr} {fd : FuncData} {ps ks : List Str} {sp : Sp} {E : XK} {x m : Str} {p pos apos kpos : Pos} {e o : Expr} {es : List Expr} {kws : List Keyword} {te ta : TE} {t tk : TA} {nm : Option Str}
structure KBinds (K : PySem.W.Frag) (fd : FuncData) (ps ks : List Str) (g : List Value→List Value→List Value) (gV : List V→List V→List V) : Prop where
  to : ∀ (s : Shared) (us ws : List Value),K.In s.heap→(g us ws).length=ps.length→BindsTo s fd ⟨us,ks.zip ws⟩ (ps.zip (g us ws))
  rel : ∀ {vs : List V} {us : List Value} {zs : List V} {ws : List Value},Vals vs us→Vals zs ws→Vals (gV vs zs) (g us ws)
variable {g : List Value→List Value→List Value} {gV : List V→List V→List V}
end
structure FnScope (N P : List Str) (sc : Scope) : Prop where
  kind : sc.kind = .function
  co : sc.isCoroutine=false
  gen : sc.isGenerator=false
  nd : N.Nodup
  pre : N.take P.length=P
  par : ∀ x∈P,sc.names.lookup x=some .local∨sc.names.lookup x=some .cell
  nofree : ∀ y∈sc.names,y.2 ≠ .free
theorem bindL_out {kindOf : Str→Option NameKind} {x : Str} : ∀ {binds : List (Str × Value)} {m : Str→Option Value},(∀ v,(x,v)∉binds)→bindL kindOf binds m x=m x
  | [],_,_=>rfl
  | (n,v) :: r,m,h=>by
    unfold bindL
    rw [bindL_out fun w hw=>h w (List.mem_cons_of_mem _ hw)]
    split
    · have : x≠n:=by rintro rfl; exact h v List.mem_cons_self
      simp [this]
    · rfl
theorem bindC_out {kindOf : Str→Option NameKind} {x : Str} : ∀ {binds : List (Str × Value)} {m : Str→Option Value},(∀ v,(x,v)∉binds)→bindC kindOf binds m x=m x
  | [],_,_=>rfl
  | (n,v) :: r,m,h=>by
    unfold bindC
    rw [bindC_out fun w hw=>h w (List.mem_cons_of_mem _ hw)]
    split
    · rfl
    · have : x≠n:=by rintro rfl; exact h v List.mem_cons_self
      simp [this]
theorem bindL_get {kindOf : Str→Option NameKind} {x : Str} {v : Value} : ∀ {P : List Str} {vs : List Value} {i : Nat} {m : Str→Option Value},P.Nodup→P[i]?=some x→vs[i]?=some v→kindOf x=some .local →
    bindL kindOf (P.zip vs) m x=some v
  | [],_,_,_,_,h,_,_=>by simp at h
  | _ :: _,[],_,_,_,_,h,_=>by simp at h
  | p :: P,w :: vs,0,m,nd,h1,h2,hk=>by
    simp at h1 h2; subst h1; subst h2
    show bindL kindOf ((p,w) :: P.zip vs) m p=_
    unfold bindL
    rw [bindL_out fun v hv=>(List.nodup_cons.mp nd).1 (List.of_mem_zip hv).1,if_pos hk]
    simp
  | p :: P,w :: vs,i + 1,m,nd,h1,h2,hk=>by
    show bindL kindOf ((p,w) :: P.zip vs) m x=_
    unfold bindL
    exact bindL_get (i:=i) (List.nodup_cons.mp nd).2 (by simpa using h1) (by simpa using h2) hk
theorem bindC_get {kindOf : Str→Option NameKind} {x : Str} {v : Value} : ∀ {P : List Str} {vs : List Value} {i : Nat} {m : Str→Option Value},P.Nodup→P[i]?=some x→vs[i]?=some v→kindOf x≠some .local →
    bindC kindOf (P.zip vs) m x=some v
  | [],_,_,_,_,h,_,_=>by simp at h
  | _ :: _,[],_,_,_,_,h,_=>by simp at h
  | p :: P,w :: vs,0,m,nd,h1,h2,hk=>by
    simp at h1 h2; subst h1; subst h2
    show bindC kindOf ((p,w) :: P.zip vs) m p=_
    unfold bindC
    rw [bindC_out fun v hv=>(List.nodup_cons.mp nd).1 (List.of_mem_zip hv).1,if_neg hk]
    simp
  | p :: P,w :: vs,i + 1,m,nd,h1,h2,hk=>by
    show bindC kindOf ((p,w) :: P.zip vs) m x=_
    unfold bindC
    exact bindC_get (i:=i) (List.nodup_cons.mp nd).2 (by simpa using h1) (by simpa using h2) hk
noncomputable def start (N : List Str) (vs : List V) : St:=vs.map some ++ List.replicate (N.length - vs.length) none
noncomputable def cxOf (CX : CXT) (P : Program) (w : World) (K : PySem.W.Frag) (mg : Str→Option Value) (base : Heap) (N : List Str) (qual : Str) (scope : Scope) (f : Addr) (cd : Value) (A : Around) (outer : List Env) (s : Shared) (H : Hp) (E : XK) : Cx where
  prog:=P
  w:=w
  K:=K
  mg:=mg
  base:=base
  A:=A.deeper (envOfC qual scope s.heap.objs.size f cd)
  N:=N
  s₀:=s
  H₀:=H
  env:=envOfC qual scope s.heap.objs.size f cd
  outer:=outer
  stack:=envOfC qual scope s.heap.objs.size f cd :: outer
  ex:=[]
  calm:=true
  fn:=fun _=>true
  pn:=[]
  xe:=fun e s'=>wpAny (model P w) (A.deeper (envOfC qual scope s.heap.objs.size f cd)) (leaving (envOfC qual scope s.heap.objs.size f cd) e) (fun _ s''=>CX outer H s E e s'') (fun e' s''=>CX outer H s E e' s'') s'
theorem cell_has {sc : Scope} {n : Nat} {x : Str} (h : sc.names.lookup x=some .cell) : ∃ c,(cellsFrom n sc.names []).lookup x=some c:=by
  have q:=PySem.W.cellsFrom_some sc.names n [] (.inl h)
  exact Option.isSome_iff_exists.mp q
theorem inv_start {CX : CXT} {P : Program} {w : World} {K : PySem.W.Frag} {mg : Str→Option Value} {base : Heap} {N ps : List Str} {qual : Str} {scope : Scope} {f : Addr} {cd : Value} {A : Around} {outer : List Env} {s s1 : Shared} {H : Hp} {E : XK} {us : List Value} {vs : List V}
    (S : FnScope N ps scope) (hd : A.handled=none) (e0 : Env0 P w K mg base A outer s H) (hl : vs.length=ps.length) (r : Vals vs us)
    (x : InCallC s s.heap.objs.size (bindL (envOfC qual scope s.heap.objs.size f cd).kindOf (ps.zip us) fun _=>none) (cellsFrom (s.heap.objs.size + 1) scope.names []) (bindC (envOfC qual scope s.heap.objs.size f cd).kindOf (ps.zip us) fun _=>none) s1) :
    Inv (cxOf CX P w K mg base N qual scope f cd A outer s H E) [] (start N vs) H s1:=by
  have hpl : ps.length≤N.length:=by have:=congrArg List.length S.pre; rw [List.length_take] at this; omega
  obtain ⟨h1,tk,rfl,hk⟩:=x.done
  have noA : ∀ b : Addr,b∉(cxOf CX P w K mg base N qual scope f cd A outer s H E).ex:=fun b z=>absurd (show b∈([] : List Addr) from z) (by simp)
  refine ⟨⟨e0.mod,S.kind,rfl,rfl,Nat.le_refl _,fun y z c h1 h2=>?_,fun y hy=>?_,fun y c _ h=>?_,fun _=>hd,Around.frames_deeper e0.frames,.inr ⟨rfl,rfl⟩,fun b z=>absurd z (noA b),e0.bs,e0.bsz,fun b _ _=>noA b,fun b z=>absurd z (noA b),e0.funs,e0.frf⟩,
    rfl,e0.bare,Un.kept hk,⟨_,x.toInCall.ns,fun i y v h1 h2 h3=>?_⟩,fun y c h=>⟨_,x.cell y c h⟩,e0.hok.fresh (Nat.le_refl _),fun y c h=>?_,fun p hp=>absurd (show p∈([] : List (Addr × Obj)) from hp) (by simp),e0.hok.kept hk,?_⟩
  · exact name_of_addr x.apart (PySem.mem_of_lookup h1) (PySem.mem_of_lookup h2)
  · have hy : scope.names.lookup y=some .cell∨scope.names.lookup y=some .free:=hy
    rcases hy with hy | hy
    · exact cell_has hy
    · exact absurd rfl (S.nofree _ (PySem.mem_of_lookup hy))
  · exact Nat.le_of_lt (x.above y c (PySem.mem_of_lookup h))
  · have hi : i < vs.length:=by
      unfold start at h2
      by_cases hi : i < vs.length
      · exact hi
      · rw [List.getElem?_append_right (by simpa using hi)] at h2
        rw [List.getElem?_replicate] at h2
        split at h2 <;> cases h2
    have ha : vs[i]?=some v:=by
      unfold start at h2
      rw [List.getElem?_append_left (by simpa using hi),List.getElem?_map] at h2
      cases e : vs[i]? with
      | none=>rw [e] at h2; cases h2
      | some a=>rw [e] at h2; cases h2; rfl
    obtain ⟨u,hu,rv⟩:=r.get ha
    have hp : ps[i]?=some y:=by
      rw [← S.pre,List.getElem?_take_of_lt (by omega)]; exact h1
    have ndP : ps.Nodup:=by rw [← S.pre]; exact S.nd.sublist (List.take_sublist _ _)
    refine ⟨u,rv,?_⟩
    rcases S.par y (List.mem_of_getElem? hp) with k | k
    · exact .inl ⟨k,bindL_get ndP hp hu k⟩
    · obtain ⟨c,e⟩:=cell_has (n:=s.heap.objs.size + 1) k
      refine .inr ⟨.inl k,c,e,?_⟩
      have q:=x.cell y c e
      rw [bindC_get ndP hp hu (by show scope.names.lookup y≠_; rw [k]; decide)] at q
      exact q
  · exact e0.hok.fresh (Nat.le_of_lt (x.above y c (PySem.mem_of_lookup h)))
  · unfold start
    show _=N.length
    rw [List.length_append,List.length_map,List.length_replicate]
    omega
theorem fn_of {CX : CXT} {P : Program} {w : World} {K : PySem.W.Frag} {mg : Str→Option Value} {base : Heap} {k : Nat} {f : Addr} {name qual : Str} {params : Arguments} {body : List Stmt} {scope : Scope} {dV kV doc pm cdv ct oc : Value} {an od : Option Addr}
    {osl : Array (Option Value)} {N ps : List Str} {sp : Sp} (lk : K.lookup f=some ⟨oc,od,.func (PySem.W.fnOf name qual params body scope dV kV doc pm an cdv ct),osl⟩) (hcd : PySem.W.codeIn K cdv qual=true) (S : FnScope N ps scope)
    (len : ∀ vs H Q E,sp vs H Q E→vs.length=ps.length)
    (hbody : ∀ (A : Around) (outer : List Env) (s : Shared) (H : Hp) (vs : List V) (Q : VK) (E : XK),Room k (A.deeper (envOfC qual scope s.heap.objs.size f cdv))→sp vs H Q E →
      ∃ t,PSs (cxOf CX P w K mg base N qual scope f cdv A outer s H E) body t∧t { nx:=fun _ H'=>Q .non H',rt:=Q } (start N vs) H) :
    FnOk P w K mg base CX (k + 1) f (PySem.W.fnOf name qual params body scope dV kV doc pm an cdv ct) ps sp:=by
  refine ⟨len,fun A outer s H args us vs Q E hr e0 hb r hsp=>?_⟩
  have hl:=len _ _ _ _ hsp
  have KX : K.In s.heap:=e0.mod.kin.keeps fun b o e=>(e0.bs b o e).1
  have lim : s.heap.NoLimit:=e0.mod.nolimit.keeps fun b o e=>(e0.bs b o e).1
  have hkind : ∀ y∈ps.zip us,scope.names.lookup y.1=some .local∨(scope.names.lookup y.1=some .cell∧((cellsFrom (s.heap.objs.size + 1) scope.names []).lookup y.1).isSome=true):=fun ⟨n,v⟩ hy=>by
    rcases S.par n (List.of_mem_zip hy).1 with q | q
    · exact .inl q
    · exact .inr ⟨q,PySem.W.cellsFrom_some _ _ _ (.inl q)⟩
  refine codeAny_call_function hr.depth (KX _ _ lk) rfl S.co S.gen rfl (PySem.W.codeRec_of KX hcd) (hb _ _ _ _ ?_)
  refine wpAny_newFunctionEnv_cells S.kind hkind fun env he s1 x=>?_
  subst he
  refine ⟨lim.keeps x.toInCall.keep,codeAny_func ?_⟩
  obtain ⟨t,ht,hq⟩:=hbody A outer s H vs Q E (hr.deeper _) hsp
  have I : Inv (cxOf CX P w K mg base N qual scope f cdv A outer s H E) [] (start N vs) H s1:=inv_start S hr.hd e0 hl r x
  refine wpAny_mono (ht [] s1 (start N vs) H _ I hq) (fun fl s' hs=>?_) fun e s' hs=>hs
  have fin : ∀ {σ' : St} {H' : Hp} {v : V} {u : Value},Inv (cxOf CX P w K mg base N qual scope f cdv A outer s H E) [] σ' H' s'→RelV v u→Q v H'→CE outer P w H s Q u s' :=
    fun {σ' H' v u} J rv q=>⟨v,H',J.os,J.bare,J.base,J.hok,rv,q⟩
  cases fl with
  | ret u =>
    obtain ⟨v,σ',H',J,rv,q⟩:=hs
    exact fin J rv q
  | next =>
    obtain ⟨σ',H',J,q⟩:=hs
    exact fin (v:=V.non) (u:=Value.none) J rfl q
  | brk =>
    obtain ⟨_,_,_,q⟩:=hs
    exact False.elim q
  | cont =>
    obtain ⟨_,_,_,q⟩:=hs
    exact False.elim q
end L2
namespace L2
open PySem PySem.Spec PyProof.Rows
section
variable {X : Cx} {x : Str} {p pos : Pos} {e : Expr} {es : List Expr} {t : TA} {id T : String} {r : List V→Hp→VK→Prop}
noncomputable def tCB (r : List V→Hp→VK→Prop) (t : TA) : TE:=fun σ H Q=>t σ H fun vs H1=>r vs H1 Q
theorem pe_callB (hc : CallR X (.builtin id) r) (hg : Gl X x) (hm : X.mg x=none) (hv : bootBuiltins x=some (.builtin id)) (ha : PA X (e :: es) t) (hn : x≠"__name__":=by decide) (hdb : (x == ("__debug__" : Str))=false:=by decide)
    (he : starEach (e :: es) X.env=(false,eval e X.env) :: starEach es X.env:=by rfl) (hpl : (backTo pos (starEach es X.env)).any (·.1)=false:=by rfl) : PE X (.Call (.Name x p) (e :: es) [] pos) (tCB r t):=by
  intro pins s σ H Q I h
  refine wpAny_Call_Name_kw (ld_blt I hg hm hv ?_ hn hdb)
  exact PyProof.Rows.callWith_builtin1 (thn (ha pos pins s σ H _ I h) fun us s1 ⟨vs,H1,I1,r1,q1⟩=>hc pins s1 σ H1 vs us Q I1 r1 q1) he hpl
theorem pe_callTy (hc : CallR X (.type T) r) (hg : Gl X x) (hm : X.mg x=none) (hv : bootBuiltins x=some (.type T)) (ha : PA X (e :: es) t) (hn : x≠"__name__":=by decide) (hdb : (x == ("__debug__" : Str))=false:=by decide)
    (he : starEach (e :: es) X.env=(false,eval e X.env) :: starEach es X.env:=by rfl) (hpl : (backTo pos (starEach es X.env)).any (·.1)=false:=by rfl) : PE X (.Call (.Name x p) (e :: es) [] pos) (tCB r t):=by
  intro pins s σ H Q I h
  refine wpAny_Call_Name_kw (ld_blt I hg hm hv ?_ hn hdb)
  exact PyProof.Rows.callWith_type1 (thn (ha pos pins s σ H _ I h) fun us s1 ⟨vs,H1,I1,r1,q1⟩=>hc pins s1 σ H1 vs us Q I1 r1 q1) he hpl
end
end L2
namespace HT
open PySem PyProof.Rows
noncomputable def lexLt : List Int→List Int→Bool
  | [],[]=>false
  | [],_ :: _=>true
  | _ :: _,[]=>false
  | x :: xs,y :: ys=>if x=y then lexLt xs ys else decide (x < y)
theorem lexLt_cons (x y : Int) (xs ys : List Int) : lexLt (x :: xs) (y :: ys)=if x=y then lexLt xs ys else decide (x < y):=rfl
theorem lexLt_nil_nil : lexLt [] []=false:=rfl
theorem lexLt_nil_cons (y : Int) (ys : List Int) : lexLt [] (y :: ys)=true:=rfl
theorem lexLt_cons_nil (x : Int) (xs : List Int) : lexLt (x :: xs) []=false:=rfl
theorem eqAt_int (A : Around) (s : Shared) (a : Int) (t : Tok) (c : Int) (u : Tok) : ∃ e,SeqAt.EqAt A s (.int a t) (.int c u) e∧(e=true↔a=c) :=
  ⟨(a == c),SeqAt.EqAt.int_int a t c u,by simp⟩
theorem rcLt_int (A : Around) (s : Shared) (a : Int) (t : Tok) (c : Int) (u : Tok) (prog : Program) (w : World) (E : Value→Shared→Prop) (Q : Value→Shared→Prop) (h : Q (.bool (decide (a < c))) s) :
    wpAny (model prog w) A (richCompare .Lt (.int a t) (.int c u)) Q E s :=
  (PyProof.Rows.lt_int h : wpAny (model prog w) A (compareOp .Lt (.int a t) (.int c u)) Q E s)
section
open PySem.SeqAt
open PySem.AutoSeq1 (wpAny_loadPart')
open PySem.MeetsSeq PySem.MeetsSeq2 PySem.MeetsSeq3
theorem tuple_lt_ints (l b : Addr) (items items2 : Array Value) (n n2 : Nat) (dd dd2 : Option Addr) (sl sl2 : Array (Option Value)) (ns ms : List Int) (hi : IntsAre items.toList ns) (hj : IntsAre items2.toList ms) :
    Meets (Builtin.«tuple.__lt__» ⟨[.ref l,.ref b],[]⟩)
      (fun _ R s=>s.heap.get? l=some { cls := .type "tuple",dict:=dd,data := .seq items n,slots:=sl }∧s.heap.get? b=some { cls := .type "tuple",dict:=dd2,data := .seq items2 n2,slots:=sl2 } ∧
        R (.ok (.ret (.bool (lexLt ns ms)))) s) :=
  .of_wp fun prog w A R s h=>by
    obtain ⟨hp,g,d,tk,os⟩:=s; obtain ⟨hl,hb,h⟩:=h
    have f2:=AutoSeq1.sub_tuple_tuple
    have z1 : items.size=ns.length:=by rw [← hi.length]; simp
    have z2 : items2.size=ms.length:=by rw [← hj.length]; simp
    wp_walk using wpAny_loadPart' hl,wpAny_loadPart' hb,wpAny_forIn_list _ (fun rest b s'=>b.1=none∧s'=⟨hp,g,d,tk,os⟩∧∃ (vs ws : List Value) (ns' ms' : List Int),rest=vs.zip ws ∧
      IntsAre vs ns'∧IntsAre ws ms'∧ns'.length + items2.size=ms'.length + items.size∧R (.ok (.ret (.bool (lexLt ns' ms')))) ⟨hp,g,d,tk,os⟩) _
    case turn =>
      rintro ⟨y,x⟩ rest b s' ⟨hb',rfl,vs,ws,ns',ms',hz,hvi,hwi,hlen,hR⟩
      cases hvi with
      | nil=>rw [List.zip_nil_left] at hz; cases hz
      | cons a t hvi' =>
        cases hwi with
        | nil=>rw [List.zip_nil_right] at hz; cases hz
        | cons c u hwi' =>
          rw [List.zip_cons_cons] at hz
          injection hz with hyx hrest
          injection hyx with hy hx
          subst hy hx
          rw [lexLt_cons] at hR
          simp only [List.length_cons] at hlen
          obtain ⟨e,he,hiff⟩:=eqAt_int A.in1 ⟨hp,g,d,tk,os⟩ a t c u
          refine wpAny_bind (he prog w _ _ ?_)
          cases e with
          | true =>
            rw [if_pos (hiff.mp rfl)] at hR
            wp_walk
            exact ⟨rfl,rfl,_,_,_,_,hrest,hvi',hwi',by omega,hR⟩
          | false =>
            rw [if_neg (fun q=>absurd (hiff.mpr q) Bool.false_ne_true)] at hR
            have hri:=rcLt_int A.in1 ⟨hp,g,d,tk,os⟩ a t c u prog w
            wp_walk using hri
            exact ⟨_,rfl,by simpa using hR⟩
    case fin =>
      rintro ⟨b1,b2⟩ s' ⟨hb',rfl,vs,ws,ns',ms',hz,hvi,hwi,hlen,hR⟩
      simp only at hb'
      subst hb'
      have hv : lexLt ns' ms'=decide (items.size < items2.size):=by
        cases hvi with
        | nil =>
          cases hwi with
          | nil =>
            simp only [List.length_nil] at hlen
            rw [lexLt_nil_nil]
            exact (decide_eq_false (by omega)).symm
          | cons c u hw =>
            simp only [List.length_nil,List.length_cons] at hlen
            rw [lexLt_nil_cons]
            exact (decide_eq_true (by omega)).symm
        | cons a t hv =>
          cases hwi with
          | nil =>
            simp only [List.length_nil,List.length_cons] at hlen
            rw [lexLt_cons_nil]
            exact (decide_eq_false (by omega)).symm
          | cons c u hw =>
            rw [List.zip_cons_cons] at hz
            cases hz
      rw [hv] at hR
      wp_walk
      exact ⟨_,rfl,by simpa [Builtin.Tuple.tupleCompareSizes] using hR⟩
    case h =>
      exact ⟨rfl,rfl,items.toList,items2.toList,ns,ms,rfl,hi,hj,by omega,h⟩
end
section
variable {prog : Program} {w : World} {A : Around} {E : Value→Shared→Prop} {s : Shared}
theorem lt_tupInts {l b : Addr} {items items2 : Array Value} {ns ms : List Int} {Q : Value→Shared→Prop} (hl : IsTup s.heap l items) (hb : IsTup s.heap b items2) (hi : IntsAre items.toList ns) (hj : IntsAre items2.toList ms)
    (hu : A.units < cLine) (h : Q (.bool (lexLt ns ms)) s) : wpAny (model prog w) A (compareOp .Lt (.ref l) (.ref b)) Q E s:=by
  obtain ⟨⟨cls,dd,data,sl⟩,ho,hc,n,hd⟩:=id hl
  obtain ⟨⟨cls2,dd2,data2,sl2⟩,ho2,hc2,n2,hd2⟩:=id hb
  simp only at hc hd hc2 hd2
  subst hc hd hc2 hd2
  exact richCompare_meets_room (op := .Lt) ⟨_,ho,rfl⟩ ⟨_,ho2,rfl⟩ PySem.F.slot_tuple_lt PySem.F.entry_tuple_lt (PySem.F.args_tuple_lt_2 _ _) (tuple_lt_ints l b items items2 n n2 dd dd2 sl sl2 ns ms hi hj)
    ⟨ho,ho2,show Value.bool (lexLt ns ms)≠Value.notImplemented∧Q (.bool (lexLt ns ms)) s from ⟨(fun x=>nomatch x),h⟩⟩ hu
noncomputable def sIx (n d : Nat) : Option Int→Nat
  | none=>d
  | some v=>if v < 0 then (v + (n : Int)).toNat else min v.toNat n
theorem sIx_none (n d : Nat) : sIx n d none=d:=rfl
theorem sIx_nat (n d k : Nat) : sIx n d (some (k : Int))=min k n:=by
  show (if (k : Int) < 0 then ((k : Int) + (n : Int)).toNat else min (k : Int).toNat n)=min k n
  rw [if_neg (by omega),Int.toNat_natCast]
end
end HT
namespace L2
open PySem PySem.Spec PyProof.Rows
noncomputable abbrev TO:=St→Hp→(Option Int→Hp→Prop)→Prop
noncomputable def PO (X : Cx) (e : Option Expr) (t : TO) : Prop :=
  ∀ (pins : List (Addr × Obj)) (s : Shared) (σ : St) (H : Hp) (Q : Option Int→Hp→Prop),Inv X pins σ H s→t σ H Q →
    wpAny (model X.prog X.w) X.A (evalPart e X.env) (fun u s'=>∃ o H',Inv X pins σ H' s'∧IsPart u o∧Q o H') X.xe s
noncomputable def tNoPart : TO:=fun _ H Q=>Q none H
noncomputable def tPart (t : TE) : TO:=fun σ H Q=>t σ H fun x H1=>∃ i,x = .int i∧Q (some i) H1
theorem intsAre_of {ns : List Int} : ∀ {us : List Value},Vals (ns.map V.int) us→IntsAre us ns:=by
  induction ns with
  | nil=>intro us r; rw [List.map_nil] at r; cases r; exact .nil
  | cons n ns ih =>
    intro us r
    rw [List.map_cons] at r
    cases r with
    | cons r1 r2 =>
      obtain ⟨t,e⟩:=r1
      subst e
      exact .cons n t (ih r2)
section
variable {X : Cx} {e : Expr} {te : TE} {lo hi : Option Expr} {tl th : TO} {pos p2 : Pos}
theorem po_none : PO X none tNoPart:=by
  intro pins s σ H Q I h
  rw [evalPart_none]
  exact wpAny_pure ⟨none,H,I,.none,h⟩
theorem po_some (h : PE X e te) : PO X (some e) (tPart te):=by
  intro pins s σ H Q I hw
  rw [evalPart_some]
  refine thn (h pins s σ H _ I hw) fun u s1 ⟨x,H1,I1,r1,q1⟩=>?_
  obtain ⟨i,rfl,q⟩:=q1
  obtain ⟨t,rfl⟩:=r1
  exact ⟨some i,H1,I1,.int i t,q⟩
noncomputable def SlR (X : Cx) (r : V→Option Int→Option Int→Hp→VK→Prop) : Prop :=
  ∀ (pins : List (Addr × Obj)) (s : Shared) (σ : St) (H : Hp) (x : V) (v vl vu : Value) (lo hi : Option Int) (sl : Addr) (Q : VK),Inv X pins σ H s→RelV x v→s.heap.IsSliceOf sl vl vu .none→IsPart vl lo→IsPart vu hi→r x lo hi H Q →
    ∃ T id,typeLookup (.type T) "__getitem__"=pure (some (.builtin id))∧s.TypeIs v T∧wpAny (model X.prog X.w) X.A (getItem v (.ref sl)) (EP X pins σ Q) X.xe s
noncomputable def tSl (r : V→Option Int→Option Int→Hp→VK→Prop) (te : TE) (tl th : TO) : TE:=fun σ H Q=>te σ H fun x H1=>tl σ H1 fun l H2=>th σ H2 fun u H3=>r x l u H3 Q
theorem pe_slice {r : V→Option Int→Option Int→Hp→VK→Prop} (hr : SlR X r) (he : PE X e te) (hl : PO X lo tl) (hu : PO X hi th) : PE X (.Subscript e (.Slice lo hi none p2) pos) (tSl r te tl th):=by
  intro pins s σ H Q I h
  refine Subscript_ (thn (he pins s σ H _ I h) fun v s1 ⟨x,H1,I1,r1,q1⟩=>?_)
  refine wpAny_Slice (thn (hl pins s1 σ H1 _ I1 q1) fun vl s2 ⟨l,H2,I2,pl,q2⟩=>thn (hu pins s2 σ H2 _ I2 q2) fun vu s3 ⟨u,H3,I3,pu,q3⟩=>?_)
  rw [evalPart_none]
  refine wpAny_pure ?_
  have I4 : Inv X pins σ H3 { s3 with heap:=s3.heap.push { cls := .type "slice",data := .fields #[vl,vu,.none] } }:=I3.kept (t':=s3.toks) fun b ob q=>Heap.get?_push_of_some _ q
  obtain ⟨T,id,hT,ht,hg⟩:=hr pins { s3 with heap:=s3.heap.push { cls := .type "slice",data := .fields #[vl,vu,.none] } } σ H3 x v vl vu l u s3.heap.objs.size Q I4 r1 (Heap.IsSliceOf.new ..) pl pu q3
  show wpAny (model X.prog X.w) X.A (subscriptTail e (.Slice lo hi none p2) v (.ref s3.heap.objs.size)) (EP X pins σ Q) X.xe { s3 with heap:=s3.heap.push { cls := .type "slice",data := .fields #[vl,vu,.none] } }
  exact tail_any (ops:=[.ref s3.heap.objs.size,v]) ht hT hg (by with_unfolding_all rfl)
noncomputable def cutV (xs : List V) (lo hi : Option Int) : List V:=(xs.drop (HT.sIx xs.length 0 lo)).take (HT.sIx xs.length xs.length hi - HT.sIx xs.length 0 lo)
theorem cutV_length (xs : List V) (lo hi : Option Int) : (cutV xs lo hi).length≤xs.length:=by
  unfold cutV
  rw [List.length_take,List.length_drop]
  omega
noncomputable def rLtT (K : PySem.W.Frag) : R2:=fun x y H Q=>∃ a b ns ms,x = .ref a∧y = .ref b∧SqT K H a (ns.map V.int)∧SqT K H b (ms.map V.int)∧Q (.bl (HT.lexLt ns ms)) H
theorem op_ltT (hu : X.A.units < cLine) : OpR X (compareOp .Lt) (rLtT X.K):=by
  intro pins s σ H x y v u Q I rx ry h
  obtain ⟨a,b,ns,ms,rfl,rfl,ha,hb,q⟩:=h
  cases rx
  cases ry
  obtain ⟨its,r1,p1,_⟩:=I.tuple ha
  obtain ⟨its2,r2,p2,_⟩:=I.tuple hb
  have i1 : IntsAre its.toArray.toList ns:=intsAre_of r1
  have i2 : IntsAre its2.toArray.toList ms:=intsAre_of r2
  exact HT.lt_tupInts p1 p2 i1 i2 hu ⟨.bl (HT.lexLt ns ms),H,I,rfl,q⟩
end
end L2
namespace L2
open PySem PySem.Spec PyProof.Rows
noncomputable def ixN (n : Nat) (i : Int) : Option Nat:=if 0≤i then (if i < n then some i.toNat else none) else if -(n : Int)≤i then some (i + n).toNat else none
noncomputable def atI {α : Type} (xs : List α) (i : Int) : Option α:=(ixN xs.length i).bind fun j=>xs[j]?
theorem ixN_seq {n : Nat} {i : Int} {j : Nat} (h : ixN n i=some j) : seqIndex? i n=some j∧j < n ∧ -(n : Int)≤i∧i < n:=by
  unfold ixN at h
  by_cases h0 : 0≤i
  · rw [if_pos h0] at h
    by_cases h1 : i < n
    · rw [if_pos h1] at h
      have e : i.toNat=j:=Option.some.inj h
      exact ⟨by rw [seqIndex_of h0 h1,e],by omega,by omega,h1⟩
    · rw [if_neg h1] at h; cases h
  · rw [if_neg h0] at h
    by_cases h1 : -(n : Int)≤i
    · rw [if_pos h1] at h
      have e : (i + n).toNat=j:=Option.some.inj h
      exact ⟨by rw [seqIndex_neg (by omega) h1,e],by omega,h1,by omega⟩
    · rw [if_neg h1] at h; cases h
theorem atI_get {α : Type} {xs : List α} {i : Int} {v : α} (h : atI xs i=some v) : ∃ j,seqIndex? i xs.length=some j∧xs[j]?=some v∧j < xs.length ∧ -(xs.length : Int)≤i∧i < xs.length:=by
  unfold atI at h
  cases e : ixN xs.length i with
  | none=>rw [e] at h; cases h
  | some j =>
    rw [e] at h
    obtain ⟨h1,h2,h3,h4⟩:=ixN_seq e
    exact ⟨j,h1,h,h2,h3,h4⟩
theorem atI_nat {α : Type} {xs : List α} {j : Nat} {v : α} (h : xs[j]?=some v) : atI xs (j : Int)=some v:=by
  have hj : j < xs.length:=(List.getElem?_eq_some_iff.mp h).1
  have e : ixN xs.length (j : Int)=some j:=by
    unfold ixN
    rw [if_pos (by omega),if_pos (by omega)]; simp
  unfold atI; rw [e]; exact h
noncomputable def PlainIx (b : Expr) : Prop:=∀ o i,subscripted b false o i=operate [o,i] (getItem o i)
noncomputable def IxR (X : Cx) (r : R2) : Prop :=
  ∀ (value slice : Expr) (pins : List (Addr × Obj)) (s : Shared) (σ : St) (H : Hp) (x y : V) (v u : Value) (Q : VK),Inv X pins σ H s→RelV x v→RelV y u→r x y H Q →
    subscripted slice false v u=operate [v,u] (getItem v u)→wpAny (model X.prog X.w) X.A (subscriptTail value slice v u) (EP X pins σ Q) X.xe s
noncomputable def MtR (X : Cx) (id : String) (r : V→List V→Hp→VK→Prop) : Prop :=
  ∀ (pins : List (Addr × Obj)) (s : Shared) (σ : St) (H : Hp) (x : V) (xs : List V) (v : Value) (us : List Value) (Q : VK),Inv X pins σ H s→RelV x v→Vals xs us→r x xs H Q →
    wpAny (model X.prog X.w) X.A (call (.builtin id) (v :: us)) (EP X pins σ Q) X.xe s
section
variable {X : Cx} {a b : Expr} {ta tb : TE} {pos : Pos}
theorem IxR.or {r r' : R2} (h : IxR X r) (h' : IxR X r') : IxR X (fun x y H Q=>r x y H Q∨r' x y H Q):=by
  intro value slice pins s σ H x y v u Q I rx ry q hs
  rcases q with q | q
  · exact h value slice pins s σ H x y v u Q I rx ry q hs
  · exact h' value slice pins s σ H x y v u Q I rx ry q hs
theorem pe_ix {r : R2} (hr : IxR X r) (ha : PE X a ta) (hb : PE X b tb) (hs : PlainIx b) : PE X (.Subscript a b pos) (tOp r ta tb):=by
  intro pins s σ H Q I h
  exact Subscript_ (binT ha hb I h fun v u s2 x y H2 I2 rx ry q=>hr a b pins s2 σ H2 x y v u Q I2 rx ry q (hs _ _))
noncomputable def rIxL (K : PySem.W.Frag) : R2:=fun x y H Q=>∃ p xs i v,x = .ref p∧y = .int i∧SqL K H p xs∧atI xs i=some v∧Q v H
noncomputable def rIxT (K : PySem.W.Frag) : R2:=fun x y H Q=>∃ p xs i v,x = .ref p∧y = .int i∧SqT K H p xs∧atI xs i=some v∧Q v H
noncomputable def rIxS : R2:=fun x y H Q=>∃ z i c,x = .str z∧y = .int i∧z.length≤sizeLine∧atI z.cps.toList i=some c∧Q (.str ⟨#[c]⟩) H
theorem ix_list : IxR X (rIxL X.K):=by
  intro value slice pins s σ H x y v u Q I rx ry h hs
  obtain ⟨p,xs,i,z,rfl,rfl,hq,he,q⟩:=h
  cases rx
  obtain ⟨t,rfl⟩:=ry
  obtain ⟨its,r,pl,hz⟩:=I.list hq
  obtain ⟨j,h1,h2,h3,h4,h5⟩:=atI_get he
  obtain ⟨w,ew,rw'⟩:=r.get h2
  have hl:=r.length
  have hn:=line63
  have fin : EP X pins σ Q w s:=⟨z,H,I,rw',q⟩
  by_cases h0 : 0≤i
  · have hj : i.toNat=j:=by
      rw [seqIndex_of h0 h5] at h1
      exact Option.some.inj h1
    exact item_listR pl.isList h0 (by omega) (by rw [hj]; simpa using ew) fin hs
  · have hj : (i + (its.toArray.size : Int)).toNat=j:=by
      rw [seqIndex_neg (by omega) h4] at h1
      rw [List.size_toArray,← hl]
      exact Option.some.inj h1
    exact subscriptTail_builtinR (x:=w) pl.isList.typeIs slot_list_getitem.lookup
      (wpAny_getItem_list_neg (Q:=fun r s'=>r=w∧EP X pins σ Q r s') pl.isList (by omega) (by rw [List.size_toArray] <;> omega) (by omega) (by rw [hj]; simpa using ew) ⟨rfl,fin⟩) hs
theorem ix_tup : IxR X (rIxT X.K):=by
  intro value slice pins s σ H x y v u Q I rx ry h hs
  obtain ⟨p,xs,i,z,rfl,rfl,hq,he,q⟩:=h
  cases rx
  obtain ⟨t,rfl⟩:=ry
  obtain ⟨its,r,pl,hz⟩:=I.tuple hq
  obtain ⟨j,h1,h2,h3,h4,h5⟩:=atI_get he
  obtain ⟨w,ew,rw'⟩:=r.get h2
  have hl:=r.length
  have hn:=line63
  have fin : EP X pins σ Q w s:=⟨z,H,I,rw',q⟩
  exact subscriptTail_builtinR (x:=w) pl.typeIs slot_tuple_getitem.lookup
    (getItem_tuple (j:=j) (Q:=fun r s'=>r=w∧EP X pins σ Q r s') pl (by omega) (by omega) (by rw [List.size_toArray,← hl]; exact h1) (by simpa using ew) ⟨rfl,fin⟩) hs
theorem ix_str : IxR X rIxS:=by
  intro value slice pins s σ H x y v u Q I rx ry h hs
  obtain ⟨z,i,c,rfl,rfl,hz,he,q⟩:=h
  obtain ⟨t,rfl⟩:=rx
  obtain ⟨t',rfl⟩:=ry
  obtain ⟨j,h1,h2,h3,h4,h5⟩:=atI_get he
  have hl : z.cps.toList.length=z.length:=by simp [Str.length]
  rw [hl] at h1 h4 h5
  have hn:=line63
  exact tail_any (typeIs_str s z t) slot_str_getitem.lookup (getItem_str (c:=c) (by
    have e1 : decide (i < -(2 ^ 63 : Int))=false:=decide_eq_false (by omega)
    have e2 : decide (i ≥ 2 ^ 63)=false:=decide_eq_false (by omega)
    rw [e1,e2,Bool.or_false]) (by rw [h1]; simpa using h2) ⟨.str ⟨#[c]⟩,H,I.tok _,⟨_,rfl⟩,q⟩) hs
noncomputable def rIx (K : PySem.W.Frag) : R2:=fun x y H Q=>rIxL K x y H Q∨rIxT K x y H Q∨rIxS x y H Q
theorem ix_seq : IxR X (rIx X.K):=ix_list.or (ix_tup.or ix_str)
theorem mapSeq_set (its : List Value) (n j : Nat) (u : Value) : Obj.mapSeq (·.setIfInBounds j u) { cls := .type "list",data := .seq its.toArray n }={ cls := .type "list",data := .seq (its.set j u).toArray n }:=by
  simp [Obj.mapSeq]
theorem Inv.lst {pins : List (Addr × Obj)} {σ : St} {H : Hp} {s : Shared} {p : Addr} {xs : List V} (I : Inv X pins σ H s) (h : H p=some (.lst xs)) :
    ∃ (its : List Value) (n : Nat),Vals xs its∧s.heap.get? p=some { cls := .type "list",data := .seq its.toArray n }∧xs.length≤sizeLine:=by
  obtain ⟨z,its,n,r,e⟩:=I.hok p _ h
  exact ⟨its,n,r,e,z⟩
theorem Inv.lstUpd {pins : List (Addr × Obj)} {σ : St} {H : Hp} {s : Shared} {p : Addr} {xs ys : List V} {its its' : List Value} {n n' : Nat} {f : Obj→Obj} (I : Inv X pins σ H s) (h : H p=some (.lst xs))
    (ho : s.heap.get? p=some { cls := .type "list",data := .seq its.toArray n }) (hf : f { cls := .type "list",data := .seq its.toArray n }={ cls := .type "list",data := .seq its'.toArray n' }) (r : Vals ys its') (hz : ys.length≤sizeLine) (t : Nat) :
    Inv X pins σ (upd H p (.lst ys)) { s with heap:=s.heap.update p f,toks:=t }:=by
  have e : (s.heap.update p f).get? p=some { cls := .type "list",data := .seq its'.toArray n' }:=by
    rw [Heap.get?_update_self f ho (by rw [hf] <;> rfl),hf]
  refine I.write (x:=p) (e:=p) (by rw [h]; trivial) (.inl rfl) (fun b u hb q=>(Heap.get?_update_other _ _ (Ne.symm hb)).trans q) ⟨_,e⟩ ?_
  exact ⟨hz,its',n',r,e⟩
noncomputable def rSetL : V→V→V→Hp→(Hp→Prop)→Prop:=fun o i v H Q=>∃ p xs k j,o = .ref p∧i = .int k∧H p=some (.lst xs)∧ixN xs.length k=some j∧Q (upd H p (.lst (xs.set j v)))
theorem set_list : PSet X rSetL:=by
  intro pins s σ H o i v ov iv u Q I ro ri rv h
  obtain ⟨p,xs,k,j,rfl,rfl,hp,hj,q⟩:=h
  cases ro
  obtain ⟨t,rfl⟩:=ri
  obtain ⟨its,n,r,ho,hz⟩:=I.lst hp
  obtain ⟨h1,h2,h3,h4⟩:=ixN_seq hj
  have hl:=r.length
  have hn:=line63
  have I' : Inv X pins σ (upd H p (.lst (xs.set j v))) { s with heap:=s.heap.update p (Obj.mapSeq (·.setIfInBounds j u)) } :=
    I.lstUpd hp ho (mapSeq_set its n j u) (r.set rv j) (by rw [List.length_set]; exact hz) s.toks
  by_cases h0 : 0≤k
  · have hk : k.toNat=j:=by
      rw [seqIndex_of h0 h4] at h1
      exact Option.some.inj h1
    exact PySem.W.ki_setAt ho h0 (by omega) (by rw [List.size_toArray,← hl]; exact h4) (by rw [hk]; exact ⟨_,I',q⟩)
  · have hk : (k + (its.toArray.size : Int)).toNat=j:=by
      rw [seqIndex_neg (by omega) h3] at h1
      rw [List.size_toArray,← hl]
      exact Option.some.inj h1
    exact PySem.W.ki_setBack ho (by omega) (by rw [List.size_toArray,← hl]; exact h3) (by omega) (by rw [hk]; exact ⟨_,I',q⟩)
theorem slice_bounds (lo hi : Option Int) (n : Nat) : (sliceBounds lo hi none n).1=((HT.sIx n 0 lo : Nat) : Int)∧(sliceBounds lo hi none n).2.1=((HT.sIx n n hi : Nat) : Int)∧(sliceBounds lo hi none n).2.2=1:=by
  refine ⟨?_,?_,rfl⟩
  · cases lo with
    | none=>simp [sliceBounds,HT.sIx]
    | some i =>
      simp only [sliceBounds,HT.sIx,Option.getD_none,show (1 : Int) > 0 by decide,if_true]
      by_cases h : i < 0
      · simp only [h,if_true] <;> omega
      · simp only [h,if_false] <;> omega
  · cases hi with
    | none=>simp [sliceBounds,HT.sIx]
    | some i =>
      simp only [sliceBounds,HT.sIx,Option.getD_none,show (1 : Int) > 0 by decide,if_true]
      by_cases h : i < 0
      · simp only [h,if_true] <;> omega
      · simp only [h,if_false] <;> omega
theorem slicePick_cut (its : List Value) (lo hi : Option Int) : slicePick its.toArray lo hi none=((its.drop (HT.sIx its.length 0 lo)).take (HT.sIx its.length its.length hi - HT.sIx its.length 0 lo)).toArray:=by
  obtain ⟨h1,h2,h3⟩:=slice_bounds lo hi its.toArray.size
  unfold slicePick
  rw [h1,h2,h3]
  simp only [sliceRange_one,pick_run,List.size_toArray] <;> rfl
noncomputable def rSlL (K : PySem.W.Frag) : V→Option Int→Option Int→Hp→VK→Prop:=fun x lo hi H Q=>∃ a xs,x = .ref a∧SqL K H a xs∧∀ p,H p=none→Q (.ref p) (upd H p (.lst (cutV xs lo hi)))
theorem sl_list : SlR X (rSlL X.K):=by
  intro pins s σ H x v vl vu lo hi sl Q I rx hs pl pu h
  obtain ⟨a,xs,rfl,hx,q⟩:=h
  cases rx
  obtain ⟨its,r,ht,hz⟩:=I.list hx
  have hlen:=r.length
  refine ⟨"list",_,slot_list_getitem.lookup,ht.isList.typeIs,?_⟩
  refine wpAny_getItem_list_slice ht.isList hs pl pu .none (by simp) ?_ (by rw [List.size_toArray] <;> omega)
  rw [slicePick_cut,← hlen]
  refine ⟨.ref s.heap.objs.size,_,I.laid (t':=s.toks) (o := .lst (cutV xs lo hi)) (fun b ob q=>Heap.get?_push_of_some _ q) (Nat.le_refl _) ?_,rfl,q _ (I.hok.fresh (Nat.le_refl _))⟩
  exact ⟨Nat.le_trans (cutV_length xs lo hi) hz,_,0,(r.drop (HT.sIx xs.length 0 lo)).take (HT.sIx xs.length xs.length hi - HT.sIx xs.length 0 lo),Heap.get?_push_size _ rfl⟩
theorem call_list_of : CallR X (.type "list") (fun xs H Q=>∃ p ys,xs=[.ref p]∧(SqL X.K H p ys∨SqT X.K H p ys)∧∀ l,H l=none→Q (.ref l) (upd H l (.lst ys))):=by
  intro pins s σ H xs us Q I r h
  obtain ⟨p,ys,rfl,hq,q⟩:=h
  obtain ⟨u,rfl,rx⟩:=vals1 r
  cases rx
  have fin : ∀ (its : List Value),Vals ys its→ys.length≤sizeLine→∀ (h' : Heap) (c' : Nat),(∀ b o',s.heap.get? b=some o'→h'.get? b=some o') →
      h'.get? s.heap.objs.size=some { cls := .type "list",dict:=none,data := .seq its.toArray c',slots:=#[] }→EP X pins σ Q (.ref s.heap.objs.size) { s with heap:=h' }:=fun its r' hz h' c' kp e =>
    ⟨.ref s.heap.objs.size,_,I.laid (t':=s.toks) kp (Nat.le_refl _) (show ObjOk X.prog X.w _ h' _ (.lst ys) from ⟨hz,its,c',r',e⟩),rfl,q _ (I.hok.fresh (Nat.le_refl _))⟩
  rcases hq with hq | hq
  · obtain ⟨its,r',pl,hz⟩:=I.list hq
    have hlen:=r'.length
    obtain ⟨o,ho,hc,n,hd⟩:=pl.isList
    exact call_list_seq p (.inl rfl) ho hc hd (fun h' c' kp e=>fin its r' hz h' c' kp e) (by simp only [List.size_toArray] <;> omega)
  · obtain ⟨its,r',pl,hz⟩:=I.tuple hq
    have hlen:=r'.length
    obtain ⟨o,ho,hc,n,hd⟩:=pl
    exact call_list_seq p (.inr rfl) ho hc hd (fun h' c' kp e=>fin its r' hz h' c' kp e) (by simp only [List.size_toArray] <;> omega)
noncomputable def tyV (K : PySem.W.Frag) (T : String) (x : V) (H : Hp) : Prop:=match x with
  | .str _=>T="str"
  | .int _=>T="int"
  | .ref p=>(T="list"∧∃ xs,SqL K H p xs)∨(T="tuple"∧∃ o,K.lookup p=some o∧o.cls = .type "tuple"∧o.dict=none) ∨
      (T="dict"∧((∃ kvs,H p=some (.dK kvs))∨∃ kvs,H p=some (.dT kvs)))∨(T="set"∧∃ S n,H p=some (.set S n))
  | _=>False
theorem tyV_is {pins : List (Addr × Obj)} {σ : St} {H : Hp} {s : Shared} {T : String} {x : V} {v : Value} (I : Inv X pins σ H s) (r : RelV x v) (ty : tyV X.K T x H) :
    s.TypeIs v T∧∀ a,v = .ref a→∃ ob,s.heap.get? a=some ob∧ob.dict=none:=by
  cases x with
  | str z =>
    obtain ⟨t,rfl⟩:=r
    cases (show T="str" from ty)
    exact ⟨typeIs_str s z t,fun _ e=>nomatch e⟩
  | int i =>
    obtain ⟨t,rfl⟩:=r
    cases (show T="int" from ty)
    exact ⟨typeIs_int s i t,fun _ e=>nomatch e⟩
  | ref p =>
    cases r
    rcases ty with ⟨rfl,xs,hq⟩ | ⟨rfl,o,hk,hc,hd⟩ | ⟨rfl,hk⟩ | ⟨rfl,S,n,hk⟩
    · obtain ⟨its,_,pl,_⟩:=I.list hq
      refine ⟨pl.isList.typeIs,fun a e=>?_⟩
      cases e
      obtain ⟨o,n,e,c,hd,_⟩:=pl
      exact ⟨o,e,hd⟩
    · refine ⟨⟨o,I.kIn p o hk,hc⟩,fun a e=>?_⟩
      cases e
      exact ⟨o,I.kIn _ o hk,hd⟩
    · have z : ∃ o,s.heap.get? p=some o∧o.ExactDict:=by
        rcases hk with ⟨kvs,hk⟩ | ⟨kvs,hk⟩
        · obtain ⟨_,_,_,_,o,_,_,e,ex,_⟩:=I.hok p _ hk
          exact ⟨o,e,ex⟩
        · obtain ⟨_,_,_,_,o,_,_,e,ex,_⟩:=I.hok p _ hk
          exact ⟨o,e,ex⟩
      obtain ⟨o,e,ex⟩:=z
      refine ⟨⟨o,e,ex.1⟩,fun a e2=>?_⟩
      cases e2
      exact ⟨o,e,ex.2.1⟩
    · obtain ⟨o,_,_,_,e,ex,_⟩:=I.hok p _ hk
      refine ⟨⟨o,e,ex.1⟩,fun a e2=>?_⟩
      cases e2
      exact ⟨o,e,ex.2.1⟩
  | _=>exact False.elim ty
noncomputable def tBM0 (K : PySem.W.Frag) (T : String) (r : V→List V→Hp→VK→Prop) (to : TE) : TE:=fun σ H Q=>to σ H fun x H1=>tyV K T x H1∧r x [] H1 Q
noncomputable def tBM (K : PySem.W.Frag) (T : String) (r : V→List V→Hp→VK→Prop) (to : TE) (t : TA) : TE:=fun σ H Q=>to σ H fun x H1=>tyV K T x H1∧t σ H1 fun xs H2=>r x xs H2 Q
variable {o e : Expr} {es : List Expr} {to : TE} {t : TA} {name : Str} {apos cpos : Pos} {T id : String} {r : V→List V→Hp→VK→Prop}
theorem pe_bm0 (pa : PlainAttrs T) (slot : Slot T name id) (hty : typeOf (.builtin id)=pure (.type "method_descriptor")) (hm : MtR X id r) (ho : PE X o to)
    (hbase : attributeBase o name X.env (eval o X.env)=eval o X.env:=by rfl) (hline : (apos.endLine == cpos.line)=true:=by rfl) : PE X (.Call (.Attribute o name apos) [] [] cpos) (tBM0 X.K T r to):=by
  intro pins s σ H Q I h
  refine wpAny_Call_method0_late hbase hline (thn (ho pins s σ H _ I h) fun v s1 ⟨x,H1,I1,r1,ty,q1⟩=>?_)
  obtain ⟨h1,h2⟩:=tyV_is I1 r1 ty
  exact ⟨T,id,pa,slot,hty,h1,h2,Calls.callWith_builtin rfl (PySem.evalArgs_none (hm pins s1 σ H1 x [] v [] Q I1 r1 .nil q1))⟩
theorem pe_bm (pa : PlainAttrs T) (slot : Slot T name id) (hty : typeOf (.builtin id)=pure (.type "method_descriptor")) (hm : MtR X id r) (ho : PE X o to) (ha : PA X (e :: es) t)
    (hbase : attributeBase o name X.env (eval o X.env)=eval o X.env:=by rfl)
    (hfew : ((backTo cpos (starEach (e :: es) X.env)).all (fun x=>!x.1) && (backToKw cpos (keywordEach [] X.env)).all (fun x=>x.1.isSome)
      && decide ((e :: es).length + ([] : List Keyword).length + (if ([] : List Keyword).isEmpty then 0 else 1) < 30))=true:=by rfl)
    (hline : (apos.endLine == cpos.line)=true:=by rfl) (hs : starEach (e :: es) X.env=(false,eval e X.env) :: starEach es X.env:=by rfl) (hplain : (backTo cpos (starEach es X.env)).any (·.1)=false:=by rfl) :
    PE X (.Call (.Attribute o name apos) (e :: es) [] cpos) (tBM X.K T r to t):=by
  intro pins s σ H Q I h
  refine wpAny_Call_method_late hbase hfew hline rfl (thn (ho pins s σ H _ I h) fun v s1 ⟨x,H1,I1,r1,ty,q1⟩=>?_)
  obtain ⟨h1,h2⟩:=tyV_is I1 r1 ty
  refine ⟨T,id,pa,slot,hty,h1,h2,?_⟩
  have hA:=ha cpos pins s1 σ H1 _ I1 q1
  rw [hs] at hA ⊢
  refine Calls.callWith_builtin (by show (false || (backTo cpos (starEach es X.env)).any (·.1))=false; rw [hplain] <;> rfl) (Calls.evalArgs_plain ?_)
  exact thn hA fun us s2 ⟨vs,H2,I2,r2,q2⟩=>hm pins s2 σ H2 x vs v us Q I2 r1 r2 q2
end
end L2
namespace L2
open PySem PySem.Spec PyProof.Rows
noncomputable def MtM (X : Cx) (id : String) (r : V→List V→Hp→VK→Prop) : Prop :=
  ∀ (pins : List (Addr × Obj)) (s : Shared) (σ : St) (H : Hp) (x : V) (xs : List V) (v : Value) (us : List Value) (Q : VK),Inv X pins σ H s→RelV x v→Vals xs us→r x xs H Q →
    wpAny (model X.prog X.w) X.A (call (.builtin id) (v :: us)) (EP X pins σ Q) X.xe s
theorem Vals.one : ∀ {x : V} {us : List Value},Vals [x] us→∃ u,us=[u]∧RelV x u
  | _,_,.cons r .nil=>⟨_,rfl,r⟩
theorem Vals.zero : ∀ {us : List Value},Vals [] us→us=[]
  | _,.nil=>rfl
theorem Vals.rep {xs : List V} {us : List Value} (h : Vals xs us) : ∀ k : Nat,Vals (List.replicate k xs).flatten (List.replicate k us).flatten
  | 0 => .nil
  | k + 1=>by
    rw [List.replicate_succ,List.replicate_succ,List.flatten_cons,List.flatten_cons]
    exact Vals.append h (Vals.rep h k)
theorem foldl_rep (its : List Value) : ∀ (k : Nat) (acc : List Value),
    List.foldl (fun x1 x2=>x1 ++ x2) acc.toArray (List.replicate k its.toArray)=(acc ++ (List.replicate k its).flatten).toArray
  | 0,acc=>by simp
  | k + 1,acc=>by
    have e : acc.toArray ++ its.toArray=(acc ++ its).toArray:=by simp
    have e2 : (acc ++ its) ++ (List.replicate k its).flatten=acc ++ (List.replicate (k + 1) its).flatten:=by
      rw [List.replicate_succ,List.flatten_cons,List.append_assoc]
    rw [← e2,← foldl_rep its k (acc ++ its),← e,List.replicate_succ,List.foldl_cons]
section
variable {X : Cx} {pins : List (Addr × Obj)} {σ : St} {H : Hp} {s : Shared} {l b : Addr} {xs ys zs : List V}
theorem Inv.lset {its its' : List Value} {n : Nat} {f : Array Value→Array Value} {t' : Nat} (I : Inv X pins σ H s) (hH : H l=some (.lst xs))
    (e : s.heap.get? l=some { cls := .type "list",data := .seq its.toArray n }) (hf : f its.toArray=its'.toArray) (hv : Vals ys its') (hz : ys.length≤sizeLine) :
    Inv X pins σ (upd H l (.lst ys)) { s with heap:=s.heap.update l (Obj.mapSeq f),toks:=t' }:=by
  have q:=PySem.IsL.update e f
  rw [hf] at q
  refine I.write (x:=l) (e:=l) (by rw [hH]; exact trivial) (.inl rfl) (fun b' u hb hu=>(Heap.get?_update_other s.heap (Obj.mapSeq f) (Ne.symm hb)).trans hu) ⟨_,q⟩ ?_
  exact ⟨hz,its',_,hv,q⟩
theorem Inv.lnew {its : List Value} {t' : Nat} (I : Inv X pins σ H s) (hv : Vals ys its) (hz : ys.length≤sizeLine) :
    Inv X pins σ (upd H s.heap.objs.size (.lst ys)) { s with heap:=s.heap.push { cls := .type "list",data := .seq its.toArray },toks:=t' } :=
  I.laid (fun _ _ q=>Heap.get?_push_of_some _ q) (Nat.le_refl _) ⟨hz,its,0,hv,Heap.get?_push_size _ rfl⟩
theorem Inv.fresh (I : Inv X pins σ H s) : H s.heap.objs.size=none:=I.hok.fresh (Nat.le_refl _)
theorem Inv.lstM (I : Inv X pins σ H s) (hH : H l=some (.lst xs)) : xs.length≤sizeLine∧∃ (its : List Value) (n : Nat),Vals xs its∧xs.length=its.length∧s.heap.get? l=some { cls := .type "list",data := .seq its.toArray n }:=by
  obtain ⟨z,its,n,r,e⟩:=I.hok l _ hH
  exact ⟨z,its,n,r,r.length,e⟩
theorem notLongL {n : Nat} (h : n≤sizeLine) : Builtin.List.listTooLong n=false:=by
  unfold Builtin.List.listTooLong
  exact decide_eq_false (by omega)
end
section
variable {X : Cx}
noncomputable def rAppend : V→List V→Hp→VK→Prop:=fun x vs H Q=>∃ l xs y,x = .ref l∧vs=[y]∧H l=some (.lst xs)∧xs.length < sizeLine∧Q .non (upd H l (.lst (xs ++ [y])))
theorem mt_append : MtM X "list.append" rAppend:=by
  intro pins s σ H x vs v us Q I rx rv h
  obtain ⟨l,xs,y,rfl,rfl,hH,hz,q⟩:=h
  cases rx
  obtain ⟨u,rfl,ru⟩:=rv.one
  obtain ⟨z,its,n,r,hl,e⟩:=I.lstM hH
  refine call_meets F.slot_list_append ⟨_,e,rfl⟩ F.entry_list_append (F.args_list_append_2 _ _) (PySem.list_append l its.toArray n u (by rw [List.size_toArray]; omega)) ⟨e,?_⟩
  refine ⟨.non,_,I.lset (its':=its ++ [u]) hH e (by simp) (r.append (.cons ru .nil)) ?_,rfl,q⟩
  rw [List.length_append,List.length_singleton]
  omega
noncomputable def rExtend : V→List V→Hp→VK→Prop:=fun x vs H Q=>∃ l b xs zs,x = .ref l∧vs=[.ref b]∧H l=some (.lst xs)∧H b=some (.lst zs)∧xs.length + zs.length≤sizeLine∧Q .non (upd H l (.lst (xs ++ zs)))
theorem mt_extend : MtM X "list.extend" rExtend:=by
  intro pins s σ H x vs v us Q I rx rv h
  obtain ⟨l,b,xs,zs,rfl,rfl,hH,hB,hz,q⟩:=h
  cases rx
  obtain ⟨u,rfl,ru⟩:=rv.one
  cases ru
  obtain ⟨z,its,n,r,hl,e⟩:=I.lstM hH
  obtain ⟨z2,its2,n2,r2,hl2,e2⟩:=I.lstM hB
  have hsz : its.toArray.size + its2.toArray.size≤sizeLine:=by rw [List.size_toArray,List.size_toArray]; omega
  have hlong : ¬ (!its.toArray.isEmpty && Builtin.List.listTooLong (its.toArray.size + its2.toArray.size))=true:=by
    rw [notLongL hsz,Bool.and_false]
    exact Bool.false_ne_true
  refine call_meets F.slot_list_extend ⟨_,e,rfl⟩ F.entry_list_extend (F.args_list_extend_2 _ _)
    (AutoSeq1.list_extend_list_list_0 l its.toArray n b its2.toArray n2 hlong (by rw [List.size_toArray]; omega) (by omega)) ⟨e,e2,?_⟩
  refine ⟨.non,_,I.lset (its':=its ++ its2) hH e (by simp) (r.append r2) ?_,rfl,q⟩
  rw [List.length_append]
  omega
noncomputable def rClear : V→List V→Hp→VK→Prop:=fun x vs H Q=>∃ l xs,x = .ref l∧vs=[]∧H l=some (.lst xs)∧Q .non (upd H l (.lst []))
theorem mt_clear : MtM X "list.clear" rClear:=by
  intro pins s σ H x vs v us Q I rx rv h
  obtain ⟨l,xs,rfl,rfl,hH,q⟩:=h
  cases rx
  have hus:=rv.zero
  subst hus
  obtain ⟨z,its,n,r,hl,e⟩:=I.lstM hH
  refine call_meets F.slot_list_clear ⟨_,e,rfl⟩ F.entry_list_clear (F.args_list_clear_1 _) (AutoSeq1.list_clear_list_0 l its.toArray n (by rw [List.size_toArray]; omega)) ⟨e,?_⟩
  exact ⟨.non,_,I.lset (its':=[]) (ys:=[]) hH e rfl .nil (Nat.zero_le _),rfl,q⟩
noncomputable def rRep : R2:=fun x y H Q=>∃ l k xs,x = .ref l∧y = .int k∧H l=some (.lst xs) ∧ -(2 ^ 63)≤k∧k < 2 ^ 63∧xs.length * k.toNat≤sizeLine ∧
  ∀ p,H p=none→Q (.ref p) (upd H p (.lst (List.replicate k.toNat xs).flatten))
theorem len_rep {α : Type} (xs : List α) (k : Nat) : (List.replicate k xs).flatten.length=k * xs.length:=by
  induction k with
  | zero=>simp
  | succ k ih=>rw [List.replicate_succ,List.flatten_cons,List.length_append,ih,Nat.succ_mul,Nat.add_comm]
theorem op_rep : OpR X (binaryOp .Mult) rRep:=by
  intro pins s σ H x y v u Q I rx ry h
  obtain ⟨l,k,xs,rfl,rfl,hH,h1,h2,hz,q⟩:=h
  cases rx
  obtain ⟨t,rfl⟩:=ry
  obtain ⟨z,its,n,r,hl,e⟩:=I.lstM hH
  have hlen : its.toArray.size * k.toNat≤sizeLine:=by rw [List.size_toArray,← hl]; exact hz
  have hcap : ¬ its.toArray.size * k.toNat > (2 ^ 63 - 1) / 8:=by
    have : (sizeLine : Nat)≤(2 ^ 63 - 1) / 8:=by decide
    omega
  have hfit : ¬ (!Builtin.List.listFitsIndex k)=true:=by
    rw [fitsIndex_both h1 h2]
    exact Bool.false_ne_true
  have hlong : ¬ Builtin.List.listTooLong (its.toArray.size * k.toNat)=true:=by
    rw [notLongL hlen]
    exact Bool.false_ne_true
  have hnew : List.foldl (fun x1 x2=>x1 ++ x2) #[] (List.replicate (if its.toArray.isEmpty=true then 0 else k.toNat) its.toArray)=(List.replicate k.toNat its).flatten.toArray:=by
    have f0 : ∀ m : Nat,List.foldl (fun x1 x2=>x1 ++ x2) #[] (List.replicate m its.toArray)=(List.replicate m its).flatten.toArray:=fun m=>by
      have:=foldl_rep its m []
      rw [List.nil_append] at this
      exact this
    rw [f0]
    cases its with
    | nil=>simp
    | cons a r'=>rw [if_neg (by simp)]
  refine wpAny_binaryOp_repeat_ref (T:="list") (U:="int") (by decide) ⟨_,e,rfl⟩ (fun s'=>typeIs_int s' k t) noFill_list_mul F.fills_int_mul F.slot_int_rmul repeat_list F.slot_int_index.lookup
    (call_meets F.slot_int_rmul (typeIs_int s k t) F.entry_int_rmul (F.args_int_rmul_2 _ _) (int___rmul___int_list k t l its.toArray n)
      ⟨e,rfl,⟨_,e,rfl⟩,call_meets F.slot_list_mul ⟨_,e,rfl⟩ F.entry_list_mul (F.args_list_mul_2 _ _) (AutoListH.list___mul___list_int_3 l its.toArray n k t hfit hcap hlong) ⟨e,?_⟩⟩)
  rw [hnew]
  exact ⟨.ref _,_,I.lnew (t':=s.toks) (r.rep k.toNat) (by rw [len_rep,Nat.mul_comm]; exact hz),rfl,q _ I.fresh⟩
end
section
variable {prog : Program} {w : World} {A : Around} {E : Value→Shared→Prop} {s : Shared}
end
section
variable {X : Cx}
end
end L2
namespace L2
open PySem PySem.Spec PyProof.Rows
section
variable {κ : Type} [DecidableEq κ]
noncomputable def valV (kvs : List (κ × V)) (k : κ) : Option V:=(kvs.find? fun kv=>decide (kv.1=k)).map (·.2)
noncomputable def putK (kvs : List (κ × V)) (k : κ) (v : V) : List (κ × V) :=
  if (kvs.any fun kv=>decide (kv.1=k))=true then kvs.map (fun kv=>if kv.1=k then (kv.1,v) else kv) else kvs ++ [(k,v)]
theorem valV_pos {p : κ × V} {r : List (κ × V)} {k : κ} (e : p.1=k) : valV (p :: r) k=some p.2:=by simp [valV,List.find?_cons,e]
theorem valV_neg {p : κ × V} {r : List (κ × V)} {k : κ} (e : ¬ p.1=k) : valV (p :: r) k=valV r k:=by simp [valV,List.find?_cons,e]
theorem valV_any (k : κ) : ∀ kvs : List (κ × V),(kvs.any fun kv=>decide (kv.1=k))=(valV kvs k).isSome
  | []=>rfl
  | p :: r=>by
    rw [List.any_cons]
    by_cases e : p.1=k
    · simp only [valV_pos e,decide_eq_true e,Bool.true_or,Option.isSome_some]
    · rw [valV_neg e,decide_eq_false e,Bool.false_or]; exact valV_any k r
theorem length_putK (kvs : List (κ × V)) (k : κ) (v : V) : (putK kvs k v).length≤kvs.length + 1:=by
  unfold putK
  split
  · rw [List.length_map]; omega
  · rw [List.length_append,List.length_cons,List.length_nil]; omega
theorem RelO.isSome_eq {o : Option V} {u : Option Value} (r : RelO o u) : o.isSome=u.isSome:=by
  cases o with
  | none=>cases u with
    | none=>rfl
    | some _=>exact (show False from r).elim
  | some _=>cases u with
    | none=>exact (show False from r).elim
    | some _=>rfl
theorem RelO.getD {o : Option V} {u : Option Value} {d : V} {d' : Value} (r : RelO o u) (rd : RelV d d') : RelV (o.getD d) (u.getD d'):=by
  cases o with
  | none=>cases u with
    | none=>exact rd
    | some _=>exact (show False from r).elim
  | some _=>cases u with
    | none=>exact (show False from r).elim
    | some _=>exact r
theorem KV.val {kvs : List (κ × V)} {vs : List (κ × Value)} (r : KV kvs vs) (k : κ) : RelO (valV kvs k) (valueAt vs k):=by
  unfold KV at r
  induction r with
  | nil=>exact True.intro
  | @cons p q ps qs h t ih =>
    obtain ⟨h1,h2⟩:=h
    by_cases e : p.1=k
    · have e' : q.1=k:=h1.symm.trans e
      have b : valueAt (q :: qs) k=some q.2:=by simp [valueAt,List.find?_cons,e']
      rw [valV_pos e,b]; exact h2
    · have e' : ¬ q.1=k:=fun z=>e (h1.trans z)
      have b : valueAt (q :: qs) k=valueAt qs k:=by simp [valueAt,List.find?_cons,e']
      rw [valV_neg e,b]; exact ih
theorem KV.any {kvs : List (κ × V)} {vs : List (κ × Value)} (r : KV kvs vs) (k : κ) : (kvs.any fun kv=>decide (kv.1=k))=vs.any fun kv=>decide (kv.1=k):=by
  unfold KV at r
  induction r with
  | nil=>rfl
  | cons h t ih=>rw [List.any_cons,List.any_cons,ih,h.1]
theorem KV.repl {kvs : List (κ × V)} {vs : List (κ × Value)} (r : KV kvs vs) (k : κ) {y : V} {u : Value} (ry : RelV y u) :
    KV (kvs.map fun kv=>if kv.1=k then (kv.1,y) else kv) (vs.map fun kv=>if kv.1=k then (kv.1,u) else kv):=by
  unfold KV at r ⊢
  induction r with
  | nil=>exact .nil
  | @cons p q ps qs h t ih =>
    rw [List.map_cons,List.map_cons]
    refine .cons ?_ ih
    obtain ⟨h1,h2⟩:=h
    by_cases e : p.1=k
    · rw [if_pos e,if_pos (h1.symm.trans e)]; exact ⟨h1,ry⟩
    · rw [if_neg e,if_neg (fun z=>e (h1.trans z))]; exact ⟨h1,h2⟩
theorem KV.put {kvs : List (κ × V)} {vs : List (κ × Value)} (r : KV kvs vs) (k : κ) {y : V} {u : Value} (ry : RelV y u) : KV (putK kvs k y) (stored vs k u):=by
  unfold putK stored
  rw [r.any k]
  by_cases e : (vs.any fun kv=>decide (kv.1=k))=true
  · rw [if_pos e,if_pos e]; exact r.repl k ry
  · rw [if_neg e,if_neg e]; exact Paired.snoc r ⟨rfl,ry⟩
theorem KV.length {kvs : List (κ × V)} {vs : List (κ × Value)} (r : KV kvs vs) : kvs.length=vs.length:=Paired.length r
end
theorem kV_is {P : Program} {w : World} {k : Key} {u : Value} (r : RelV (kV k) u) : (mixKind P w).is k u=true:=by
  cases k with
  | inl i=>obtain ⟨t,e⟩:=(show ∃ t,u=Value.int i t from r); subst e; exact mixKind_int P w i t
  | inr x=>obtain ⟨t,e⟩:=(show ∃ t,u=Value.str x t from r); subst e; exact mixKind_str P w x t
theorem items_are {P : Program} {w : World} : ∀ {ks : List Key} {us : List Value},Vals (ks.map kV) us→ItemsAre (mixKind P w) ks us
  | [],_,r=>by rw [List.map_nil] at r; cases r; exact .nil
  | k :: ks,_,r=>by
    rw [List.map_cons] at r
    cases r with
    | cons h t=>exact .cons (kV_is h) (items_are t)
noncomputable abbrev KT (H : Hp) : List (List Key × V)→List (List Key × Addr × Value)→Prop:=Paired fun p q=>p.1=q.1∧H q.2.1=some (.tup (p.1.map kV))∧RelV p.2 q.2.2
theorem KT.val {H : Hp} {kvs : List (List Key × V)} {xs : List (List Key × Addr × Value)} (r : KT H kvs xs) (k : List Key) : RelO (valV kvs k) ((atKey xs k).map (·.2)):=by
  induction r with
  | nil=>exact True.intro
  | @cons p q ps qs h t ih =>
    obtain ⟨h1,_,h2⟩:=h
    by_cases e : p.1=k
    · have e' : q.1=k:=h1.symm.trans e
      have b : atKey (q :: qs) k=some q.2:=by simp [atKey,List.find?_cons,e']
      rw [valV_pos e,b]; exact h2
    · have e' : ¬ q.1=k:=fun z=>e (h1.trans z)
      have b : atKey (q :: qs) k=atKey qs k:=by simp [atKey,List.find?_cons,e']
      rw [valV_neg e,b]; exact ih
theorem KT.repl {H : Hp} {kvs : List (List Key × V)} {xs : List (List Key × Addr × Value)} (r : KT H kvs xs) (k : List Key) {y : V} {u : Value} (ry : RelV y u) :
    KT H (kvs.map fun kv=>if kv.1=k then (kv.1,y) else kv) (xs.map (putAt k u)):=by
  induction r with
  | nil=>exact .nil
  | @cons p q ps qs h t ih =>
    rw [List.map_cons,List.map_cons]
    refine .cons ?_ ih
    obtain ⟨h1,h2,h3⟩:=h
    unfold putAt
    by_cases e : p.1=k
    · rw [if_pos e,if_pos (h1.symm.trans e)]; exact ⟨h1,h2,ry⟩
    · rw [if_neg e,if_neg (fun z=>e (h1.trans z))]; exact ⟨h1,h2,h3⟩
theorem KT.put {H : Hp} {kvs : List (List Key × V)} {xs : List (List Key × Addr × Value)} (r : KT H kvs xs) (k : List Key) {b : Addr} {y : V} {u : Value} (hb : H b=some (.tup (k.map kV))) (ry : RelV y u) :
    KT H (putK kvs k y) (storedH xs k b u):=by
  have e : (kvs.any fun kv=>decide (kv.1=k))=(atKey xs k).isSome:=by
    rw [valV_any,(r.val k).isSome_eq,Option.isSome_map]
  unfold putK storedH
  rw [e]
  by_cases q : (atKey xs k).isSome=true
  · rw [if_pos q,if_pos q]; exact r.repl k ry
  · rw [if_neg q,if_neg q]; exact Paired.snoc r ⟨rfl,hb,ry⟩
theorem KT.keeps {H H' : Hp} {kvs : List (List Key × V)} {xs : List (List Key × Addr × Value)} (r : KT H kvs xs) (ht : ∀ b ys,H b=some (.tup ys)→H' b=some (.tup ys)) : KT H' kvs xs :=
  Paired.mapP r fun _ _ z=>⟨z.1,ht _ _ z.2.1,z.2.2⟩
section
variable {P : Program} {w : World} {H : Hp} {h : Heap} {a : Addr}
theorem rd_of {u : HO} (ok : HOk P w H h) (e : Rd H a u) : ObjOk P w H h a u:=e.ok ok
theorem dk_rd {kvs : List (Key × V)} (ok : HOk P w H h) (e : Rd H a (.dK kvs)) : kvs.length≤sizeLine∧(a == sysModules)=false∧∃ vs,KV kvs vs∧h.DictOf (mixKind P w) a vs :=
  show ObjOk P w H h a (.dK kvs) from rd_of ok e
theorem dk_of {kvs : List (Key × V)} (ok : HOk P w H h) (e : H a=some (.dK kvs)) : kvs.length≤sizeLine∧(a == sysModules)=false∧∃ vs,KV kvs vs∧h.DictOf (mixKind P w) a vs:=dk_rd ok (.inl e)
theorem key_of {ks : List Key} (ok : HOk P w H h) (e : H a=some (.tup (ks.map kV))) : (tupleKind (mixKind P w)).is h ks a:=by
  obtain ⟨_,its,r,o,h1,h2,n,h3⟩:=(show ObjOk P w H h a (.tup (ks.map kV)) from ok a _ e)
  exact ⟨o,its.toArray,n,h1,h2,h3,by simpa using items_are r⟩
theorem dt_rd {kvs : List (List Key × V)} (ok : HOk P w H h) (e : Rd H a (.dT kvs)) : kvs.length≤sizeLine∧(a == sysModules)=false ∧
    ∃ xs,KT H kvs xs∧h.DictOfH (tupleKind (mixKind P w)) a xs:=by
  obtain ⟨z,y,xs,r,o,es,ep,h1,h2,h3,h4,h5⟩:=(show ObjOk P w H h a (.dT kvs) from rd_of ok e)
  refine ⟨z,y,xs,r,o,es,ep,h1,h2,h3,h4,fun x hx=>?_,h5⟩
  have all : ∀ {l : List (List Key × V)} {m : List (List Key × Addr × Value)},KT H l m→∀ x∈m,(tupleKind (mixKind P w)).is h x.1 x.2.1:=by
    intro l m q
    induction q with
    | nil=>intro x hx; exact nomatch hx
    | @cons p q ps qs hq t ih =>
      intro x hx
      rcases List.mem_cons.mp hx with e | hx
      · subst e
        exact key_of ok (by rw [← hq.1]; exact hq.2.1)
      · exact ih x hx
  exact all r x hx
theorem dt_of {kvs : List (List Key × V)} (ok : HOk P w H h) (e : H a=some (.dT kvs)) : kvs.length≤sizeLine∧(a == sysModules)=false ∧
    ∃ xs,KT H kvs xs∧h.DictOfH (tupleKind (mixKind P w)) a xs:=dt_rd ok (.inl e)
end
noncomputable def DGet (H : Hp) (a : Addr) (y : V) (r : Option V) : Prop :=
  (∃ kvs k,Rd H a (.dK kvs)∧y=kV k∧r=valV kvs k)∨∃ kvs k b,Rd H a (.dT kvs)∧y = .ref b∧H b=some (.tup (k.map kV))∧r=valV kvs k
noncomputable def DPut (H : Hp) (a : Addr) (y v : V) (H' : Hp) : Prop :=
  (∃ kvs k,H a=some (.dK kvs)∧y=kV k∧kvs.length < sizeLine∧H'=upd H a (.dK (putK kvs k v))) ∨
  ∃ kvs k b,H a=some (.dT kvs)∧y = .ref b∧H b=some (.tup (k.map kV))∧kvs.length < sizeLine∧H'=upd H a (.dT (putK kvs k v))
theorem DGet.k {H : Hp} {a : Addr} {kvs : List (Key × V)} {k : Key} (e : H a=some (.dK kvs)) : DGet H a (kV k) (valV kvs k) := .inl ⟨kvs,k,.inl e,rfl,rfl⟩
theorem DPut.k {H : Hp} {a : Addr} {kvs : List (Key × V)} {k : Key} {v : V} (e : H a=some (.dK kvs)) (hl : kvs.length < sizeLine) : DPut H a (kV k) v (upd H a (.dK (putK kvs k v))) := .inl ⟨kvs,k,e,rfl,hl,rfl⟩
section
variable {X : Cx} {pins : List (Addr × Obj)} {σ : St} {H : Hp} {s : Shared} {a : Addr} {y v : V} {u r : Value} {o : Option V} {A : Around} {E : Value→Shared→Prop}
theorem Inv.big (I : Inv X pins σ H s) : sysModules < s.heap.objs.size:=by
  have h : mainGlobals < s.heap.objs.size:=(I.mod.glob.keeps I.bk).lt
  exact Nat.lt_trans (by decide) h
theorem d_getItem {Q : Value→Shared→Prop} (hu : A.units + 1 < cLine) (I : Inv X pins σ H s) (g : DGet H a y (some v)) (ry : RelV y u) (h : ∀ w' s',Inv X pins σ H s'→RelV v w'→Q w' s') :
    wpAny (model X.prog X.w) A (getItem (.ref a) u) Q E s:=by
  rcases g with ⟨kvs,k,e,ey,l⟩ | ⟨kvs,k,b,e,ey,eb,l⟩
  · subst ey
    obtain ⟨z,hd,vs,rel,dd⟩:=dk_rd I.hok e
    obtain ⟨w',hw,rw'⟩:=RelO.some_of (v:=v) (o:=valueAt vs k) (by rw [l]; exact rel.val k)
    exact wpAny_getItem_of (kV_is ry) dd.mapOf hw (h w' _ (I.tok _) rw')
  · subst ey
    cases (show u=Value.ref b from ry)
    obtain ⟨z,hd,xs,rel,dd⟩:=dt_rd I.hok e
    obtain ⟨w',hw,rw'⟩:=RelO.some_of (v:=v) (o:=(atKey xs k).map (·.2)) (by rw [l]; exact rel.val k)
    obtain ⟨p,hp,hp2⟩:=Option.map_eq_some_iff.mp hw
    refine wpAny_getItem_heap (tupleKind_room_in1 hu) (key_of I.hok eb) dd hp ?_
    rw [hp2]
    exact h w' _ (I.tok _) rw'
theorem d_notIn {Q : Value→Shared→Prop} (hu : A.units + 1 < cLine) (I : Inv X pins σ H s) (g : DGet H a y o) (ry : RelV y u) (h : ∀ s',Inv X pins σ H s'→Q (.bool (!o.isSome)) s') :
    wpAny (model X.prog X.w) A (compareOp .NotIn u (.ref a)) Q E s:=by
  rcases g with ⟨kvs,k,e,ey,l⟩ | ⟨kvs,k,b,e,ey,eb,l⟩
  · subst ey
    obtain ⟨z,hd,vs,rel,dd⟩:=dk_rd I.hok e
    refine wpAny_notIn_of (kV_is ry) hd dd.mapOf ?_
    rw [← (rel.val k).isSome_eq,← l]
    exact h _ (I.tok _)
  · subst ey
    cases (show u=Value.ref b from ry)
    obtain ⟨z,hd,xs,rel,dd⟩:=dt_rd I.hok e
    refine wpAny_notIn_heap (tupleKind_room_in1 hu) (key_of I.hok eb) hd dd ?_
    have q:=(rel.val k).isSome_eq
    rw [Option.isSome_map] at q
    rw [← q,← l]
    exact h _ (I.tok _)
theorem d_write {h' : Heap} {t' : Nat} {ob : HO} (I : Inv X pins σ H s) (mu : Mut (H a)) (hs : Heap.SameBut a s.heap h') (he : ∃ q,h'.get? a=some q) (new : ObjOk X.prog X.w (upd H a ob) h' a ob) :
    Inv X pins σ (upd H a ob) { s with heap:=h',toks:=t' } :=
  I.write (x:=a) (e:=a) mu (.inl rfl) (fun b q hb z=>(hs.2 b hb).trans z) he new
theorem dk_new {P : Program} {w : World} {H' : Hp} {h' : Heap} {kvs : List (Key × V)} {vs : List (Key × Value)} (z : kvs.length≤sizeLine) (hd : (a == sysModules)=false) (rel : KV kvs vs) (dd : h'.DictOf (mixKind P w) a vs) :
    ObjOk P w H' h' a (.dK kvs):=⟨z,hd,vs,rel,dd⟩
theorem d_setItem {H' : Hp} {Q : Unit→Shared→Prop} (hu : A.units + 1 < cLine) (I : Inv X pins σ H s) (g : DPut H a y v H') (ry : RelV y u) (rv : RelV v r) (h : ∀ s',Inv X pins σ H' s'→Q () s') :
    wpAny (model X.prog X.w) A (setItem (.ref a) u r) Q E s:=by
  rcases g with ⟨kvs,k,e,ey,l,eH⟩ | ⟨kvs,k,b,e,ey,eb,l,eH⟩
  · subst ey eH
    obtain ⟨z,hd,vs,rel,dd⟩:=dk_of I.hok e
    have hz : vs.length≤sizeLine:=by rw [← rel.length]; exact z
    have hl : (putK kvs k v).length≤sizeLine:=by have:=length_putK kvs k v; omega
    refine wpAny_setItem_pairs (hsz:=hz) (kV_is ry) dd fun h' dd' hs=>h _ ?_
    have he : ∃ q,h'.get? a=some q:=let ⟨q,_,_,hq,_⟩:=dd'; ⟨q,hq⟩
    exact d_write I (by rw [e]; exact True.intro) hs he (dk_new hl hd (rel.put k rv) dd')
  · subst ey eH
    cases (show u=Value.ref b from ry)
    obtain ⟨z,hd,xs,rel,dd⟩:=dt_of I.hok e
    have hz : xs.length≤sizeLine:=by rw [← Paired.length rel]; exact z
    have hl : (putK kvs k v).length≤sizeLine:=by have:=length_putK kvs k v; omega
    refine wpAny_setItem_heap (hsz:=hz) (tupleKind_room_in1 hu) (key_of I.hok eb) dd fun h' dd' hs=>h _ ?_
    obtain ⟨q,es,ep,hq,h2,h3,h4,_,h5⟩:=dd'
    refine d_write I (by rw [e]; exact True.intro) hs ⟨q,hq⟩ ⟨hl,hd,_,(rel.put k eb rv).keeps fun c ys ec=>?_,q,es,ep,hq,h2,h3,h4,h5⟩
    rw [upd_ne (ne_of ec e (fun z=>nomatch z))]
    exact ec
end
section
variable {X : Cx} {pins : List (Addr × Obj)} {σ : St} {H : Hp} {s : Shared} {a : Addr} {kvs : List (Key × V)} {k : Key} {u : Value} {A : Around} {E : Value→Shared→Prop}
end
noncomputable def NoSl (i : Expr) : Prop:=∀ ov iv,subscripted i false ov iv=operate [ov,iv] (getItem ov iv)
theorem subD_of {prog : Program} {w : World} {A : Around} {E : Value→Shared→Prop} {s : Shared} {env : Env} {value slice : Expr} {pos : Pos} {T id : String} {Q : Value→Shared→Prop}
    (hl : typeLookup (.type T) "__getitem__"=pure (some (.builtin id))) (hs : NoSl slice)
    (h : wpAny (model prog w) A (eval value env) (fun o s₁=>wpAny (model prog w) A (eval slice env) (fun i s₂=>s₂.TypeIs o T∧wpAny (model prog w) A (getItem o i) Q E s₂) E s₁) E s) :
    wpAny (model prog w) A (eval (.Subscript value slice pos) env) Q E s:=by
  refine Subscript_ (wpAny_mono h (fun o s₁ h₁=>wpAny_mono h₁ (fun i s₂ h₂=>?_) fun _ _ x=>x) fun _ _ x=>x)
  obtain ⟨hT,h₂⟩:=h₂
  unfold subscriptTail
  refine wpAny_bind ?_
  rw [getitemInPython_of_ne hT.not_modules]
  refine wpAny_bind (wpAny_specialOf hT hl ?_)
  have fin : wpAny (model prog w) A (subscripted slice false o i) (fun r s₃=>wpAny (model prog w) A (letTemporaryGo value o r >>= fun _=>pure r) Q E s₃) E s₂:=by
    rw [hs o i]
    exact wpAny_operating (wpAny_mono h₂ (fun r s₃ h₃=>wpAny_bind (wpAny_letTemporaryGo (wpAny_pure h₃))) fun _ _ x=>x)
  first
    | exact wpAny_pure (wpAny_bind fin)
    | exact wpAny_bind (wpAny_pure (wpAny_bind fin))
    | exact wpAny_bind fin
theorem dict_typeIs {X : Cx} {pins : List (Addr × Obj)} {σ : St} {H : Hp} {s : Shared} {a : Addr} {y : V} {o : Option V} (I : Inv X pins σ H s) (g : DGet H a y o) : s.TypeIs (.ref a) "dict":=by
  rcases g with ⟨kvs,k,e,_,_⟩ | ⟨kvs,k,b,e,_,_,_⟩
  · obtain ⟨_,_,vs,_,dd⟩:=dk_rd I.hok e
    exact dd.typeIs
  · obtain ⟨_,_,xs,_,dd⟩:=dt_rd I.hok e
    exact dd.typeIs
noncomputable def tDGet (td ty : TE) : TE:=fun σ H Q=>td σ H fun x H1=>ty σ H1 fun y H2=>∃ a v,x = .ref a∧DGet H2 a y (some v)∧Q v H2
noncomputable def tDNotIn (ty td : TE) : TE:=fun σ H Q=>ty σ H fun y H1=>td σ H1 fun x H2=>∃ a o,x = .ref a∧DGet H2 a y o∧Q (.bl (!o.isSome)) H2
noncomputable def sDPut (td ty tv : TE) : TS:=fun D σ H=>tv σ H fun v H1=>td σ H1 fun x H2=>ty σ H2 fun y H3=>∃ a H4,x = .ref a∧DPut H3 a y v H4∧D.nx σ H4
section
variable {X : Cx} {o i e value : Expr} {pos pos' tpos : Pos} {td ty tv : TE}
theorem pe_dget (hu : X.A.units + 1 < cLine) (ho : PE X o td) (hi : PE X i ty) (hs : NoSl i) : PE X (.Subscript o i pos) (tDGet td ty):=by
  intro pins s σ H Q I h
  refine subD_of PySem.F.slot_dict_getitem.lookup hs (thn (ho pins s σ H _ I h) fun u s1 ⟨x,H1,I1,rx,q1⟩=>thn (hi pins s1 σ H1 _ I1 q1) fun iv s2 ⟨y,H2,I2,ry,a,v,ex,g,q2⟩=>?_)
  subst ex
  obtain rfl : u=Value.ref a:=rx
  exact ⟨dict_typeIs I2 g,d_getItem hu I2 g ry fun w' s3 I3 rw'=>⟨v,H2,I3,rw',q2⟩⟩
theorem pc_dnotin (hu : X.A.units + 1 < cLine) (hi : PE X i ty) (ho : PE X o td) : PC X .NotIn i o (tDNotIn ty td):=by
  intro pins s σ H Q I h
  refine thn (hi pins s σ H _ I h) fun iv s1 ⟨y,H1,I1,ry,q1⟩=>thn (ho pins s1 σ H1 _ I1 q1) fun u s2 ⟨x,H2,I2,rx,a,ov,ex,g,q2⟩=>?_
  subst ex
  obtain rfl : u=Value.ref a:=rx
  exact d_notIn hu I2 g ry fun s3 I3=>⟨.bl (!ov.isSome),H2,I3,rfl,q2⟩
theorem ps_dput (hu : X.A.units + 1 < cLine) (ho : PE X o td) (hi : PE X i ty) (hv : PE X value tv) (hs : swapsWith value (some (.Subscript o i pos')) pos.line X.env=pure false) :
    PS X (.Assign [.Subscript o i pos'] value pos) (sDPut td ty tv):=by
  intro pins s σ H D I h
  refine wpAny_Assign_Subscript (thn (hv pins s σ H _ I h) fun r s1 ⟨v,H1,I1,rv,q1⟩=>thn (ho pins s1 σ H1 _ I1 q1) fun u s2 ⟨x,H2,I2,rx,q2⟩=>thn (hi pins s2 σ H2 _ I2 q2) fun iv s3 ⟨y,H3,I3,ry,a,H4,ex,g,q3⟩=>?_) hs
  subst ex
  obtain rfl : u=Value.ref a:=rx
  exact d_setItem hu I3 g ry rv fun s4 I4=>⟨σ,H4,I4,q3⟩
end
theorem dk_empty {P : Program} {w : World} {H : Hp} (h : Heap) (hb : sysModules < h.objs.size) : ObjOk P w H (h.push { cls := .type "dict",data := .dict #[] }) h.objs.size (.dK []) :=
  ⟨Nat.zero_le _,beq_eq_false_iff_ne.mpr (Ne.symm (Nat.ne_of_lt hb)),[],.nil,Heap.DictOf.new h⟩
noncomputable def tDNewK : TE:=fun _ H Q=>∀ p,H p=none→Q (.ref p) (upd H p (.dK []))
section
variable {X : Cx} {pos : Pos}
theorem pe_dnewK : PE X (.Dict [] [] pos) tDNewK:=fun pins s σ H Q I h =>
  wpAny_Dict_empty ⟨.ref s.heap.objs.size,_,I.laid (a:=s.heap.objs.size) (o := .dK []) (t':=s.toks) (fun _ _ q=>Heap.get?_push_of_some _ q) (Nat.le_refl _) (dk_empty s.heap I.big),rfl,h _ (I.hok.fresh (Nat.le_refl _))⟩
end
structure M1 (X : Cx) (o : Expr) (m : Str) (apos : Pos) (e : Expr) (cpos : Pos) : Prop where
  base : attributeBase o m X.env (eval o X.env)=eval o X.env
  few : ((backTo cpos (starEach [e] X.env)).all (fun x=>!x.1) && (backToKw cpos (keywordEach [] X.env)).all (fun x=>x.1.isSome)
    && decide (([e] : List Expr).length + ([] : List Keyword).length + (if ([] : List Keyword).isEmpty then 0 else 1) < 30))=true
  line : (apos.endLine == cpos.line)=true
  trees : backTo cpos (starEach [e] X.env)=[(false,eval e X.env)]
structure M2 (X : Cx) (o : Expr) (m : Str) (apos : Pos) (e f : Expr) (cpos : Pos) : Prop where
  base : attributeBase o m X.env (eval o X.env)=eval o X.env
  few : ((backTo cpos (starEach [e,f] X.env)).all (fun x=>!x.1) && (backToKw cpos (keywordEach [] X.env)).all (fun x=>x.1.isSome)
    && decide (([e,f] : List Expr).length + ([] : List Keyword).length + (if ([] : List Keyword).isEmpty then 0 else 1) < 30))=true
  line : (apos.endLine == cpos.line)=true
  trees : backTo cpos (starEach [e,f] X.env)=[(false,eval e X.env),(false,eval f X.env)]
section
variable {X : Cx} {pins : List (Addr × Obj)} {σ : St} {H : Hp} {s : Shared} {a : Addr} {y d : V} {u r : Value} {o : Option V} {A : Around} {E : Value→Shared→Prop}
end
section
variable {X : Cx} {o e f : Expr} {apos cpos : Pos} {td ty tx : TE}
end
section
variable {X : Cx} {pins : List (Addr × Obj)} {σ : St} {H : Hp} {s : Shared} {a : Addr} {kvs : List (Key × V)} {A : Around} {E : Value→Shared→Prop}
end
section
variable {X : Cx} {pins : List (Addr × Obj)} {σ : St} {H : Hp} {s : Shared} {a : Addr} {y : V} {u : Value} {A : Around} {E : Value→Shared→Prop}
end
end L2
namespace Att
open PySem PySem.W PySem.Calls PyProof.Rows
theorem ints_of_wellAll {P : Params} {h : Heap} : ∀ (ns : List Int) (vs : List Value),WellAll P h vs (ns.map WData.int)→IntsAre vs ns:=by
  intro ns
  induction ns with
  | nil =>
    intro vs w
    rw [List.map_nil] at w
    cases w
    exact .nil
  | cons n ns ih =>
    intro vs w
    rw [List.map_cons] at w
    cases w with
    | cons a b =>
      cases a
      exact .cons _ _ (ih _ b)
theorem script_of {l : OpenLaw} {n : Nat} (hn : l.most=some n) {P : Params} {h : Heap} {args : List WData} {vals : List Value}
    (hpre : l.row.toRowW.claim.pre args=true) (hwl : WellAll P h vals args) :
    ∃ a vs ns,vals=[Value.ref a]∧args=[WData.list (ns.map WData.int)]∧h.get? a=some { cls := .type "list",data := .seq vs.toArray }∧IntsAre vs ns∧ns.length≤n:=by
  have hsh : WShape.hasAll [] args [.list .int]=true:=(pre_splitW hpre).1
  have hc : l.pre.holds [] { args:=args }=true:=(pre_splitW hpre).2
  obtain ⟨d,r,rfl,h1,h2⟩:=hasAllW_cons hsh
  obtain rfl:=hasAllW_nil h2
  obtain ⟨xs,rfl,h3⟩:=hasW_list h1
  obtain ⟨ns,rfl⟩:=items_int h3
  have hlen : ns.length≤n:=by
    unfold OpenLaw.pre at hc
    have h4 : (WTm.not (.lt (.lit (.int (n : Int))) (.len (.arg 0)))).holds [] { args:=[.list (ns.map .int)] }=true:=by
      have h4:=(holds_andW hc).1
      rw [hn] at h4
      exact h4
    have h5:=condW_of h4 (w_not (w_lt w_lit (w_len_list (w_arg rfl))))
    rw [List.length_map] at h5
    refine Nat.le_of_not_lt fun q=>?_
    have q' : (n : Int) < ((ns.length : Nat) : Int):=by omega
    first
      | (rw [decide_eq_true q'] at h5; exact absurd h5 (by decide))
      | (simp at h5; omega)
  cases hwl with
  | cons w1 w2 =>
    cases w2
    cases w1 with
    | list ho hall=>exact ⟨_,_,ns,rfl,rfl,ho,ints_of_wellAll ns _ hall,hlen⟩
theorem post_true (l : OpenLaw) (args : List WData) : l.row.toRowW.claim.post args (.bool true) args=true :=
  postW_of (r:=l.row.toRowW) (X:=(true == true))
    (show WShape.has [] (.bool true) .bool=true by first | rfl | decide | simp [WShape.has,WShape.arms,WShape.armsAll])
    (show (WTm.eq .res (.lit (.bool true))).value [] { args:=args,res:=some (.bool true),after:=args }=some (.bool (true == true)) from w_eq_bool (w_res rfl) w_lit) rfl
theorem attach_call {l : OpenLaw} {n : Nat} {q : Program} {loose : List Str} {XP : (Str→Option Value)→Heap→Prop} {YP : World→Heap→Prop} {d : DefRec}
    (hn : l.most=some n) (hdf : d.params.defaults=[])
    (call : ∀ (w : World) (s₀ s₁ : Shared) (mg mb : Str→Option Value) (fa : Addr) (o : Obj) (pm cd doc : Value) (a : Addr) (vs : List Value) (ns : List Int),
      Ground q loose [] XP w s₀ mg mb s₁.heap→YP w s₁.heap →
      s₁.heap.get? fa=some o→o.data = .func (docDef d.name d.params d.body d.scope pm cd doc)→s₁.heap.CodeRec cd d.name→mg d.name=some (.ref fa) →
      s₁.heap.get? a=some { cls := .type "list",data := .seq vs.toArray }→IntsAre vs ns→ns.length≤n→s₁.gens=#[] →
      codeAny (model l.prog w) callerA (.call (.ref fa) ⟨[.ref a],[]⟩) (fun r s'=>r = .ok (.ret (.bool true))∧OldK s₁.heap s'.heap∧s'.os=s₁.os∧AllBare s'.gens) s₁) :
    WalkO q loose XP YP l.row.toRowW d [] (fun f vs=>PySem.call f vs):=by
  intro w s₀ s₁ mg mb G Y fa o pm cd doc dV kV ho hd hcd hD hmg hg args vals as hpre hlay hrd hwl hlo
  obtain rfl : dV = .none:=Dflts.none hD hdf
  obtain rfl : kV = .none:=Dflts.noKw hD
  obtain ⟨a,vs,ns,rfl,rfl,hobj,hints,hlen⟩:=script_of hn hpre hwl
  refine enter_call (codeAny_mono (call w s₀ s₁ mg mb fa o pm cd doc a vs ns G Y ho (fd_plain hd) hcd hmg hobj hints hlen hg) fun r s' hq=>?_)
  obtain ⟨rfl,h2,h3,h4⟩:=hq
  exact ⟨.inl ⟨.bool true,.bool true,[],rfl,fun _=>rfl,.bool true,post_true l _,fun _=>⟨List.Pairwise.nil,fun _ hm=>(nomatch hm)⟩⟩,h2,h3,h4⟩
section
variable {prog : Program} {w : World} {A : Around} {E : Value→Shared→Prop} {s : Shared} {K : Frag}
noncomputable def noObjs (h : Heap) : Heap:={ h with objs:=#[] }
theorem noObjs_get (h : Heap) (b : Addr) : (noObjs h).get? b=none:=by
  cases e : (noObjs h).get? b with
  | none=>rfl
  | some o=>exact absurd (Heap.lt_size e) (Nat.not_lt_zero _)
noncomputable def ledger (h : Heap) (L d : Addr) : List (Addr × Obj):=(List.range h.objs.size).filterMap fun a=>if a=L∨a=d then none else (h.get? a).map fun o=>(a,o)
theorem fr_all {h : Heap} {L : Addr} {m : Str→Option Value} (n : h.Ns L m) : Fr (noObjs h) L h m :=
  ⟨n,fun b o e=>(by rw [noObjs_get] at e; cases e),Nat.zero_le _⟩
end
end Att
namespace L2
open PySem PySem.Spec PyProof.Rows
theorem vals_ints : ∀ {vs : List Value} {ns : List Int},IntsAre vs ns→Vals (ns.map V.int) vs
  | _,_,.nil => .nil
  | _,_,.cons n t h => .cons ⟨t,rfl⟩ (vals_ints h)
noncomputable def Only (H : Hp) : Prop:=∀ b,H b=none∨∃ o xs,H b=some (.frz o (.lst xs))
theorem law_call {P : Program} {w : World} {K : PySem.W.Frag} {mg mb : Str→Option Value} {CX : CXT} {k : Nat} {fa a : Addr} {fd : FuncData} {x : Str} {sp : Sp} {s₁ : Shared} {vs : List Value} {ns : List Int}
    (KX : K.In s₁.heap) (hns : s₁.heap.Ns mainGlobals mg) (hb : s₁.heap.Ns builtinsNs mb) (hbb : ∀ x : Str,x≠"__name__"→mb x=bootBuiltins x) (hlim : s₁.heap.NoLimit) (hg : s₁.gens=#[])
    (ha : s₁.heap.get? a=some { cls := .type "list",data := .seq vs.toArray }) (hi : IntsAre vs ns) (hl : ns.length≤sizeLine) (hr : Room k callerA)
    (F : ∀ base : Heap,K.In base→base.Ns mainGlobals mg→FnOk P w K mg base CX k fa fd [x] sp) (hbind : ∀ (s : Shared) (u : Value),BindsTo s fd ⟨[u],[]⟩ [(x,u)])
    (hsp : ∀ H : Hp,Only H→SqL K H a (ns.map V.int)→sp [.ref a] H (fun v _=>v = .bl true) fun _ _ _=>False)
    (hCX : ∀ H e s',CX [] H s₁ (fun _ _ _=>False) e s'→False) :
    codeAny (model P w) callerA (.call (.ref fa) ⟨[.ref a],[]⟩) (fun r s'=>r = .ok (.ret (.bool true))∧OldK s₁.heap s'.heap∧s'.os=s₁.os∧AllBare s'.gens) s₁:=by
  have rv:=vals_ints hi
  have lenV:=hi.length
  have core : ∀ H : Hp,Only H→SqL K H a (ns.map V.int)→HOk P w H s₁.heap→(∀ b,H b≠none→b=a)→(H a≠none→K.lookup a=none) →
      codeAny (model P w) callerA (.call (.ref fa) ⟨[.ref a],[]⟩) (fun r s'=>r = .ok (.ret (.bool true))∧OldK s₁.heap s'.heap∧s'.os=s₁.os∧AllBare s'.gens) s₁:=by
    intro H hO hS hok hA hK
    have base_of : ∀ {b : Addr} {o : Obj},s₁.heap.get? b=some o→H b=none→(hidT s₁.heap H).get? b=some o:=fun e n=>hidT_get e n
    have noA : ∀ {b : Addr} {o : Obj} {es : Array DictEntry} {ep : Nat},s₁.heap.get? b=some o→o.data = .dict es ep→H b=none:=fun {b o es ep} e d=>by
      cases q : H b with
      | none=>rfl
      | some u =>
        have e' : b=a:=hA b (by rw [q]; simp)
        subst e'
        rw [ha] at e; cases e
        have d' : Data.seq vs.toArray _=Data.dict es ep:=d
        cases d'
    have nsK : ∀ {b : Addr} {m : Str→Option Value},s₁.heap.Ns b m→(hidT s₁.heap H).Ns b m:=fun {b m} ⟨o,es,ep,e,d,r⟩=>⟨o,es,ep,base_of e (noA e d),d,r⟩
    have hKb : K.In (hidT s₁.heap H):=fun b o e=>base_of (KX b o e) (by
      cases q : H b with
      | none=>rfl
      | some u =>
        have e' : b=a:=hA b (by rw [q]; simp)
        subst e'
        rw [hK (by rw [q]; simp)] at e; cases e)
    have hM : Mod K mg (hidT s₁.heap H):=⟨hKb,nsK hns,⟨mb,nsK hb,hbb⟩,let ⟨mc,h1,h2⟩:=hlim; ⟨mc,nsK h1,h2⟩⟩
    have e0 : Env0 P w K mg (hidT s₁.heap H) callerA [] s₁ H:=⟨rfl,hM,fun b o e=>of_hidT e,Nat.le_of_eq (hidT_size _ _),trivial,fun b hb=>absurd (show b∈([] : List Addr) from hb) (by simp),hok,.of_eq hg⟩
    refine codeAny_mono ((F _ hKb (nsK hns)).run callerA [] s₁ H ⟨[.ref a],[]⟩ [.ref a] [.ref a] _ _ hr e0 (hbind s₁ (.ref a)) (.cons rfl .nil) (hsp H hO hS)) fun r s' h=>?_
    cases r with
    | error e=>exact (hCX H e s' h).elim
    | ok fl =>
      cases fl with
      | next=>exact False.elim h
      | brk=>exact False.elim h
      | cont=>exact False.elim h
      | ret u =>
        obtain ⟨v,H',os,bare,un,hok',r',q⟩:=h
        have q' : v = .bl true:=q
        subst q'
        obtain rfl : u=Value.bool true:=r'
        refine ⟨rfl,OldK.of_keep fun b o e=>?_,os,bare⟩
        cases q : H b with
        | none=>exact un.keep b o e q (by intro z; exact absurd (show b∈([] : List Addr) from z) (by simp)) (by simp)
        | some u =>
          rcases hO b with z | ⟨ob,xs,z⟩
          · rw [q] at z; cases z
          · have z2:=un.frzs b ob _ z
            obtain ⟨e1,_⟩:=hok b _ z
            obtain ⟨e2,_⟩:=hok' b _ z2
            rw [e] at e1; cases e1
            exact e2
  cases hk : K.lookup a with
  | some o =>
    have e:=KX a o hk
    rw [ha] at e
    cases e
    refine core (fun _=>none) (fun _ => .inl rfl) (.inr ⟨_,vs.toArray,_,hk,rfl,rfl,rfl,by rw [List.size_toArray,lenV]; exact hl,by simpa using rv⟩) (fun b u z=>by have z' : (none : Option HO)=some u:=z; cases z') (fun b z=>absurd rfl z) fun z=>absurd rfl z
  | none =>
    refine core (fun b=>if b=a then some (.frz { cls := .type "list",data := .seq vs.toArray } (.lst (ns.map V.int))) else none) (fun b=>?_) (.inl (.inr ⟨{ cls := .type "list",data := .seq vs.toArray },if_pos rfl⟩)) (fun b u z=>?_) (fun b z=>?_) fun _=>hk
    · by_cases hb : b=a
      · exact .inr ⟨_,_,if_pos hb⟩
      · exact .inl (if_neg hb)
    · by_cases hb : b=a
      · have z':=(if_pos hb).symm.trans z
        cases z'
        subst hb
        exact ⟨ha,by rw [List.length_map]; exact hl,vs,_,rv,ha⟩
      · have z':=(if_neg hb).symm.trans z
        cases z'
    · by_cases hb : b=a
      · exact hb
      · exact absurd (if_neg hb) z
end L2
namespace L2
open PySem PySem.Spec PyProof.Rows
theorem walk_of {l : PySem.W.OpenLaw} {n k : Nat} {q : Program} {loose : List Str} {XP : (Str→Option Value)→Heap→Prop} {YP : World→Heap→Prop} {d : DefRec} {K : Params→PySem.W.Frag} {CX : World→CXT} {sp : World→Sp} {x : Str}
    (hn : l.most=some n) (hn2 : n≤sizeLine) (hdf : d.params.defaults=[]) (hr : Room k callerA)
    (hY : ∀ (w : World) (h : Heap),YP w h→(K w.params).In h)
    (F : ∀ (w : World) (mg : Str→Option Value) (fa : Addr) (h : Heap),(K w.params).In h→h.Ns mainGlobals mg→mg d.name=some (.ref fa) →
      ∃ fd : FuncData,(∀ (s : Shared) (u : Value),BindsTo s fd ⟨[u],[]⟩ [(x,u)]) ∧
        ∀ base : Heap,(K w.params).In base→base.Ns mainGlobals mg→FnOk l.prog w (K w.params) mg base (CX w) k fa fd [x] (sp w))
    (hsp : ∀ (w : World) (H : Hp) (a : Addr) (ns : List Int),ns.length≤n→Only H→SqL (K w.params) H a (ns.map V.int)→sp w [.ref a] H (fun v _=>v = .bl true) fun _ _ _=>False)
    (hCX : ∀ (w : World) (H : Hp) (s : Shared) (e : Value) (s' : Shared),CX w [] H s (fun _ _ _=>False) e s'→False) :
    PySem.W.WalkO q loose XP YP l.row.toRowW d [] (fun f vs=>PySem.call f vs):=by
  refine Att.attach_call hn hdf fun w s₀ s₁ mg mb fa o pm cd doc a vs ns G Y ho hd hcd hmg hobj hints hlen hg=>?_
  have KX:=hY w _ Y
  obtain ⟨fd,hb,hF⟩:=F w mg fa _ KX G.T.g hmg
  exact law_call KX G.T.g G.T.b G.T.builtins G.T.nolimit hg hobj hints (Nat.le_trans hlen hn2) hr hF hb (fun H hO hS=>hsp w H a ns hlen hO hS) fun H e s'=>hCX w H s₁ e s'
end L2
namespace L2
open PySem PySem.Spec PyProof.Rows
noncomputable def inClass (s : Stmt) (j : Nat) : Stmt:=match s with
  | .ClassDef _ _ _ body _ _ _ _ _ _ _=>body.getD j (.Pass ⟨0,0,0,0⟩)
  | _ => .Pass ⟨0,0,0,0⟩
noncomputable def defArgs (s : Stmt) : Arguments:=match s with
  | .FunctionDef _ a _ _ _ _ _ _ _ _=>a
  | _=>{ posonlyargs:=[],args:=[],vararg:=none,kwonlyargs:=[],kw_defaults:=[],kwarg:=none,defaults:=[] }
noncomputable def defBody (s : Stmt) : List Stmt:=match s with
  | .FunctionDef _ _ b _ _ _ _ _ _ _=>b
  | _=>[]
noncomputable def defScope (s : Stmt) : Scope:=match s with
  | .FunctionDef _ _ _ _ _ _ sc _ _ _=>sc
  | _=>{ kind := .function,names:=[],isGenerator:=false,isCoroutine:=false }
noncomputable abbrev CX0 : CXT:=fun _ _ _ _ _ _=>False
noncomputable abbrev E0 : XK:=fun _ _ _=>False
theorem pass0 {X : Cx} : Passes CX0 X E0:=fun _ _ _ _ _ _ _ h=>h.elim
structure Fun (K : PySem.W.Frag) (x qual : Str) (st : Stmt) (f : Addr) (fd : FuncData) : Prop where
  ex : ∃ (oc : Value) (od : Option Addr) (kV doc pm : Value) (an : Option Addr) (cdv ct : Value) (osl : Array (Option Value)),
    fd=PySem.W.fnOf x qual (defArgs st) (defBody st) (defScope st) .none kV doc pm an cdv ct∧K.lookup f=some ⟨oc,od,.func fd,osl⟩∧PySem.W.codeIn K cdv qual=true
  kp : PySem.W.keepIn K (.ref f)=true
section
variable {P : Program} {w : World} {K : PySem.W.Frag} {mg : Str→Option Value} {base : Heap}
theorem Fun.ok {x qual : Str} {st : Stmt} {f : Addr} {fd : FuncData} {N ps : List Str} {k : Nat} {sp : Sp} (F : Fun K x qual st f fd) (S : FnScope N ps (defScope st)) (len : ∀ vs H Q E,sp vs H Q E→vs.length=ps.length)
    (hbody : ∀ (cdv : Value) (A : Around) (outer : List Env) (s : Shared) (H : Hp) (vs : List V) (Q : VK) (E : XK),Room k (A.deeper (envOfC qual (defScope st) s.heap.objs.size f cdv))→sp vs H Q E →
      ∃ t,PSs (cxOf CX0 P w K mg base N qual (defScope st) f cdv A outer s H E).nox (defBody st) t∧t { nx:=fun _ H'=>Q .non H',rt:=Q } (start N vs) H) : FnOk P w K mg base CX0 (k + 1) f fd ps sp:=by
  obtain ⟨oc,od,kV,doc,pm,an,cdv,ct,osl,rfl,lk,hcd⟩:=F.ex
  refine fn_of lk hcd S len fun A outer s H vs Q E hr hsp=>?_
  obtain ⟨t,h,q⟩:=hbody cdv A outer s H vs Q E hr hsp
  exact ⟨t,h.nox,q⟩
theorem Fun.binds {x qual : Str} {st : Stmt} {f : Addr} {fd : FuncData} {ps : List Str} (F : Fun K x qual st f fd)
    (h : ∀ (kV doc pm : Value) (an : Option Addr) (cdv ct : Value) (us : List Value),us.length=ps.length→bindArgs (PySem.W.fnOf x qual (defArgs st) (defBody st) (defScope st) .none kV doc pm an cdv ct) ⟨us,[]⟩=pure (ps.zip us)) : Binds K fd ps []:=by
  obtain ⟨oc,od,kV,doc,pm,an,cdv,ct,osl,rfl,lk,hcd⟩:=F.ex
  exact .all (h kV doc pm an cdv ct)
theorem fun_mk {x qual : Str} {st : Stmt} {f : Addr} {oc : Value} {od an : Option Addr} {osl : Array (Option Value)} {kV doc pm cdv ct : Value} (l : K.lookup f=some ⟨oc,od,.func (PySem.W.fnOf x qual (defArgs st) (defBody st) (defScope st) .none kV doc pm an cdv ct),osl⟩)
    (c : PySem.W.codeIn K cdv qual=true) (k : PySem.W.keepIn K (.ref f)=true) : Fun K x qual st f (PySem.W.fnOf x qual (defArgs st) (defBody st) (defScope st) .none kV doc pm an cdv ct):=⟨⟨oc,od,kV,doc,pm,an,cdv,ct,osl,rfl,l,c⟩,k⟩
end
theorem hu_of {A : Around} {k : Nat} (hr : Room k A) : A.units + 1 < cLine:=Nat.lt_of_le_of_lt (Nat.add_le_add_left (by decide : 1≤64) _) hr.units
section
variable {X : Cx}
theorem pv (i : Nat) {x : Str} {pos : Pos} (hN : X.N[i]?=some x:=by rfl) (hv : Vis X.env.scope x:=by first | exact Or.inl rfl | exact Or.inr (Or.inl rfl) | exact Or.inr (Or.inr rfl)) (hd : (x == ("__debug__" : Str))=false:=by decide)
    (hcd : (x == ("__classdict__" : Str))=false:=by decide) : PE X (.Name x pos) (tVar i):=pe_var hN hv hd hcd
end
theorem iteF {A B : Prop} (h : B) : if false=true then A else B:=by
  rw [if_neg Bool.false_ne_true]
  exact h
theorem iteT {A B : Prop} (h : A) : if true=true then A else B:=by
  rw [if_pos rfl]
  exact h
theorem ite2 {c A B : Prop} [Decidable c] (h1 : c→A) (h2 : ¬ c→B) : if c then A else B:=by
  by_cases h : c
  · rw [if_pos h]
    exact h1 h
  · rw [if_neg h]
    exact h2 h
theorem iteNS {c A B : Prop} [Decidable c] (hc : c) (h : B) : if (!decide c)=true then A else B:=by
  rw [decide_eq_true hc]
  exact iteF h
noncomputable def Same (H H' : Hp) : Prop:=∀ b o,H b=some o→H' b=some o
theorem Same.refl (H : Hp) : Same H H:=fun _ _ h=>h
theorem Same.trans {H H1 H2 : Hp} (a : Same H H1) (b : Same H1 H2) : Same H H2:=fun c o h=>b c o (a c o h)
theorem Same.free {H H' : Hp} (e : Same H H') {l : Addr} (h : H' l=Option.none) : H l=Option.none:=by
  cases q : H l with
  | none=>rfl
  | some o =>
    rw [e l o q] at h
    cases h
theorem Same.seq {K : PySem.W.Frag} {H H' : Hp} {a : Addr} {xs : List V} (e : Same H H') (h : SqL K H a xs) : SqL K H' a xs:=by
  rcases h with (h | ⟨o,h⟩) | h
  · exact .inl (.inl (e _ _ h))
  · exact .inl (.inr ⟨o,e _ _ h⟩)
  · exact .inr h
section
variable {X : Cx}
end
section
variable {κ : Type} [DecidableEq κ]
end
end L2
namespace L3
open PySem PySem.Spec PyProof.Rows L2
noncomputable def yU (env : Env) : List (Str × NameKind)→List (Str × Addr)→List (Str × Addr)
  | [],cs=>cs
  | (n,k) :: r,cs=>yU env r (if k == .free then match env.cells.lookup n with | some c=>(n,c) :: cs | none=>cs else cs)
noncomputable def yJ (scope : Scope) (env : Env) : List (Str × Addr):=yU env scope.names []
theorem Yk {scope : Scope} {env : Env} (h : ∀ p∈scope.names,p.2 = .free→∃ c,env.cells.lookup p.1=some c) : closureFor scope env=pure (yJ scope env):=by
  unfold closureFor yJ
  have go : ∀ (l : List (Str × NameKind)) (cs : List (Str × Addr)),(∀ p∈l,p.2 = .free→∃ c,env.cells.lookup p.1=some c) →
      (forIn l cs fun (p : Str × NameKind) (r : List (Str × Addr))=>(do
        if p.2 == NameKind.free then
          let c ← cellOf env p.1
          pure (ForInStep.yield ((p.1,c) :: r))
        else pure (ForInStep.yield r) : Sem (ForInStep (List (Str × Addr)))))=(pure (yU env l cs) : Sem (List (Str × Addr))):=by
    intro l
    induction l with
    | nil=>intro cs _; rfl
    | cons p l ih =>
      intro cs hl
      obtain ⟨n,k⟩:=p
      rw [List.forIn_cons]
      by_cases hk : k = .free
      · subst hk
        obtain ⟨c,hc⟩:=hl (n,.free) List.mem_cons_self rfl
        have e : cellOf env n=pure c:=by
          unfold cellOf
          have hc' : env.cells.lookup n=some c:=hc
          rw [hc']
        simp only [beq_self_eq_true,if_true,e,pure_bind]
        rw [ih _ fun p hp=>hl p (List.mem_cons_of_mem _ hp)]
        have hc' : env.cells.lookup n=some c:=hc
        simp only [yU,beq_self_eq_true,if_true,hc']
      · have hb : (k == NameKind.free)=false:=by simpa using hk
        simp only [hb,Bool.false_eq_true,if_false,pure_bind]
        rw [ih _ fun p hp=>hl p (List.mem_cons_of_mem _ hp)]
        simp only [yU,hb,Bool.false_eq_true,if_false]
  have:=go scope.names [] h
  simp only [bind_pure] at this ⊢
  exact this
theorem j4 {env : Env} : ∀ {l : List (Str × NameKind)} {cs : List (Str × Addr)} {n : Str} {c : Addr},(n,c)∈yU env l cs→(n,c)∈cs∨((n,NameKind.free)∈l∧env.cells.lookup n=some c)
  | [],_,_,_,h => .inl h
  | (m,k) :: r,cs,n,c,h=>by
    rcases j4 (l:=r) h with h | ⟨h1,h2⟩
    · by_cases hk : k = .free
      · subst hk
        simp only [beq_self_eq_true,if_true] at h
        cases e : env.cells.lookup m with
        | none=>rw [e] at h; exact .inl h
        | some d =>
          rw [e] at h
          rcases List.mem_cons.mp h with q | q
          · cases q
            exact .inr ⟨List.mem_cons_self,e⟩
          · exact .inl q
      · have hb : (k == NameKind.free)=false:=by simpa using hk
        simp only [hb,Bool.false_eq_true,if_false] at h
        exact .inl h
    · exact .inr ⟨List.mem_cons_of_mem _ h1,h2⟩
theorem jg {env : Env} : ∀ {l : List (Str × NameKind)} {cs : List (Str × Addr)} {p : Str × Addr},p∈cs→p∈yU env l cs
  | [],_,_,h=>h
  | (m,k) :: r,cs,p,h=>by
    refine jg (l:=r) ?_
    by_cases hk : k = .free
    · subst hk
      simp only [beq_self_eq_true,if_true]
      cases e : env.cells.lookup m with
      | none=>exact h
      | some d=>exact List.mem_cons_of_mem _ h
    · have hb : (k == NameKind.free)=false:=by simpa using hk
      simp only [hb,Bool.false_eq_true,if_false]
      exact h
theorem Zr {env : Env} {n : Str} {c : Addr} (e : env.cells.lookup n=some c) : ∀ {l : List (Str × NameKind)} {cs : List (Str × Addr)},(n,NameKind.free)∈l→(n,c)∈yU env l cs
  | (m,k) :: r,cs,h=>by
    rcases List.mem_cons.mp h with q | q
    · cases q
      refine jg (l:=r) ?_
      simp only [beq_self_eq_true,if_true,e]
      exact List.mem_cons_self
    · exact Zr e (l:=r) q
theorem v9 {α : Type} {n : Str} {c : α} : ∀ {l : List (Str × α)},(n,c)∈l→∃ d,l.lookup n=some d
  | (m,d) :: r,h=>by
    by_cases e : n=m
    · subst e
      exact ⟨d,by simp⟩
    · have hb : (n == m)=false:=beq_eq_false_iff_ne.mpr e
      rcases List.mem_cons.mp h with q | q
      · cases q; exact absurd rfl e
      · obtain ⟨d',hd⟩:=v9 q
        exact ⟨d',by simp only [List.lookup,hb]; exact hd⟩
theorem xS {scope : Scope} {env : Env} {x : Str} : ∀ {names : List (Str × NameKind)} {k : NameKind},
    (names.map fun (n,k)=>if (k == NameKind.free && env.scope.kind == .function && env.kindOf n == some .cell) then (n,NameKind.cell) else (n,k)).lookup x=some k →
    names.lookup x=some k∨(names.lookup x=some .free∧k = .cell)
  | [],k,h=>by simp at h
  | (n,j) :: r,k,h=>by
    have ih:=@xS scope env x r k
    rw [List.map_cons] at h
    dsimp only at h
    cases hx : x == n with
    | true =>
      simp only [List.lookup_cons,hx]
      by_cases hc : (j == NameKind.free && env.scope.kind == .function && env.kindOf n == some .cell)=true
      · rw [if_pos hc] at h
        simp only [List.lookup_cons,hx] at h
        have hj : j = .free:=by
          have:=(Bool.and_eq_true_iff.mp (Bool.and_eq_true_iff.mp hc).1).1
          simpa using this
        cases h
        exact .inr ⟨by rw [hj],rfl⟩
      · rw [if_neg hc] at h
        simp only [List.lookup_cons,hx] at h
        exact .inl h
    | false =>
      simp only [List.lookup_cons,hx]
      by_cases hc : (j == NameKind.free && env.scope.kind == .function && env.kindOf n == some .cell)=true
      · rw [if_pos hc] at h; simp only [List.lookup_cons,hx] at h; exact ih h
      · rw [if_neg hc] at h; simp only [List.lookup_cons,hx] at h; exact ih h
theorem jh {env : Env} {x : Str} : ∀ {names : List (Str × NameKind)},names.lookup x=some .free →
    (names.map fun (n,k)=>if (k == NameKind.free && env.scope.kind == .function && env.kindOf n == some .cell) then (n,NameKind.cell) else (n,k)).lookup x=some .cell ∨
    (names.map fun (n,k)=>if (k == NameKind.free && env.scope.kind == .function && env.kindOf n == some .cell) then (n,NameKind.cell) else (n,k)).lookup x=some .free
  | [],h=>by simp at h
  | (n,j) :: r,h=>by
    have ih:=@jh env x r
    rw [List.map_cons]
    dsimp only
    cases hx : x == n with
    | true =>
      simp only [List.lookup_cons,hx] at h
      cases h
      by_cases hc : (NameKind.free == NameKind.free && env.scope.kind == .function && env.kindOf n == some .cell)=true
      · rw [if_pos hc]; exact .inl (by simp only [List.lookup_cons,hx])
      · rw [if_neg hc]; exact .inr (by simp only [List.lookup_cons,hx])
    | false =>
      simp only [List.lookup_cons,hx] at h
      by_cases hc : (j == NameKind.free && env.scope.kind == .function && env.kindOf n == some .cell)=true
      · rw [if_pos hc]; simp only [List.lookup_cons,hx]; exact ih h
      · rw [if_neg hc]; simp only [List.lookup_cons,hx]; exact ih h
noncomputable def zL (X : Cx) (N : List Str) (scope : Scope) (fp : List Addr) (s : Shared) (H : Hp) : Cx where
  prog:=X.prog
  w:=X.w
  K:=X.K
  mg:=X.mg
  base:=X.base
  A:=X.A
  N:=N
  s₀:=s
  H₀:=H
  env:=compEnvC scope (yJ scope X.env) s.heap.objs.size X.env
  outer:=X.stack
  stack:=X.stack
  ex:=fp
  fn:=fun _=>false
  calm:=X.calm
  pn:=[]
  xe:=fun _ _=>False
structure xN (X : Cx) (scope : Scope) (N : List Str) (own : Nat) (js : List Nat) : Prop where
  kind : scope.kind = .function
  cells : ∀ p∈scope.names,p.2 ≠ .cell
  locs : ∀ p∈scope.names,p.2 = .local→scope.names.lookup p.1=some .local
  frees : ∀ p∈scope.names,p.2 = .free→scope.names.lookup p.1=some .free∧(X.env.scope.names.lookup p.1=some .cell∨X.env.scope.names.lookup p.1=some .free)
  len : N.length=own + js.length
  at_ : ∀ (k i : Nat) (x : Str),js[k]?=some i→N[own + k]?=some x→X.N[i]?=some x∧scope.names.lookup x=some .free
noncomputable def XT (scope sc : Scope) (N M : List Str) (own : Nat) (js : List Nat) : Bool :=
  decide (scope.kind = .function) && scope.names.all (fun p=>p.2 != .cell) && scope.names.all (fun p=>p.2 != .local || scope.names.lookup p.1 == some .local) &&
  scope.names.all (fun p=>p.2 != .free || (scope.names.lookup p.1 == some .free && (sc.names.lookup p.1 == some .cell || sc.names.lookup p.1 == some .free))) &&
  decide (N.length=own + js.length) && (js.zip (N.drop own)).all fun q=>M[q.1]? == some q.2 && scope.names.lookup q.2 == some .free
theorem vp {X : Cx} {scope : Scope} {N : List Str} {own : Nat} {js : List Nat} (sc : Scope) (M : List Str) (h1 : X.env.scope=sc) (h2 : X.N=M) (h : XT scope sc N M own js=true) : xN X scope N own js:=by
  unfold XT at h
  simp only [Bool.and_eq_true,decide_eq_true_eq,List.all_eq_true] at h
  obtain ⟨⟨⟨⟨⟨a1,a2⟩,a3⟩,a4⟩,a5⟩,a6⟩:=h
  refine ⟨a1,fun p hp=>by simpa using a2 p hp,fun p hp hk=>?_,fun p hp hk=>?_,a5,fun k i x e1 e2=>?_⟩
  · have:=a3 p hp
    rw [hk] at this
    simpa using this
  · have:=a4 p hp
    rw [hk] at this
    rw [h1]
    simpa using this
  · have hm : (i,x)∈js.zip (N.drop own):=by
      refine List.mem_of_getElem? (i:=k) ?_
      rw [List.getElem?_zip_eq_some]
      exact ⟨e1,by rw [List.getElem?_drop]; exact e2⟩
    have:=a6 _ hm
    rw [h2]
    simpa using this
noncomputable def wj (own : Nat) (js : List Nat) (σ : L2.St) : L2.St:=List.replicate own none ++ js.map fun i=>(σ[i]?).join
section
variable {X : Cx} {pins : List (Addr × Obj)} {σ : L2.St} {H : Hp} {s : Shared} {scope : Scope} {N : List Str} {own : Nat} {js : List Nat} {fp : List Addr}
theorem yw (I : Inv X pins σ H s) {x : Str} {c : Addr} (e : (yJ scope X.env).lookup x=some c) : X.env.cells.lookup x=some c:=by
  rcases j4 (PySem.mem_of_lookup e) with h | ⟨_,h⟩
  · cases h
  · exact h
theorem j5 (C : xN X scope N own js) (I : Inv X pins σ H s) {x : Str} (h : scope.names.lookup x=some .free) : ∃ c,(yJ scope X.env).lookup x=some c∧X.env.cells.lookup x=some c:=by
  have hm:=PySem.mem_of_lookup h
  obtain ⟨c,hc⟩:=I.ok.has x (C.frees _ hm rfl).2
  obtain ⟨d,hd⟩:=v9 (Zr (cs:=[]) hc hm)
  exact ⟨d,hd,yw I hd⟩
theorem jc (C : xN X scope N own js) (I : Inv X pins σ H s) : closureFor scope X.env=pure (yJ scope X.env) :=
  Yk fun p hp hk=>I.ok.has p.1 (C.frees p hp hk).2
theorem Wa (C : xN X scope N own js) (I : Inv X pins σ H s) (hf : ∀ b∈fp,FpOk X pins H b) (ho : ∀ b∈fp,∃ o,s.heap.get? b=some o∧∀ v,o.data ≠ .cell v) {h₁ : Heap} {t₁ : Nat} {m : Str→Option Value}
    (hn : h₁.Ns s.heap.objs.size m) (hk : ∀ b o,s.heap.get? b=some o→h₁.get? b=some o) : Inv (zL X N scope fp s H) [] (wj own js σ) H { s with heap:=h₁,toks:=t₁ }:=by
  have hlt : ∀ b∈fp,b < s.heap.objs.size:=fun b hb=>by
    obtain ⟨o,e,_⟩:=ho b hb
    exact Heap.lt_size e
  refine ⟨⟨I.ok.mod,C.kind,I.ok.glob,I.ok.blt,Nat.le_refl _,fun x y c h1 h2=>?_,fun x hx=>?_,fun x c hx _=>?_,I.ok.hd,I.ok.frames,.inl rfl,fun b hb=>⟨Nat.ne_of_lt (hlt b hb),fun x c e=>?_⟩,I.bs,Nat.le_trans I.ok.bsz I.sz,fun b o e hb=>?_,fun b hb z=>?_,I.stack,I.stkFree⟩,
    rfl,I.bare,Un.kept hk,⟨m,hn,fun i x v h1 h2 h3=>?_⟩,fun x c e=>?_,I.hok.fresh (Nat.le_refl _),fun x c e=>I.freeC x c (yw I e),fun p hp=>?_,I.hok.kept hk,?_⟩
  · exact I.ok.inj x y c (yw I h1) (yw I h2)
  · have hx' : (relabel scope X.env).names.lookup x=some .cell∨(relabel scope X.env).names.lookup x=some .free:=hx
    have hfree : scope.names.lookup x=some .free:=by
      rcases hx' with hx' | hx'
      · rcases xS (scope:=scope) hx' with q | ⟨q,_⟩
        · exact absurd rfl (C.cells _ (PySem.mem_of_lookup q))
        · exact q
      · rcases xS (scope:=scope) hx' with q | ⟨q,_⟩
        · exact q
        · exact q
    obtain ⟨c,hc,_⟩:=j5 C I hfree
    exact ⟨c,hc⟩
  · exact absurd hx Bool.false_ne_true
  · exact (hf b hb).2.2.2.2.1 x c (yw I e)
  · rcases (hf b hb).2.2.2.1 with z | z
    · exact I.ok.noex b o e z
    · exact absurd (Nat.lt_of_lt_of_le (Heap.lt_size e) (Nat.le_trans I.ok.bsz z)) (Nat.lt_irrefl _)
  · rcases List.mem_cons.mp (I.stkSub b z) with q | q
    · exact (hf b hb).2.1 q
    · exact (hf b hb).2.2.1 q
  · -- a name of the block that has a value
    have hN : N[i]?=some x:=h1
    have hi : own≤i:=by
      refine Nat.le_of_not_lt fun hlt'=>?_
      unfold wj at h2
      rw [List.getElem?_append_left (by simpa using hlt'),List.getElem?_replicate] at h2
      split at h2 <;> cases h2
    obtain ⟨k,rfl⟩:=Nat.exists_eq_add_of_le hi
    unfold wj at h2
    rw [List.getElem?_append_right (by simp),List.length_replicate,Nat.add_sub_cancel_left,List.getElem?_map] at h2
    cases ej : js[k]? with
    | none=>rw [ej] at h2; cases h2
    | some j =>
      rw [ej] at h2
      have h2' : (σ[j]?).join=some v:=Option.some.inj h2
      have hσ : σ[j]?=some (some v):=by
        cases eσ : σ[j]? with
        | none=>rw [eσ] at h2'; cases h2'
        | some ov =>
          rw [eσ] at h2'
          have : ov=some v:=h2'
          rw [this]
      obtain ⟨hXN,hfree⟩:=C.at_ k j x ej hN
      have hkind:=(C.frees _ (PySem.mem_of_lookup hfree) rfl).2
      obtain ⟨m0,hn0,hl⟩:=I.loc
      obtain ⟨u,r,l⟩:=hl j x v hXN hσ (by rcases hkind with q | q; exact .inr (.inl q); exact .inr (.inr q))
      refine ⟨u,r,.inr ⟨jh hfree,?_⟩⟩
      obtain ⟨c,hc,hc'⟩:=j5 C I hfree
      refine ⟨c,hc,?_⟩
      rcases l with ⟨l1,_⟩ | ⟨_,c',e',z⟩
      · have l1' : X.env.scope.names.lookup x=some .local:=l1
        rcases hkind with q | q
        · rw [q] at l1'; cases l1'
        · rw [q] at l1'; cases l1'
      · rw [hc'] at e'
        cases e'
        obtain ⟨o,ho',hd'⟩:=z
        exact ⟨o,hk _ _ ho',hd'⟩
  · obtain ⟨v,o,ho',hd'⟩:=I.cell x c (yw I e)
    exact ⟨v,o,hk _ _ ho',hd'⟩
  · exact absurd (show p∈([] : List (Addr × Obj)) from hp) (by simp)
  · unfold wj
    show _=N.length
    rw [List.length_append,List.length_replicate,List.length_map,C.len]
theorem VI {σ' : L2.St} {H' : Hp} {s' : Shared} (I : Inv X pins σ H s) (hf : ∀ b∈fp,FpOk X pins H b) (J : Inv (zL X N scope fp s H) [] σ' H' s') : Inv X pins σ H' s' :=
  I.call' (ch:=fp) J.os J.base J.hok J.bare fun b hb=>⟨(hf b hb).2.2.2.1,(hf b hb).2.1,(hf b hb).2.2.2.2.1,(hf b hb).2.2.2.2.2⟩
end
noncomputable def Za (X : Cx) (ifs : List Expr) (t : TT) : Prop :=
  ∀ (pins : List (Addr × Obj)) (s : Shared) (σ : L2.St) (H : Hp) (Q : Bool→Hp→Prop),Inv X pins σ H s→t σ H Q →
    wpAny (model X.prog X.w) X.A (forIn ifs true fun c r=>if r=true then do let ok ← isTrue c X.env (eval c X.env); pure (ForInStep.yield ok) else pure (ForInStep.yield r)) (TP X pins σ Q) X.xe s
noncomputable def zbf : TT:=fun _ H Q=>Q true H
theorem YM {X : Cx} : Za X [] zbf:=fun _ _ _ H _ I h=>wpAny_tests_nil ⟨H,I,h⟩
theorem vF {X : Cx} {c : Expr} {t : TT} (hc : PT X c t) : Za X [c] t:=fun pins s σ H Q I h=>wpAny_tests_one (hc pins s σ H Q I h)
noncomputable def jL (D : Addr) (J : It) (g : TG) (tc : TT) (te : TE) (Q : Hp→Prop) (W : Nat→Nat→List V→L2.St→Hp→Prop) : Prop :=
  ∀ i m ys σ H,W i m ys σ H→H D=some (.lst ys)∧ys.length < sizeLine ∧
    ((J.stop i H∧Q H)∨(J.go i H∧∃ (N1 : V→L2.St→Hp→Prop) (N0 : L2.St→Hp→Prop),
      (∀ y σ2 H4,N1 y σ2 H4→H4 D=some (.lst ys)∧∃ m',m' < m∧W (i + 1) m' (ys ++ [y]) σ2 (upd H4 D (.lst (ys ++ [y]))))∧(∀ σ2 H3,N0 σ2 H3→∃ m',m' < m∧W (i + 1) m' ys σ2 H3) ∧
      ∀ x H1,J.yld i H x H1→g x σ H1 fun σ2 H2=>tc σ2 H2 fun b H3=>if b=true then te σ2 H3 fun y H4=>N1 y σ2 H4 else N0 σ2 H3))
noncomputable def Jq (own : Nat) (js : List Nat) (wi : TI) (g : TG) (tc : TT) (te : TE) : TE:=fun σ H Q=>wi σ H fun J H1=>∀ D,H1 D=none →
  ∃ W : Nat→Nat→List V→L2.St→Hp→Prop,(∃ m,W 0 m [] (wj own js σ) (upd H1 D (.lst [])))∧jL D J g tc te (fun H'=>Q (.ref D) H') W
section
variable {X : Cx} {elt tg iter : Expr} {ifs : List Expr} {scope : Scope} {pos : Pos} {N : List Str} {own : Nat} {js : List Nat} {wi : TI} {g : TG} {tc : TT} {te : TE}
theorem Zs {pins : List (Addr × Obj)} {σ : L2.St} {H : Hp} {s : Shared} {it : Addr} {fp : List Addr} {tn : Nat→Heap→Prop} {J : It} {E : Value→Shared→Prop} {Q : V→Hp→Prop} {R : Value→Addr→Result→Shared→Prop}
    (hc : X.calm=true) (C : xN X scope N own js) (hg : ∀ fp s H,PG (zL X N scope fp s H) tg g) (ht : ∀ fp s H,Za (zL X N scope fp s H) ifs tc) (he : ∀ fp s H,PE (zL X N scope fp s H) elt te)
    (I : Inv X pins σ H s) (T : Turn X.prog X.w X.K tg J fp it tn) (st : tn 0 s.heap) (hf : ∀ b∈fp,FpOk X pins H b)
    (h : ∀ D,H D=none→∃ W : Nat→Nat→List V→L2.St→Hp→Prop,(∃ m,W 0 m [] (wj own js σ) (upd H D (.lst [])))∧jL D J g tc te (fun H'=>Q (.ref D) H') W)
    (hR : ∀ (D L : Addr) (H' : Hp) (s' : Shared),Inv X pins σ H' s'→(∃ m,s'.heap.Ns L m)→H' L=none→L≠X.env.locals→X.s₀.heap.objs.size≤L→(∀ x c,X.env.cells.lookup x=some c→c≠L)→(∀ p∈X.pn ++ pins,p.1≠L) →
      Q (.ref D) H'→R (.ref D) L (.ok .next) s') :
    wpAny (model X.prog X.w) X.A (newList []) (fun acc s₃=>wpAny (model X.prog X.w) X.A (newFunctionEnv scope X.env.globals (yJ scope X.env) [] X.env.qual none .none (some X.env)) (fun cenv s₄ =>
      codeAny (model X.prog X.w) X.A (.compStart (.ListComp elt [⟨tg,iter,ifs,0⟩] scope pos) 0 (.ref it) acc { cenv with scope:=relabel scope X.env }) (R acc cenv.locals) s₄) E s₃) E s:=by
  have hD : H s.heap.objs.size=none:=I.hok.fresh (Nat.le_refl _)
  obtain ⟨W,⟨m0,w0⟩,turn⟩:=h _ hD
  refine wpAny_newObj_type (wpAny_newFunctionEnv C.cells (by intro y hy; simp at hy) (fun h₁ VJ VL=>?_) C.kind)
  have I3 : Inv X pins σ (upd H s.heap.objs.size (.lst [])) { s with heap:=s.heap.push { cls := .type "list",data := .seq ([] : List Value).toArray },toks:=s.toks }:=I.lnew (its:=[]) .nil (Nat.zero_le _)
  have hf3 : ∀ b∈fp,FpOk X pins (upd H s.heap.objs.size (.lst [])) b:=fun b hb=>by
    obtain ⟨o,e,_⟩:=T.obj 0 _ st b hb
    exact ⟨by rw [upd_ne (Nat.ne_of_lt (Heap.lt_size e))]; exact (hf b hb).1,(hf b hb).2⟩
  have st3 : tn 0 (s.heap.push { cls := .type "list",data := .seq ([] : List Value).toArray }):=T.keep 0 _ _ st fun b hb o e=>Heap.get?_push_of_some _ e
  dsimp only at VJ VL ⊢
  generalize hs3 : ({ s with heap:=s.heap.push { cls := .type "list",data := .seq ([] : List Value).toArray },toks:=s.toks } : Shared)=s3 at I3
  have eh : s.heap.push { cls := .type "list",dict:=none,data := .seq ([] : List Value).toArray }=s3.heap:=by rw [← hs3]
  rw [eh] at VJ VL st3 ⊢
  have old : ∀ b o,s3.heap.get? b=some o→h₁.get? b=some o:=fun b o e=>VL.extBut b o (Nat.ne_of_lt (Heap.lt_size e)) (Heap.get?_push_of_some _ e)
  generalize hH3 : upd H s.heap.objs.size (.lst [])=H3 at I3 hf3 w0
  have J0 : Inv (zL X N scope fp s3 H3) [] (wj own js σ) H3 { s3 with heap:=h₁,toks:=s3.toks + ([] : List (Str × Value)).length }:=Wa C I3 hf3 (T.obj 0 _ st3) VJ old
  have st0 : tn 0 h₁:=T.keep 0 _ _ st3 fun b hb o e=>old b o e
  have stat : ∀ {H' : Hp},(∀ b∈fp,H' b=none)→∀ b∈fp,FpOk (zL X N scope fp s3 H3) [] H' b:=fun hn b hb=>by
    refine ⟨hn b hb,J0.ok.exf b hb |>.1,J0.ok.exfs b hb,.inl hb,(J0.ok.exf b hb).2,fun p hp=>absurd (show p∈([] : List (Addr × Obj)) from hp) (by simp)⟩
  have loop : ∀ s₄ : Shared,s₄={ s3 with heap:=h₁,toks:=s3.toks + ([] : List (Str × Value)).length } →
      codeAny (model X.prog X.w) X.A (.compLoop (.ListComp elt [⟨tg,iter,ifs,0⟩] scope pos) 0 (.ref it) (.ref s.heap.objs.size) (zL X N scope fp s3 H3).env) (R (.ref s.heap.objs.size) s3.heap.objs.size) s₄:=by
    rintro s₄ rfl
    refine codeAny_loop rfl (fun n s'=>∃ i ys σ' H',Inv (zL X N scope fp s3 H3) [] σ' H' s'∧tn i s'.heap∧(∀ b∈fp,H' b=none)∧W i n ys σ' H') ?_ m0 ⟨0,[],_,_,J0,st0,fun b hb=>(hf3 b hb).1,w0⟩
    rintro n s5 ⟨i,ys,σ5,H5,I5,st5,fr5,w5⟩
    show wpAny _ X.A ((compTurn (.ListComp elt [⟨tg,iter,ifs,0⟩] scope pos) 0 (.ref it) (.ref s.heap.objs.size) (zL X N scope fp s3 H3).env).onRaise (fun x=>do noteFrame x (zL X N scope fp s3 H3).env; theTreesLotGoes x)) _ _ s5
    refine wpAny_noted ?_
    rw [compTurn_list]
    obtain ⟨hD5,hz5,hw5⟩:=turn i n ys σ5 H5 w5
    refine wpAny_bind (wpAny_standAt (wpAny_bind ?_))
    rcases hw5 with ⟨stop,q⟩ | ⟨go,N1,N0,hN1,hN0,step⟩
    · refine wpAny_mono (T.done (zL X N scope fp s3 H3) rfl rfl rfl hc i [] s5 σ5 H5 (fun _ _=>False) I5 (stat fr5) st5 stop) (fun r s6 ⟨hr,I6⟩=>?_) fun _ _ z=>z.elim
      subst hr
      obtain ⟨m,hm,_⟩:=id I6.loc
      have IX:=VI I3 hf3 I6
      exact wpAny_pure (hR _ s3.heap.objs.size H5 s6 IX ⟨m,hm⟩ I6.free (Nat.ne_of_gt I3.lt) I3.sz (fun x c e z=>by
        obtain ⟨v,o,ho,_⟩:=I3.cell x c e
        rw [z] at ho
        exact absurd (Heap.lt_size ho) (Nat.lt_irrefl _)) (fun p hp z=>by
        have e:=(I3.pin p hp).1
        rw [z] at e
        exact absurd (Heap.lt_size e) (Nat.lt_irrefl _)) q)
    · refine wpAny_mono (T.item (zL X N scope fp s3 H3) rfl rfl rfl hc i [] s5 σ5 H5 (fun _ _=>False) I5 (stat fr5) st5 go) (fun r s6 ⟨u,hr,h6⟩=>?_) fun _ _ z=>z.elim
      subst hr
      refine wpAny_bind (wpAny_mono h6 (fun _ s7 ⟨x,H7,I7,r7,y7,st7,fr7⟩=>?_) fun _ _ z=>z.elim)
      have I7':=I7.pinned (stat fr7) (T.obj _ _ st7)
      refine wpAny_bind (wpAny_mono (hg fp s3 H3 _ s7 σ5 H7 x u _ I7' r7 (step x H7 y7)) (fun _ s8 ⟨σ8,H8,I8,q8⟩=>?_) fun _ _ z=>z.elim)
      refine wpAny_bind (wpAny_mono (ht fp s3 H3 _ s8 σ8 H8 _ I8 q8) (fun ok s9 ⟨H9,I9,q9⟩=>?_) fun _ _ z=>z.elim)
      have again : ∀ {sx : Shared} {Hx : Hp} {ys' : List V},Inv (zL X N scope fp s3 H3) ([] ++ pinsAt fp s7.heap) σ8 Hx sx→(∃ m',m' < n∧W (i + 1) m' ys' σ8 Hx) →
          ∃ m,m < n∧∃ i ys σ' H',Inv (zL X N scope fp s3 H3) [] σ' H' sx∧tn i sx.heap∧(∀ b∈fp,H' b=none)∧W i m ys σ' H':=fun {sx Hx ys'} Ix ⟨m',hm,wx⟩=>by
        refine ⟨m',hm,i + 1,ys',σ8,Hx,Ix.unpinned,T.keep _ _ _ st7 fun b hb o e=>(Ix.pin (b,o) (List.mem_append_right _ (List.mem_append_right _ (mem_pinsAt hb e)))).1,fun b hb=>?_,wx⟩
        obtain ⟨o,e,d⟩:=T.obj _ _ st7 b hb
        exact (Ix.pin (b,o) (List.mem_append_right _ (List.mem_append_right _ (mem_pinsAt hb e)))).2.1
      cases ok with
      | false =>
        rw [if_neg Bool.false_ne_true] at q9
        exact wpAny_pure ⟨rfl,again I9 (hN0 _ _ q9)⟩
      | true =>
        rw [if_pos rfl] at q9
        show wpAny _ X.A ((do let _ ← call (.builtin "list.append") [.ref s.heap.objs.size,← eval elt (zL X N scope fp s3 H3).env]) >>= _) _ _ s9
        refine wpAny_bind (wpAny_bind (wpAny_mono (he fp s3 H3 _ s9 σ8 H9 _ I9 q9) (fun v s10 ⟨y,H10,I10,r10,n10⟩=>?_) fun _ _ z=>z.elim))
        obtain ⟨zbN,q10⟩:=hN1 _ _ _ n10
        refine wpAny_bind (wpAny_mono (mt_append (X:=zL X N scope fp s3 H3) _ s10 σ8 H10 (.ref s.heap.objs.size) [y] (.ref s.heap.objs.size) [v] (fun _ H'=>H'=upd H10 s.heap.objs.size (.lst (ys ++ [y]))) I10 rfl (.cons r10 .nil)
          ⟨_,ys,y,rfl,rfl,zbN,hz5,rfl⟩) (fun _ s11 ⟨_,H11,I11,_,e11⟩=>?_) fun _ _ z=>z.elim)
        subst e11
        exact wpAny_pure (wpAny_pure ⟨rfl,again I11 q10⟩)
  have es : ({ s with heap:=h₁,toks:=s.toks + ([] : List (Str × Value)).length } : Shared)={ s3 with heap:=h₁,toks:=s3.toks + ([] : List (Str × Value)).length }:=by rw [← hs3]
  exact codeAny_compStart_list (loop _ es) (T.self _ _ _ _ _ st0 (loop _ es))
theorem vq (hc : X.calm=true) (C : xN X scope N own js) (hi : PI X tg iter wi) (hg : ∀ fp s H,PG (zL X N scope fp s H) tg g) (ht : ∀ fp s H,Za (zL X N scope fp s H) ifs tc) (he : ∀ fp s H,PE (zL X N scope fp s H) elt te)
    (hs : ∀ x,foldedSetIterable iter X.env x=pure x:=by intro _; rfl) : PE X (.ListComp elt [⟨tg,iter,ifs,0⟩] scope pos) (Jq own js wi g tc te):=by
  intro pins s σ H Q I h
  rw [eval_ListComp]
  refine wpAny_comprehension_free (use:=none) rfl hs (jc C I) C.kind C.locs (thn (hi pins s σ H _ I h) fun v s1 h1=>thn h1 fun itv s2 h2=>?_)
  obtain ⟨it,fp,tn,J,H2,e,I2,T,st2,f2,hW⟩:=h2
  subst e
  refine Zs (R:=fun acc L=>compPost (model X.prog X.w) X.A X.xe none (EP X pins σ Q) acc L) hc C hg ht he I2 T st2 f2 hW fun D L H' s' I' hm hL1 hL2 hL3 hL4 hL5 q=>?_
  obtain ⟨m,hm⟩:=hm
  refine ⟨m,hm,fun h' sb=>⟨.ref D,H',?_,rfl,q⟩⟩
  exact I'.turned (t':=s'.toks) (fun b o hb e=>(sb.2 b hb).trans e) hL1 hL2 (.inr hL3) hL4 hL5
noncomputable def Jr (i own : Nat) (js : List Nat) (wi : TI) (g : TG) (tc : TT) (te : TE) : TS:=fun D σ H=>Jq own js wi g tc te σ H fun v H'=>D.nx (σ.set i (some v)) H'
theorem JL {i : Nat} {x : Str} {px : Pos} (hc : X.calm=true) (nd : X.N.Nodup) (hx : X.N[i]?=some x) (hl : X.env.kindOf x=some .local) (C : xN X scope N own js) (hi : PI X tg iter wi) (hg : ∀ fp s H,PG (zL X N scope fp s H) tg g)
    (ht : ∀ fp s H,Za (zL X N scope fp s H) ifs tc) (he : ∀ fp s H,PE (zL X N scope fp s H) elt te) {spos : Pos}
    (hsw : swapsWith (.ListComp elt [⟨tg,iter,ifs,0⟩] scope pos) (some (.Name x px)) spos.line X.env=pure true) (hs : ∀ x,foldedSetIterable iter X.env x=pure x:=by intro _; rfl) :
    PS X (.Assign [.Name x px] (.ListComp elt [⟨tg,iter,ifs,0⟩] scope pos) spos) (Jr i own js wi g tc te):=by
  intro pins s σ H D I h
  rw [exec_Assign_Name_used _ _ _ _ hsw]
  refine wpAny_bind (wpAny_standAt (wpAny_bind ?_))
  show wpAny _ X.A (do let _ ← comprehension (.ListComp elt [⟨tg,iter,ifs,0⟩] scope pos) scope X.env _ (newList []) false (eval iter X.env) (some (assign (.Name x px) X.env))) _ _ s
  refine wpAny_bind (wpAny_mono (wpAny_comprehension_free (use:=some (assign (.Name x px) X.env)) (Q:=fun _ s'=>SP X pins D .next s') rfl hs (jc C I) C.kind C.locs
    (thn (hi pins s σ H _ I h) fun v s1 h1=>thn h1 fun itv s2 h2=>?_)) (fun _ s' hq=>wpAny_pure (wpAny_pure hq)) fun _ _ e=>e)
  obtain ⟨it,fp,tn,J,H2,e,I2,T,st2,f2,hW⟩:=h2
  subst e
  refine Zs (Q:=fun v H'=>D.nx (σ.set i (some v)) H') (R:=fun acc L=>compPost (model X.prog X.w) X.A X.xe (some (assign (.Name x px) X.env)) (fun _ s'=>SP X pins D .next s') acc L) hc C hg ht he I2 T st2 f2 hW fun A L H' s' I' hm hL1 hL2 hL3 hL4 hL5 q=>?_
  obtain ⟨m,hm⟩:=hm
  show wpAny _ X.A (assign (.Name x px) X.env (.ref A)) _ _ _
  refine wpAny_assign_Name (store_ok2 I' nd hx (.inl hl) (v := .ref A) rfl (fun s7 I7 ⟨a,sb,ha⟩=>?_) (.inr hl))
  have hLa : L≠a:=by
    rcases ha with rfl | ha
    · exact hL2
    · exact (hL4 _ _ ha).symm
  refine ⟨m,hm.sameBut sb hLa,fun h' sb'=>⟨_,H',?_,q⟩⟩
  exact I7.turned (t':=s7.toks) (fun b o hb e=>(sb'.2 b hb).trans e) hL1 hL2 (.inr hL3) hL4 hL5
end
end L3
namespace L3
open PySem PySem.Spec PyProof.Rows L2
mutual
noncomputable def zf (K : PySem.W.Frag) (H : Hp) : V→PyData→Prop
  | v,.none=>v = .non
  | v,.bool b=>v = .bl b
  | v,.int i=>v = .int i
  | v,.str x=>v = .str x
  | v,.list ds=>∃ a xs,v = .ref a∧Rd H a (.lst xs)∧zd K H xs ds
  | v,.tuple ds=>∃ a xs,v = .ref a∧H a=some (.tup xs)∧zd K H xs ds
  | _,.dict _=>False
noncomputable def zd (K : PySem.W.Frag) (H : Hp) : List V→List PyData→Prop
  | xs,[]=>xs=[]
  | xs,d :: ds=>∃ y ys,xs=y :: ys∧zf K H y d∧zd K H ys ds
end
theorem Rd.same {H H' : Hp} {a : Addr} {u : HO} (e : Same H H') (h : Rd H a u) : Rd H' a u:=by
  rcases h with h | ⟨o,h⟩
  · exact .inl (e _ _ h)
  · exact .inr ⟨o,e _ _ h⟩
mutual
theorem zf.same {K : PySem.W.Frag} {H H' : Hp} (e : Same H H') : ∀ (d : PyData) {v : V},zf K H v d→zf K H' v d
  | .none,_,h=>by unfold zf at h ⊢; exact h
  | .bool _,_,h=>by unfold zf at h ⊢; exact h
  | .int _,_,h=>by unfold zf at h ⊢; exact h
  | .str _,_,h=>by unfold zf at h ⊢; exact h
  | .list ds,v,h=>by
    unfold zf at h ⊢
    obtain ⟨a,xs,h1,h2,h3⟩:=h
    exact ⟨a,xs,h1,Rd.same e h2,zd.same e ds h3⟩
  | .tuple ds,v,h=>by
    unfold zf at h ⊢
    obtain ⟨a,xs,h1,h2,h3⟩:=h
    exact ⟨a,xs,h1,e _ _ h2,zd.same e ds h3⟩
  | .dict _,_,h=>by unfold zf at h; exact h.elim
theorem zd.same {K : PySem.W.Frag} {H H' : Hp} (e : Same H H') : ∀ (ds : List PyData) {xs : List V},zd K H xs ds→zd K H' xs ds
  | [],_,h=>by unfold zd at h ⊢; exact h
  | d :: ds,_,h=>by
    unfold zd at h ⊢
    obtain ⟨y,ys,h1,h2,h3⟩:=h
    exact ⟨y,ys,h1,zf.same e d h2,zd.same e ds h3⟩
end
mutual
theorem zf.reads {X : Cx} {pins : List (Addr × Obj)} {σ : L2.St} {H : Hp} {s : Shared} (I : Inv X pins σ H s) : ∀ (d : PyData) {v : V} {u : Value},zf X.K H v d→RelV v u→∃ as,Reads s.heap u d as
  | .none,_,u,h,r=>by
    unfold zf at h; subst h
    cases r
    exact ⟨_,.none⟩
  | .bool b,_,u,h,r=>by
    unfold zf at h; subst h
    cases r
    exact ⟨_,.bool b⟩
  | .int i,_,u,h,r=>by
    unfold zf at h; subst h
    obtain ⟨t,rfl⟩:=r
    exact ⟨_,.int i t⟩
  | .str x,_,u,h,r=>by
    unfold zf at h; subst h
    obtain ⟨t,rfl⟩:=r
    exact ⟨_,.str x t⟩
  | .list ds,_,u,h,r=>by
    unfold zf at h
    obtain ⟨a,xs,rfl,h2,h3⟩:=h
    cases r
    obtain ⟨its,rv,⟨o,n,e,c,_,hd⟩,_⟩:=I.list (.inl h2)
    obtain ⟨as,q⟩:=zd.reads I ds h3 rv
    exact ⟨_,.list e c hd (by simpa using q)⟩
  | .tuple ds,_,u,h,r=>by
    unfold zf at h
    obtain ⟨a,xs,rfl,h2,h3⟩:=h
    cases r
    obtain ⟨its,rv,⟨o,e,c,n,hd⟩,_⟩:=I.tuple (SqT.of h2)
    obtain ⟨as,q⟩:=zd.reads I ds h3 rv
    exact ⟨_,.tuple e c hd (by simpa using q)⟩
  | .dict _,_,_,h,_=>by unfold zf at h; exact h.elim
theorem zd.reads {X : Cx} {pins : List (Addr × Obj)} {σ : L2.St} {H : Hp} {s : Shared} (I : Inv X pins σ H s) : ∀ (ds : List PyData) {xs : List V} {us : List Value},zd X.K H xs ds→Vals xs us→∃ as,ReadsAll s.heap us ds as
  | [],_,us,h,r=>by
    unfold zd at h; subst h
    cases r
    exact ⟨_,.nil⟩
  | d :: ds,_,us,h,r=>by
    unfold zd at h
    obtain ⟨y,ys,rfl,h2,h3⟩:=h
    cases r with
    | cons r1 r2 =>
      obtain ⟨as,q⟩:=zf.reads I d h2 r1
      obtain ⟨bs,q'⟩:=zd.reads I ds h3 r2
      exact ⟨_,.cons q q'⟩
end
section
variable {X : Cx}
noncomputable def zbO (K : PySem.W.Frag) (n : Nat) : R2:=fun x y H Q=>∃ d e,zf K H x d∧zf K H y e∧d.canLay0=true∧e.canLay0=true∧min d.depth e.depth≤n∧Q (.bl (PyData.eqv d e)) H
noncomputable def zbP (K : PySem.W.Frag) (n : Nat) : R2:=fun x y H Q=>∃ d e,zf K H x d∧zf K H y e∧d.canLay0=true∧e.canLay0=true∧min d.depth e.depth≤n∧Q (.bl (!PyData.eqv d e)) H
theorem Zt {n : Nat} (hu : X.A.units + n < cLine) : OpR X (compareOp .Eq) (zbO X.K n):=by
  intro pins s σ H x y v u Q I rx ry h
  obtain ⟨d,e,hd,he,l1,l2,hn,q⟩:=h
  obtain ⟨as,r1⟩:=zf.reads I d hd rx
  obtain ⟨bs,r2⟩:=zf.reads I e he ry
  exact SeqAt.compareEq_reads r1 r2 l1 l2 (by omega) ⟨.bl _,H,I,rfl,q⟩
theorem zac {n : Nat} (hu : X.A.units + n < cLine) : OpR X (compareOp .NotEq) (zbP X.K n):=by
  intro pins s σ H x y v u Q I rx ry h
  obtain ⟨d,e,hd,he,l1,l2,hn,q⟩:=h
  obtain ⟨as,r1⟩:=zf.reads I d hd rx
  obtain ⟨bs,r2⟩:=zf.reads I e he ry
  exact SeqAt.compareNe_reads r1 r2 l1 l2 (by omega) ⟨.bl _,H,I,rfl,q⟩
noncomputable def tyName (K : PySem.W.Frag) (H : Hp) (x : V) (T : String) : Prop:=match x with
  | .non=>T="NoneType"
  | .bl _=>T="bool"
  | .int _=>T="int"
  | .str _=>T="str"
  | .ref a=>(T="list"∧((∃ xs,H a=some (.lst xs))∨∃ o xs,H a=some (.frz o (.lst xs))))∨(T="tuple"∧∃ xs,H a=some (.tup xs))∨(T="dict"∧∃ kvs,H a=some (.dK kvs))
  | _=>False
theorem tyName.of {K : PySem.W.Frag} {H : Hp} {x : V} {T : String} (h : tyName K H x T) : TyOf K H x (.type T):=by
  cases x with
  | non=>cases (show T="NoneType" from h); exact .non
  | bl b=>cases (show T="bool" from h); exact .bl b
  | int i=>cases (show T="int" from h); exact .int i
  | str z=>cases (show T="str" from h); exact .str z
  | ref a =>
    rcases h with ⟨rfl,⟨xs,e⟩ | ⟨o,xs,e⟩⟩ | ⟨rfl,xs,e⟩ | ⟨rfl,kvs,e⟩
    · exact .lst e
    · exact .frz e
    · exact .tup e
    · exact .dK e
  | _=>exact (show False from h).elim
theorem yr : CallR X (.builtin "isinstance") (fun xs H Q=>∃ x S T b,xs=[x,.ty T]∧tyName X.K H x S∧PySem.W.kitOne X.K (.type S) (.type T)=some b∧Q (.bl b) H):=by
  intro pins s σ H xs us Q I r h
  obtain ⟨x,S,T,b,rfl,ty,e,q⟩:=h
  obtain ⟨u,w',rfl,rx,ry⟩:=vals2 r
  cases ry
  exact isinst_ok I rx ty.of e fun tk=>⟨.bl b,H,I.tok _,rfl,q⟩
end
structure ji (J : It) (xs : List V) (P : Hp→Prop) : Prop where
  go : ∀ i H,P H→i < xs.length→J.go i H
  stop : ∀ H,P H→J.stop xs.length H
  yld : ∀ i H x H',P H→i < xs.length→J.yld i H x H'→H'=H∧xs[i]?=some x
theorem j6 {K : PySem.W.Frag} {a : Addr} {xs : List V} : ji (Itl K a) xs (fun H=>SqL K H a xs) where
  go:=fun i H h hi=>⟨xs,xs[i],h,by simp [hi]⟩
  stop:=fun H h=>⟨xs,h,Nat.le_refl _⟩
  yld:=fun i H x H' h _ y=>⟨y.1,y.2 xs h⟩
theorem jk {lo : Int} {n : Nat} {P : Hp→Prop} : ji (Itr lo n) ((List.range n).map fun i=>V.int (lo + (i : Nat))) P where
  go:=fun i H _ hi=>(by simpa using hi : i < n)
  stop:=fun H _=>by show n≤_; simp
  yld:=fun i H x H' _ hi y=>by
    obtain ⟨e1,e2⟩:=y
    subst e2
    have hi' : i < n:=by simpa using hi
    exact ⟨e1,by rw [List.getElem?_map,List.getElem?_range hi']; rfl⟩
theorem YN {J : It} {xs : List V} {P : Hp→Prop} {D : Addr} {g : TG} {tc : TT} {te : TE} {Q : Hp→Prop} {σ : L2.St} {H : Hp} (Y : ji J xs P) (Pv : Nat→List V→L2.St→Hp→Prop) (h0 : Pv 0 [] σ H)
    (hD : ∀ i ys σ H,Pv i ys σ H→P H∧H D=some (.lst ys)∧ys.length≤i) (hz : xs.length < sizeLine)
    (step : ∀ i x ys σ H,xs[i]?=some x→Pv i ys σ H→g x σ H fun σ2 H2=>tc σ2 H2 fun b H3=>if b=true then te σ2 H3 fun y H4=>H4 D=some (.lst ys)∧Pv (i + 1) (ys ++ [y]) σ2 (upd H4 D (.lst (ys ++ [y]))) else Pv (i + 1) ys σ2 H3)
    (hq : ∀ ys σ H,Pv xs.length ys σ H→Q H) : ∃ W : Nat→Nat→List V→L2.St→Hp→Prop,(∃ m,W 0 m [] σ H)∧jL D J g tc te Q W:=by
  refine ⟨fun i m ys σ H=>m=xs.length - i∧i≤xs.length∧Pv i ys σ H,⟨xs.length,by simp,Nat.zero_le _,h0⟩,?_⟩
  rintro i m ys σ H ⟨rfl,hi,p⟩
  obtain ⟨h1,h2,h3⟩:=hD i ys σ H p
  refine ⟨h2,by omega,?_⟩
  by_cases hlt : i < xs.length
  · refine .inr ⟨Y.go i H h1 hlt,fun y σ2 H4=>H4 D=some (.lst ys)∧Pv (i + 1) (ys ++ [y]) σ2 (upd H4 D (.lst (ys ++ [y]))),fun σ2 H3=>Pv (i + 1) ys σ2 H3,fun y σ2 H4 q=>⟨q.1,xs.length - (i + 1),by omega,rfl,hlt,q.2⟩,
      fun σ2 H3 q=>⟨xs.length - (i + 1),by omega,rfl,hlt,q⟩,fun x H1 y=>?_⟩
    obtain ⟨e,y'⟩:=Y.yld i H x H1 h1 hlt y
    subst e
    exact step i x ys σ _ y' p
  · have e : i=xs.length:=by omega
    subst e
    exact .inl ⟨Y.stop H h1,hq ys σ H p⟩
end L3
namespace L3
open PySem PySem.Spec PyProof.Rows L2
theorem jl {J : It} {xs : List V} {P : Hp→Prop} {D : Addr} {g : TG} {tc : TT} {te : TE} {Q : Hp→Prop} {σ : L2.St} {H : Hp} (hD : H D=none) (Y : ji J xs P) (S : L2.St→Prop) (f : V→Option V) (h0 : S σ) (hP : ∀ H',Same H H'→P H') (hz : xs.length < sizeLine)
    (step : ∀ (x : V) (ys : List V) (σ : L2.St) (H' : Hp) (R1 : L2.St→V→Hp→Prop) (R0 : L2.St→Hp→Prop),x∈xs→S σ→Same H H'→(∀ σ2 y H4,S σ2→f x=some y→Same H' H4→R1 σ2 y H4)→(∀ σ2 H3,S σ2→f x=none→Same H' H3→R0 σ2 H3) →
      g x σ H' fun σ2 H2=>tc σ2 H2 fun b H3=>if b=true then te σ2 H3 fun y H4=>R1 σ2 y H4 else R0 σ2 H3)
    (hq : ∀ H',Same H H'→H' D=some (.lst (xs.filterMap f))→Q H') : ∃ W : Nat→Nat→List V→L2.St→Hp→Prop,(∃ m,W 0 m [] σ (upd H D (.lst [])))∧jL D J g tc te Q W:=by
  have up : ∀ {H' : Hp} {o : HO},Same H H'→Same H (upd H' D o):=fun {H' o} s b ob e=>by
    rw [upd_ne (ne_of_none e hD)]
    exact s b ob e
  refine YN Y (fun i ys σ H'=>Same H H'∧H' D=some (.lst ys)∧ys=(xs.take i).filterMap f∧S σ) ⟨up (Same.refl H),upd_same,by simp,h0⟩ (fun i ys σ H' ⟨s,e,e2,_⟩=>⟨hP H' s,e,?_⟩) hz (fun i x ys σ H' hx ⟨s,e,e2,hS⟩=>?_) fun ys σ H' ⟨s,e,e2,_⟩=>?_
  · rw [e2]
    exact Nat.le_trans (List.length_filterMap_le _ _) (by rw [List.length_take]; omega)
  · have hi : i < xs.length:=(List.getElem?_eq_some_iff.mp hx).1
    have et : xs.take (i + 1)=xs.take i ++ [x]:=by rw [List.take_succ,hx]; rfl
    refine step x ys σ H' _ _ (List.mem_of_getElem? hx) hS s (fun σ2 y H4 h2 hf s4=>⟨s4 _ _ e,up (s.trans s4),upd_same,?_,h2⟩) fun σ2 H3 h2 hf s3=>⟨s.trans s3,s3 _ _ e,?_,h2⟩
    · rw [et,List.filterMap_append,← e2]; simp [hf]
    · rw [et,List.filterMap_append,← e2]; simp [hf]
  · refine hq H' s ?_
    rw [e,e2,List.take_length]
end L3
namespace L3
open PySem PySem.Spec PyProof.Rows L2
section
variable {X : Cx}
end
end L3
namespace L3
open PySem PySem.Spec PyProof.Rows L2
section
variable {X : Cx}
noncomputable abbrev TF:=L2.St→Hp→Str→(Str→Hp→Prop)→Prop
noncomputable def PF (X : Cx) (es : List Expr) (t : TF) : Prop :=
  ∀ (pins : List (Addr × Obj)) (s : Shared) (σ : L2.St) (H : Hp) (acc : Str) (Q : Str→Hp→Prop),Inv X pins σ H s→t σ H acc Q→wpAny (model X.prog X.w) X.A (joinParts acc (evalEach es X.env)) (EP X pins σ fun v H'=>∃ z,v = .str z∧Q z H') X.xe s
end
end L3
namespace L3
open PySem PySem.Spec PyProof.Rows L2
section
variable (K : PySem.W.Frag)
theorem vd : PySem.W.kitOne K (.type "int") (.type "int")=some true:=by kernel_rfl
theorem wm : PySem.W.kitOne K (.type "int") (.type "bool")=some false:=by kernel_rfl
theorem jd : PySem.W.kitOne K (.type "list") (.type "list")=some true:=by kernel_rfl
theorem wN : PySem.W.kitOne K (.type "tuple") (.type "tuple")=some true:=by kernel_rfl
end
theorem Same.upd {H H' : Hp} {a : Addr} {o : HO} (s : Same H H') (h : H a=none) : Same H (L2.upd H' a o):=fun b ob e=>by
  rw [upd_ne (ne_of_none e h)]
  exact s b ob e
theorem Same.zp {H : Hp} {a : Addr} {o : HO} (h : H a=none) : Same H (L2.upd H a o):=Same.upd (Same.refl H) h
end L3
namespace L3
open PySem PySem.Spec PyProof.Rows L2
noncomputable def VM (sc : Scope) (M : List Str) (i : Nat) (x : Str) : Bool :=
  (M[i]? == some x) && (sc.names.lookup x == some .local || sc.names.lookup x == some .cell || sc.names.lookup x == some .free) && !(x == ("__debug__" : Str)) && !(x == ("__classdict__" : Str))
noncomputable def setB (sc : Scope) (M : List Str) (i : Nat) (x : Str) : Bool:=(M[i]? == some x) && decide M.Nodup && sc.names.lookup x == some .local
noncomputable def Yn (sc : Scope) (M : List Str) (i : Nat) (x : Str) : Bool:=(M[i]? == some x) && decide M.Nodup && sc.names.lookup x == some .cell
noncomputable def glB (sc : Scope) (x : Str) : Bool:=(sc.names.lookup x == some .globalImplicit) && !(x == ("__debug__" : Str)) && !(x == ("__name__" : Str))
noncomputable def zC (scope sc : Scope) : Scope :=
  { scope with names:=scope.names.map fun (n,k)=>if (k == .free && sc.kind == .function && sc.names.lookup n == some .cell) then (n,.cell) else (n,k) }
section
variable {X : Cx} {i : Nat} {x : Str} {pos : Pos} {sc : Scope} {M : List Str}
theorem pvN (h1 : X.env.scope=sc) (h2 : X.N=M) (hb : VM sc M i x=true) : PE X (.Name x pos) (tVar i):=by
  unfold VM at hb
  simp only [Bool.and_eq_true,Bool.or_eq_true,Bool.not_eq_true',beq_iff_eq] at hb
  obtain ⟨⟨⟨a1,a2⟩,a3⟩,a4⟩:=hb
  refine pe_var (by rw [h2]; exact a1) ?_ a3 a4
  unfold Vis
  rw [h1]
  rcases a2 with (a2 | a2) | a2
  · exact .inl a2
  · exact .inr (.inl a2)
  · exact .inr (.inr a2)
theorem pvA (i : Nat) (sc : Scope) (M : List Str) (h1 : X.env.scope=sc) (h2 : X.N=M) (hb : VM sc M i x=true:=by decide +kernel) : PE X (.Name x pos) (tVar i):=pvN h1 h2 hb
theorem pgN (h1 : X.env.scope=sc) (h2 : X.N=M) (hb : setB sc M i x=true) : PG X (.Name x pos) (gName i):=by
  unfold setB at hb
  simp only [Bool.and_eq_true,decide_eq_true_eq,beq_iff_eq] at hb
  obtain ⟨⟨a1,a2⟩,a3⟩:=hb
  have l : X.env.scope.names.lookup x=some .local:=by rw [h1]; exact a3
  exact pg_name (by rw [h2]; exact a2) (by rw [h2]; exact a1) (.inl l) (.inr l)
theorem pgC (h1 : X.env.scope=sc) (h2 : X.N=M) (h3 : X.fn x=true) (hb : Yn sc M i x=true) : PG X (.Name x pos) (gName i):=by
  unfold Yn at hb
  simp only [Bool.and_eq_true,decide_eq_true_eq,beq_iff_eq] at hb
  obtain ⟨⟨a1,a2⟩,a3⟩:=hb
  have l : X.env.scope.names.lookup x=some .cell:=by rw [h1]; exact a3
  exact pg_name (by rw [h2]; exact a2) (by rw [h2]; exact a1) (.inr l) (.inl h3)
variable {e : Expr} {te : TE} {pos' : Pos}
theorem psN (h1 : X.env.scope=sc) (h2 : X.N=M) (hb : setB sc M i x=true) (he : PE X e te) (hs : swapsWith e (some (.Name x pos')) pos.line X.env=pure false:=by rfl) : PS X (.Assign [.Name x pos'] e pos) (tAsg te (gName i)):=by
  unfold setB at hb
  simp only [Bool.and_eq_true,decide_eq_true_eq,beq_iff_eq] at hb
  obtain ⟨⟨a1,a2⟩,a3⟩:=hb
  have l : X.env.scope.names.lookup x=some .local:=by rw [h1]; exact a3
  exact ps_set (by rw [h2]; exact a2) (by rw [h2]; exact a1) (.inl l) he hs (.inr l)
theorem psC (h1 : X.env.scope=sc) (h2 : X.N=M) (h3 : X.fn x=true) (hb : Yn sc M i x=true) (he : PE X e te) (hs : swapsWith e (some (.Name x pos')) pos.line X.env=pure false:=by rfl) : PS X (.Assign [.Name x pos'] e pos) (tAsg te (gName i)):=by
  unfold Yn at hb
  simp only [Bool.and_eq_true,decide_eq_true_eq,beq_iff_eq] at hb
  obtain ⟨⟨a1,a2⟩,a3⟩:=hb
  have l : X.env.scope.names.lookup x=some .cell:=by rw [h1]; exact a3
  exact ps_set (by rw [h2]; exact a2) (by rw [h2]; exact a1) (.inr l) he hs (.inl h3)
theorem glN (h1 : X.env.scope=sc) (hb : glB sc x=true) : Gl X x∧(x == ("__debug__" : Str))=false∧x≠"__name__":=by
  unfold glB at hb
  simp only [Bool.and_eq_true,Bool.not_eq_true',beq_iff_eq] at hb
  obtain ⟨⟨a1,a2⟩,a3⟩:=hb
  refine ⟨?_,a2,fun z=>?_⟩
  · show X.env.scope.names.lookup x=_
    rw [h1]
    exact a1
  · rw [beq_eq_false_iff_ne] at a3
    exact a3 z
end
section
variable {X : Cx} {CX : CXT} {k : Nat} {f : Addr} {fd : FuncData} {ps : List Str} {sp : Sp} {dvs : List V} {ds : List Value} {E : XK} {x : Str} {p pos : Pos} {e : Expr} {es : List Expr} {t : TA} {sc : Scope} {r : List V→Hp→VK→Prop} {id T : String}
theorem zq (F : FnOk X.prog X.w X.K X.mg X.base CX k f fd ps sp) (hr : Room k X.A) (h1 : X.env.scope=sc) (hg : glB sc x=true) (hm : X.mg x=some (.ref f)) (hk : PySem.W.keepIn X.K (.ref f)=true) (hb : Binds X.K fd ps ds) (hd : Vals dvs ds) (hx : Passes CX X E)
    (ha : PA X (e :: es) t) (he : starEach (e :: es) X.env=(false,eval e X.env) :: starEach es X.env:=by rfl) (hpl : (backTo pos (starEach es X.env)).any (·.1)=false:=by rfl) : PE X (.Call (.Name x p) (e :: es) [] pos) (tCall sp dvs E t) :=
  pe_call F hr (glN h1 hg).1 hm hk hb hd hx ha (glN h1 hg).2.1 he hpl
theorem zo (hc : CallR X (.builtin id) r) (h1 : X.env.scope=sc) (hg : glB sc x=true) (hm : X.mg x=none) (hv : bootBuiltins x=some (.builtin id)) (ha : PA X (e :: es) t)
    (he : starEach (e :: es) X.env=(false,eval e X.env) :: starEach es X.env:=by rfl) (hpl : (backTo pos (starEach es X.env)).any (·.1)=false:=by rfl) : PE X (.Call (.Name x p) (e :: es) [] pos) (tCB r t) :=
  pe_callB hc (glN h1 hg).1 hm hv ha (glN h1 hg).2.2 (glN h1 hg).2.1 he hpl
theorem yh (hc : CallR X (.type T) r) (h1 : X.env.scope=sc) (hg : glB sc x=true) (hm : X.mg x=none) (hv : bootBuiltins x=some (.type T)) (ha : PA X (e :: es) t)
    (he : starEach (e :: es) X.env=(false,eval e X.env) :: starEach es X.env:=by rfl) (hpl : (backTo pos (starEach es X.env)).any (·.1)=false:=by rfl) : PE X (.Call (.Name x p) (e :: es) [] pos) (tCB r t) :=
  pe_callTy hc (glN h1 hg).1 hm hv ha (glN h1 hg).2.2 (glN h1 hg).2.1 he hpl
theorem yF {v : V} {u : Value} (h1 : X.env.scope=sc) (hg : glB sc x=true) (hm : X.mg x=none) (hv : bootBuiltins x=some u) (r : RelV v u) : PE X (.Name x pos) (tC v):=pe_bltn (glN h1 hg).1 hm hv r (glN h1 hg).2.2 (glN h1 hg).2.1
theorem glR (h1 : X.env.scope=sc) (hg : glB sc x=true) : Gl X x:=(glN h1 hg).1
end
theorem z8 : bootBuiltins "len"=some (.builtin "len"):=by decide +kernel
theorem Vc : bootBuiltins "sum"=some (.builtin "sum"):=by decide +kernel
theorem jm : bootBuiltins "sorted"=some (.builtin "sorted"):=by decide +kernel
theorem zS : bootBuiltins "isinstance"=some (.builtin "isinstance"):=by decide +kernel
theorem zad : bootBuiltins "min"=some (.builtin "min"):=by decide +kernel
theorem Zu : bootBuiltins "int"=some (.type "int"):=by decide +kernel
theorem ZS : bootBuiltins "bool"=some (.type "bool"):=by decide +kernel
theorem yG : bootBuiltins "list"=some (.type "list"):=by decide +kernel
theorem YO : bootBuiltins "tuple"=some (.type "tuple"):=by decide +kernel
theorem YQ : bootBuiltins "enumerate"=some (.type "enumerate"):=by decide +kernel
end L3
namespace L3
open PySem PySem.Spec PyProof.Rows L2
theorem VN {X : Cx} {elt tg iter : Expr} {ifs : List Expr} {scope : Scope} {pos : Pos} {N : List Str} {own : Nat} {js : List Nat} {wi : TI} {g : TG} {tc : TT} {te : TE} {i : Nat} {x : Str} {px : Pos} {sc : Scope} {M : List Str} (hc : X.calm=true) (h1 : X.env.scope=sc) (h2 : X.N=M) (hb : setB sc M i x=true)
    (C : xN X scope N own js) (hi : PI X tg iter wi) (hg : ∀ fp s H,PG (zL X N scope fp s H) tg g) (ht : ∀ fp s H,Za (zL X N scope fp s H) ifs tc) (he : ∀ fp s H,PE (zL X N scope fp s H) elt te) {spos : Pos}
    (hsw : swapsWith (.ListComp elt [⟨tg,iter,ifs,0⟩] scope pos) (some (.Name x px)) spos.line X.env=pure true) (hs : ∀ x,foldedSetIterable iter X.env x=pure x:=by intro _; rfl) :
    PS X (.Assign [.Name x px] (.ListComp elt [⟨tg,iter,ifs,0⟩] scope pos) spos) (Jr i own js wi g tc te):=by
  unfold setB at hb
  simp only [Bool.and_eq_true,decide_eq_true_eq,beq_iff_eq] at hb
  obtain ⟨⟨a1,a2⟩,a3⟩:=hb
  exact JL hc (by rw [h2]; exact a2) (by rw [h2]; exact a1) (by show X.env.scope.names.lookup x=_; rw [h1]; exact a3) C hi hg ht he hsw hs
end L3
namespace L4
open PySem PySem.Spec PyProof.Rows L2 L3
structure Gr (D H D' H' : Hp) : Prop where
  dd : Same D D'
  hh : Same H H'
  dh : Same D' H'
  nw : ∀ b o,H b=some o→D b=none→D' b=none
section
variable {D D' D'' H H' H'' : Hp} {p : Addr} {o : HO} {K : PySem.W.Frag}
theorem Gr.refl (s : Same D H) : Gr D H D H:=⟨Same.refl D,Same.refl H,s,fun _ _ _ n=>n⟩
theorem Gr.trans (a : Gr D H D' H') (b : Gr D' H' D'' H'') : Gr D H D'' H'' :=
  ⟨a.dd.trans b.dd,a.hh.trans b.hh,b.dh,fun c o e n=>b.nw c o (a.hh c o e) (a.nw c o e n)⟩
theorem Gr.heap (s : Same D H) (h : Same H H') : Gr D H D H':=⟨Same.refl D,h,s.trans h,fun _ _ _ n=>n⟩
theorem JM (s : Same D H) (h : H p=none) : D p=none:=s.free h
theorem Gr.lay (s : Same D H) (h : H p=none) : Gr D H (upd D p o) (upd H p o):=by
  refine ⟨Same.zp (JM s h),Same.zp h,fun b u e=>?_,fun b u e n=>?_⟩
  · by_cases hb : b=p
    · subst hb; rw [upd_same] at e ⊢; exact e
    · rw [upd_ne hb] at e ⊢; exact s b u e
  · rw [upd_ne (ne_of_none e h)]; exact n
theorem Gr.ZT (s : Same D H) (h : H p=none) : Gr D H D (upd H p o):=Gr.heap s (Same.zp h)
theorem Gr.old (a : Gr D H D' H') (e : H p=some o) (n : D p=none) : H' p=some o∧D' p=none:=⟨a.hh p o e,a.nw p o e n⟩
theorem zT (s : Same D H) (n : D p=none) : Same D (upd H p o):=fun b u e=>by
  rw [upd_ne (ne_of_none e n)]; exact s b u e
end
end L4
namespace L3
open PySem PySem.Spec PyProof.Rows L2 L4
section
variable {D D' D'' H H' H'' : Hp} {p : Addr} {o : HO} {K : PySem.W.Frag}
theorem zd.length : ∀ {ds : List PyData} {xs : List V},zd K H xs ds→xs.length=ds.length
  | [],xs,h=>by unfold zd at h; rw [h]; rfl
  | d :: ds,xs,h=>by
    unfold zd at h
    obtain ⟨y,ys,rfl,_,h3⟩:=h
    rw [List.length_cons,List.length_cons,zd.length h3]
theorem zd.nil : zd K H [] []:=by unfold zd; rfl
theorem zd.cons {x : V} {xs : List V} {d : PyData} {ds : List PyData} (h1 : zf K H x d) (h2 : zd K H xs ds) : zd K H (x :: xs) (d :: ds):=by unfold zd; exact ⟨x,xs,rfl,h1,h2⟩
theorem zd.at_ : ∀ {ds : List PyData} {xs : List V} {i : Nat} {d : PyData},zd K H xs ds→ds[i]?=some d→∃ x,xs[i]?=some x∧zf K H x d
  | [],_,_,_,_,e=>by simp at e
  | d :: ds,xs,0,d',h,e=>by
    unfold zd at h
    obtain ⟨y,ys,rfl,h2,h3⟩:=h
    simp at e; subst e
    exact ⟨y,rfl,h2⟩
  | d :: ds,xs,i + 1,d',h,e=>by
    unfold zd at h
    obtain ⟨y,ys,rfl,h2,h3⟩:=h
    obtain ⟨x,e1,e2⟩:=zd.at_ (i:=i) h3 (by simpa using e)
    exact ⟨x,by simpa using e1,e2⟩
theorem zd.back : ∀ {ds : List PyData} {xs : List V} {i : Nat} {x : V},zd K H xs ds→xs[i]?=some x→∃ d,ds[i]?=some d∧zf K H x d:=fun {ds xs i x} h e=>by
  have hl:=zd.length h
  have hi : i < xs.length:=(List.getElem?_eq_some_iff.mp e).1
  obtain ⟨y,e1,e2⟩:=zd.at_ h (List.getElem?_eq_getElem (show i < ds.length by omega))
  rw [e] at e1
  cases e1
  exact ⟨_,List.getElem?_eq_getElem (by omega),e2⟩
theorem zf.gr {v : V} {d : PyData} (h : zf K D v d) (g : Gr D H D' H') : zf K D' v d:=zf.same g.dd d h
theorem zd.up {v : List V} {d : List PyData} (h : zd K D v d) (s : Same D H) : zd K H v d:=zd.same s d h
theorem zf.mkL {xs : List V} {ds : List PyData} (h : zd K D xs ds) (e : H p=some (.lst xs)) (s : Same D H) : zf K H (.ref p) (.list ds):=by
  unfold zf
  exact ⟨p,xs,rfl,Rd.of e,h.up s⟩
theorem zf.mkT {xs : List V} {ds : List PyData} (h : zd K D xs ds) (e : H p=some (.tup xs)) (s : Same D H) : zf K H (.ref p) (.tuple ds):=by
  unfold zf
  exact ⟨p,xs,rfl,e,h.up s⟩
theorem zf.tup {v : V} {ds : List PyData} (h : zf K H v (.tuple ds)) : ∃ a xs,v = .ref a∧H a=some (.tup xs)∧zd K H xs ds:=by unfold zf at h; exact h
theorem zf.int {v : V} {i : Int} (h : zf K H v (.int i)) : v = .int i:=by unfold zf at h; exact h
theorem zf.ofInt {i : Int} : zf K H (.int i) (.int i):=by unfold zf; rfl
theorem zd.YR {d : PyData} {ds : List PyData} {xs : List V} (h : zd K H xs (d :: ds)) : ∃ y ys,xs=y :: ys∧zf K H y d∧zd K H ys ds:=by unfold zd at h; exact h
theorem zd.none {xs : List V} (h : zd K H xs []) : xs=[]:=by unfold zd at h; exact h
theorem zd.append : ∀ {ds es : List PyData} {xs ys : List V},zd K H xs ds→zd K H ys es→zd K H (xs ++ ys) (ds ++ es)
  | [],es,xs,ys,h,k=>by unfold zd at h; subst h; exact k
  | d :: ds,es,xs,ys,h,k=>by
    unfold zd at h
    obtain ⟨y,zs,rfl,h2,h3⟩:=h
    exact zd.cons h2 (zd.append h3 k)
end
end L3
namespace L4
open PySem PySem.Spec PyProof.Rows L2 L3
theorem take_snoc {α : Type} {l : List α} {i : Nat} {x : α} (h : l[i]?=some x) : l.take (i + 1)=l.take i ++ [x]:=by rw [List.take_succ,h]; rfl
end L4
namespace L4
open PySem L2
theorem YS {A : Around} {k : Nat} (hr : Room k A) : A.units + 60 < cLine:=Nat.lt_of_le_of_lt (Nat.add_le_add_left (by decide : 60≤64) _) hr.units
end L4
namespace L4
open PySem PySem.Spec PyProof.Rows L2 L3
noncomputable def cs (x : Str) : List Nat:=x.cps.toList
structure Figs (n : Int) (t : Str) : Prop where
  pos : 1≤t.length
  most : t.length≤60
  digs : ∀ c∈cs t,48≤c∧c≤57
  reads : PySem.intText? t=some n
  lead : t="0"∨(cs t).head?≠some 48
end L4
namespace L4
open PySem L2
end L4
namespace L4
open PySem PySem.Spec PyProof.Rows L2 L3
section
variable {X : Cx} {K : PySem.W.Frag}
theorem kIx {r : PySem.W.Frag→R2} (h : X.K=K) (o : IxR X (r X.K)) : IxR X (r K):=h ▸ o
theorem Js {es : List Expr} {k : Nat} {t : TGs} {n : Nat} {pos : Pos} (h : X.K=K) (o : PG X (.Tuple es k pos) (gTup X.K n t)) : PG X (.Tuple es k pos) (gTup K n t):=h ▸ o
end
end L4
namespace L4
open PySem PySem.Spec PyProof.Rows L2 L3
noncomputable def zbQ (t u : TS) : TS:=fun D σ H=>∃ P : L2.St→Hp→Prop,t { D with nx:=P } σ H∧∀ σ' H',P σ' H'→u D σ' H'
theorem JN {X : Cx} {st : Stmt} {rest : List Stmt} {t u : TS} (h1 : PS X st t) (h2 : PSs X rest u) : PSs X (st :: rest) (zbQ t u):=by
  intro pins s σ H D I ⟨P,h,k⟩
  refine wpAny_execs_cons (thn (h1 pins s σ H { D with nx:=P } I h) fun f s1 q=>?_)
  cases f with
  | next=>obtain ⟨σ',H',I',q⟩:=q; exact h2 pins s1 σ' H' D I' (k σ' H' q)
  | ret v=>exact q
  | brk=>exact q
  | cont=>exact q
end L4
namespace L5
open PySem PySem.Spec PyProof.Rows L2 L3 L4
open Sem (wp)
section
variable {prog : Program} {w : World} {A : Around} {E : Value→Shared→Prop} {s : Shared}
end
end L5
namespace L5
open PySem PySem.Spec PyProof.Rows L2 L3 L4
open Sem (wp)
section
variable {prog : Program} {w : World} {A : Around} {E : Value→Shared→Prop} {s : Shared}
end
theorem Vd {prog : Program} {w : World} {A : Around} (hh : A.handled=none) (it l : Addr) (hne : l≠it) (items : Array Value) (lo : Nat) :
    Draws prog w A it [it,l] (lo + items.size) (fun i v=>∃ j,i=lo + j∧items[j]?=some v) (fun i h=>∃ j,i=lo + j∧h.IsListIter it l j∧h.IsList l items) where
  live:=fun _ _ ⟨_,_,st⟩=>(Draws.list (prog:=prog) (w:=w) hh it l hne items).live _ _ st
  frame:=fun _ _ _ ⟨j,e,st⟩ k=>⟨j,e,(Draws.list (prog:=prog) (w:=w) hh it l hne items).frame _ _ _ st k⟩
  item:=fun i s Q E hi ⟨j,e,st⟩ q=>(Draws.list (prog:=prog) (w:=w) hh it l hne items).item j s Q E (by omega) st fun x h' tk p st' sm=>q x h' tk ⟨j,e,p⟩ ⟨j + 1,by omega,st'⟩ sm
  done:=fun s Q E ⟨j,e,st⟩ q=>(Draws.list (prog:=prog) (w:=w) hh it l hne items).done s Q E (by rw [show items.size=j by omega]; exact st) q
theorem Ve {prog : Program} {w : World} {A : Around} (hh : A.handled=none) (it l : Addr) (items : Array Value) :
    Draws prog w A it [it,l] 0 (fun _ _=>True) (fun _ h=>∃ i,items.size≤i∧h.IsListIter it l i∧h.IsList l items) where
  live:=fun _ _ ⟨_,_,⟨o,e,_⟩,_⟩=>⟨o,e⟩
  frame:=fun _ _ _ ⟨i,hi,a,b⟩ k=>⟨i,hi,a.at fun o e=>k it (by simp) o e,b.at fun o e=>k l (by simp) o e⟩
  item:=fun _ _ _ _ hi=>absurd hi (Nat.not_lt_zero _)
  done:=fun _ _ _ ⟨_,hi,a,b⟩ q=>wpAny_nextOf_list_end hh a b (Array.getElem?_eq_none hi) q
theorem _root_.L2.Inv.JO {X : Cx} {pins : List (Addr × Obj)} {σ : L2.St} {H : Hp} {s : Shared} {h' : Heap} {t' : Nat} {its : List Addr} (I : Inv X pins σ H s) (k : ∀ b o,b∉its→s.heap.get? b=some o→h'.get? b=some o) (hf : ∀ b∈its,FpOk X pins H b) :
    Inv X pins σ H { s with heap:=h',toks:=t' }:=by
  have nit : ∀ b u,H b=some u→b∉its:=fun b u e z=>by rw [(hf b z).1] at e; cases e
  have hL : X.env.locals∉its:=fun z=>(hf _ z).2.1 rfl
  refine I.step (g':=s.gens) (d':=s.drawn) (ch:=its) (fun b hb=>⟨(hf b hb).2.2.2.1,(hf b hb).2.1,(hf b hb).2.2.2.2.1,(hf b hb).2.2.2.2.2⟩) (fun b o _ _ hc e _=>k b o hc e) (fun b o _ _ hc e _=>⟨o.slots,k b o hc e⟩) (fun _ _ _ _ n=>n)
    (fun b o hc e=>⟨o,k b o hc e⟩) (fun _ _ e=>e) (fun _ _ _ e=>e) (fun b ps e=>⟨#[],by rw [e]; simp⟩) (fun m ⟨o,es,ep,ho,r⟩=>⟨o,es,ep,k _ o hL ho,r⟩) (fun b u e=>?_) I.bare
  refine (I.hok b u e).stay (fun c v hc q=>k c v ?_ q) (fun _ q=>q) fun _ _ q=>q
  rcases hc with z | z
  · rw [z]; exact nit b u e
  · exact nit c _ z
noncomputable def Ite (K : PySem.W.Frag) (a : Addr) (lo : Int) : It :=
  ⟨fun i H=>∃ xs x,SqL K H a xs∧xs[i]?=some x,fun i H v H'=>∃ T y,v = .ref T∧H T=none∧H'=upd H T (.tup [.int (lo + i),y])∧∀ xs,SqL K H a xs→xs[i]?=some y,fun i H=>∃ xs,SqL K H a xs∧xs.length≤i⟩
theorem VO {h : Heap} {a e it : Addr} {c : Int} {old : Value} {items : Array Value} (he : IsEnum h e it c old) (hl : h.IsList a items) : e≠a:=fun z=>by
  obtain ⟨o,eo,co,_⟩:=hl
  rw [← z,show h.get? e=some _ from he] at eo
  rw [← Option.some.inj eo] at co
  exact absurd (show Value.type "enumerate"=Value.type "list" from co) (by decide)
theorem VP {h : Heap} {a it : Addr} {i : Nat} {items : Array Value} (hi : h.IsListIter it a i) (hl : h.IsList a items) : a≠it:=fun z=>by
  obtain ⟨o,eo,co,_⟩:=hl
  obtain ⟨o',eo',co',_⟩:=hi
  rw [z,eo'] at eo
  rw [← Option.some.inj eo,co'] at co
  exact absurd co (by decide)
theorem Vf {P : Program} {w : World} {K : PySem.W.Frag} {elts : List Expr} {kt : Nat} {pt : Pos} (a e it : Addr) (lo : Nat) (hne : e≠it) :
    Turn P w K (.Tuple elts kt pt) (Ite K a lo) [e,it] e (fun i h=>(∃ old,IsEnum h e it ((lo + i : Nat) : Int) old)∧h.IsListIter it a i) where
  mem:=by simp
  obj:=fun i h ⟨⟨old,he⟩,st⟩ b hb=>by
    rcases List.mem_cons.mp hb with rfl | hb
    · exact ⟨_,he,fun v z=>by cases (show Data.fields _=Data.cell v from z)⟩
    · obtain ⟨o,e',c,d⟩:=st
      rw [List.mem_singleton.mp hb]
      exact ⟨o,e',fun v z=>by rw [d] at z; cases z⟩
  keep:=fun i h h' ⟨⟨old,he⟩,st⟩ k=>⟨⟨old,k e (by simp) _ he⟩,st.at fun o e'=>k it (by simp) o e'⟩
  item:=by
    intro X hP hw hK hc i pins s σ H E I hf st hg
    subst hP hw hK
    obtain ⟨⟨old,he⟩,st⟩:=st
    obtain ⟨xs,x,hq,hx⟩:=hg
    obtain ⟨its,rv,p,hz⟩:=I.list hq
    obtain ⟨u,hu,ru⟩:=rv.get hx
    have hil : i < its.length:=(List.getElem?_eq_some_iff.mp hu).1
    have hea:=VO he p.isList
    have hia:=VP st p.isList
    have ec : ((lo + i : Nat) : Int)=(lo : Int) + (i : Nat):=by omega
    refine wpAny_pyNext_enum_itemD (Vd (A:=X.A.in1) (I.ok.hd hc) it a hia its.toArray lo) he ⟨i,rfl,st,p.isList⟩ (by rw [List.size_toArray]; omega) hne (by simp [hne,hea]) fun u' h' tk ⟨j,ej,eu⟩ eo ⟨j',ej',st',_⟩ tp sz kk=>⟨_,rfl,?_⟩
    obtain rfl : j=i:=by omega
    obtain rfl : j'=j + 1:=by omega
    obtain rfl : u'=u:=by
      rw [List.getElem?_toArray,hu] at eu
      exact (Option.some.inj eu).symm
    refine wpAny_letOwnedTupleGo_enum eo fun h2 he2 sm=>?_
    have k2 : ∀ b o,b≠e→h'.get? b=some o→h2.get? b=some o:=fun b o hb q=>Heap.SameBut.extBut sm b o hb q
    have lte : e < s.heap.objs.size:=Heap.lt_size he
    have lti : it < s.heap.objs.size:=by obtain ⟨o,e',_⟩:=id st; exact Heap.lt_size e'
    have zbR : ∀ b o,b∉[e,it]→s.heap.get? b=some o→h2.get? b=some o:=fun b o hb q=>k2 b o (fun z=>hb (by simp [z])) (kk b o (fun z=>hb (by simp [z])) (fun z=>hb (by simp [z])) q)
    have ff : ∀ b∈[e,it],FpOk X pins (upd H s.heap.objs.size (.tup [.int (lo + (j : Nat)),x])) b:=fun b hb=>by
      obtain ⟨z0,z1⟩:=hf b hb
      have hb' : b≠s.heap.objs.size:=by
        rcases List.mem_cons.mp hb with rfl | hb
        · exact Nat.ne_of_lt lte
        · rw [List.mem_singleton.mp hb]; exact Nat.ne_of_lt lti
      exact ⟨by rw [upd_ne hb']; exact z0,z1⟩
    have nw : (s.heap.push { cls := .type "tuple",data := .seq #[.int ((lo + j : Nat) : Int) tk,u'] }).get? s.heap.objs.size=some { cls := .type "tuple",data := .seq #[.int ((lo + j : Nat) : Int) tk,u'] }:=Heap.get?_push_size _ rfl
    have I3 : Inv X pins σ (upd H s.heap.objs.size (.tup [.int (lo + (j : Nat)),x])) { s with heap:=s.heap.push { cls := .type "tuple",data := .seq #[.int ((lo + j : Nat) : Int) tk,u'] },toks:=s.toks } :=
      I.laid (fun b o q=>Heap.get?_push_of_some _ q) (Nat.le_refl _) ⟨by show 2≤sizeLine; decide,[.int ((lo + j : Nat) : Int) tk,u'],.cons ⟨tk,by rw [ec]⟩ (.cons ru .nil),⟨_,nw,rfl,_,rfl⟩⟩
    have I4:=I3.JO (t':=tk + 1) (h':=h2) (its:=[e,it]) (fun b o hb q=>?_) ff
    refine ⟨.ref s.heap.objs.size,_,I4,rfl,⟨_,x,rfl,I.fresh,rfl,fun ys hy=>by rw [I.list_inj hy hq]; exact hx⟩,⟨⟨u',?_⟩,?_⟩,fun b hb=>(ff b hb).1⟩
    rotate_right
    · by_cases hT : b=s.heap.objs.size
      · subst hT
        rw [show o=_ from Option.some.inj ((show _=some o from q).symm.trans nw)]
        exact k2 _ _ (Nat.ne_of_gt lte) tp
      · exact zbR b o hb (by rw [← Heap.get?_push_ne _ _ _ hT]; exact q)
    · rw [show ((lo + (j + 1) : Nat) : Int)=((lo + j : Nat) : Int) + 1 by omega]
      exact he2
    · obtain ⟨o,eo',r⟩:=st'
      exact ⟨o,k2 it o hne.symm eo',r⟩
  done:=by
    intro X hP hw hK hc i pins s σ H E I hf st hg
    subst hP hw hK
    obtain ⟨⟨old,he⟩,st⟩:=st
    obtain ⟨xs,hq,hx⟩:=hg
    obtain ⟨its,rv,p,hz⟩:=I.list hq
    obtain ⟨g0,g1,g2,g3,g4,g5⟩:=hf it (by simp)
    have hl:=rv.length
    exact wpAny_pyNext_enum_endD (Ve (A:=X.A.in1) (I.ok.hd hc) it a its.toArray) he ⟨i,by rw [List.size_toArray]; omega,st,p.isList⟩ fun h' eb=>⟨rfl,I.turned (t':=s.toks) (fun b o hb e=>eb b o hb e) g0 g1 g3 g4 g5⟩
  self:=fun A i s Q E ⟨⟨old,he⟩,_⟩ h=>wpAny_pyIter_enum he h
section
variable {X : Cx} {a : Expr} {ta : TE} {p pos kp ip : Pos} {elts : List Expr} {kt : Nat} {pt : Pos} {j : Option Str}
noncomputable def zbg (K : PySem.W.Frag) (ta : TA) : TI:=fun σ H R=>ta σ H fun vs H1=>∃ l,vs=[.ref l]∧(∃ xs,SqL K H1 l xs)∧R (Ite K l 0) H1
theorem JP {pins : List (Addr × Obj)} {σ : L2.St} {H : Hp} {s : Shared} {R : It→Hp→Prop} {l : Addr} {lo : Nat} {h' : Heap} {E : Value→Shared→Prop} (I : Inv X pins σ H s) (he : IsEnum h' (s.heap.objs.size + 1) s.heap.objs.size lo .none) (hi : h'.IsListIter s.heap.objs.size l 0)
    (kk : ∀ b o,s.heap.get? b=some o→h'.get? b=some o) (q : R (Ite X.K l lo) H) (t : Nat) : wpAny (model X.prog X.w) X.A (pyIter (.ref (s.heap.objs.size + 1))) (PIE X pins σ (.Tuple elts kt pt) R) E { s with heap:=h',toks:=t }:=by
  refine wpAny_pyIter_enum he ⟨_,[s.heap.objs.size + 1,s.heap.objs.size],_,_,H,rfl,I.kept (t':=t) kk,Vf l _ _ lo (Nat.succ_ne_self _),⟨⟨.none,?_⟩,hi⟩,fun b hb=>?_,q⟩
  · rw [Nat.add_zero]; exact he
  · have hb' : s.heap.objs.size≤b:=by
      rcases List.mem_cons.mp hb with rfl | hb
      · omega
      · rw [List.mem_singleton.mp hb]; exact Nat.le_refl _
    exact I.fpOk hb' (I.hok.fresh hb')
theorem jM {ta : TA} (h1 : Gl X "enumerate") (hm : X.mg "enumerate"=none) (ha : PA X [a] ta) (hs : starEach [a] X.env=(false,eval a X.env) :: starEach [] X.env:=by rfl) :
    PI X (.Tuple elts kt pt) (.Call (.Name "enumerate" p) [a] [] pos) (zbg X.K ta):=by
  intro pins s σ H R I h
  refine wpAny_Call_Name_kw (ld_blt I h1 hm YQ (PyProof.Rows.callWith_type1 (thn (ha pos pins s σ H _ I h) fun us s1 ⟨vs,H1,I1,r1,l,ex,⟨xs,hq⟩,q1⟩=>?_) hs rfl))
  subst ex
  obtain ⟨u,rfl,ru⟩:=vals1 r1
  cases ru
  obtain ⟨its,rv,pl,hz⟩:=I1.list hq
  exact call_enumerate_list pl.isList fun h' he hi _ kk=>JP (lo:=0) I1 he hi kk q1 _
end
theorem YT {K : PySem.W.Frag} {a : Addr} {xs : List V} {lo : Int} {g : TG} {tb : TS} {D : Ends} {σ : L2.St} {H : Hp} (Pv : Nat→L2.St→Hp→Prop) (h0 : Pv 0 σ H) (hl : ∀ i σ H,i≤xs.length→Pv i σ H→SqL K H a xs)
    (hs : ∀ i y σ H T,xs[i]?=some y→Pv i σ H→H T=none→g (.ref T) σ (upd H T (.tup [.int (lo + (i : Nat)),y])) fun σ2 H2=>tb { D with nx:=Pv (i + 1),ct:=Pv (i + 1),bk:=D.nx } σ2 H2) (hd : ∀ σ H,Pv xs.length σ H→D.nx σ H) :
    ∃ W : Nat→Nat→L2.St→Hp→Prop,(∃ m,W 0 m σ H)∧∀ i m σ H,W i m σ H →
      ((Ite K a lo).stop i H∧D.nx σ H)∨((Ite K a lo).go i H∧∃ N : L2.St→Hp→Prop,(∀ σ' H',N σ' H'→∃ m',m' < m∧W (i + 1) m' σ' H')∧∀ x H',(Ite K a lo).yld i H x H'→g x σ H' fun σ2 H2=>tb { D with nx:=N,ct:=N,bk:=D.nx } σ2 H2):=by
  refine ⟨fun i m σ H=>m=xs.length - i∧i≤xs.length∧Pv i σ H,⟨xs.length,rfl,Nat.zero_le _,h0⟩,?_⟩
  rintro i m σ H ⟨rfl,hi,p⟩
  have q:=hl i σ H hi p
  by_cases hlt : i < xs.length
  · refine .inr ⟨⟨xs,xs[i],q,by simp [hlt]⟩,Pv (i + 1),fun σ' H' p'=>⟨xs.length - (i + 1),by omega,rfl,hlt,p'⟩,fun x H' ⟨T,y,e1,e2,e3,e4⟩=>?_⟩
    subst e1 e3
    exact hs i y σ H T (e4 xs q) p e2
  · obtain rfl : i=xs.length:=by omega
    exact .inl ⟨⟨xs,q,Nat.le_refl _⟩,hd σ H p⟩
end L5
namespace L5
open PySem PySem.Spec PyProof.Rows L2 L3 L4
noncomputable def yX (f : Nat→V→Option V) (xs : List V) (n : Nat) : List V:=(List.range n).filterMap fun j=>(xs[j]?).bind (f j)
theorem Zv {f : Nat→V→Option V} {xs : List V} {i : Nat} {y : V} (h : xs[i]?=some y) : yX f xs (i + 1)=yX f xs i ++ (f i y).toList:=by
  unfold yX
  rw [List.range_succ,List.filterMap_append,List.filterMap_cons,h]
  cases e : f i y with
  | none=>simp [e]
  | some z=>simp [e]
theorem Z7 {K : PySem.W.Frag} {a : Addr} {xs : List V} {lo : Int} {D : Addr} {g : TG} {tc : TT} {te : TE} {Q : Hp→Prop} {σ : L2.St} {H : Hp} (hD : H D=none) (hl : ∀ H',Same H H'→SqL K H' a xs) (S : L2.St→Prop) (f : Nat→V→Option V) (h0 : S σ) (hz : xs.length < sizeLine)
    (step : ∀ (i : Nat) (y : V) (σ : L2.St) (H' : Hp) (T : Addr) (R1 : L2.St→V→Hp→Prop) (R0 : L2.St→Hp→Prop),xs[i]?=some y→S σ→Same H H'→H' T=none→(∀ σ2 z H4,S σ2→f i y=some z→Same H' H4→R1 σ2 z H4)→(∀ σ2 H3,S σ2→f i y=none→Same H' H3→R0 σ2 H3) →
      g (.ref T) σ (upd H' T (.tup [.int (lo + (i : Nat)),y])) fun σ2 H2=>tc σ2 H2 fun b H3=>if b=true then te σ2 H3 fun z H4=>R1 σ2 z H4 else R0 σ2 H3)
    (hq : ∀ H',Same H H'→H' D=some (.lst (yX f xs xs.length))→Q H') : ∃ W : Nat→Nat→List V→L2.St→Hp→Prop,(∃ m,W 0 m [] σ (upd H D (.lst [])))∧jL D (Ite K a lo) g tc te Q W:=by
  have up : ∀ {H' : Hp} {o : HO},Same H H'→Same H (upd H' D o):=fun {H' o} s b ob e=>by
    rw [upd_ne (ne_of_none e hD)]
    exact s b ob e
  refine ⟨fun i m ys σ H'=>m=xs.length - i∧i≤xs.length∧Same H H'∧H' D=some (.lst ys)∧ys=yX f xs i∧S σ,⟨xs.length,by simp,Nat.zero_le _,up (Same.refl H),upd_same,by unfold yX; simp,h0⟩,?_⟩
  rintro i m ys σ H' ⟨rfl,hi,s,e,e2,hS⟩
  have hlen : ys.length≤i:=by
    rw [e2]
    unfold yX
    exact Nat.le_trans (List.length_filterMap_le _ _) (by rw [List.length_range]; exact Nat.le_refl _)
  refine ⟨e,by omega,?_⟩
  by_cases hlt : i < xs.length
  · refine .inr ⟨⟨xs,xs[i],hl H' s,by simp [hlt]⟩,fun y σ2 H4=>H4 D=some (.lst ys)∧Same H (upd H4 D (.lst (ys ++ [y])))∧ys ++ [y]=yX f xs (i + 1)∧S σ2,fun σ2 H3=>Same H H3∧H3 D=some (.lst ys)∧ys=yX f xs (i + 1)∧S σ2,
      fun y σ2 H4 q=>⟨q.1,xs.length - (i + 1),by omega,rfl,hlt,q.2.1,upd_same,q.2.2.1,q.2.2.2⟩,fun σ2 H3 q=>⟨xs.length - (i + 1),by omega,rfl,hlt,q⟩,fun x H1 ⟨T,y,e1,e3,e4,e5⟩=>?_⟩
    subst e1 e4
    have hy:=e5 xs (hl H' s)
    refine step i y σ H' T (fun σ2 z H4=>_) (fun σ2 H3=>_) hy hS s e3 (fun σ2 z H4 h2 hf s4=>⟨s4 _ _ e,up (s.trans s4),?_,h2⟩) fun σ2 H3 h2 hf s3=>⟨s.trans s3,s3 _ _ e,?_,h2⟩
    · rw [Zv hy,hf,e2]
      rfl
    · rw [Zv hy,hf,e2]
      exact (List.append_nil _).symm
  · obtain rfl : i=xs.length:=by omega
    refine .inl ⟨⟨xs,hl H' s,Nat.le_refl _⟩,hq H' s ?_⟩
    rw [e,e2]
end L5
namespace L4
open PySem PySem.Spec PyProof.Rows L2 L3
theorem Vg {xs : List V} (k : Nat) : cutV xs none (some (k : Int))=xs.take k:=by
  unfold cutV
  rw [HT.sIx_nat,HT.sIx_none,List.drop_zero,Nat.sub_zero]
  by_cases h : k≤xs.length
  · rw [Nat.min_eq_left h]
  · rw [Nat.min_eq_right (by omega),List.take_length,List.take_of_length_le (by omega)]
theorem VQ {xs : List V} (a b : Nat) : cutV xs (some (a : Int)) (some (b : Int))=(xs.drop a).take (b - a):=by
  unfold cutV
  rw [HT.sIx_nat,HT.sIx_nat]
  by_cases h : a≤xs.length
  · rw [Nat.min_eq_left h]
    by_cases h2 : b≤xs.length
    · rw [Nat.min_eq_left h2]
    · rw [Nat.min_eq_right (by omega),List.take_of_length_le (by rw [List.length_drop]; omega),List.take_of_length_le (by rw [List.length_drop]; omega)]
  · rw [Nat.min_eq_right (a:=a) (by omega),List.drop_length,List.drop_of_length_le (by omega)]
    simp
end L4
namespace L6
open PySem PySem.Spec PyProof.Rows L2 L3 L4
noncomputable def zae (xs : Array Nat) : Prop:=∀ i k,i < k→k < xs.size→xs.getD i 0 < xs.getD k 0
structure Good (t : SetTable) (n : Nat) (led : Bool) : Prop where
  fits : t.fits n=true
  led : t.led=led
  rise : t.plain=true→zae t.place
end L6
namespace L6
open PySem PySem.Spec PyProof.Rows L2 L3 L4
open Sem (wp)
section
variable {prog : Program} {w : World} {A : Around} {E : Value→Shared→Prop} {s : Shared}
end
end L6
namespace L6
open PySem PySem.Spec PyProof.Rows L2 L3 L4
open Sem (wp)
theorem Yl {ns : List Int} {i : Nat} (h : i < ns.length) : ns.take (i + 1)=ns.take i ++ [ns.getD i 0]:=by
  rw [List.take_succ,List.getD_eq_getElem?_getD,List.getElem?_eq_getElem h]; rfl
section
variable {prog : Program} {w : World} {A : Around} {E : Value→Shared→Prop} {s : Shared}
end
end L6
namespace L6
open PySem PySem.Spec PyProof.Rows L2 L3 L4
open Sem (wp)
section
variable {M : Model} {A : Around} {E : Value→Shared→Prop} {s : Shared}
end
section
variable {prog : Program} {w : World} {A : Around} {E : Value→Shared→Prop} {s : Shared} {I a : Addr} {i ep : Nat} {o : Obj} {es : Array (Int × Value)} {t : SetTable}
end
end L6
namespace L6
open PySem PySem.Spec PyProof.Rows L2 L3 L4
open Sem (wp)
section
variable {prog : Program} {w : World} {A : Around} {E : Value→Shared→Prop} {s : Shared} {I a : Addr} {i ep : Nat} {o : Obj} {es : Array (Int × Value)} {t : SetTable}
end
section
variable {prog : Program} {w : World} {A : Around} {E : Value→Shared→Prop} {s : Shared} {a : Addr}
end
end L6
namespace L6
open PySem PySem.Spec PyProof.Rows L2 L3 L4
open Sem (wp)
theorem vals_ints : ∀ {ns : List Int} {us : List Value},Vals (ns.map V.int) us→IntsAre us ns
  | [],_,.nil => .nil
  | _ :: _,_,.cons r t=>by
    obtain ⟨k,rfl⟩:=r
    exact .cons _ k (vals_ints t)
theorem Z8 : ∀ {ns : List Int} {us : List Value},IntsAre us ns→Vals (ns.map V.int) us
  | _,_,.nil => .nil
  | _,_,.cons n t h => .cons ⟨t,rfl⟩ (Z8 h)
section
variable {X : Cx}
end
end L6
namespace CB
open PySem PyProof.Rows
noncomputable def maskOf (ns : List Nat) : Nat:=ns.foldl (fun m n=>m ||| 2 ^ n) 0
noncomputable def zU (m : Nat) : List Nat:=(List.range (Builtin.Int.intBits (m : Int))).filter fun k=>m.testBit k
theorem YU (k : Nat) : ∀ (ns : List Nat) (m : Nat),(ns.foldl (fun m n=>m ||| 2 ^ n) m).testBit k=(m.testBit k || ns.contains k)
  | [],m=>by simp
  | n :: r,m=>by
    rw [List.foldl_cons,YU k r,Nat.testBit_or,Nat.testBit_two_pow,List.contains_cons,Bool.or_assoc]
    congr 2
    by_cases h : n=k
    · subst h; simp
    · rw [decide_eq_false h]
      exact (beq_eq_false_iff_ne.mpr (fun z=>h z.symm)).symm
theorem Zb (ns : List Nat) (k : Nat) : (maskOf ns).testBit k=ns.contains k:=by unfold maskOf; rw [YU]; simp
theorem or_cast (m n : Nat) : Builtin.bitOr (m : Int) (n : Int)=((m ||| n : Nat) : Int):=by
  have e : ∀ k : Nat,Builtin.bitNot (Builtin.bitNot (k : Int))=(k : Int):=fun k=>by unfold Builtin.bitNot; omega
  have z : ∀ k : Nat,¬ 0≤Builtin.bitNot (k : Int):=fun k=>by unfold Builtin.bitNot; omega
  unfold Builtin.bitOr
  have h : Builtin.bitAnd (Builtin.bitNot (m : Int)) (Builtin.bitNot (n : Int))=Builtin.bitNot (((m ||| n : Nat)) : Int):=by
    have:=bitAnd_nn (z m) (z n)
    rw [this,e,e,Int.toNat_natCast,Int.toNat_natCast]
  rw [h,e]
theorem zaf (m n : Nat) : (m &&& n) + (m ||| n)=m + n:=by
  have h:=or_cast m n
  rw [bitOr_and,bitAnd_pp (by omega) (by omega),Int.toNat_natCast,Int.toNat_natCast] at h
  omega
theorem and_cast (m n : Nat) : Builtin.bitAnd (m : Int) (n : Int)=((m &&& n : Nat) : Int):=by rw [bitAnd_pp (by omega) (by omega),Int.toNat_natCast,Int.toNat_natCast]
theorem wo (k : Nat) : (2 : Int) ^ k=((2 ^ k : Nat) : Int):=(PySem.W.kbt_cast k).symm
theorem JQ (m : Nat) : m < 2 ^ Builtin.Int.intBits (m : Int):=by
  have:=(intBits_le_iff (m:=Builtin.Int.intBits (m : Int)) (x:=(m : Int))).mp (Nat.le_refl _)
  simpa using this
theorem yy {m k : Nat} : k∈zU m↔m.testBit k=true:=by
  unfold zU
  rw [List.mem_filter,List.mem_range]
  constructor
  · exact fun h=>h.2
  · intro h
    refine ⟨?_,h⟩
    rcases Nat.lt_or_ge k (Builtin.Int.intBits (m : Int)) with z | z
    · exact z
    · have : m < 2 ^ k:=Nat.lt_of_lt_of_le (JQ m) (Nat.pow_le_pow_right (by decide) z)
      rw [Nat.testBit_lt_two_pow this] at h
      cases h
theorem ZU (m : Nat) : (zU m).Pairwise (· < ·):=List.Pairwise.filter _ List.pairwise_lt_range
theorem JR : ∀ {xs ys : List Nat},xs.Pairwise (· < ·)→ys.Pairwise (· < ·)→(∀ k,k∈xs↔k∈ys)→xs=ys:=by
  intro xs ys hx hy h
  have nx : xs.Nodup:=hx.imp fun h=>Nat.ne_of_lt h
  have ny : ys.Nodup:=hy.imp fun h=>Nat.ne_of_lt h
  exact List.Perm.eq_of_pairwise (le:=(· < ·)) (fun a b _ _ h1 h2=>absurd (Nat.lt_trans h1 h2) (Nat.lt_irrefl _)) hx hy ((List.perm_ext_iff_of_nodup nx ny).mpr h)
theorem zag (m n : Nat) : decide (Builtin.bitAnd ((m : Int) / 2 ^ n) 1=1)=m.testBit n:=by
  rw [bitAnd_m1,wo]
  have e : (m : Int) / ((2 ^ n : Nat) : Int) % 2=((m / 2 ^ n % 2 : Nat) : Int):=by omega
  rw [e,Nat.testBit_eq_decide_div_mod_eq]
  exact decide_eq_decide.mpr (by omega)
theorem low_split : ∀ (m : Nat),m≠0→∃ k a : Nat,m=2 ^ k * (2 * a + 1):=by
  intro m
  induction m using Nat.strongRecOn with
  | _ m ih =>
    intro h
    by_cases e : m % 2=0
    · obtain ⟨k,a,e2⟩:=ih (m / 2) (by omega) (by omega)
      refine ⟨k + 1,a,?_⟩
      rw [Nat.pow_succ,Nat.mul_comm (2 ^ k) 2,Nat.mul_assoc,← e2]
      omega
    · exact ⟨0,m / 2,by omega⟩
theorem VR (k : Nat) : Builtin.Int.intBits ((2 : Int) ^ k)=k + 1:=by
  rw [wo]
  have h1 : Builtin.Int.intBits ((2 ^ k : Nat) : Int)≤k + 1:=intBits_le_iff.mpr (by rw [Int.natAbs_natCast]; exact Nat.pow_lt_pow_right (by decide) (by omega))
  have h2 : ¬ Builtin.Int.intBits ((2 ^ k : Nat) : Int)≤k:=fun z=>by
    have:=intBits_le_iff.mp z
    rw [Int.natAbs_natCast] at this
    omega
  omega
theorem zah {m : Nat} (h : m≠0) : ∃ k : Nat,(zU m)[0]?=some k∧((Builtin.Int.intBits (Builtin.bitAnd (m : Int) (-(m : Int))) : Nat) : Int) - 1=(k : Int):=by
  obtain ⟨k,a,e⟩:=low_split m h
  refine ⟨k,?_,?_⟩
  · have hk : m.testBit k=true:=by
      rw [Nat.testBit_eq_decide_div_mod_eq,e,Nat.mul_div_cancel_left _ (Nat.two_pow_pos k)]
      exact decide_eq_true (by omega)
    have lo : ∀ j,m.testBit j=true→k≤j:=fun j hj=>by
      rcases Nat.lt_or_ge j k with z | z
      · rw [Nat.testBit_eq_decide_div_mod_eq,e] at hj
        have h1 : 2 ^ k=2 ^ j * (2 * 2 ^ (k - j - 1)):=by
          rw [← Nat.pow_succ',← Nat.pow_add]
          congr 1
          omega
        rw [h1,Nat.mul_assoc,Nat.mul_div_cancel_left _ (Nat.two_pow_pos j),Nat.mul_assoc,Nat.mul_mod_right] at hj
        simp at hj
      · exact z
    have hm:=yy.mpr hk
    have up:=ZU m
    cases hl : zU m with
    | nil=>rw [hl] at hm; cases hm
    | cons b r =>
      rw [hl] at hm up
      have hb : m.testBit b=true:=yy.mp (by rw [hl]; exact List.mem_cons_self)
      have:=lo b hb
      rcases List.mem_cons.mp hm with z | z
      · rw [z]; rfl
      · have:=(List.pairwise_cons.mp up).1 k z
        omega
  · have e' : (m : Int)=2 ^ k * (2 * (a : Int) + 1):=by rw [e,wo]; simp
    rw [e',PySem.W.kbt_low,VR]
    omega
noncomputable def less (m n : Nat) : Nat:=m - (m &&& n)
theorem Vh (m n : Nat) : Builtin.bitAnd (m : Int) (Builtin.bitNot (n : Int))=((less m n : Nat) : Int):=by
  rw [bitAnd_not,and_cast]
  unfold less
  have h:=Nat.and_le_left (n:=m) (m:=n)
  omega
theorem Zc (m n k : Nat) : (less m n).testBit k=(m.testBit k && !n.testBit k):=by
  have h2 : (m &&& (m ^^^ n))=less m n:=by
    unfold less
    have e1:=zaf (m &&& n) (m &&& (m ^^^ n))
    have e2 : (m &&& n) &&& (m &&& (m ^^^ n))=0:=by
      apply Nat.eq_of_testBit_eq
      intro i
      simp only [Nat.testBit_and,Nat.testBit_xor,Nat.zero_testBit]
      cases m.testBit i <;> cases n.testBit i <;> rfl
    have e3 : (m &&& n) ||| (m &&& (m ^^^ n))=m:=by
      apply Nat.eq_of_testBit_eq
      intro i
      simp only [Nat.testBit_and,Nat.testBit_or,Nat.testBit_xor]
      cases m.testBit i <;> cases n.testBit i <;> rfl
    rw [e2,e3] at e1
    omega
  rw [← h2,Nat.testBit_and,Nat.testBit_xor]
  cases m.testBit k <;> cases n.testBit k <;> rfl
end CB
namespace L6
open PySem PySem.Spec PyProof.Rows L2 L3 L4
section
variable {X : Cx}
theorem je : MtR X "int.bit_length" (fun x xs H Q=>xs=[]∧∃ i : Int,x = .int i∧Q (.int (Builtin.Int.intBits i : Nat)) H):=by
  intro pins s σ H x xs v us Q I rx rv h
  obtain ⟨rfl,i,rfl,q⟩:=h
  obtain ⟨t,rfl⟩:=rx
  cases rv
  exact call_int_bit_length ⟨.int (Builtin.Int.intBits i : Nat),H,I.tok _,⟨_,rfl⟩,q⟩
end
end L6
namespace L6
open PySem PySem.Spec PyProof.Rows L2 L3 L4
noncomputable def nV (ns : List Nat) : List V:=ns.map fun n : Nat=>V.int n
noncomputable def nD (ns : List Nat) : List PyData:=ns.map fun n : Nat=>PyData.int n
theorem zai (ns : List Nat) : nV ns=(ns.map fun n : Nat=>(n : Int)).map V.int:=by unfold nV; rw [List.map_map]; rfl
theorem XU {K : PySem.W.Frag} {D : Hp} : ∀ ns : List Nat,zd K D (nV ns) (nD ns)
  | []=>zd.nil
  | _ :: r=>zd.cons zf.ofInt (XU r)
theorem xx : ∀ ns : List Nat,PyData.canLayAll0 (nD ns)=true∧PyData.depthAll (nD ns)=0
  | []=>⟨rfl,rfl⟩
  | n :: r=>by
    obtain ⟨h1,h2⟩:=xx r
    exact ⟨show (true && PyData.canLayAll0 (nD r))=true by rw [h1]; rfl,show max 0 (PyData.depthAll (nD r))=0 by rw [h2]; rfl⟩
theorem yj {K : PySem.W.Frag} {H : Hp} {p : Addr} {ns : List Nat} (e : H p=some (.lst (nV ns))) : zf K H (.ref p) (.list (nD ns)):=zf.mkL (D:=fun _=>none) (XU ns) e fun _ _ z=>nomatch z
theorem vG (ns : List Nat) : (PyData.list (nD ns)).canLay0=true:=(xx ns).1
theorem Z9 (ns : List Nat) (d : PyData) : min (PyData.list (nD ns)).depth d.depth≤60:=by
  have : (PyData.list (nD ns)).depth=PyData.depthAll (nD ns) + 1:=rfl
  rw [this,(xx ns).2]
  omega
end L6
namespace L6
open PySem PySem.Spec PyProof.Rows L2 L3 L4
end L6
namespace L6
end L6
namespace L7
open PySem PySem.Spec PyProof.Rows L2 L3 L4
theorem JS {P : Program} {w : World} {k : Key} {v : Value} (h : (mixKind P w).is k v=true) : RelV (kV k) v:=by
  rcases keyIs_shape (show keyIs k v=true from h) with ⟨i,t,rfl,rfl⟩ | ⟨x,t,rfl,rfl⟩
  · exact ⟨t,rfl⟩
  · exact ⟨t,rfl⟩
theorem zaj {κ : Type} {kvs : List (κ × V)} {vs : List (κ × Value)} (r : KV kvs vs) : ∀ {i : Nat} {p : κ × V},kvs[i]?=some p→∃ v,vs[i]?=some (p.1,v):=by
  induction r with
  | nil=>intro i p h; simp at h
  | @cons a b as bs h t ih =>
    intro i p e
    cases i with
    | zero =>
      have : a=p:=by simpa using e
      subst this
      exact ⟨b.2,by simp [h.1]⟩
    | succ i =>
      have : as[i]?=some p:=by simpa using e
      obtain ⟨v,hv⟩:=ih this
      exact ⟨v,by simpa using hv⟩
section
variable {X : Cx} {tg : Expr}
theorem vH : ∀ {xs : List V} {us : List Value},xs.length=us.length→(∀ (i : Nat) (x : V) (u : Value),xs[i]?=some x→us[i]?=some u→RelV x u)→Vals xs us
  | [],[],_,_ => .nil
  | x :: xs,u :: us,hl,h => .cons (h 0 x u rfl rfl) (vH (by simpa using hl) fun i x' u' h1 h2=>h (i + 1) x' u' (by simpa using h1) (by simpa using h2))
  | [],_ :: _,hl,_=>by simp at hl
  | _ :: _,[],hl,_=>by simp at hl
theorem Yb (hc : X.calm=true) : CallR X (.builtin "sum") (fun xs H Q=>∃ (p : Addr) (ns : List Int),xs=[.ref p]∧SqL X.K H p (ns.map V.int)∧Q (.int (preSum (fun i=>ns.getD i 0) ns.length)) H):=by
  intro pins s σ H xs us Q I r h
  obtain ⟨p,ns,rfl,hq,q⟩:=h
  obtain ⟨u,rfl,rx⟩:=vals1 r
  cases rx
  obtain ⟨its,rv,pl,hz⟩:=I.list hq
  have hl:=rv.length
  rw [List.length_map] at hl
  refine call_sum_walkAnyS (wpAny_pyIter_list pl.isList ?_)
  have hp : p < s.heap.objs.size:=by obtain ⟨o,n,e,_⟩:=pl; exact Heap.lt_size e
  refine ⟨s.heap.objs.size,_,_,_,its.toArray.size,_,_,fun i=>ns.getD i 0,rfl,(Walks.list (by show X.A.handled=none; exact I.ok.hd hc) s.heap.objs.size p (Nat.ne_of_lt hp) its.toArray).toS,
    ⟨⟨_,Heap.get?_push_size _ rfl,rfl,rfl⟩,pl.isList.push _⟩,fun b hb=>?_,fun i v hv=>?_,fun s' t' hm=>?_⟩
  · show b < (s.heap.push _).objs.size
    rw [Heap.size_push]
    rcases List.mem_cons.mp hb with e | hb
    · rw [e]; exact Nat.lt_succ_self _
    · rw [List.mem_singleton.mp hb]; exact Nat.lt_succ_of_lt hp
  · have hv' : its[i]?=some v:=by simpa using hv
    have hi : i < its.length:=(List.getElem?_eq_some_iff.mp hv').1
    obtain ⟨u',e1,t,e2⟩:=rv.get (x:=V.int (ns[i]'(by omega))) (i:=i) (by rw [List.getElem?_map,List.getElem?_eq_getElem (by omega)]; rfl)
    rw [hv'] at e1
    cases e1
    refine ⟨t,?_⟩
    rw [e2]
    show _=Value.int (ns.getD i 0) t
    rw [List.getD_eq_getElem?_getD,List.getElem?_eq_getElem (by omega)]; rfl
  · have hk : ∀ b o,s.heap.get? b=some o→s'.heap.get? b=some o:=fun b o e =>
      hm.heap b o (fun z=>absurd (Heap.lt_size e) (by rw [List.mem_singleton.mp z]; exact Nat.lt_irrefl _)) (Heap.get?_push_of_some _ e)
    rw [Moved.eq_with hm]
    refine ⟨.int (preSum (fun i=>ns.getD i 0) ns.length),H,I.kept (t':=s'.toks) hk,⟨t',?_⟩,q⟩
    rw [List.size_toArray,← hl]
theorem j7 (ns : List Int) : ∀ k,k≤ns.length→preSum (fun i=>ns.getD i 0) k=(ns.take k).foldl (· + ·) 0
  | 0,_=>by simp [preSum]
  | k + 1,h=>by
    show preSum (fun i=>ns.getD i 0) k + ns.getD k 0=_
    rw [j7 ns k (by omega),L6.Yl (by omega),List.foldl_append]
    rfl
theorem Wb (ns : List Int) : preSum (fun i=>ns.getD i 0) ns.length=ns.foldl (· + ·) 0:=by rw [j7 ns _ (Nat.le_refl _),List.take_length]
end
end L7
namespace L7
open PySem PySem.Spec PyProof.Rows L2 L3 L4 L6
theorem walked {H H2 : Hp} {d : Addr} {o : Obj} {kvs : List (Key × V)} (h : H d=some (.dK kvs)∧H2=upd H d (.frz o (.dK kvs))∨H d=some (.frz o (.dK kvs))∧H2=H) :
    H2 d=some (.frz o (.dK kvs))∧(∀ b u,Rd H b u→Rd H2 b u)∧∀ b,H b=none→H2 b=none:=by
  rcases h with ⟨e,rfl⟩ | ⟨e,rfl⟩
  · refine ⟨upd_same,fun b u r=>?_,fun b hb=>?_⟩
    · by_cases hb : b=d
      · subst hb
        rcases r with r | ⟨o',r⟩
        · rw [e] at r
          rw [← Option.some.inj r]
          exact .inr ⟨o,upd_same⟩
        · rw [e] at r
          cases r
      · rcases r with r | ⟨o',r⟩
        · exact .inl (by rw [upd_ne hb]; exact r)
        · exact .inr ⟨o',by rw [upd_ne hb]; exact r⟩
    · rw [upd_ne (fun z=>by rw [z,e] at hb; cases hb)]; exact hb
  · exact ⟨e,fun _ _ r=>r,fun _ h=>h⟩
end L7
namespace L3
open PySem PySem.Spec PyProof.Rows L2
section
variable {X : Cx}
theorem Vi : CallR X (.type "int") (fun xs H Q=>∃ b : Bool,xs=[.bl b]∧Q (.int (if b then 1 else 0)) H):=by
  intro pins s σ H xs us Q I r h
  obtain ⟨b,rfl,q⟩:=h
  obtain ⟨u,rfl,rx⟩:=vals1 r
  cases rx
  exact call_int_bool ⟨.int _,H,I.tok _,⟨_,rfl⟩,q⟩
end
end L3
namespace CG
noncomputable def sumZ (l : List Int) : Int:=l.foldl (· + ·) 0
theorem foldl_add (l : List Int) : ∀ z : Int,l.foldl (· + ·) z=z + sumZ l:=by
  unfold sumZ
  induction l with
  | nil=>intro z; exact (Int.add_zero z).symm
  | cons a r ih =>
    intro z
    show r.foldl (· + ·) (z + a)=z + r.foldl (· + ·) (0 + a)
    rw [ih (z + a),ih (0 + a)]
    omega
theorem YV : sumZ []=0:=rfl
theorem jn (a : Int) (l : List Int) : sumZ (a :: l)=a + sumZ l:=by
  show l.foldl (· + ·) (0 + a)=_
  rw [foldl_add]
  omega
theorem j8 (a b : List Int) : sumZ (a ++ b)=sumZ a + sumZ b:=by
  unfold sumZ
  rw [List.foldl_append,foldl_add]
  rfl
theorem sumZ_snoc (l : List Int) (a : Int) : sumZ (l ++ [a])=sumZ l + a:=by
  rw [j8,jn,YV,Int.add_zero]
noncomputable def yY (ze ms : List Nat) (w : Nat) : Nat:=(ze.filter fun p=>(ms.getD p 0).testBit w).length
noncomputable def wO (ze ws : List Nat) : Int:=sumZ (ze.map fun p=>((ws.getD p 0 : Nat) : Int))
noncomputable def wQ (ze os ms : List Nat) (n : Nat) : Int:=sumZ ((List.range n).map fun i=>((min (os.getD i 0) (yY ze ms i) : Nat) : Int))
noncomputable def yQ (ze ws os ms : List Nat) : Int:=wO ze ws - wQ ze os ms os.length
theorem Wc (ze os ms : List Nat) (n : Nat) : wQ ze os ms (n + 1)=wQ ze os ms n + ((min (os.getD n 0) (yY ze ms n) : Nat) : Int):=by
  unfold wQ
  rw [List.range_succ,List.map_append,j8]
  rw [show ([n].map fun i=>((min (os.getD i 0) (yY ze ms i) : Nat) : Int))=[((min (os.getD n 0) (yY ze ms n) : Nat) : Int)] from rfl,jn,YV,Int.add_zero]
theorem Vj (ze ms : List Nat) (p w : Nat) : yY (ze ++ [p]) ms w=yY ze ms w + if (ms.getD p 0).testBit w then 1 else 0:=by
  unfold yY
  rw [List.filter_append,List.length_append]
  congr 1
  rw [List.filter_cons]
  cases h : (ms.getD p 0).testBit w <;> rfl
theorem Wd (ze ws : List Nat) (p : Nat) : wO (ze ++ [p]) ws=wO ze ws + ((ws.getD p 0 : Nat) : Int):=by
  unfold wO
  rw [List.map_append]
  exact sumZ_snoc _ _
theorem take_succ {α : Type} {l : List α} {i : Nat} {x : α} (h : l[i]?=some x) : l.take (i + 1)=l.take i ++ [x]:=by
  rw [List.take_succ,h]
  rfl
theorem XW {l : List Nat} {i x : Nat} (h : l[i]?=some x) : l.getD i 0=x:=by
  rw [List.getD_eq_getElem?_getD,h]
  rfl
theorem JT (m w : Nat) : (((m : Int) / 2 ^ w) % 2=1)↔m.testBit w=true:=by
  rw [show ((2 : Int) ^ w)=((2 ^ w : Nat) : Int) by rw [Int.natCast_pow]; rfl,← Int.natCast_ediv,show ((m / 2 ^ w : Nat) : Int) % 2=((m / 2 ^ w % 2 : Nat) : Int) by rw [Int.natCast_emod]; rfl]
  rw [Nat.testBit_eq_decide_div_mod_eq,decide_eq_true_eq]
  omega
theorem take_set {l : List Nat} {j x m : Nat} (h : l[j]?=some m) : ∀ k y,(l.set j x)[k]?=some y→k=j∧y=x∨k≠j∧l[k]?=some y:=fun k y e=>by
  have hj : j < l.length:=(List.getElem?_eq_some_iff.mp h).1
  by_cases hk : k=j
  · subst hk
    rw [List.getElem?_set_self hj] at e
    exact .inl ⟨rfl,(Option.some.inj e).symm⟩
  · rw [List.getElem?_set_ne (fun z=>hk z.symm)] at e
    exact .inr ⟨hk,e⟩
theorem VS {m n r : Nat} (h : m < 2 ^ n) (hr : r < 2) : m + 2 ^ n * r < 2 ^ (n + 1):=by
  rw [Nat.pow_succ]
  have : r=0∨r=1:=by omega
  rcases this with rfl | rfl <;> omega
structure Good (most : Nat) (ws os ms : List Nat) : Prop where
  len : ws.length=ms.length
  one : 1≤ws.length
  six : ws.length≤6
  many : os.length≤most
  wl : ∀ w∈ws,w≤60
  wt : ∀ (k w : Nat),ws[k]?=some w→1≤k→w≤3
  ol : ∀ o∈os,1≤o∧o≤9
  ml : ∀ m∈ms,m < 2 ^ os.length
end CG
namespace L7
open PySem PySem.Spec PyProof.Rows L2 L3 L4 L6
section
variable {X : Cx}
end
end L7
namespace L3
open PySem PySem.Spec PyProof.Rows L2 L3
end L3
namespace L3
open PySem PySem.Spec PyProof.Rows L2 L3
end L3
namespace L12
open PySem PySem.Spec PySem.W PyProof.Rows L2 L3
noncomputable def bare : Heap:={}
theorem jo (b : Addr) : bare.get? b=none:=by
  unfold bare Heap.get?
  simp
noncomputable def ZV (h : Heap) (L : Addr) : List (Addr × Obj):=(List.range h.objs.size).filterMap fun b=>if b=L then none else (h.get? b).map fun o=>(b,o)
theorem Zd {h : Heap} {L b : Addr} {o : Obj} (e : h.get? b=some o) (hb : b≠L) : (b,o)∈ZV h L :=
  List.mem_filterMap.mpr ⟨b,List.mem_range.mpr (Heap.lt_size e),by rw [if_neg hb,e]; rfl⟩
theorem YW {h : Heap} {L : Addr} {p : Addr × Obj} (hp : p∈ZV h L) : h.get? p.1=some p.2∧p.1≠L:=by
  obtain ⟨b,_,e⟩:=List.mem_filterMap.mp hp
  by_cases hb : b=L
  · rw [if_pos hb] at e
    cases e
  · rw [if_neg hb] at e
    obtain ⟨o,ho,rfl⟩:=Option.map_eq_some_iff.mp e
    exact ⟨ho,hb⟩
theorem news_all (h : Heap) (L : Addr) : News bare L h (ZV h L):=fun p hp=>⟨(YW hp).1,(YW hp).2,jo _⟩
theorem JU {P : Program} {w : World} {H : Hp} {h : Heap} {a : Addr} {o : HO} (k : ObjOk P w H h a o) : ∃ u,h.get? a=some u:=by
  cases o with
  | lst=>obtain ⟨_,_,_,_,e⟩:=k; exact ⟨_,e⟩
  | tup=>obtain ⟨_,_,_,u,e,_⟩:=k; exact ⟨u,e⟩
  | dK=>obtain ⟨_,_,_,_,u,_,_,e,_⟩:=k; exact ⟨u,e⟩
  | dT=>obtain ⟨_,_,_,_,u,_,_,e,_⟩:=k; exact ⟨u,e⟩
  | set=>obtain ⟨u,_,_,_,e,_⟩:=k; exact ⟨u,e⟩
  | ins=>obtain ⟨_,_,_,e,_⟩:=k; exact ⟨_,e⟩
  | own=>exact k
  | xd=>obtain ⟨_,⟨u,_,_,e,_⟩,_⟩:=k; exact ⟨u,e⟩
  | rng=>obtain ⟨_,_,_,e⟩:=k; exact ⟨_,e⟩
  | frz u=>exact ⟨u,k.1⟩
  | tbl=>exact ⟨_,k⟩
  | met=>exact ⟨_,k⟩
  | ext=>obtain ⟨_,x,_⟩:=k; exact x
section
variable {X : Cx} {pins : List (Addr × Obj)} {σ : L2.St} {H : Hp} {s : Shared}
theorem fr_all (I : Inv X pins σ H s) : ∃ m,Fr bare X.env.locals s.heap m:=by
  obtain ⟨m,hn,_⟩:=I.loc
  exact ⟨m,hn,(fun b o e=>by rw [jo] at e; cases e),Nat.zero_le _⟩
theorem YX (I : Inv X pins σ H s) {m : Str→Option Value} (F : Fr bare X.env.locals s.heap m) {h' : Heap} {D : Addr} {its : List Value} {c : Nat} {zs : List V} {t' : Nat} (F' : Fr bare X.env.locals h' m)
    (kept : News bare X.env.locals h' (ZV s.heap X.env.locals)) (eD : h'.get? D=some { cls := .type "list",data := .seq its.toArray c }) (hD : ∀ q∈ZV s.heap X.env.locals,q.1 < D) (hL : D≠X.env.locals) (rv : Vals zs its) (hz : zs.length≤sizeLine) :
    H D=none∧Inv X pins σ (upd H D (.lst zs)) { s with heap:=h',toks:=t' }:=by
  have keep : ∀ b o,b≠X.env.locals→s.heap.get? b=some o→h'.get? b=some o:=fun b o hb e=>(kept _ (Zd e hb)).1
  have neD : ∀ b o,s.heap.get? b=some o→b≠D:=fun b o e z=>by
    by_cases hb : b=X.env.locals
    · exact hL (z ▸ hb)
    · exact absurd (hD _ (Zd e hb)) (by rw [z]; exact Nat.lt_irrefl _)
  have inH : ∀ b u,H b=some u→∃ o,s.heap.get? b=some o:=fun b u e=>JU (I.hok b u e)
  have noD : H D=none:=by
    cases e : H D with
    | none=>rfl
    | some u =>
      obtain ⟨o,ho⟩:=inH D u e
      exact absurd rfl (neD D o ho)
  have neL : ∀ b u,H b=some u→b≠X.env.locals:=fun b u e z=>by rw [z,I.free] at e; cases e
  have old : ∀ b u,H b=some u→upd H D (.lst zs) b=some u:=fun b u e=>by
    obtain ⟨o,ho⟩:=inH b u e
    rw [upd_ne (neD b o ho)]
    exact e
  refine ⟨noD,I.step (g':=s.gens) (d':=s.drawn) (ch:=[]) (fun b hb=>nomatch hb) (fun b o h1 _ _ e _=>keep b o h1 e) (fun b o h1 _ _ e _=>⟨o.slots,keep b o h1 e⟩) (fun b o _ e n=>?_) (fun b o _ e=>?_) (fun b xs e=>old b _ e) (fun b o u e=>old b _ e) (fun b ps e=>⟨#[],by rw [old b _ e]; simp⟩) (fun m' hm'=>?_) (fun b u e=>?_) I.bare⟩
  · rw [upd_ne (neD b o e)]
    exact n
  · by_cases hb : b=X.env.locals
    · obtain ⟨o',_,_,ho',_⟩:=F'.ns
      rw [hb]
      exact ⟨o',ho'⟩
    · exact ⟨o,keep b o hb e⟩
  · have : m'=m:=funext fun x=>hm'.agree F.ns x
    rw [this]
    exact F'.ns
  · by_cases hb : b=D
    · subst hb
      rw [upd_same] at e
      cases e
      exact ⟨hz,its,c,rv,eD⟩
    · rw [upd_ne hb] at e
      refine (I.hok b u e).stay (fun x o hx q=>keep x o ?_ q) (fun x q=>old x _ q) fun x xs q=>old x _ q
      rcases hx with rfl | hx
      · exact neL _ _ e
      · exact neL _ _ hx
end
end L12
namespace L12
open PySem PySem.Spec PySem.W PyProof.Rows L2
noncomputable def zZ (n : Nat) {α : Type} (R : α→Prop) : KasT α→Prop
  | .ret a=>R a
  | .ask i j k=>i < n∧j < n∧∀ b,zZ n R (k b)
theorem zZ.bind {n : Nat} {α β : Type} {R : α→Prop} {S : β→Prop} {f : α→KasT β} (hf : ∀ a,R a→zZ n S (f a)) : ∀ {t : KasT α},zZ n R t→zZ n S (t.bind f)
  | .ret a,h=>hf a h
  | .ask _ _ _,h=>⟨h.1,h.2.1,fun b=>zZ.bind hf (h.2.2 b)⟩
noncomputable def zK (n : Nat) (p : Array Nat) : Prop:=p.Perm (List.toArray (List.range n))
theorem zK.lt {n : Nat} {p : Array Nat} (h : zK n p) (hn : 0 < n) (i : Nat) : p.getD i 0 < n:=by
  by_cases hi : i < p.size
  · have e : p.getD i 0=p[i]:=by simp [Array.getD,hi]
    rw [e]
    have hm : p[i]∈p.toList:=by simp
    have:=(Array.perm_iff_toList_perm.mp h).mem_iff.mp hm
    simpa using this
  · have e : p.getD i 0=0:=by simp [Array.getD,hi]
    rw [e]
    exact hn
theorem zK.rev {n : Nat} {p : Array Nat} (h : zK n p) (i j : Nat) : zK n (kas_rev p i j):=(mirror_perm p i j _).trans h
theorem yk {n : Nat} {α : Type} {R : α→Prop} {a b : KasT α} {c : Prop} [Decidable c] (ha : zZ n R a) (hb : zZ n R b) : zZ n R (if c then a else b):=by
  split
  · exact ha
  · exact hb
section
variable {n : Nat} (hn : 0 < n)
include hn
theorem Ze {p : Array Nat} (hp : zK n p) : ∀ f k,zZ n (fun _=>True) (kas_asc p f k)
  | 0,_=>trivial
  | f + 1,k=>⟨hp.lt hn _,hp.lt hn _,fun c=>yk trivial (Ze hp f (k + 1))⟩
theorem wR : ∀ f {p : Array Nat} k q,zK n p→zZ n (fun r : Array Nat × Nat × Nat=>zK n r.1) (kas_desc f p k q)
  | 0,_,_,_,hp=>hp
  | f + 1,p,k,q,hp=>⟨hp.lt hn _,hp.lt hn _,fun c=>yk (yk (wR f _ _ (hp.rev _ _)) (wR f _ _ hp)) ⟨hp.lt hn _,hp.lt hn _,fun d=>yk hp (wR f _ _ hp)⟩⟩
theorem Zw {p : Array Nat} (hp : zK n p) (a b : Nat) : zZ n (fun r : Nat × Array Nat=>zK n r.2) (kas_tail3 a b p):=by
  unfold kas_tail3
  refine zZ.bind (fun m _=>?_) (Ze hn (hp.rev 0 a) _ _)
  have h0 : zZ n (fun r : Nat × Array Nat=>zK n r.2) (.ret (m,kas_rev p 0 a)):=hp.rev 0 a
  exact h0
theorem jf {p : Array Nat} (hp : zK n p) (a b : Nat) : zZ n (fun r : Nat × Array Nat=>zK n r.2) (kas_descPart a b p):=by
  unfold kas_descPart
  exact zZ.bind (fun r hr=>yk (Zw hn (hr.rev _ _) _ _) (Zw hn hr _ _)) (wR hn _ _ _ hp)
theorem Zx {p : Array Nat} (hp : zK n p) (b : Nat) : zZ n (fun r : Nat × Array Nat=>zK n r.2) (kas_count b p):=by
  unfold kas_count
  refine zZ.bind (fun k _=>?_) (Ze hn hp _ _)
  have h0 : zZ n (fun r : Nat × Array Nat=>zK n r.2) (.ret (k,p)):=hp
  refine yk h0 (yk ?_ (jf hn hp _ _))
  exact ⟨hp.lt hn _,hp.lt hn _,fun c=>yk h0 (jf hn (hp.rev _ _) _ _)⟩
theorem vI {p : Array Nat} (hp : zK n p) (k : Nat) : ∀ f l r,zZ n (fun _=>True) (kas_place p k f l r)
  | 0,_,_=>trivial
  | f + 1,l,r=>yk trivial ⟨hp.lt hn _,hp.lt hn _,fun c=>yk (vI hp k f _ _) (vI hp k f _ _)⟩
theorem YY : ∀ f {p : Array Nat} k,zK n p→zZ n (zK n) (kas_bin f p k)
  | 0,_,_,hp=>hp
  | f + 1,p,k,hp=>zZ.bind (fun l _=>YY f (k + 1) ((bubble_perm p k _).trans hp)) (vI hn hp k _ _ _)
theorem Vk : zZ n (zK n) (kas_sort n):=by
  unfold kas_sort
  refine zZ.bind (fun r hr=>?_) (Zx hn (Array.Perm.refl _) n)
  have h0 : zZ n (zK n) (.ret r.2):=hr
  exact yk (YY hn _ _ hr) h0
end
noncomputable def IsPair (h : Heap) (v : Value) : Prop:=∃ x o n i j t u,v = .ref x∧h.get? x=some o∧o.cls = .type "tuple"∧o.data = .seq #[.int i t,.int j u] n
section
variable {prog : Program} {w : World} {A : Around} {E : Value→Shared→Prop} {s : Shared}
theorem jq : ∀ {vs : List Value},(∀ v∈vs,IsPair s.heap v)→∃ fs,KatTups s.heap vs fs∧fs.length=vs.length∧∀ f∈fs,∃ i t,f=Value.int i t
  | [],_=>⟨[],trivial,rfl,fun _ h=>nomatch h⟩
  | v :: vs,h=>by
    obtain ⟨fs,k,l,q⟩:=jq fun v hv=>h v (List.mem_cons_of_mem _ hv)
    obtain ⟨x,o,n,i,j,t,t',rfl,ho,hc,hd⟩:=h v (List.mem_cons_self ..)
    refine ⟨.int i t :: fs,KatTups.cons ho hc hd rfl k,congrArg (· + 1) l,fun f hf=>?_⟩
    rcases List.mem_cons.mp hf with rfl | hf
    · exact ⟨i,t,rfl⟩
    · exact q f hf
theorem VT {a : Addr} {v : Option Value} {n : Nat} {P : PySem.Fin→Shared→Prop} (hq : s.heap.get? a=some { cls := .type "list",data := .seq v.toArray n })
    (q : ∀ h' c,(∀ b o,b≠a→s.heap.get? b=some o→h'.get? b=some o)→h'.get? a=some { cls := .type "list",data := .seq v.toArray c }→P (.done (.ret .none)) { s with heap:=h' }) : wpAny (model prog w) A (Builtin.«list.sort» ⟨[.ref a],[]⟩) P E s:=by
  rw [list_sort_plain]
  have sz : v.toArray.size < 2:=by cases v <;> simp
  have line : 2≤sizeLine:=by decide
  wp_walk using wpAny_loadPart' hq
  rw [if_neg (show ¬ v.toArray.toList.toArray.size > sizeLine by rw [Array.toArray_toList]; omega)]
  have e1 : (s.heap.update a (Obj.mapSeq fun _=>(#[] : Array Value))).get? a=some { cls := .type "list",data := .seq #[] (if ((#[] : Array Value).size == v.toArray.size)=true then n else n + 1) }:=Heap.get?_update_self _ hq rfl
  wp_walk
  rw [if_pos sz]
  refine wpAny_pure ?_
  have e2:=Heap.get?_push_of_some { cls := .type "list",data := .seq #[] } (Heap.get?_push_of_some { cls := .type "tuple",data := .seq v.toArray.toList.toArray } e1)
  wp_walk using wpAny_loadPart' e2
  have ez : Array.map (fun x=>x.snd) (arrOf (SortSt.mk' general' (v.toArray.zip v.toArray) #[] 7 none))=v.toArray:=by
    show Array.map (fun x=>x.snd) (v.toArray.zip v.toArray)=v.toArray
    cases v <;> simp
  rw [ez]
  have el : (Obj.mapSeq (fun _=>v.toArray) { cls := .type "list",data:=Data.seq #[] (if ((#[] : Array Value).size == v.toArray.size)=true then n else n + 1) }).data.pastItsLine=none:=by cases v <;> rfl
  rw [el]
  refine wpAny_pure ?_
  dsimp only
  rw [if_neg (by simp)]
  refine wpAny_pure (q _ _ (fun b o hb e=>?_) (Heap.get?_update_self _ e2 rfl))
  rw [Heap.get?_update_ne _ _ _ _ hb]
  refine Heap.get?_push_of_some _ (Heap.get?_push_of_some _ ?_)
  rw [Heap.get?_update_ne _ _ _ _ hb]
  exact e
theorem We {l : Addr} {v : Option Value} {Q : Value→Shared→Prop} (hl : s.heap.IsList l v.toArray)
    (q : ∀ h' D c,(∀ b o,s.heap.get? b=some o→h'.get? b=some o)→s.heap.objs.size≤D→h'.get? D=some { cls := .type "list",data := .seq v.toArray c }→Q (.ref D) { s with heap:=h' }) : wpAny (model prog w) A (call (.builtin "sorted") [.ref l]) Q E s:=by
  have hl' : s.heap.IsList l v.toArray.toList.toArray:=by rw [Array.toArray_toList]; exact hl
  have few : v.toArray.toList.length≤1:=by cases v <;> simp
  have line : 2≤sizeLine:=by decide
  refine Calls.call_function_entry kind_sorted plain_sorted entry_sorted (args_sorted1 _) ?_
  unfold Builtin.«sorted»
  refine wpAny_bind (m:=checkCount "sorted" 1 1 _) (wpAny_pure (wpAny_bind (collect_list hl' ?_ (by omega))))
  generalize hg : (s.heap.push (seqObj "list" #[] 0)).update s.heap.objs.size (Obj.mapSeq (· ++ v.toArray.toList.toArray))=g
  have gs : g.objs.size=s.heap.objs.size + 1:=by rw [← hg,Heap.size_update,size_push']
  have gk : ∀ b o,s.heap.get? b=some o→g.get? b=some o:=fun b o e=>by
    rw [← hg,Heap.get?_update_ne _ _ _ _ (Nat.ne_of_lt (Heap.lt_size e))]
    exact Heap.get?_push_of_some _ e
  refine wpAny_bind (wpAny_newList ?_ (by omega))
  have eD : (g.push { cls := .type "list",data := .seq v.toArray.toList.toArray }).get? g.objs.size=some { cls := .type "list",data := .seq v.toArray 0 }:=by
    rw [Heap.get?_push_size _ rfl,Array.toArray_toList]
  refine wpAny_bind (wpAny_holding (wpAny_call_entry slot_list_sort ⟨_,eD,rfl⟩ entry_list_sort (VT (s:={ s with heap:=g.push { cls := .type "list",data := .seq v.toArray.toList.toArray } }) eD fun h' c k e=>⟨_,rfl,wpAny_pure ⟨_,rfl,?_⟩⟩) (args_list_sort _)))
  refine q h' g.objs.size c (fun b o eb=>?_) (by omega) e
  have hb : b≠g.objs.size:=Nat.ne_of_lt (Nat.lt_trans (Heap.lt_size eb) (by omega))
  exact k b o hb (Heap.get?_push_of_some _ (gk b o eb))
end
section
variable {X : Cx}
theorem JV : ∀ {its : List Value},its.length < 2→∃ v : Option Value,its.toArray=v.toArray
  | [],_=>⟨none,rfl⟩
  | [x],_=>⟨some x,rfl⟩
  | _ :: _ :: l,h=>absurd h (by rw [List.length_cons,List.length_cons]; omega)
end
end L12
namespace L12
open PySem PySem.Spec PySem.W PyProof.Rows L2 L3 L6
section
variable {X : Cx}
open Classical in
open Classical in
end
theorem hu0 {A : Around} {k : Nat} (hr : Room k A) : A.units < cLine:=Nat.lt_of_succ_lt (hu_of hr)
theorem jm : bootBuiltins "sorted"=some (.builtin "sorted"):=by decide +kernel
end L12
namespace L12
open PySem PySem.Spec PySem.W PyProof.Rows L2 L3
section
variable {prog : Program} {w : World} {A : Around} {E : Value→Shared→Prop} {s : Shared}
end
section
variable {X : Cx}
end
end L12
namespace L5
open PySem PySem.Spec PyProof.Rows L2 L3 L4
section
variable {X : Cx} {e1 e2 : Expr} {p pos : Pos} {elts : List Expr} {kt : Nat} {pt : Pos}
end
end L5
namespace CP
open PySem L2 L3 L4
noncomputable abbrev Pr:=Int × Int
noncomputable def pairD (p : Pr) : PyData := .tuple [.int p.1,.int p.2]
theorem YZ {K : PySem.W.Frag} {D : Hp} {x : V} {p : Pr} (h : zf K D x (pairD p)) : ∃ t,x = .ref t∧D t=some (.tup [.int p.1,.int p.2]):=by
  obtain ⟨t,zs,rfl,e,hA⟩:=zf.tup h
  obtain ⟨y1,r1,rfl,h1,hA⟩:=zd.YR hA
  obtain ⟨y2,r2,rfl,h2,hA⟩:=zd.YR hA
  rw [zf.int h1,zf.int h2,zd.none hA] at e
  exact ⟨t,rfl,e⟩
theorem XX {K : PySem.W.Frag} {D : Hp} {t : Addr} {p : Pr} (e : D t=some (.tup [.int p.1,.int p.2])) : zf K D (.ref t) (pairD p) :=
  zf.mkT (zd.cons zf.ofInt (zd.cons zf.ofInt zd.nil)) e (Same.refl _)
theorem pairs_at {K : PySem.W.Frag} {D : Hp} {xs : List V} {ps : List Pr} (h : zd K D xs (ps.map pairD)) {i : Nat} {x : V} (hx : xs[i]?=some x) : ∃ p t,ps[i]?=some p∧x = .ref t∧D t=some (.tup [.int p.1,.int p.2]):=by
  obtain ⟨d,hd,hdy⟩:=zd.back h hx
  rw [List.getElem?_map] at hd
  obtain ⟨p,hp,rfl⟩:=Option.map_eq_some_iff.mp hd
  obtain ⟨t,rfl,e⟩:=YZ hdy
  exact ⟨p,t,hp,rfl,e⟩
theorem Yc (ps : List Pr) : PyData.canLayAll0 (ps.map pairD)=true∧PyData.depthAll (ps.map pairD)≤1:=by
  induction ps with
  | nil=>exact ⟨rfl,Nat.zero_le _⟩
  | cons p r ih=>exact ⟨by show (PyData.canLay0 (pairD p) && PyData.canLayAll0 (r.map pairD))=true; rw [ih.1]; rfl,by show max 1 (PyData.depthAll (r.map pairD))≤1; have:=ih.2; omega⟩
noncomputable def ya (a b : Pr) : Bool:=HT.lexLt [a.1,a.2] [b.1,b.2]
noncomputable def at' (ps : List Pr) (i : Nat) : Pr:=ps.getD i (0,0)
theorem at_of {ps : List Pr} {i : Nat} {p : Pr} (h : ps[i]?=some p) : at' ps i=p:=by
  unfold at'
  rw [List.getD_eq_getElem?_getD,h]
  rfl
noncomputable def yo (ps : List Pr) : Bool:=((List.range (ps.length - 1)).map fun i=>ya (at' ps i) (at' ps (i + 1))).all id
theorem yZ {ps : List Pr} : yo ps=true↔∀ i,i + 1 < ps.length→ya (at' ps i) (at' ps (i + 1))=true:=by
  unfold yo
  rw [List.all_map,List.all_eq_true]
  constructor
  · intro h i hi
    exact h i (List.mem_range.mpr (by omega))
  · intro h i hi
    exact h i (by have:=List.mem_range.mp hi; omega)
noncomputable def xH (os ms : List Nat) (w p : Int) : Bool:=decide (0≤w) && decide (w < os.length) && (decide (0≤p) && decide (p < ms.length)) && (ms.getD p.toNat 0).testBit w.toNat
noncomputable def yR (ns : List Int) (bs : List Nat) : Bool:=((List.range bs.length).map fun i=>decide (ns.count ((i : Nat) : Int)≤bs.getD i 0)).all id
theorem xO {ns : List Int} {bs : List Nat} : yR ns bs=true↔∀ i,i < bs.length→ns.count ((i : Nat) : Int)≤bs.getD i 0:=by
  unfold yR
  rw [List.all_map,List.all_eq_true]
  constructor
  · intro h i hi
    exact of_decide_eq_true (h i (List.mem_range.mpr hi))
  · intro h i hi
    exact decide_eq_true (h i (List.mem_range.mp hi))
noncomputable def Zy (ps : List Pr) (os ms : List Nat) : Bool:=(ps.map fun q=>xH os ms q.1 q.2).all id
theorem Zf {ps : List Pr} {os ms : List Nat} : Zy ps os ms=true↔∀ q∈ps,xH os ms q.1 q.2=true:=by
  unfold Zy
  rw [List.all_map,List.all_eq_true]
  exact Iff.rfl
noncomputable def yz (ps : List Pr) (ws os ms : List Nat) : Bool:=yo ps && (Zy ps os ms && (yR (ps.map Prod.fst) os && yR (ps.map Prod.snd) ws))
theorem wU {ps : List Pr} {i : Nat} {p : Pr} (h : ps[i]?=some p) (f : Pr→Int) (k : Int) : ((ps.take (i + 1)).map f).count k=((ps.take i).map f).count k + if f p=k then 1 else 0:=by
  rw [List.take_succ,h,List.map_append,List.count_append]
  congr 1
  show List.count k [f p]=_
  rw [List.count_cons,List.count_nil,Nat.zero_add]
  by_cases e : f p=k
  · rw [if_pos e,if_pos (by rw [e]; exact beq_self_eq_true k)]
  · rw [if_neg e,if_neg (by rw [beq_iff_eq]; exact e)]
noncomputable def cnt (tk : List (Nat × Nat)) (p : Nat) : Nat:=tk.countP fun q=>q.2 == p
end CP
namespace CP
open PySem L2 L3 L4
noncomputable def xy (q : Nat × Nat) : Pr:=((q.1 : Nat),(q.2 : Nat))
theorem VU {a b : Nat × Nat} (h : xy a=xy b) : a=b:=by
  have h1 : ((a.1 : Nat) : Int)=b.1:=congrArg Prod.fst h
  have h2 : ((a.2 : Nat) : Int)=b.2:=congrArg Prod.snd h
  exact Prod.ext (by omega) (by omega)
structure Taken (ws os : List Nat) (tk : List (Nat × Nat)) (wc pc : List Nat) : Prop where
  nd : tk.Nodup
  lt : ∀ q∈tk,q.1 < os.length∧q.2 < ws.length
  lw : wc.length=os.length
  lp : pc.length=ws.length
  cp : ∀ p,p < ws.length→pc.getD p 0=cnt tk p
  le : ∀ p,p < ws.length→cnt tk p≤ws.getD p 0
theorem Taken.zero (ws os : List Nat) : Taken ws os [] (List.replicate os.length 0) (List.replicate ws.length 0) :=
  ⟨List.nodup_nil,(fun _ h=>nomatch h),List.length_replicate,List.length_replicate,fun p hp=>by rw [List.getD_eq_getElem?_getD,List.getElem?_replicate,if_pos hp]; rfl,fun p hp=>Nat.zero_le _⟩
theorem yK (l : List Nat) (j x k : Nat) (hj : j < l.length) : (l.set j x).getD k 0=if k=j then x else l.getD k 0:=by
  rw [List.getD_eq_getElem?_getD,List.getD_eq_getElem?_getD]
  by_cases h : k=j
  · subst h
    rw [List.getElem?_set_self hj,if_pos rfl]
    rfl
  · rw [List.getElem?_set_ne (fun z=>h z.symm),if_neg h]
end CP
namespace CP
open PySem L2 L3 L4
end CP
namespace CD
noncomputable def zk : List Nat→Nat
  | []=>0
  | a :: l=>a + zk l
theorem vJ {α : Type} (f g : α→Nat) : ∀ l : List α,zk (l.map fun x=>f x + g x)=zk (l.map f) + zk (l.map g)
  | []=>rfl
  | a :: l=>by
    show f a + g a + zk (l.map fun x=>f x + g x)=f a + zk (l.map f) + (g a + zk (l.map g))
    rw [vJ f g l]
    omega
theorem yV {α : Type} {f g : α→Nat} : ∀ {l : List α},(∀ x∈l,f x≤g x)→zk (l.map f)≤zk (l.map g)
  | [],_=>Nat.le_refl _
  | a :: l,h=>Nat.add_le_add (h a (List.mem_cons_self ..)) (yV fun x hx=>h x (List.mem_cons_of_mem _ hx))
theorem vt {α : Type} {f g : α→Nat} {l : List α} (h : ∀ x∈l,f x=g x) : zk (l.map f)=zk (l.map g) :=
  Nat.le_antisymm (yV fun x hx=>Nat.le_of_eq (h x hx)) (yV fun x hx=>Nat.le_of_eq (h x hx).symm)
theorem Yd {α : Type} : ∀ l : List α,zk (l.map fun _=>0)=0
  | []=>rfl
  | _ :: l=>by show 0 + zk (l.map fun _=>0)=0; rw [Yd l]
theorem j9 : ∀ a b : List Nat,zk (a ++ b)=zk a + zk b
  | [],b=>(Nat.zero_add _).symm
  | x :: a,b=>by show x + zk (a ++ b)=x + zk a + zk b; rw [j9 a b]; omega
noncomputable def one (b : Bool) : Nat:=if b then 1 else 0
theorem xg {α : Type} (p : α→Bool) : ∀ l : List α,l.countP p=zk (l.map fun x=>one (p x))
  | []=>rfl
  | a :: l=>by
    rw [List.countP_cons,xg p l]
    show _=one (p a) + _
    unfold one
    cases p a <;> simp <;> omega
theorem Ye {f : Nat→Nat} {p : Nat} : ∀ {L : List Nat},p∈L→zk (L.map f)=f p + zk ((L.erase p).map f)
  | a :: L,h=>by
    by_cases e : a=p
    · subst e
      rw [List.erase_cons_head]
      rfl
    · have hm : p∈L:=by
        rcases List.mem_cons.mp h with z | z
        · exact absurd z.symm e
        · exact z
      rw [List.erase_cons_tail (by rw [beq_iff_eq]; exact e)]
      show f a + zk (L.map f)=f p + (f a + zk ((L.erase p).map f))
      rw [Ye hm]
      omega
theorem x8 {f : Nat→Nat} : ∀ {P L : List Nat},P.Nodup→(∀ x∈P,x∈L)→zk (P.map f)≤zk (L.map f)
  | [],_,_,_=>Nat.zero_le _
  | p :: P,L,hn,h=>by
    have ⟨h1,h2⟩:=List.nodup_cons.mp hn
    rw [Ye (h p (List.mem_cons_self ..))]
    refine Nat.add_le_add_left (x8 h2 fun x hx=>?_) _
    have hxp : x≠p:=fun e=>h1 (e ▸ hx)
    exact (List.mem_erase_of_ne hxp).mpr (h x (List.mem_cons_of_mem _ hx))
theorem ZW {f : Nat→Nat} : ∀ L : List Nat,zk (L.map f)=zk ((L.filter fun x=>decide (0 < f x)).map f)
  | []=>rfl
  | a :: L=>by
    rw [List.filter_cons]
    by_cases e : 0 < f a
    · rw [if_pos (decide_eq_true e)]
      show f a + _=f a + _
      rw [ZW L]
    · rw [if_neg (by rw [decide_eq_false e]; decide)]
      show f a + _=_
      rw [ZW L]
      omega
theorem XY {f : Nat→Nat} {P L : List Nat} (hL : L.Nodup) (h : ∀ x∈L,0 < f x→x∈P) : zk (L.map f)≤zk (P.map f):=by
  rw [ZW L]
  refine x8 (hL.filter _) fun x hx=>?_
  obtain ⟨h1,h2⟩:=List.mem_filter.mp hx
  exact h x h1 (of_decide_eq_true h2)
noncomputable def hb (held : List Nat) (p w : Nat) : Bool:=(held.getD p 0).testBit w
noncomputable def col (held P : List Nat) (w : Nat) : Nat:=P.countP fun p=>hb held p w
noncomputable def row (held : List Nat) (m p : Nat) : Nat:=(List.range m).countP fun w=>hb held p w
theorem yp (held P : List Nat) (w : Nat) : col held P w=zk (P.map fun p=>one (hb held p w)):=xg _ _
theorem JW (held : List Nat) (m p : Nat) : row held m p=zk ((List.range m).map fun w=>one (hb held p w)):=xg _ _
theorem Y0 (held : List Nat) (m : Nat) : ∀ P : List Nat,zk (P.map (row held m))=zk ((List.range m).map (col held P))
  | []=>by
    have : ∀ w,col held [] w=0:=fun _=>rfl
    rw [show (List.range m).map (col held [])=(List.range m).map fun _=>0 from List.map_congr_left fun w _=>this w,Yd]
    rfl
  | p :: P=>by
    show row held m p + zk (P.map (row held m))=_
    rw [Y0 held m P,JW,← vJ]
    refine vt fun w _=>?_
    rw [yp held (p :: P),yp held P]
    rfl
theorem JX (ze ms : List Nat) (w : Nat) : CG.yY ze ms w=col ms ze w:=by
  unfold CG.yY col
  rw [List.countP_eq_length_filter]
  rfl
theorem vK {α : Type} (f : α→Nat) : ∀ l : List α,CG.sumZ (l.map fun x=>((f x : Nat) : Int))=((zk (l.map f) : Nat) : Int)
  | []=>rfl
  | a :: l=>by
    rw [List.map_cons,CG.jn,vK f l]
    show _=((f a + zk (l.map f) : Nat) : Int)
    rw [Int.natCast_add]
noncomputable def want (ze ws : List Nat) : Nat:=zk (ze.map fun p=>ws.getD p 0)
noncomputable def give (ze os ms : List Nat) : Nat:=zk ((List.range os.length).map fun w=>min (os.getD w 0) (col ms ze w))
theorem vL (ze ws os ms : List Nat) : CG.yQ ze ws os ms=((want ze ws : Nat) : Int) - ((give ze os ms : Nat) : Int):=by
  unfold CG.yQ CG.wO CG.wQ want give
  rw [vK,vK]
  congr 3
  exact List.map_congr_left fun w _=>by rw [JX]
noncomputable def yN (n : Nat) (ze : List Nat) : Prop:=ze.Nodup∧∀ p∈ze,p < n
noncomputable def Opt (ws os ms : List Nat) (v : Int) : Prop:=(∃ ze,yN ws.length ze∧CG.yQ ze ws os ms=v)∧∀ ze,yN ws.length ze→CG.yQ ze ws os ms≤v
structure zV (ws os ms held zc left : List Nat) : Prop where
  lh : held.length=ms.length
  lw : ws.length=ms.length
  ls : zc.length=ms.length
  ll : left.length=os.length
  sub : ∀ p w,hb held p w=true→hb ms p w=true
  lt : ∀ p w,hb ms p w=true→w < os.length
  cw : ∀ w,w < os.length→left.getD w 0 + col held (List.range ms.length) w=os.getD w 0
  cp : ∀ p,p < ms.length→zc.getD p 0 + row held os.length p=ws.getD p 0
theorem xh {n : Nat} {P : List Nat} (h : yN n P) : ∀ x∈P,x∈List.range n:=fun x hx=>List.mem_range.mpr (h.2 x hx)
theorem wV (l : List Nat) : zk l=zk ((List.range l.length).map fun p=>l.getD p 0):=by
  congr 1
  apply List.ext_getElem?
  intro i
  rw [List.getElem?_map]
  by_cases hi : i < l.length
  · rw [List.getElem?_range hi,List.getElem?_eq_getElem hi]
    show _=some (l.getD i 0)
    rw [List.getD_eq_getElem?_getD,List.getElem?_eq_getElem hi]
    rfl
  · rw [List.getElem?_eq_none (by omega),List.getElem?_eq_none (by rw [List.length_range]; omega)]
    rfl
theorem Vl (held P : List Nat) {n : Nat} (h : yN n P) (w : Nat) : col held P w≤col held (List.range n) w:=by
  rw [yp,yp]
  exact x8 h.1 (xh h)
theorem Zz {ws os ms held zc left : List Nat} (d : zV ws os ms held zc left) {P : List Nat} (h : yN ws.length P) : want P ws=zk (P.map fun p=>zc.getD p 0) + zk ((List.range os.length).map (col held P)):=by
  unfold want
  rw [← Y0,← vJ]
  exact vt fun p hp=>(d.cp p (by rw [← d.lw]; exact h.2 p hp)).symm
theorem zV.weak {ws os ms held zc left : List Nat} (d : zV ws os ms held zc left) {P : List Nat} (h : yN ws.length P) : CG.yQ P ws os ms≤((zk zc : Nat) : Int):=by
  rw [vL,Zz d h]
  have h1 : zk (P.map fun p=>zc.getD p 0)≤zk zc:=by
    rw [wV zc,d.ls,← d.lw]
    exact x8 h.1 (xh h)
  have h2 : zk ((List.range os.length).map (col held P))≤give P os ms:=by
    unfold give
    refine yV fun w hw=>?_
    have hw':=List.mem_range.mp hw
    have h3:=d.cw w hw'
    have h4:=Vl held P h w
    rw [d.lw] at h4
    have h5 : col held P w≤col ms P w:=by
      rw [yp,yp]
      refine yV fun p _=>?_
      unfold one
      cases e : hb held p w with
      | true=>rw [d.sub p w e]; exact Nat.le_refl _
      | false=>exact Nat.zero_le _
    omega
  omega
structure ZA (ms held zc left R : List Nat) (n : Nat) : Prop where
  pap : yN n R
  want : ∀ p,p < n→0 < zc.getD p 0→p∈R
  none : ∀ p∈R,∀ w,hb ms p w=true→hb held p w=false→left.getD w 0=0
  Wf : ∀ p∈R,∀ w,hb ms p w=true→hb held p w=false→∀ q,q < n→hb held q w=true→q∈R
theorem zV.Vm {ws os ms held zc left R : List Nat} (d : zV ws os ms held zc left) (s : ZA ms held zc left R ws.length) : CG.yQ R ws os ms=((zk zc : Nat) : Int):=by
  rw [vL,Zz d s.pap]
  have h1 : zk (R.map fun p=>zc.getD p 0)=zk zc:=by
    rw [wV zc,d.ls,← d.lw]
    exact Nat.le_antisymm (x8 s.pap.1 (xh s.pap)) (XY List.nodup_range fun p hp h0=>s.want p (List.mem_range.mp hp) h0)
  have h2 : zk ((List.range os.length).map (col held R))=give R os ms:=by
    unfold give
    refine vt fun w hw=>?_
    have hw':=List.mem_range.mp hw
    have h3:=d.cw w hw'
    have h4:=Vl held R s.pap w
    rw [d.lw] at h4
    have h5 : col held R w≤col ms R w:=by
      rw [yp,yp]
      refine yV fun p _=>?_
      unfold one
      cases e : hb held p w with
      | true=>rw [d.sub p w e]; exact Nat.le_refl _
      | false=>exact Nat.zero_le _
    by_cases hc : ∃ p∈R,hb ms p w=true∧hb held p w=false
    · obtain ⟨p,hp,e1,e2⟩:=hc
      have h6:=s.none p hp w e1 e2
      have h7 : col held (List.range ms.length) w≤col held R w:=by
        rw [yp,yp]
        refine XY List.nodup_range fun q hq h0=>?_
        refine s.Wf p hp w e1 e2 q (by rw [d.lw]; exact List.mem_range.mp hq) ?_
        unfold one at h0
        cases e : hb held q w with
        | true=>rfl
        | false=>rw [e] at h0; exact absurd h0 (Nat.lt_irrefl 0)
      omega
    · have h8 : col ms R w≤col held R w:=by
        rw [yp,yp]
        refine yV fun p hp=>?_
        unfold one
        cases e : hb ms p w with
        | false=>exact Nat.zero_le _
        | true =>
          cases e2 : hb held p w with
          | true=>exact Nat.le_refl _
          | false=>exact absurd ⟨p,hp,e,e2⟩ hc
      omega
  rw [h1,h2]
  omega
theorem zV.opt {ws os ms held zc left R : List Nat} (d : zV ws os ms held zc left) (s : ZA ms held zc left R ws.length) : Opt ws os ms ((zk zc : Nat) : Int) :=
  ⟨⟨R,s.pap,d.Vm s⟩,fun P hP=>d.weak hP⟩
end CD
namespace CD
theorem vv {f g : Nat→Bool} {a : Nat} : ∀ {L : List Nat},L.Nodup→a∈L→f a=false→g a=true→(∀ x,x≠a→g x=f x)→L.countP g=L.countP f + 1
  | b :: L,hn,hm,hf,hg,h=>by
    have ⟨h1,h2⟩:=List.nodup_cons.mp hn
    by_cases e : b=a
    · subst e
      have : L.countP g=L.countP f:=List.countP_congr fun x hx=>by rw [h x (fun z=>h1 (z ▸ hx))]
      rw [List.countP_cons,List.countP_cons,this,hf,hg]
      rfl
    · have hm' : a∈L:=by
        rcases List.mem_cons.mp hm with z | z
        · exact absurd z.symm e
        · exact z
      rw [List.countP_cons,List.countP_cons,vv h2 hm' hf hg h,h b e]
      omega
theorem yE {held : List Nat} {p x : Nat} (hp : p < held.length) (q w : Nat) : hb (held.set p x) q w=if q=p then x.testBit w else hb held q w:=by
  unfold hb
  rw [CP.yK _ _ _ _ hp]
  split <;> rfl
structure Hand (ws os ms held zc left : List Nat) (a p : Nat) : Prop where
  lh : held.length=ms.length
  lw : ws.length=ms.length
  ls : zc.length=ms.length
  ll : left.length=os.length
  sub : ∀ p w,hb held p w=true→hb ms p w=true
  lt : ∀ p w,hb ms p w=true→w < os.length
  cw : ∀ w,w < os.length→left.getD w 0 + col held (List.range ms.length) w + one (decide (w=a))=os.getD w 0
  cp : ∀ p,p < ms.length→zc.getD p 0 + row held os.length p=ws.getD p 0
  fit : hb ms p a=true
  new : hb held p a=false
  pl : p < ms.length
theorem vz (a : Nat) : one (decide (a=a))=1:=by unfold one; rw [decide_eq_true rfl]; rfl
theorem vA {a b : Nat} (h : a≠b) : one (decide (a=b))=0:=by unfold one; rw [decide_eq_false h]; rfl
theorem zV.hand {ws os ms held zc left : List Nat} (d : zV ws os ms held zc left) {a p : Nat} (hp : p < ms.length) (hf : hb ms p a=true) (hn : hb held p a=false) (h0 : 0 < left.getD a 0) : Hand ws os ms held zc (left.set a (left.getD a 0 - 1)) a p:=by
  have ha : a < os.length:=d.lt p a hf
  refine ⟨d.lh,d.lw,d.ls,by rw [List.length_set]; exact d.ll,d.sub,d.lt,fun w hw=>?_,d.cp,hf,hn,hp⟩
  have:=d.cw w hw
  rw [CP.yK _ _ _ _ (by rw [d.ll]; exact ha)]
  by_cases e : w=a
  · subst e
    rw [if_pos rfl,vz]
    omega
  · rw [if_neg e,vA e]
    omega
theorem Hand.rows {ws os ms held zc left : List Nat} {a p : Nat} (h : Hand ws os ms held zc left a p) {x : Nat} (hx : ∀ w,x.testBit w=(hb held p w || decide (w=a))) :
    (∀ q w,hb (held.set p x) q w=true→hb ms q w=true)∧(∀ w,w < os.length→col (held.set p x) (List.range ms.length) w=col held (List.range ms.length) w + one (decide (w=a)))∧(∀ q,q < ms.length→row (held.set p x) os.length q=row held os.length q + one (decide (q=p))):=by
  have hp : p < held.length:=by rw [h.lh]; exact h.pl
  have ha : a < os.length:=h.lt p a h.fit
  refine ⟨fun q w e=>?_,fun w hw=>?_,fun q hq=>?_⟩
  · rw [yE hp] at e
    by_cases z : q=p
    · subst z
      rw [if_pos rfl,hx,Bool.or_eq_true,decide_eq_true_eq] at e
      rcases e with e | rfl
      · exact h.sub q w e
      · exact h.fit
    · rw [if_neg z] at e
      exact h.sub q w e
  · unfold col
    by_cases z : w=a
    · subst z
      rw [vz]
      refine vv List.nodup_range (List.mem_range.mpr h.pl) h.new ?_ fun q hq=>?_
      · rw [yE hp,if_pos rfl,hx,decide_eq_true rfl,Bool.or_true]
      · rw [yE hp,if_neg hq]
    · rw [vA z,Nat.add_zero]
      refine List.countP_congr fun q _=>?_
      rw [yE hp]
      by_cases e : q=p
      · subst e
        rw [if_pos rfl,hx,decide_eq_false z,Bool.or_false]
      · rw [if_neg e]
  · unfold row
    by_cases z : q=p
    · subst z
      rw [vz]
      refine vv List.nodup_range (List.mem_range.mpr ha) h.new ?_ fun w hw=>?_
      · rw [yE hp,if_pos rfl,hx,decide_eq_true rfl,Bool.or_true]
      · rw [yE hp,if_pos rfl,hx,decide_eq_false hw,Bool.or_false]
    · rw [vA z,Nat.add_zero]
      refine List.countP_congr fun w _=>?_
      rw [yE hp,if_neg z]
theorem Hand.root {ws os ms held zc left : List Nat} {a p : Nat} (h : Hand ws os ms held zc left a p) {x : Nat} (hx : ∀ w,x.testBit w=(hb held p w || decide (w=a))) (h0 : 0 < zc.getD p 0) : zV ws os ms (held.set p x) (zc.set p (zc.getD p 0 - 1)) left:=by
  obtain ⟨h1,h2,h3⟩:=h.rows hx
  refine ⟨by rw [List.length_set]; exact h.lh,h.lw,by rw [List.length_set]; exact h.ls,h.ll,h1,h.lt,fun w hw=>?_,fun q hq=>?_⟩
  · have:=h.cw w hw
    rw [h2 w hw]
    omega
  · have:=h.cp q hq
    rw [h3 q hq,CP.yK _ _ _ _ (by rw [h.ls]; exact h.pl)]
    by_cases e : q=p
    · subst e
      rw [if_pos rfl,vz]
      omega
    · rw [if_neg e,vA e]
      omega
theorem Hand.next {ws os ms held zc left : List Nat} {a p : Nat} (h : Hand ws os ms held zc left a p) {x y : Nat} (hx : ∀ w,x.testBit w=(hb held p w || decide (w=a))) {b q : Nat} (hy : ∀ w,y.testBit w=(x.testBit w && !decide (w=b))) (hb1 : hb held p b=true) (hq : q < ms.length) (hqp : q≠p) (hf : hb ms q b=true) (hn : hb held q b=false) :
    Hand ws os ms ((held.set p x).set p y) zc left b q:=by
  have hp : p < held.length:=by rw [h.lh]; exact h.pl
  have hp' : p < (held.set p x).length:=by rw [List.length_set]; exact hp
  obtain ⟨h1,h2,h3⟩:=h.rows hx
  have hb2 : b < os.length:=h.lt q b hf
  have hxb : hb (held.set p x) p b=true:=by rw [yE hp,if_pos rfl,hx,hb1,Bool.true_or]
  have hyb : hb ((held.set p x).set p y) p b=false:=by rw [yE hp',if_pos rfl,hy,decide_eq_true rfl]; simp
  have ho : ∀ r w,(r≠p∨w≠b)→hb ((held.set p x).set p y) r w=hb (held.set p x) r w:=fun r w z=>by
    rw [yE hp']
    by_cases e : r=p
    · subst e
      have hw : w≠b:=by
        rcases z with z | z
        · exact absurd rfl z
        · exact z
      rw [if_pos rfl,hy,decide_eq_false hw,Bool.not_false,Bool.and_true,yE hp,if_pos rfl]
    · rw [if_neg e]
  refine ⟨by rw [List.length_set,List.length_set]; exact h.lh,h.lw,h.ls,h.ll,fun r w e=>?_,h.lt,fun w hw=>?_,fun r hr=>?_,hf,?_,hq⟩
  · by_cases z : r=p∧w=b
    · rw [z.1,z.2,hyb] at e
      cases e
    · rw [ho r w (by by_cases z1 : r=p
                     · exact .inr fun z2=>z ⟨z1,z2⟩
                     · exact .inl z1)] at e
      exact h1 r w e
  · have hc:=h.cw w hw
    have hc2:=h2 w hw
    by_cases z : w=b
    · subst z
      have : col (held.set p x) (List.range ms.length) w=col ((held.set p x).set p y) (List.range ms.length) w + 1:=vv List.nodup_range (List.mem_range.mpr h.pl) hyb hxb fun r hr=>(ho r w (.inl hr)).symm
      rw [vz]
      omega
    · have : col ((held.set p x).set p y) (List.range ms.length) w=col (held.set p x) (List.range ms.length) w:=List.countP_congr fun r _=>by rw [ho r w (.inr z)]
      rw [vA z,this]
      omega
  · have hc:=h.cp r hr
    have hc2:=h3 r hr
    by_cases z : r=p
    · subst z
      have : row (held.set r x) os.length r=row ((held.set r x).set r y) os.length r + 1:=vv List.nodup_range (List.mem_range.mpr hb2) hyb hxb fun w hw=>(ho r w (.inr hw)).symm
      rw [vz] at hc2
      omega
    · have : row ((held.set p x).set p y) os.length r=row (held.set p x) os.length r:=List.countP_congr fun w _=>by rw [ho r w (.inl z)]
      rw [vA z] at hc2
      rw [this]
      omega
  · rw [ho q b (.inl hqp),yE hp,if_neg hqp]
    exact hn
noncomputable abbrev zH:=List (Nat × Option (Nat × Nat))
noncomputable def Wg (ms held zc : List Nat) (c : zH) (i p : Nat) : Option (Nat × Nat)→Prop
  | none=>0 < zc.getD p 0
  | some (w,q)=>(∃ j o,j < i∧c[j]?=some (q,o))∧hb ms q w=true∧hb held q w=false∧hb held p w=true
structure Tree (ms held zc : List Nat) (n : Nat) (c : zH) : Prop where
  nd : (c.map Prod.fst).Nodup
  lt : ∀ x∈c,x.1 < n
  Zg : ∀ (i p : Nat) (o : Option (Nat × Nat)),c[i]?=some (p,o)→Wg ms held zc c i p o
theorem Yg {ms held zc : List Nat} {c d : zH} {i p : Nat} : ∀ {o : Option (Nat × Nat)},Wg ms held zc c i p o→(∀ (j : Nat) (x : Nat × Option (Nat × Nat)),c[j]?=some x→d[j]?=some x)→Wg ms held zc d i p o
  | none,h,_=>h
  | some (w,q),⟨⟨j,o,hj,e⟩,h1⟩,k=>⟨⟨j,o,hj,k j _ e⟩,h1⟩
theorem Tree.snoc {ms held zc : List Nat} {n : Nat} {c : zH} (t : Tree ms held zc n c) {p : Nat} {o : Option (Nat × Nat)} (hp : p < n) (hn : p∉c.map Prod.fst) (he : Wg ms held zc c c.length p o) : Tree ms held zc n (c ++ [(p,o)]):=by
  have up : ∀ (j : Nat) (x : Nat × Option (Nat × Nat)),c[j]?=some x→(c ++ [(p,o)])[j]?=some x:=fun j x e=>by
    rw [List.getElem?_append_left (List.getElem?_eq_some_iff.mp e).1]
    exact e
  refine ⟨?_,fun x hx=>?_,fun i q o' e=>?_⟩
  · rw [List.map_append]
    refine List.nodup_append.mpr ⟨t.nd,List.nodup_cons.mpr ⟨(fun z=>nomatch z),List.nodup_nil⟩,fun x hx y hy e=>?_⟩
    rw [List.mem_singleton.mp hy] at e
    have e' : x=p:=e
    exact hn (e' ▸ hx)
  · rcases List.mem_append.mp hx with z | z
    · exact t.lt x z
    · rw [List.mem_singleton.mp z]; exact hp
  · by_cases hi : i < c.length
    · rw [List.getElem?_append_left hi] at e
      exact Yg (t.Zg i q o' e) up
    · rw [List.getElem?_append_right (by omega)] at e
      have hlt:=(List.getElem?_eq_some_iff.mp e).1
      rw [List.length_singleton] at hlt
      have hi' : i=c.length:=by omega
      rw [show i - c.length=0 by omega] at e
      obtain ⟨rfl,rfl⟩:=Prod.mk.inj (Option.some.inj e)
      rw [hi']
      exact Yg he up
structure Done (ms held left : List Nat) (n : Nat) (c : zH) (k : Nat) : Prop where
  none : ∀ j p o,j < k→c[j]?=some (p,o)→∀ w,hb ms p w=true→hb held p w=false→left.getD w 0=0
  Wf : ∀ j p o,j < k→c[j]?=some (p,o)→∀ w,hb ms p w=true→hb held p w=false→∀ q,q < n→hb held q w=true→q∈c.map Prod.fst
theorem Tree.stuck {ms held zc left : List Nat} {n : Nat} {c : zH} (t : Tree ms held zc n c) (h : Done ms held left n c c.length) (hw : ∀ p,p < n→0 < zc.getD p 0→p∈c.map Prod.fst) : ZA ms held zc left (c.map Prod.fst) n:=by
  have ix : ∀ p∈c.map Prod.fst,∃ j o,j < c.length∧c[j]?=some (p,o):=fun p hp=>by
    obtain ⟨x,hx,rfl⟩:=List.mem_map.mp hp
    obtain ⟨j,hj,rfl⟩:=List.getElem_of_mem hx
    exact ⟨j,c[j].2,hj,List.getElem?_eq_getElem hj⟩
  refine ⟨⟨t.nd,fun p hp=>?_⟩,hw,fun p hp w=>?_,fun p hp w=>?_⟩
  · obtain ⟨x,hx,rfl⟩:=List.mem_map.mp hp
    exact t.lt x hx
  · obtain ⟨j,o,hj,e⟩:=ix p hp
    exact h.none j p o hj e w
  · obtain ⟨j,o,hj,e⟩:=ix p hp
    exact h.Wf j p o hj e w
end CD
namespace L13
open PySem PySem.Spec PyProof.Rows L2 L3 L4 L6
section
variable {α : Type} {Pd : Hp→V→α→Prop} {D D' : Hp}
noncomputable def Els (Pd : Hp→V→α→Prop) (D : Hp) (vs : List V) (as : List α) : Prop:=vs.length=as.length∧∀ (i : Nat) (v : V) (a : α),vs[i]?=some v→as[i]?=some a→Pd D v a
theorem Els.nil : Els Pd D [] []:=⟨rfl,fun i v a h=>by cases h⟩
theorem Els.app {vs us : List V} {as bs : List α} (h : Els Pd D vs as) (k : Els Pd D us bs) : Els Pd D (vs ++ us) (as ++ bs):=by
  refine ⟨by rw [List.length_append,List.length_append,h.1,k.1],fun i v a e1 e2=>?_⟩
  by_cases hi : i < vs.length
  · rw [List.getElem?_append_left hi] at e1
    rw [List.getElem?_append_left (by rw [← h.1]; exact hi)] at e2
    exact h.2 i v a e1 e2
  · rw [List.getElem?_append_right (by omega)] at e1
    rw [List.getElem?_append_right (by rw [← h.1]; omega),← h.1] at e2
    exact k.2 _ v a e1 e2
theorem Els.one {v : V} {a : α} (h : Pd D v a) : Els Pd D [v] [a]:=⟨rfl,fun i v' a' e1 e2=>by
  cases i with
  | zero=>cases e1; cases e2; exact h
  | succ i=>cases e1⟩
theorem Els.snoc {vs : List V} {as : List α} {v : V} {a : α} (h : Els Pd D vs as) (k : Pd D v a) : Els Pd D (vs ++ [v]) (as ++ [a]):=h.app (Els.one k)
theorem Els.up (mono : ∀ v a,Pd D v a→Pd D' v a) {vs : List V} {as : List α} (h : Els Pd D vs as) : Els Pd D' vs as:=⟨h.1,fun i v a e1 e2=>mono v a (h.2 i v a e1 e2)⟩
theorem Els.at_ {vs : List V} {as : List α} {i : Nat} {a : α} (h : Els Pd D vs as) (e : as[i]?=some a) : ∃ v,vs[i]?=some v∧Pd D v a:=by
  have hi : i < as.length:=(List.getElem?_eq_some_iff.mp e).1
  have hv : vs[i]?=some (vs[i]'(by rw [h.1]; exact hi)):=List.getElem?_eq_getElem (by rw [h.1]; exact hi)
  exact ⟨_,hv,h.2 i _ a hv e⟩
end
theorem VW {α : Type} {Pd : Hp→V→α→Prop} (mono : ∀ {D D' : Hp} {v : V} {a : α},Same D D'→Pd D v a→Pd D' v a) {J : It} {xs : List V} {P : Hp→Prop} {q : Addr} {g : TG} {tc : TT} {te : TE} {Q : Hp→Prop} {σ : L2.St} {D H : Hp} (s0 : Same D H) (hq0 : H q=none) (Y : ji J xs P) (S : L2.St→Prop) (as : List α)
    (hl : as.length=xs.length) (h0 : S σ) (hP : ∀ H',Same H H'→P H') (hz : xs.length < sizeLine)
    (step : ∀ (i : Nat) (x : V) (a : α) (σ : L2.St) (D1 H1 : Hp) (R1 : L2.St→V→Hp→Prop) (R0 : L2.St→Hp→Prop),xs[i]?=some x→as[i]?=some a→S σ→Gr D H D1 H1 →
      (∀ σ2 y D4 H4,S σ2→Gr D1 H1 D4 H4→Pd D4 y a→R1 σ2 y H4) →
      g x σ H1 fun σ2 H2=>tc σ2 H2 fun b H3=>if b=true then te σ2 H3 fun y H4=>R1 σ2 y H4 else R0 σ2 H3)
    (hq : ∀ D' H' ys,Gr D H D' H'→H' q=some (.lst ys)→D' q=none→Els Pd D' ys as→Q H') :
    ∃ W : Nat→Nat→List V→L2.St→Hp→Prop,(∃ m,W 0 m [] σ (upd H q (.lst [])))∧jL q J g tc te Q W:=by
  refine YN Y (fun i ys σ H'=>∃ D',Gr D H D' H'∧H' q=some (.lst ys)∧D' q=none∧Els Pd D' ys (as.take i)∧S σ) ⟨D,Gr.ZT s0 hq0,upd_same,s0.free hq0,by rw [List.take_zero]; exact Els.nil,h0⟩
    (fun i ys σ H' ⟨D',G,e,_,hA,_⟩=>⟨hP H' G.hh,e,?_⟩) hz (fun i x ys σ H' hx ⟨D',G,e,n,hA,hS⟩=>?_) fun ys σ H' ⟨D',G,e,n,hA,_⟩=>?_
  · rw [hA.1,List.length_take]
    omega
  · have hi : i < xs.length:=(List.getElem?_eq_some_iff.mp hx).1
    have ha : as[i]?=some (as[i]'(by omega)):=List.getElem?_eq_getElem (by omega)
    refine step i x _ σ D' H' _ _ hx ha hS G fun σ2 y D4 H4 h2 G4 hy=>?_
    obtain ⟨e4,n4⟩:=G4.old e n
    have T:=G.trans G4
    refine ⟨e4,D4,⟨T.dd,fun b o eb=>?_,zT T.dh n4,T.nw⟩,upd_same,n4,?_,h2⟩
    · rw [upd_ne (ne_of_none eb hq0)]
      exact T.hh b o eb
    · rw [take_snoc ha]
      exact (hA.up fun v a=>mono G4.dd).snoc hy
  · rw [← hl,List.take_length] at hA
    exact hq D' H' ys G e n hA
end L13
namespace CO
open PySem L2 L3 L4 L6 CD
noncomputable def fs (pm ph ps pl pc : Addr) : List (Str × V):=[("masks",.ref pm),("held",.ref ph),("still",.ref ps),("left",.ref pl),("came",.ref pc)]
theorem nms : ("held" : Str)≠"masks"∧("still" : Str)≠"masks"∧("still" : Str)≠"held"∧("left" : Str)≠"masks"∧("left" : Str)≠"held"∧("left" : Str)≠"still"∧("came" : Str)≠"masks"∧("came" : Str)≠"held"∧("came" : Str)≠"still"∧("came" : Str)≠"left":=by decide +kernel
theorem jr {k : Str} {v : V} {r : List (Str × V)} : List.lookup k ((k,v) :: r)=some v:=by rw [List.lookup_cons,beq_self_eq_true]
theorem z5 {k x : Str} {v : V} {r : List (Str × V)} (h : k≠x) : List.lookup k ((x,v) :: r)=List.lookup k r:=by rw [List.lookup_cons,beq_eq_false_iff_ne.mpr h]
theorem zak {k : Str} {v w : V} {r : List (Str × V)} : putF k w ((k,v) :: r)=(k,w) :: r:=by rw [putF,if_pos rfl]
theorem yd {k x : Str} {v w : V} {r : List (Str × V)} (h : k≠x) : putF k w ((x,v) :: r)=(x,v) :: putF k w r:=by rw [putF,if_neg h.symm]
section
variable {pm ph ps pl pc : Addr}
theorem JY : (fs pm ph ps pl pc).lookup ("masks" : Str)=some (.ref pm):=jr
theorem wu : (fs pm ph ps pl pc).lookup ("held" : Str)=some (.ref ph):=by unfold fs; rw [z5 nms.1,jr]
theorem jN : (fs pm ph ps pl pc).lookup ("still" : Str)=some (.ref ps):=by unfold fs; rw [z5 nms.2.1,z5 nms.2.2.1,jr]
theorem Y3 : (fs pm ph ps pl pc).lookup ("left" : Str)=some (.ref pl):=by unfold fs; rw [z5 nms.2.2.2.1,z5 nms.2.2.2.2.1,z5 nms.2.2.2.2.2.1,jr]
theorem jt : (fs pm ph ps pl pc).lookup ("came" : Str)=some (.ref pc):=by unfold fs; rw [z5 nms.2.2.2.2.2.2.1,z5 nms.2.2.2.2.2.2.2.1,z5 nms.2.2.2.2.2.2.2.2.1,z5 nms.2.2.2.2.2.2.2.2.2,jr]
theorem zal {v : V} : putF "came" v (fs pm ph ps pl pc)=([("masks",.ref pm),("held",.ref ph),("still",.ref ps),("left",.ref pl),("came",v)] : List (Str × V)):=by
  unfold fs
  rw [yd nms.2.2.2.2.2.2.1,yd nms.2.2.2.2.2.2.2.1,yd nms.2.2.2.2.2.2.2.2.1,yd nms.2.2.2.2.2.2.2.2.2,zak]
end
structure Dlr (C : Addr) (D H : Hp) (x dx pm ph ps pl pc : Addr) (ms held zc left : List Nat) (kvs : List (Key × V)) : Prop where
  ins : H x=some (.ins C dx (fs pm ph ps pl pc))
  m : H pm=some (.lst (nV ms))
  h : H ph=some (.lst (nV held))
  s : H ps=some (.lst (nV zc))
  l : H pl=some (.lst (nV left))
  c : H pc=some (.dK kvs)
  nd : [pm,ph,ps,pl].Nodup
  ox : D x=none
  om : D pm=none
  oh : D ph=none
  os : D ps=none
  ol : D pl=none
  oc : D pc=none
  dh : Same D H
section
variable {C : Addr} {D H : Hp} {x dx pm ph ps pl pc : Addr} {ms held zc left : List Nat} {kvs : List (Key × V)}
theorem ne_of {a b : Addr} {o u : HO} (ha : H a=some o) (hb : H b=some u) (h : o≠u) : a≠b:=fun z=>h (Option.some.inj (by rw [← ha,← hb,z]))
theorem Dlr.xm (r : Dlr C D H x dx pm ph ps pl pc ms held zc left kvs) : x≠pm∧x≠ph∧x≠ps∧x≠pl∧x≠pc:=⟨ne_of r.ins r.m (fun z=>nomatch z),ne_of r.ins r.h (fun z=>nomatch z),ne_of r.ins r.s (fun z=>nomatch z),ne_of r.ins r.l (fun z=>nomatch z),ne_of r.ins r.c (fun z=>nomatch z)⟩
theorem Dlr.cm (r : Dlr C D H x dx pm ph ps pl pc ms held zc left kvs) : pc≠pm∧pc≠ph∧pc≠ps∧pc≠pl:=⟨ne_of r.c r.m (fun z=>nomatch z),ne_of r.c r.h (fun z=>nomatch z),ne_of r.c r.s (fun z=>nomatch z),ne_of r.c r.l (fun z=>nomatch z)⟩
theorem Dlr.mm (r : Dlr C D H x dx pm ph ps pl pc ms held zc left kvs) : pm≠ph∧pm≠ps∧pm≠pl∧ph≠ps∧ph≠pl∧ps≠pl:=by
  have:=r.nd
  simp only [List.nodup_cons,List.mem_cons,List.not_mem_nil,or_false,not_or] at this
  obtain ⟨⟨a,b,c⟩,⟨d,e⟩,f,_⟩:=this
  exact ⟨a,b,c,d,e,f⟩
theorem Dlr.gr {D' H' : Hp} (r : Dlr C D H x dx pm ph ps pl pc ms held zc left kvs) (g : Gr D H D' H') : Dlr C D' H' x dx pm ph ps pl pc ms held zc left kvs :=
  ⟨g.hh _ _ r.ins,g.hh _ _ r.m,g.hh _ _ r.h,g.hh _ _ r.s,g.hh _ _ r.l,g.hh _ _ r.c,r.nd,g.nw _ _ r.ins r.ox,g.nw _ _ r.m r.om,g.nw _ _ r.h r.oh,g.nw _ _ r.s r.os,g.nw _ _ r.l r.ol,g.nw _ _ r.c r.oc,g.dh⟩
theorem Dlr.other {b : Addr} {o : HO} (r : Dlr C D H x dx pm ph ps pl pc ms held zc left kvs) (hb : b∉[x,pm,ph,ps,pl,pc]) (hd : D b=none) : Dlr C D (upd H b o) x dx pm ph ps pl pc ms held zc left kvs:=by
  simp only [List.mem_cons,List.not_mem_nil,or_false,not_or] at hb
  obtain ⟨b1,b2,b3,b4,b5,b6⟩:=hb
  exact ⟨by rw [upd_ne (Ne.symm b1)]; exact r.ins,by rw [upd_ne (Ne.symm b2)]; exact r.m,by rw [upd_ne (Ne.symm b3)]; exact r.h,by rw [upd_ne (Ne.symm b4)]; exact r.s,by rw [upd_ne (Ne.symm b5)]; exact r.l,by rw [upd_ne (Ne.symm b6)]; exact r.c,r.nd,r.ox,r.om,r.oh,r.os,r.ol,r.oc,zT r.dh hd⟩
theorem Dlr.setC (r : Dlr C D H x dx pm ph ps pl pc ms held zc left kvs) (kvs' : List (Key × V)) : Dlr C D (upd H pc (.dK kvs')) x dx pm ph ps pl pc ms held zc left kvs':=by
  obtain ⟨c1,c2,c3,c4⟩:=r.cm
  exact ⟨by rw [upd_ne r.xm.2.2.2.2]; exact r.ins,by rw [upd_ne c1.symm]; exact r.m,by rw [upd_ne c2.symm]; exact r.h,by rw [upd_ne c3.symm]; exact r.s,by rw [upd_ne c4.symm]; exact r.l,upd_same,r.nd,r.ox,r.om,r.oh,r.os,r.ol,r.oc,zT r.dh r.oc⟩
theorem Dlr.zam (r : Dlr C D H x dx pm ph ps pl pc ms held zc left kvs) (held' : List Nat) : Dlr C D (upd H ph (.lst (nV held'))) x dx pm ph ps pl pc ms held' zc left kvs:=by
  obtain ⟨a,b,c,d,e,f⟩:=r.mm
  exact ⟨by rw [upd_ne r.xm.2.1]; exact r.ins,by rw [upd_ne a]; exact r.m,upd_same,by rw [upd_ne d.symm]; exact r.s,by rw [upd_ne e.symm]; exact r.l,by rw [upd_ne r.cm.2.1]; exact r.c,r.nd,r.ox,r.om,r.oh,r.os,r.ol,r.oc,zT r.dh r.oh⟩
theorem Dlr.zbS (r : Dlr C D H x dx pm ph ps pl pc ms held zc left kvs) (zP : List Nat) : Dlr C D (upd H ps (.lst (nV zP))) x dx pm ph ps pl pc ms held zP left kvs:=by
  obtain ⟨a,b,c,d,e,f⟩:=r.mm
  exact ⟨by rw [upd_ne r.xm.2.2.1]; exact r.ins,by rw [upd_ne b]; exact r.m,by rw [upd_ne d]; exact r.h,upd_same,by rw [upd_ne f.symm]; exact r.l,by rw [upd_ne r.cm.2.2.1]; exact r.c,r.nd,r.ox,r.om,r.oh,r.os,r.ol,r.oc,zT r.dh r.os⟩
theorem Dlr.zbT (r : Dlr C D H x dx pm ph ps pl pc ms held zc left kvs) (left' : List Nat) : Dlr C D (upd H pl (.lst (nV left'))) x dx pm ph ps pl pc ms held zc left' kvs:=by
  obtain ⟨a,b,c,d,e,f⟩:=r.mm
  exact ⟨by rw [upd_ne r.xm.2.2.2.1]; exact r.ins,by rw [upd_ne c]; exact r.m,by rw [upd_ne e]; exact r.h,by rw [upd_ne f]; exact r.s,upd_same,by rw [upd_ne r.cm.2.2.2]; exact r.c,r.nd,r.ox,r.om,r.oh,r.os,r.ol,r.oc,zT r.dh r.ol⟩
theorem Dlr.zbU (r : Dlr C D H x dx pm ph ps pl pc ms held zc left kvs) {pc' : Addr} {kvs' : List (Key × V)} (e : H pc'=some (.dK kvs')) (hd : D pc'=none) : Dlr C D (upd H x (.ins C dx (fs pm ph ps pl pc'))) x dx pm ph ps pl pc' ms held zc left kvs':=by
  obtain ⟨x1,x2,x3,x4,x5⟩:=r.xm
  exact ⟨upd_same,by rw [upd_ne x1.symm]; exact r.m,by rw [upd_ne x2.symm]; exact r.h,by rw [upd_ne x3.symm]; exact r.s,by rw [upd_ne x4.symm]; exact r.l,by rw [upd_ne (ne_of e r.ins (fun z=>nomatch z))]; exact e,r.nd,r.ox,r.om,r.oh,r.os,r.ol,hd,zT r.dh r.ox⟩
end
noncomputable def PV (D : Hp) (v : V) : Option (Nat × Nat)→Prop
  | none=>v = .non
  | some (w,q)=>∃ t,v = .ref t∧D t=some (.tup [.int (w : Nat),.int (q : Nat)])
theorem PV.up {D D' : Hp} {v : V} (s : Same D D') : ∀ {o : Option (Nat × Nat)},PV D v o→PV D' v o
  | none,h=>h
  | some (_,_),⟨t,e,h⟩=>⟨t,e,s _ _ h⟩
noncomputable def pk (p : Nat) : Key:=Sum.inl ((p : Nat) : Int)
theorem Y4 {p q : Nat} (h : pk p=pk q) : p=q:=by
  have:=Sum.inl.inj h
  omega
structure zM (D : Hp) (kvs : List (Key × V)) (c : zH) : Prop where
  keys : kvs.map Prod.fst=c.map fun e=>pk e.1
  vals : L13.Els PV D (kvs.map Prod.snd) (c.map Prod.snd)
theorem zM.nil {D : Hp} : zM D [] []:=⟨rfl,L13.Els.nil⟩
theorem zM.up {D D' : Hp} {kvs : List (Key × V)} {c : zH} (s : Same D D') (h : zM D kvs c) : zM D' kvs c:=⟨h.keys,h.vals.up fun _ _=>PV.up s⟩
theorem zM.len {D : Hp} {kvs : List (Key × V)} {c : zH} (h : zM D kvs c) : kvs.length=c.length:=by
  have:=congrArg List.length h.keys
  rwa [List.length_map,List.length_map] at this
theorem zM.key {D : Hp} {kvs : List (Key × V)} {c : zH} (h : zM D kvs c) {kv : Key × V} (hm : kv∈kvs) : ∃ e∈c,kv.1=pk e.1:=by
  have : kv.1∈kvs.map Prod.fst:=List.mem_map.mpr ⟨kv,hm,rfl⟩
  rw [h.keys] at this
  obtain ⟨e,he,h1⟩:=List.mem_map.mp this
  exact ⟨e,he,h1.symm⟩
theorem zM.has {D : Hp} {kvs : List (Key × V)} {c : zH} (h : zM D kvs c) (p : Nat) : (valV kvs (pk p)).isSome=decide (p∈c.map Prod.fst):=by
  unfold valV
  rw [Option.isSome_map,Bool.eq_iff_iff,List.find?_isSome,decide_eq_true_eq]
  constructor
  · rintro ⟨kv,hm,e⟩
    obtain ⟨x,hx,h1⟩:=h.key hm
    rw [h1] at e
    rw [← Y4 (of_decide_eq_true e)]
    exact List.mem_map.mpr ⟨x,hx,rfl⟩
  · intro hp
    obtain ⟨x,hx,rfl⟩:=List.mem_map.mp hp
    have : pk x.1∈kvs.map Prod.fst:=by rw [h.keys]; exact List.mem_map.mpr ⟨x,hx,rfl⟩
    obtain ⟨kv,hkv,e⟩:=List.mem_map.mp this
    exact ⟨kv,hkv,decide_eq_true e⟩
theorem zM.snoc {D : Hp} {kvs : List (Key × V)} {c : zH} (h : zM D kvs c) {p : Nat} {v : V} {o : Option (Nat × Nat)} (hn : p∉c.map Prod.fst) (hv : PV D v o) : putK kvs (pk p) v=kvs ++ [(pk p,v)]∧zM D (kvs ++ [(pk p,v)]) (c ++ [(p,o)]):=by
  refine ⟨?_,?_,?_⟩
  · unfold putK
    rw [if_neg]
    intro z
    obtain ⟨kv,hm,e⟩:=List.any_eq_true.mp z
    obtain ⟨x,hx,h1⟩:=h.key hm
    rw [h1] at e
    exact hn (by rw [← Y4 (of_decide_eq_true e)]; exact List.mem_map.mpr ⟨x,hx,rfl⟩)
  · rw [List.map_append,List.map_append,h.keys]
    rfl
  · rw [List.map_append,List.map_append]
    exact h.vals.snoc hv
theorem Vn : ∀ {kvs : List (Key × V)} {i : Nat} {k : Key} {v : V},(kvs.map Prod.fst).Nodup→kvs[i]?=some (k,v)→valV kvs k=some v
  | [],i,k,v,_,e=>by cases e
  | (a,b) :: r,0,k,v,_,e=>by
    cases e
    exact valV_pos rfl
  | (a,b) :: r,i + 1,k,v,hn,e=>by
    have ⟨h1,h2⟩:=List.nodup_cons.mp hn
    have hne : ¬ (a=k):=fun z=>h1 (by rw [show (a,b).1=k from z]; exact List.mem_map.mpr ⟨(k,v),List.mem_of_getElem? e,rfl⟩)
    have:=Vn h2 e
    unfold valV at this ⊢
    rw [List.find?_cons_of_neg (by simpa using hne)]
    exact this
theorem zM.get {D : Hp} {kvs : List (Key × V)} {c : zH} (h : zM D kvs c) (hn : (c.map Prod.fst).Nodup) {i p : Nat} {o : Option (Nat × Nat)} (e : c[i]?=some (p,o)) : ∃ v,valV kvs (pk p)=some v∧PV D v o:=by
  have e2 : (c.map Prod.snd)[i]?=some o:=by rw [List.getElem?_map,e]; rfl
  obtain ⟨v,ev,pv⟩:=h.vals.at_ e2
  rw [List.getElem?_map] at ev
  obtain ⟨kv,ekv,rfl⟩:=Option.map_eq_some_iff.mp ev
  have ek : kv.1=pk p:=by
    have h1 : (kvs.map Prod.fst)[i]?=some kv.1:=by rw [List.getElem?_map,ekv]; rfl
    rw [h.keys,List.getElem?_map,e] at h1
    exact (Option.some.inj h1).symm
  refine ⟨kv.2,Vn ?_ (by rw [ekv,← ek]),pv⟩
  rw [h.keys,show (fun e : Nat × Option (Nat × Nat)=>pk e.1)=pk ∘ Prod.fst from rfl,← List.map_map]
  exact List.Pairwise.map _ (fun a b hab z=>hab (Y4 z)) hn
theorem Dlr.fresh {C : Addr} {D H : Hp} {x dx pm ph ps pl pc : Addr} {ms held zc left : List Nat} {kvs : List (Key × V)} (r : Dlr C D H x dx pm ph ps pl pc ms held zc left kvs) {b : Addr} (hb : H b=none) : b∉[x,pm,ph,ps,pl,pc]:=by
  have nn : ∀ {y : Addr} {o : HO},H y=some o→¬ b=y:=fun e z=>by rw [z,e] at hb; cases hb
  simp only [List.mem_cons,List.not_mem_nil,or_false,not_or]
  exact ⟨nn r.ins,nn r.m,nn r.h,nn r.s,nn r.l,nn r.c⟩
theorem ju {n : Nat} {P : List Nat} (h : yN n P) : P.length≤n:=by
  have h:=x8 (f:=fun _=>one true) h.1 (xh h)
  rw [← xg (fun _=>true),← xg (fun _=>true),List.countP_true,List.length_range] at h
  exact h
theorem Zh {ms held zc : List Nat} {n : Nat} {c : zH} (t : Tree ms held zc n c) : c.length≤n:=by
  have h:=ju (n:=n) (P:=c.map Prod.fst) ⟨t.nd,fun p hp=>by
    obtain ⟨x,hx,rfl⟩:=List.mem_map.mp hp
    exact t.lt x hx⟩
  rwa [List.length_map] at h
theorem Jt (b w : Nat) : (CB.maskOf [b]).testBit w=decide (w=b):=by
  rw [CB.Zb,Bool.eq_iff_iff]
  simp
theorem Yh {α β : Type} {g : α→Option β} {p : α→Bool} {h : α→β} : ∀ {L : List α},(∀ j∈L,g j=if p j=true then some (h j) else none)→L.filterMap g=(L.filter p).map h
  | [],_=>rfl
  | a :: L,hg=>by
    have ih:=Yh (g:=g) (p:=p) (h:=h) (L:=L) fun j hj=>hg j (List.mem_cons_of_mem _ hj)
    have ha:=hg a (List.mem_cons_self ..)
    cases e : p a with
    | true =>
      rw [e,if_pos rfl] at ha
      rw [List.filterMap_cons_some ha,List.filter_cons_of_pos e,List.map_cons,ih]
    | false =>
      rw [e,if_neg (by decide)] at ha
      rw [List.filterMap_cons_none ha,List.filter_cons_of_neg (by rw [e]; decide),ih]
noncomputable def yg (l : List Nat) : List Nat:=(List.range l.length).filter fun w=>decide (0 < l.getD w 0)
theorem Zi {l : List Nat} {w : Nat} : w∈yg l↔0 < l.getD w 0:=by
  unfold yg
  rw [List.mem_filter,List.mem_range,decide_eq_true_eq]
  refine ⟨fun h=>h.2,fun h=>⟨?_,h⟩⟩
  by_cases hw : w < l.length
  · exact hw
  · rw [List.getD_eq_getElem?_getD,List.getElem?_eq_none (by omega)] at h
    exact absurd h (Nat.lt_irrefl 0)
theorem XZ {l : List Nat} {w : Nat} (h : w∈yg l) : w < l.length:=List.mem_range.mp (List.mem_filter.mp h).1
theorem X0 (l : List Nat) : (yg l).Nodup:=List.nodup_range.filter _
theorem VX (l : List Nat) : (yg l).length≤l.length:=Nat.le_trans (List.length_filter_le _ _) (by rw [List.length_range]; exact Nat.le_refl _)
noncomputable def Y5 : Nat→V→Option V:=fun i y=>match y with | .int z=>if 0 < z then some (.int (i : Nat)) else none | _=>none
theorem Y6 (l : List Nat) : L5.yX Y5 (nV l) (nV l).length=nV (yg l):=by
  unfold L5.yX yg
  have ln : (nV l).length=l.length:=by unfold nV; rw [List.length_map]
  rw [ln]
  show _=List.map _ _
  refine Yh fun j hj=>?_
  have hj':=List.mem_range.mp hj
  unfold nV
  rw [List.getElem?_map,List.getElem?_eq_getElem hj']
  have e : l.getD j 0=l[j]:=by rw [List.getD_eq_getElem?_getD,List.getElem?_eq_getElem hj']; rfl
  show (if (0 : Int) < ((l[j] : Nat) : Int) then some (V.int (j : Nat)) else none)=_
  rw [e]
  by_cases h : 0 < l[j]
  · rw [if_pos (by omega),if_pos (decide_eq_true h)]
  · rw [if_neg (by omega),if_neg (by rw [decide_eq_false h]; decide)]
noncomputable def roots (l : List Nat) : zH:=l.map fun p=>(p,none)
theorem wW (l : List Nat) : (roots l).map Prod.fst=l:=by
  unfold roots
  rw [List.map_map]
  exact List.map_id l
theorem Wh {ms held zc : List Nat} {n : Nat} (h : zc.length=n) : Tree ms held zc n (roots (yg zc)):=by
  refine ⟨by rw [wW]; exact X0 zc,fun x hx=>?_,fun i p o e=>?_⟩
  · obtain ⟨p,hp,rfl⟩:=List.mem_map.mp hx
    rw [← h]
    exact XZ hp
  · unfold roots at e
    rw [List.getElem?_map] at e
    obtain ⟨p',hp,e2⟩:=Option.map_eq_some_iff.mp e
    obtain ⟨rfl,rfl⟩:=Prod.mk.inj e2
    exact Zi.mp (List.mem_of_getElem? hp)
theorem Done.nil {ms held left : List Nat} {n : Nat} {c : zH} : Done ms held left n c 0:=⟨fun j _ _ h=>absurd h (Nat.not_lt_zero j),fun j _ _ h=>absurd h (Nat.not_lt_zero j)⟩
theorem Done.step {ms held left : List Nat} {n : Nat} {c new : zH} {k p : Nat} {o : Option (Nat × Nat)} (h : Done ms held left n c k) (hk : c[k]?=some (p,o)) (h1 : ∀ w,hb ms p w=true→hb held p w=false→left.getD w 0=0) (h2 : ∀ w,hb ms p w=true→hb held p w=false→∀ q,q < n→hb held q w=true→q∈(c ++ new).map Prod.fst) : Done ms held left n (c ++ new) (k + 1):=by
  have hkl : k < c.length:=(List.getElem?_eq_some_iff.mp hk).1
  refine ⟨fun j p' o' hj e=>?_,fun j p' o' hj e=>?_⟩ <;> rw [List.getElem?_append_left (by omega)] at e
  · by_cases z : j=k
    · subst z
      rw [hk] at e
      obtain ⟨rfl,rfl⟩:=Prod.mk.inj (Option.some.inj e)
      exact h1
    · exact h.none j p' o' (by omega) e
  · by_cases z : j=k
    · subst z
      rw [hk] at e
      obtain ⟨rfl,rfl⟩:=Prod.mk.inj (Option.some.inj e)
      exact h2
    · intro w e1 e2 q hq e3
      rw [List.map_append]
      exact List.mem_append_left _ (h.Wf j p' o' (by omega) e w e1 e2 q hq e3)
noncomputable def Agree (held hk : List Nat) (c : zH) (j : Nat) : Prop:=∀ (i p : Nat) (o : Option (Nat × Nat)),i≤j→c[i]?=some (p,o)→hk.getD p 0=held.getD p 0
theorem Ju {c : zH} (h : (c.map Prod.fst).Nodup) {i j p : Nat} {o u : Option (Nat × Nat)} (hi : c[i]?=some (p,o)) (hj : c[j]?=some (p,u)) : i=j:=by
  have li : i < (c.map Prod.fst).length:=by rw [List.length_map]; exact (List.getElem?_eq_some_iff.mp hi).1
  have lj : j < (c.map Prod.fst).length:=by rw [List.length_map]; exact (List.getElem?_eq_some_iff.mp hj).1
  have e1 : (c.map Prod.fst)[i]?=some p:=by rw [List.getElem?_map,hi]; rfl
  have e2 : (c.map Prod.fst)[j]?=some p:=by rw [List.getElem?_map,hj]; rfl
  rw [List.getElem?_eq_getElem li] at e1
  rw [List.getElem?_eq_getElem lj] at e2
  have e : (c.map Prod.fst)[i]=(c.map Prod.fst)[j]:=by rw [Option.some.inj e1,Option.some.inj e2]
  rcases Nat.lt_trichotomy i j with z | z | z
  · exact absurd e (List.pairwise_iff_getElem.mp h i j li lj z)
  · exact z
  · exact absurd e.symm (List.pairwise_iff_getElem.mp h j i lj li z)
theorem JZ {ws os ms held hk zc left : List Nat} {c : zH} {k p j b q : Nat} (tr : Tree ms held zc ms.length c) (h : Hand ws os ms hk zc left k p) (ej : c[j]?=some (p,some (b,q))) (ag : Agree held hk c j) {x y : Nat} (hx : ∀ w,x.testBit w=(hb hk p w || decide (w=k))) (hy : ∀ w,y.testBit w=(x.testBit w && !decide (w=b))) :
    ∃ i o,i < j∧c[i]?=some (q,o)∧Hand ws os ms ((hk.set p x).set p y) zc left b q∧Agree held ((hk.set p x).set p y) c i:=by
  obtain ⟨⟨i,o,hi,ei⟩,h1,h2,h3⟩:=tr.Zg j p _ ej
  have hb1 : hb hk p b=true:=by
    unfold hb
    rw [ag j p _ (Nat.le_refl _) ej]
    exact h3
  have hb2 : hb hk q b=false:=by
    unfold hb
    rw [ag i q _ (by omega) ei]
    exact h2
  have hqp : q≠p:=fun z=>by
    subst z
    have:=Ju tr.nd ei ej
    omega
  refine ⟨i,o,hi,ei,h.next hx hy hb1 (tr.lt _ (List.mem_of_getElem? ei)) hqp h1 hb2,fun i' p' o' hi' e'=>?_⟩
  have hp' : p'≠p:=fun z=>by
    subst z
    have:=Ju tr.nd e' ej
    omega
  have hpl : p < hk.length:=by rw [h.lh]; exact h.pl
  rw [CP.yK _ _ _ _ (by rw [List.length_set]; exact hpl),if_neg hp',CP.yK _ _ _ _ hpl,if_neg hp']
  exact ag i' p' o' (by omega) e'
theorem Y7 : ∀ {l : List Nat} {p : Nat},0 < l.getD p 0→zk (l.set p (l.getD p 0 - 1)) + 1=zk l
  | [],p,h=>absurd h (Nat.lt_irrefl 0)
  | a :: l,0,h=>by
    have h' : 0 < a:=h
    show a - 1 + zk l + 1=a + zk l
    omega
  | a :: l,p + 1,h=>by
    have:=Y7 (l:=l) (p:=p) h
    show a + zk (l.set p (l.getD p 0 - 1)) + 1=a + zk l
    omega
theorem jv {pm ph ps pl pc : Addr} {m : Str} (h : m≠"masks"∧m≠"held"∧m≠"still"∧m≠"left"∧m≠"came") : (fs pm ph ps pl pc).lookup m=none:=by
  unfold fs
  rw [z5 h.1,z5 h.2.1,z5 h.2.2.1,z5 h.2.2.2.1,z5 h.2.2.2.2]
  rfl
structure Bld (C : Addr) (H0 H : Hp) (x dx : Addr) (fs : List (Str × V)) (ls : List (Addr × List Nat)) : Prop where
  ins : H x=some (.ins C dx fs)
  keep : ∀ b u,b≠x→H0 b=some u→H b=some u
  at_ : ∀ e∈ls,H e.1=some (.lst (nV e.2))∧H0 e.1=none∧e.1≠x
  nd : (ls.map Prod.fst).Nodup
theorem Bld.grow {C : Addr} {H0 H H' : Hp} {x dx : Addr} {fs : List (Str × V)} {ls : List (Addr × List Nat)} (B : Bld C H0 H x dx fs ls) (s : Same H H') : Bld C H0 H' x dx fs ls :=
  ⟨s _ _ B.ins,fun b u hb e=>s _ _ (B.keep b u hb e),fun e he=>⟨s _ _ (B.at_ e he).1,(B.at_ e he).2⟩,B.nd⟩
theorem Bld.free {C : Addr} {H0 H : Hp} {x dx : Addr} {fs : List (Str × V)} {ls : List (Addr × List Nat)} (B : Bld C H0 H x dx fs ls) {p : Addr} (hp : H p=none) : H0 p=none∧p≠x∧p∉ls.map Prod.fst:=by
  have hx : p≠x:=fun z=>by rw [z,B.ins] at hp; cases hp
  refine ⟨?_,hx,fun hm=>?_⟩
  · cases e : H0 p with
    | none=>rfl
    | some u=>rw [B.keep p u hx e] at hp; cases hp
  · obtain ⟨e,he,rfl⟩:=List.mem_map.mp hm
    rw [(B.at_ e he).1] at hp
    cases hp
theorem Bld.set {C : Addr} {H0 H : Hp} {x dx : Addr} {fs : List (Str × V)} {ls : List (Addr × List Nat)} (B : Bld C H0 H x dx fs ls) (fs' : List (Str × V)) : Bld C H0 (upd H x (.ins C dx fs')) x dx fs' ls :=
  ⟨upd_same,fun b u hb e=>by rw [upd_ne hb]; exact B.keep b u hb e,fun e he=>⟨by rw [upd_ne (B.at_ e he).2.2]; exact (B.at_ e he).1,(B.at_ e he).2⟩,B.nd⟩
theorem Bld.put {C : Addr} {H0 H H' : Hp} {x dx : Addr} {fs : List (Str × V)} {ls : List (Addr × List Nat)} (B : Bld C H0 H x dx fs ls) {p : Addr} {l : List Nat} (hp : H p=none) (s : Same H H') (e : H' p=some (.lst (nV l))) : Bld C H0 H' x dx fs (ls ++ [(p,l)]):=by
  obtain ⟨h1,h2,h3⟩:=B.free hp
  have B':=B.grow s
  refine ⟨B'.ins,B'.keep,fun y hy=>?_,?_⟩
  · rcases List.mem_append.mp hy with z | z
    · exact B'.at_ y z
    · rw [List.mem_singleton.mp z]
      exact ⟨e,h1,h2⟩
  · rw [List.map_append]
    refine List.nodup_append.mpr ⟨B'.nd,List.nodup_cons.mpr ⟨(fun z=>nomatch z),List.nodup_nil⟩,fun u hu y hy z=>?_⟩
    rw [List.mem_singleton.mp hy] at z
    have z' : u=p:=z
    exact h3 (z' ▸ hu)
theorem Bld.dlr {C : Addr} {D H0 H : Hp} {x dx pm ph ps pl pc : Addr} {ms held zc left : List Nat} (B : Bld C H0 H x dx (fs pm ph ps pl pc) [(pm,ms),(ph,held),(ps,zc),(pl,left)]) (sD : Same D H0) (hx : D x=none) (e : H pc=some (.dK [])) (hc : H0 pc=none) : Dlr C D H x dx pm ph ps pl pc ms held zc left []:=by
  have a1:=B.at_ (pm,ms) (by simp)
  have a2:=B.at_ (ph,held) (by simp)
  have a3:=B.at_ (ps,zc) (by simp)
  have a4:=B.at_ (pl,left) (by simp)
  exact ⟨B.ins,a1.1,a2.1,a3.1,a4.1,e,B.nd,hx,sD.free a1.2.1,sD.free a2.2.1,sD.free a3.2.1,sD.free a4.2.1,sD.free hc,fun b u eb=>B.keep b u (fun z=>by rw [z,hx] at eb; cases eb) (sD b u eb)⟩
theorem J1 {pm ph ps pl pc pd : Addr} : putF "came" (.ref pd) (fs pm ph ps pl pc)=fs pm ph ps pl pd:=zal
theorem p1 {v : V} : putF "masks" v []=([("masks",v)] : List (Str × V)):=rfl
theorem p2 {v a : V} : putF "held" v ([("masks",a)] : List (Str × V))=([("masks",a),("held",v)] : List (Str × V)):=by rw [yd nms.1]; rfl
theorem p3 {v a b : V} : putF "still" v ([("masks",a),("held",b)] : List (Str × V))=([("masks",a),("held",b),("still",v)] : List (Str × V)):=by rw [yd nms.2.1,yd nms.2.2.1]; rfl
theorem p4 {v a b c : V} : putF "left" v ([("masks",a),("held",b),("still",c)] : List (Str × V))=([("masks",a),("held",b),("still",c),("left",v)] : List (Str × V)):=by rw [yd nms.2.2.2.1,yd nms.2.2.2.2.1,yd nms.2.2.2.2.2.1]; rfl
theorem p5 {v a b c d : V} : putF "came" v ([("masks",a),("held",b),("still",c),("left",d)] : List (Str × V))=([("masks",a),("held",b),("still",c),("left",d),("came",v)] : List (Str × V)):=by rw [yd nms.2.2.2.2.2.2.1,yd nms.2.2.2.2.2.2.2.1,yd nms.2.2.2.2.2.2.2.2.1,yd nms.2.2.2.2.2.2.2.2.2]; rfl
theorem zeros (ms : List Nat) : (nV ms).filterMap (fun _=>some (V.int 0))=nV (List.replicate ms.length 0):=by
  induction ms with
  | nil=>rfl
  | cons a r ih =>
    show V.int 0 :: (nV r).filterMap (fun _=>some (V.int 0))=nV (0 :: List.replicate r.length 0)
    rw [ih]
    rfl
theorem Ym (l : List Nat) (w : Nat) : (yg l).contains w=decide (0 < l.getD w 0):=by
  rw [Bool.eq_iff_iff,List.contains_iff_mem,decide_eq_true_eq]
  exact Zi
theorem sum_nat (l : List Nat) : preSum (fun i=>(l.map fun n : Nat=>(n : Int)).getD i 0) (l.map fun n : Nat=>(n : Int)).length=((zk l : Nat) : Int):=by
  rw [L7.Wb]
  refine (vK (fun n=>n) l).trans ?_
  rw [List.map_id']
noncomputable def PrT (p : Nat) (D : Hp) (v : V) (w : Nat) : Prop:=∃ t,v = .ref t∧D t=some (.tup [.int (w : Nat),.int (p : Nat)])
theorem PrT.up {p : Nat} {D D' : Hp} {v : V} {w : Nat} (s : Same D D') : PrT p D v w→PrT p D' v w:=fun ⟨t,e,h⟩=>⟨t,e,s _ _ h⟩
end CO
namespace L15
open PySem PySem.Spec PySem.W PyProof.Rows L2 L3 L4 L6 L7
section
variable {X : Cx}
theorem Y8 (hc : X.calm=true) : CallR X (.builtin "sorted") (fun xs H Q=>∃ (a : Addr) (kvs : List (Key × V)) (ks : List Int),xs=[V.ref a]∧Rd H a (.dK kvs)∧kvs.map Prod.fst=ks.map Sum.inl∧ks.length < 64∧∀ l zs,H l=none→List.Perm zs ks→zs.Pairwise (·≤·)→Q (.ref l) (upd H l (.lst (zs.map V.int)))):=by
  intro pins s σ H xs us Q I r h
  obtain ⟨a,kvs,ks,rfl,hr,ek,h64,q⟩:=h
  obtain ⟨u,rfl,rx⟩:=vals1 r
  cases rx
  obtain ⟨z,y,vs,rel,dd⟩:=dk_rd I.hok hr
  obtain ⟨ep,da⟩:=dd.dictAt
  have hl:=Paired.length rel
  have hk : kvs.length=ks.length:=by
    have:=congrArg List.length ek
    rwa [List.length_map,List.length_map] at this
  have line : 64≤sizeLine:=by decide
  obtain ⟨m,F⟩:=L12.fr_all I
  refine kdu_sorted (A:=X.A) (kdl_dict (knd:=mixKind X.prog X.w) (kvs:=vs) (ep:=ep) y) (I.ok.hd hc) F (L12.news_all s.heap X.env.locals) da (by omega) fun D h' tk us F' N' hD hlu hu=>?_
  have rv : Vals (ks.map V.int) us:=by
    refine vH (by rw [List.length_map]; omega) fun i x u h1 h2=>?_
    rw [List.getElem?_map] at h1
    obtain ⟨k0,hk0,rfl⟩:=Option.map_eq_some_iff.mp h1
    obtain ⟨k,x',h3,h4⟩:=hu i u h2
    have e5 : (kvs.map Prod.fst)[i]?=some (Sum.inl k0):=by rw [ek,List.getElem?_map,hk0]; rfl
    rw [List.getElem?_map] at e5
    obtain ⟨p,hp,ep5⟩:=Option.map_eq_some_iff.mp e5
    obtain ⟨v,hv⟩:=zaj rel hp
    rw [h3] at hv
    have e6 : k=Sum.inl k0:=(Prod.mk.inj (Option.some.inj hv)).1.trans ep5
    subst e6
    exact JS h4
  have eD:=(N' _ (List.mem_cons_self ..)).1
  have nD : D≠X.env.locals:=(N' _ (List.mem_cons_self ..)).2.1
  refine wpAny_call_entry slot_list_sort ⟨_,eD,rfl⟩ entry_list_sort (list_sort_tree eD (vals_ints rv) (by omega) fun out ns' a1 a2 a3=>⟨_,rfl,?_⟩) (args_list_sort _)
  obtain ⟨n',e'⟩:=sortedHeap_at (out:=out) eD
  have old : ∀ b o,b≠D→h'.get? b=some o→(sortedHeap h' D us out).get? b=some o:=fun b o hb e=>(sortedHeap_old hb (Heap.lt_size e)).trans e
  have F'' : Fr L12.bare X.env.locals (sortedHeap h' D us out) m:=by
    obtain ⟨o,x1,x2,ho,rest⟩:=F'.ns
    exact ⟨⟨o,x1,x2,old _ _ nD.symm ho,rest⟩,(fun b o e=>by rw [L12.jo] at e; cases e),Nat.zero_le _⟩
  have N'' : News L12.bare X.env.locals (sortedHeap h' D us out) (L12.ZV s.heap X.env.locals):=fun p hp=>⟨old _ _ (Nat.ne_of_lt (hD p hp)) (N' p (List.mem_cons_of_mem _ hp)).1,(N' p (List.mem_cons_of_mem _ hp)).2⟩
  obtain ⟨noD,I'⟩:=L12.YX I F (t':=tk) F'' N'' (its:=out.toList) (by rw [Array.toArray_toList]; exact e') hD nD (Z8 a1) (by rw [List.length_map,a2.length_eq]; omega)
  exact ⟨.ref D,_,I',rfl,q D ns' noD a2 a3⟩
end
end L15
namespace CD
end CD
namespace CD
structure Gd (ws os ms : List Nat) : Prop where
  len : ws.length=ms.length
  one : 1≤ws.length
  sev : ws.length≤7
  many : os.length≤25
  wt : ∀ (k w : Nat),ws[k]?=some w→1≤k→w≤4
  ml : ∀ m∈ms,m < 2 ^ os.length
end CD
namespace CD
theorem ZX (n p w : Nat) : hb (List.replicate n 0) p w=false:=by
  unfold hb
  have e : (List.replicate n 0).getD p 0=0:=by
    rw [List.getD_eq_getElem?_getD]
    by_cases h : p < n
    · rw [List.getElem?_replicate,if_pos h]; rfl
    · rw [List.getElem?_replicate,if_neg h]; rfl
  rw [e]
  exact Nat.zero_testBit w
theorem zV.start {ws os ms : List Nat} (lw : ws.length=ms.length) (hm : ∀ m∈ms,m < 2 ^ os.length) : zV ws os ms (List.replicate ms.length 0) ws os:=by
  refine ⟨List.length_replicate,lw,lw,rfl,fun p w e=>?_,fun p w e=>?_,fun w _=>?_,fun p _=>?_⟩
  · rw [ZX] at e
    cases e
  · unfold hb at e
    by_cases hp : p < ms.length
    · have h1 : ms.getD p 0∈ms:=by
        rw [List.getD_eq_getElem?_getD,List.getElem?_eq_getElem hp]
        exact List.getElem_mem hp
      by_cases hw : w < os.length
      · exact hw
      · have h2 : ms.getD p 0 < 2 ^ w:=Nat.lt_of_lt_of_le (hm _ h1) (Nat.pow_le_pow_right (by decide) (by omega))
        rw [Nat.testBit_lt_two_pow h2] at e
        cases e
    · rw [List.getD_eq_getElem?_getD,List.getElem?_eq_none (by omega)] at e
      rw [show (none : Option Nat).getD 0=0 from rfl,Nat.zero_testBit] at e
      cases e
  · have : col (List.replicate ms.length 0) (List.range ms.length) w=0:=by
      unfold col
      rw [List.countP_eq_zero]
      intro p _ e
      rw [ZX] at e
      cases e
    omega
  · have : row (List.replicate ms.length 0) os.length p=0:=by
      unfold row
      rw [List.countP_eq_zero]
      intro w _ e
      rw [ZX] at e
      cases e
    omega
theorem zV.small {ws os ms held zc left : List Nat} (d : zV ws os ms held zc left) {m : Nat} (h : m∈held) : m < 2 ^ os.length:=by
  obtain ⟨p,hp,rfl⟩:=List.getElem_of_mem h
  refine Nat.lt_pow_two_of_testBit _ fun w hw=>?_
  cases e : (held[p]).testBit w with
  | false=>rfl
  | true =>
    have : hb held p w=true:=by
      unfold hb
      rw [List.getD_eq_getElem?_getD,List.getElem?_eq_getElem hp]
      exact e
    have:=d.lt p w (d.sub p w this)
    omega
theorem Zj {m n : Nat} (h : m < 2 ^ n) : (CB.zU m).length=(List.range n).countP fun w=>m.testBit w:=by
  rw [List.countP_eq_length_filter]
  refine congrArg List.length (CB.JR (CB.ZU m) (List.Pairwise.filter _ List.pairwise_lt_range) fun k=>?_)
  rw [CB.yy,List.mem_filter,List.mem_range]
  refine ⟨fun e=>⟨?_,e⟩,fun e=>e.2⟩
  by_cases hk : k < n
  · exact hk
  · rw [Nat.testBit_lt_two_pow (Nat.lt_of_lt_of_le h (Nat.pow_le_pow_right (by decide) (by omega)))] at e
    cases e
theorem Y9 (f : Nat→Nat) (l : List Nat) : zk (l.map f)=zk ((List.range l.length).map fun p=>f (l.getD p 0)):=by
  congr 1
  apply List.ext_getElem?
  intro i
  rw [List.getElem?_map,List.getElem?_map]
  by_cases hi : i < l.length
  · rw [List.getElem?_range hi,List.getElem?_eq_getElem hi]
    show some (f l[i])=some (f (l.getD i 0))
    rw [List.getD_eq_getElem?_getD,List.getElem?_eq_getElem hi]
    rfl
  · rw [List.getElem?_eq_none (by omega),List.getElem?_eq_none (by rw [List.length_range]; omega)]
    rfl
theorem zV.few {ws os ms held zc left : List Nat} (d : zV ws os ms held zc left) : zk (held.map fun m=>(CB.zU m).length)≤zk (ws.map fun n=>min n os.length):=by
  rw [Y9 _ held,Y9 _ ws,d.lh,d.lw]
  refine yV fun p hp=>?_
  have hp':=List.mem_range.mp hp
  have hm : held.getD p 0∈held:=by
    rw [List.getD_eq_getElem?_getD,List.getElem?_eq_getElem (by rw [d.lh]; exact hp')]
    exact List.getElem_mem _
  have e : (CB.zU (held.getD p 0)).length=row held os.length p:=Zj (d.small hm)
  have h1:=d.cp p hp'
  have h2 : row held os.length p≤os.length:=Nat.le_trans List.countP_le_length (by rw [List.length_range]; exact Nat.le_refl _)
  show (CB.zU (held.getD p 0)).length≤min (ws.getD p 0) os.length
  omega
end CD
namespace CD
end CD
namespace L16
open PySem PySem.W PyProof.Rows
noncomputable def run (c : Nat→Nat→Bool) {α : Type} : KasT α→α
  | .ret a=>a
  | .ask i j k=>run c (k (c i j))
theorem run_bind (c : Nat→Nat→Bool) {α β : Type} (f : α→KasT β) : ∀ t : KasT α,run c (t.bind f)=run c (f (run c t))
  | .ret _=>rfl
  | .ask i j k=>run_bind c f (k (c i j))
theorem xB (c : Nat→Nat→Bool) {α : Type} {b : Prop} [Decidable b] (x y : KasT α) : run c (if b then x else y)=if b then run c x else run c y:=by split <;> rfl
theorem Vo {c : Nat→Nat→Bool} {α : Type} {n : Nat} {cmp : Nat→Nat→(Bool→Shared→Prop)→Shared→Prop} {Q : α→Shared→Prop} {s : Shared} (hc : ∀ i j C,i < n→j < n→C (c i j) s→cmp i j C s) {R : α→Prop} : ∀ {t : KasT α},L12.zZ n R t→Q (run c t) s→t.kasWp cmp Q s
  | .ret _,_,h=>h
  | .ask i j _,f,h=>hc i j _ f.1 f.2.1 (Vo hc (f.2.2 _) h)
theorem Zk {c : Nat→Nat→Bool} {α : Type} {n : Nat} {R : α→Prop} : ∀ {t : KasT α},L12.zZ n R t→R (run c t)
  | .ret _,h=>h
  | .ask i j k,h=>by
    show R (run c (k (c i j)))
    exact Zk (n:=n) (h.2.2 (c i j))
structure Ord (c : Nat→Nat→Bool) (n : Nat) : Prop where
  yL : ∀ i j,c i j=true→c j i=false
  tr : ∀ i j k,c j i=false→c k j=false→c k i=false
  tot : ∀ i j,i < n→j < n→i≠j→c i j=true∨c j i=true
section
variable {c : Nat→Nat→Bool} {n : Nat}
theorem Ord.lt (o : Ord c n) {i j k : Nat} (h1 : c i j=true) (h2 : c j k=true) : c i k=true:=by
  cases e : c i k with
  | true=>rfl
  | false =>
    rw [o.tr j k i (o.yL j k h2) e] at h1
    cases h1
theorem Ord.zbV (o : Ord c n) {k m a : Nat} (h1 : c k m=true) (h2 : c a m=false) : c k a=true:=by
  cases e : c k a with
  | true=>rfl
  | false =>
    rw [o.tr m a k h2 e] at h1
    cases h1
noncomputable def Up (c : Nat→Nat→Bool) (p : Array Nat) (k : Nat) : Prop:=∀ a b,a < b→b < k→c (p.getD b 0) (p.getD a 0)=false
noncomputable def Down (c : Nat→Nat→Bool) (p : Array Nat) (k : Nat) : Prop:=∀ a b,a < b→b < k→c (p.getD b 0) (p.getD a 0)=true
theorem Up.succ (o : Ord c n) {p : Array Nat} {k : Nat} (h : Up c p k) (hk : 0 < k) (h1 : c (p.getD k 0) (p.getD (k - 1) 0)=false) : Up c p (k + 1):=fun a b hab hb=>by
  by_cases e : b < k
  · exact h a b hab e
  · obtain rfl : b=k:=by omega
    by_cases z : a=b - 1
    · rw [z]
      exact h1
    · exact o.tr _ _ _ (h a (b - 1) (by omega) (by omega)) h1
theorem Down.succ (o : Ord c n) {p : Array Nat} {k : Nat} (h : Down c p k) (hk : 0 < k) (h1 : c (p.getD k 0) (p.getD (k - 1) 0)=true) : Down c p (k + 1):=fun a b hab hb=>by
  by_cases e : b < k
  · exact h a b hab e
  · obtain rfl : b=k:=by omega
    by_cases z : a=b - 1
    · rw [z]
      exact h1
    · exact o.lt h1 (h a (b - 1) (by omega) (by omega))
theorem ZY (o : Ord c n) {p : Array Nat} : ∀ f k,0 < k→Up c p k→k≤run c (kas_asc p f k)∧run c (kas_asc p f k)≤k + f∧Up c p (run c (kas_asc p f k))∧(run c (kas_asc p f k) < k + f→c (p.getD (run c (kas_asc p f k)) 0) (p.getD (run c (kas_asc p f k) - 1) 0)=true)
  | 0,k,_,h=>⟨Nat.le_refl _,Nat.le_refl _,h,fun z=>absurd z (Nat.lt_irrefl _)⟩
  | f + 1,k,hk,h=>by
    have e : run c (kas_asc p (f + 1) k)=if c (p.getD k 0) (p.getD (k - 1) 0)=true then k else run c (kas_asc p f (k + 1)):=by
      show run c (if c (p.getD k 0) (p.getD (k - 1) 0)=true then KasT.ret k else kas_asc p f (k + 1))=_
      rw [xB]
      rfl
    cases h1 : c (p.getD k 0) (p.getD (k - 1) 0) with
    | true =>
      rw [e,h1,if_pos rfl]
      exact ⟨Nat.le_refl _,by omega,h,fun _=>h1⟩
    | false =>
      rw [e,h1,if_neg (by decide)]
      obtain ⟨a1,a2,a3,a4⟩:=ZY o f (k + 1) (by omega) (h.succ o hk h1)
      exact ⟨by omega,by omega,a3,fun z=>a4 (by omega)⟩
theorem ZZ {p : Array Nat} (h : L12.zK n p) {i j : Nat} (hi : i < n) (hj : j < n) (hij : i≠j) : p.getD i 0≠p.getD j 0:=by
  have hp:=Array.perm_iff_toList_perm.mp h
  have hl : p.toList.length=n:=by rw [hp.length_eq]; simp
  have nd : p.toList.Nodup:=hp.nodup_iff.mpr (by simpa using List.nodup_range)
  have e : ∀ k (hk : k < n),p.getD k 0=p.toList[k]'(by omega):=fun k hk=>by
    have hs : k < p.size:=by rw [← Array.length_toList,hl]; exact hk
    simp [Array.getD,hs]
  rw [e i hi,e j hj]
  rcases Nat.lt_or_gt_of_ne hij with z | z
  · exact List.pairwise_iff_getElem.mp nd i j _ _ z
  · exact fun w=>List.pairwise_iff_getElem.mp nd j i _ _ z w.symm
theorem Xa (o : Ord c n) (hn : 0 < n) {p : Array Nat} (hp : L12.zK n p) : ∀ f k,0 < k→k + f≤n→Down c p k→∃ m,run c (kas_desc f p k 0)=(p,m,0)∧k≤m∧m≤k + f∧Down c p m
  | 0,k,_,_,h=>⟨k,rfl,Nat.le_refl _,Nat.le_refl _,h⟩
  | f + 1,k,hk,hkn,h=>by
    have e : run c (kas_desc (f + 1) p k 0)=if c (p.getD k 0) (p.getD (k - 1) 0)=true then run c (kas_desc f p (k + 1) 0) else if c (p.getD (k - 1) 0) (p.getD k 0)=true then (p,k,0) else run c (kas_desc f p (k + 1) 1):=by
      show run c (if c (p.getD k 0) (p.getD (k - 1) 0)=true then (if 0 > 0 then kas_desc f (kas_rev p (k - (0 + 1)) k) (k + 1) 0 else kas_desc f p (k + 1) 0) else .ask (p.getD (k - 1) 0) (p.getD k 0) fun d=>if d=true then .ret (p,k,0) else kas_desc f p (k + 1) (0 + 1))=_
      rw [xB,if_neg (show ¬ ((0 : Nat) > 0) by decide)]
      show (if c (p.getD k 0) (p.getD (k - 1) 0)=true then run c (kas_desc f p (k + 1) 0) else run c (if c (p.getD (k - 1) 0) (p.getD k 0)=true then .ret (p,k,0) else kas_desc f p (k + 1) (0 + 1)))=_
      rw [xB]
      rfl
    rw [e]
    cases h1 : c (p.getD k 0) (p.getD (k - 1) 0) with
    | true =>
      rw [if_pos rfl]
      obtain ⟨m,a1,a2,a3,a4⟩:=Xa o hn hp f (k + 1) (by omega) (by omega) (h.succ o hk h1)
      exact ⟨m,a1,by omega,by omega,a4⟩
    | false =>
      have h2 : c (p.getD (k - 1) 0) (p.getD k 0)=true:=by
        rcases o.tot (p.getD k 0) (p.getD (k - 1) 0) (hp.lt hn _) (hp.lt hn _) (ZZ hp (by omega) (by omega) (by omega)) with z | z
        · rw [h1] at z
          cases z
        · exact z
      rw [if_neg (by decide),h2,if_pos rfl]
      exact ⟨k,rfl,Nat.le_refl _,by omega,h⟩
theorem zan (o : Ord c n) {p : Array Nat} {m : Nat} (hm : m≤p.size) (h : Down c p m) : Up c (kas_rev p 0 m) m:=fun a b hab hb=>by
  have e : ∀ k,k < m→(kas_rev p 0 m).getD k 0=p.getD (m - 1 - k) 0:=fun k hk=>by
    unfold kas_rev
    rw [Array.getD_eq_getD_getElem?,Array.getD_eq_getD_getElem?,getElem?_mirror_all hm,if_pos ⟨Nat.zero_le _,hk⟩,Nat.zero_add]
  rw [e a (by omega),e b hb]
  exact o.yL _ _ (h (m - 1 - b) (m - 1 - a) (by omega) (by omega))
theorem wX {p : Array Nat} (h : L12.zK n p) : p.size=n:=by
  have:=(Array.perm_iff_toList_perm.mp h).length_eq
  simpa using this
theorem Vp (o : Ord c n) (hn : 0 < n) {p : Array Nat} (hp : L12.zK n p) : 1≤(run c (kas_count n p)).1∧(run c (kas_count n p)).1≤n∧Up c (run c (kas_count n p)).2 (run c (kas_count n p)).1:=by
  unfold kas_count
  rw [run_bind]
  obtain ⟨a1,a2,a3,a4⟩:=ZY o (p:=p) (n - 1) 1 (by decide) (fun a b h1 h2=>by omega)
  generalize run c (kas_asc p (n - 1) 1)=m at a1 a2 a3 a4 ⊢
  rw [xB,xB]
  by_cases e1 : m=n
  · rw [if_pos (by rw [e1]; exact beq_self_eq_true _)]
    exact ⟨a1,by show m≤n; omega,a3⟩
  rw [if_neg (by rw [beq_iff_eq]; exact e1)]
  by_cases e2 : m > 1
  · rw [if_pos e2]
    show 1≤(run c (if c (p.getD 0 0) (p.getD (m - 1) 0)=true then KasT.ret (m,p) else kas_descPart m n (kas_rev p 0 m))).1∧_
    have h2 : c (p.getD 0 0) (p.getD (m - 1) 0)=true:=by
      rcases o.tot (p.getD 0 0) (p.getD (m - 1) 0) (hp.lt hn _) (hp.lt hn _) (ZZ hp (by omega) (by omega) (by omega)) with z | z
      · exact z
      · rw [a3 0 (m - 1) (by omega) (by omega)] at z
        cases z
    show _∧(run c (if c (p.getD 0 0) (p.getD (m - 1) 0)=true then KasT.ret (m,p) else kas_descPart m n (kas_rev p 0 m))).1≤n∧Up c (run c (if c (p.getD 0 0) (p.getD (m - 1) 0)=true then KasT.ret (m,p) else kas_descPart m n (kas_rev p 0 m))).2 (run c (if c (p.getD 0 0) (p.getD (m - 1) 0)=true then KasT.ret (m,p) else kas_descPart m n (kas_rev p 0 m))).1
    rw [if_pos h2]
    exact ⟨a1,by show m≤n; omega,a3⟩
  rw [if_neg e2]
  obtain rfl : m=1:=by omega
  have h1:=a4 (by omega)
  unfold kas_descPart
  rw [run_bind]
  obtain ⟨k,b1,b2,b3,b4⟩:=Xa o hn hp (n - (1 + 1)) (1 + 1) (by decide) (by omega) (fun a b h3 h4=>by
    obtain rfl : a=0:=by omega
    obtain rfl : b=1:=by omega
    exact h1)
  rw [b1]
  show _≤(run c (if 0 > 0 then _ else kas_tail3 k n p)).1∧(run c (if 0 > 0 then _ else kas_tail3 k n p)).1≤n∧Up c (run c (if 0 > 0 then _ else kas_tail3 k n p)).2 (run c (if 0 > 0 then _ else kas_tail3 k n p)).1
  rw [if_neg (by decide)]
  unfold kas_tail3
  rw [run_bind]
  obtain ⟨c1,c2,c3,_⟩:=ZY o (p:=kas_rev p 0 k) (n - k) k (by omega) (zan o (by rw [wX hp]; omega) b4)
  exact ⟨by show 1≤run c _; omega,by show run c _≤n; omega,c3⟩
theorem jw (o : Ord c n) {p : Array Nat} {k : Nat} (h : Up c p k) : ∀ f l r,l≤r→r≤k→r - l≤f→(∀ a,a < l→c (p.getD k 0) (p.getD a 0)=false)→(∀ a,r≤a→a < k→c (p.getD k 0) (p.getD a 0)=true) →
    run c (kas_place p k f l r)≤k∧(∀ a,a < run c (kas_place p k f l r)→c (p.getD k 0) (p.getD a 0)=false)∧(∀ a,run c (kas_place p k f l r)≤a→a < k→c (p.getD k 0) (p.getD a 0)=true)
  | 0,l,r,h1,h2,h3,h4,h5=>by
    obtain rfl : l=r:=by omega
    exact ⟨h2,h4,h5⟩
  | f + 1,l,r,h1,h2,h3,h4,h5=>by
    show run c (if l ≥ r then KasT.ret l else _)≤k∧_
    by_cases e : l ≥ r
    · obtain rfl : l=r:=by omega
      have e0 : run c (kas_place p k (f + 1) l l)=l:=by
        show run c (if l ≥ l then KasT.ret l else _)=l
        rw [if_pos (Nat.le_refl _)]
        rfl
      rw [if_pos (Nat.le_refl _)]
      rw [e0]
      exact ⟨h2,h4,h5⟩
    · have e0 : run c (kas_place p k (f + 1) l r)=if c (p.getD k 0) (p.getD ((l + r) / 2) 0)=true then run c (kas_place p k f l ((l + r) / 2)) else run c (kas_place p k f ((l + r) / 2 + 1) r):=by
        show run c (if l ≥ r then KasT.ret l else .ask (p.getD k 0) (p.getD ((l + r) / 2) 0) fun d=>if d=true then kas_place p k f l ((l + r) / 2) else kas_place p k f ((l + r) / 2 + 1) r)=_
        rw [if_neg e]
        show run c (if c (p.getD k 0) (p.getD ((l + r) / 2) 0)=true then kas_place p k f l ((l + r) / 2) else kas_place p k f ((l + r) / 2 + 1) r)=_
        rw [xB]
      show run c (kas_place p k (f + 1) l r)≤k∧_
      rw [e0]
      cases h6 : c (p.getD k 0) (p.getD ((l + r) / 2) 0) with
      | true =>
        rw [if_pos rfl]
        refine jw o h f l ((l + r) / 2) (by omega) (by omega) (by omega) h4 fun a ha hk=>?_
        by_cases z : a=(l + r) / 2
        · rw [z]; exact h6
        · exact o.zbV h6 (h _ _ (by omega) hk)
      | false =>
        rw [if_neg (by decide)]
        refine jw o h f ((l + r) / 2 + 1) r (by omega) h2 (by omega) (fun a ha=>?_) h5
        by_cases z : a=(l + r) / 2
        · rw [z]; exact h6
        · exact o.tr _ _ _ (h a ((l + r) / 2) (by omega) (by omega)) h6
theorem X3 (o : Ord c n) : ∀ f {p : Array Nat} k,0 < k→k + f=n→L12.zK n p→Up c p k→Up c (run c (kas_bin f p k)) n
  | 0,p,k,_,hk,_,h=>by
    rw [Nat.add_zero] at hk
    rw [← hk]
    exact h
  | f + 1,p,k,h0,hk,hp,h=>by
    show Up c (run c ((kas_place p k k 0 k).bind fun l=>kas_bin f (bubble p k (k - l)) (k + 1))) n
    rw [run_bind]
    obtain ⟨a1,a2,a3⟩:=jw o h k 0 k (Nat.zero_le _) (Nat.le_refl _) (by omega) (fun a ha=>absurd ha (Nat.not_lt_zero _)) (fun a h1 h2=>by omega)
    generalize run c (kas_place p k k 0 k)=l at a1 a2 a3 ⊢
    have hs : k < p.size:=by rw [wX hp]; omega
    have e : ∀ a,(bubble p k (k - l)).getD a 0=if a=l then p.getD k 0 else if l < a∧a≤k then p.getD (a - 1) 0 else p.getD a 0:=fun a=>by
      rw [Array.getD_eq_getD_getElem?,getElem?_bubble hs (k - l) (by omega),show k - (k - l)=l by omega,Array.getD_eq_getD_getElem?,Array.getD_eq_getD_getElem?,Array.getD_eq_getD_getElem?]
      repeat' split
      all_goals rfl
    refine X3 o f (k + 1) (by omega) (by omega) ((bubble_perm p k _).trans hp) fun a b hab hb=>?_
    rw [e a,e b]
    by_cases z1 : b=l
    · rw [if_pos z1,if_neg (by omega),if_neg (by omega)]
      exact a2 a (by omega)
    · rw [if_neg z1]
      by_cases z2 : l < b∧b≤k
      · rw [if_pos z2]
        by_cases z3 : a=l
        · rw [if_pos z3]
          exact o.yL _ _ (a3 (b - 1) (by omega) (by omega))
        · rw [if_neg z3]
          by_cases z4 : l < a∧a≤k
          · rw [if_pos z4]
            exact h (a - 1) (b - 1) (by omega) (by omega)
          · rw [if_neg z4]
            exact h a (b - 1) (by omega) (by omega)
      · rw [if_neg z2,if_neg (by omega),if_neg (by omega)]
        exact h a b hab (by omega)
theorem VY (o : Ord c n) (hn : 0 < n) : Up c (run c (kas_sort n)) n:=by
  unfold kas_sort
  rw [run_bind]
  have hp0 : L12.zK n (List.toArray (List.range n)):=Array.Perm.refl _
  obtain ⟨a1,a2,a3⟩:=Vp o hn hp0
  have a4 : L12.zK n (run c (kas_count n (List.toArray (List.range n)))).2:=Zk (L12.Zx hn hp0 n)
  generalize run c (kas_count n (List.toArray (List.range n)))=r at a1 a2 a3 a4 ⊢
  rw [xB]
  by_cases e : r.1 < n
  · rw [if_pos e]
    exact X3 o _ _ (by omega) (by omega) a4 (by rw [Nat.max_eq_left a1]; exact a3)
  · rw [if_neg e]
    rw [show n=r.1 by omega]
    exact a3
end
end L16
namespace L16
open PySem PySem.Spec PySem.W PyProof.Rows L2 L3 L4
theorem xP (a b : CP.Pr) : CP.ya a b=decide (a.1 < b.1∨(a.1=b.1∧a.2 < b.2)):=by
  unfold CP.ya
  rw [HT.lexLt_cons,HT.lexLt_cons,HT.lexLt_nil_nil]
  by_cases h1 : a.1=b.1
  · rw [if_pos h1]
    by_cases h2 : a.2=b.2
    · rw [if_pos h2]
      exact (decide_eq_false (by omega)).symm
    · rw [if_neg h2]
      exact decide_eq_decide.mpr (by omega)
  · rw [if_neg h1]
    exact decide_eq_decide.mpr (by omega)
theorem Z0 {ps : List CP.Pr} (hn : ps.Nodup) : Ord (fun i j=>CP.ya (CP.at' ps i) (CP.at' ps j)) ps.length:=by
  refine ⟨fun i j h=>?_,fun i j k h1 h2=>?_,fun i j hi hj hij=>?_⟩
  · simp only [xP,decide_eq_true_eq,decide_eq_false_iff_not] at h ⊢
    omega
  · simp only [xP,decide_eq_false_iff_not] at h1 h2 ⊢
    omega
  · have ne : CP.at' ps i≠CP.at' ps j:=fun z=>by
      have e1 : CP.at' ps i=ps[i]:=by unfold CP.at'; rw [List.getD_eq_getElem?_getD,List.getElem?_eq_getElem hi]; rfl
      have e2 : CP.at' ps j=ps[j]:=by unfold CP.at'; rw [List.getD_eq_getElem?_getD,List.getElem?_eq_getElem hj]; rfl
      rw [e1,e2] at z
      rcases Nat.lt_or_gt_of_ne hij with w | w
      · exact List.pairwise_iff_getElem.mp hn i j hi hj w z
      · exact List.pairwise_iff_getElem.mp hn j i hj hi w z.symm
    simp only [xP,decide_eq_true_eq]
    have : ¬ ((CP.at' ps i).1=(CP.at' ps j).1∧(CP.at' ps i).2=(CP.at' ps j).2):=fun z=>ne (Prod.ext z.1 z.2)
    omega
section
variable {prog : Program} {w : World} {A : Around} {E : Value→Shared→Prop} {s : Shared}
theorem Xb {v u : Value} {a b : CP.Pr} (hv : ∃ x o n t u,v = .ref x∧s.heap.get? x=some o∧o.cls = .type "tuple"∧o.data = .seq #[.int a.1 t,.int a.2 u] n) (hu : ∃ x o n t v,u = .ref x∧s.heap.get? x=some o∧o.cls = .type "tuple"∧o.data = .seq #[.int b.1 t,.int b.2 v] n) {Q : Bool→Shared→Prop} (q : Q (CP.ya a b) s) : wpAny (model prog w) A (keyLt' (tuples' true) v u) Q E s:=by
  obtain ⟨x,o,n,t,t',rfl,ho,_,hd⟩:=hv
  obtain ⟨y,o2,n2,t2,t3,rfl,ho2,_,hd2⟩:=hu
  rw [xP] at q
  refine kat_lt ho hd ho2 hd2 ?_
  show KatLex prog w A true _ Q [(Value.int a.1 t,Value.int b.1 t2),(Value.int a.2 t',Value.int b.2 t3)] 0 s
  refine kat_cons (wpAny_eqBool_int (kat_go (fun e1=>kat_yes (kat_cons (wpAny_eqBool_int (kat_go (fun e2=>kat_yes (kat_nil ?_)) (fun e2=>kat_no ?_))))) (fun e1=>kat_no ?_)))
  · have h1 : a.1=b.1:=by simpa using e1
    have h2 : a.2=b.2:=by simpa using e2
    rw [decide_eq_false (by omega)] at q
    exact q
  · have h1 : a.1=b.1:=by simpa using e1
    refine kat_one _ _ (lt_int ?_)
    rw [show decide (a.1 < b.1∨a.1=b.1∧a.2 < b.2)=decide (a.2 < b.2) from decide_eq_decide.mpr (by omega)] at q
    exact q
  · have h1 : ¬ a.1=b.1:=by simpa using e1
    refine oneLt_int ?_
    rw [show decide (a.1 < b.1∨a.1=b.1∧a.2 < b.2)=decide (a.1 < b.1) from decide_eq_decide.mpr (by omega)] at q
    exact q
end
section
variable {X : Cx}
theorem Yi {ps : List CP.Pr} (hn : ps.Nodup) {o : Array Nat} (hp : L12.zK ps.length o) (h0 : 0 < ps.length) (h : Up (fun i j=>CP.ya (CP.at' ps i) (CP.at' ps j)) o ps.length) : CP.yo (o.toList.map (CP.at' ps))=true:=by
  refine CP.yZ.mpr fun i hi=>?_
  have hs:=wX hp
  rw [List.length_map,Array.length_toList,hs] at hi
  have e : ∀ k,k < ps.length→CP.at' (o.toList.map (CP.at' ps)) k=CP.at' ps (o.getD k 0):=fun k hk=>by
    refine CP.at_of ?_
    rw [List.getElem?_map,Array.getElem?_toList,Array.getD_eq_getD_getElem?,Array.getElem?_eq_getElem (by omega)]
    rfl
  rw [e i (by omega),e (i + 1) hi]
  have o1:=Z0 hn
  rcases o1.tot (o.getD i 0) (o.getD (i + 1) 0) (hp.lt h0 _) (hp.lt h0 _) (ZZ hp (by omega) hi (by omega)) with z | z
  · exact z
  · have h9 : CP.ya (CP.at' ps (o.getD (i + 1) 0)) (CP.at' ps (o.getD i 0))=false:=h i (i + 1) (by omega) hi
    have z9 : CP.ya (CP.at' ps (o.getD (i + 1) 0)) (CP.at' ps (o.getD i 0))=true:=z
    rw [h9] at z9
    cases z9
theorem X4 {ps : List CP.Pr} {o : Array Nat} (hp : L12.zK ps.length o) : (o.toList.map (CP.at' ps)).Perm ps:=by
  refine ((Array.perm_iff_toList_perm.mp hp).map _).trans (List.Perm.of_eq ?_)
  apply List.ext_getElem?
  intro i
  by_cases hi : i < ps.length
  · simp [hi,CP.at']
  · simp [hi]
theorem jx {K : PySem.W.Frag} {H : Hp} {ys : List V} {ps : List CP.Pr} (hA : zd K H ys (ps.map CP.pairD)) : ∀ L : List Nat,(∀ i∈L,i < ps.length)→zd K H (L.map fun i=>ys.getD i .non) ((L.map (CP.at' ps)).map CP.pairD)
  | [],_=>zd.nil
  | i :: L,h=>by
    have hi:=h i (List.mem_cons_self ..)
    have e : (ps.map CP.pairD)[i]?=some (CP.pairD (CP.at' ps i)):=by
      rw [List.getElem?_map,List.getElem?_eq_getElem hi,CP.at_of (List.getElem?_eq_getElem hi)]
      rfl
    obtain ⟨x,hx,hd⟩:=zd.at_ hA e
    refine zd.cons ?_ (jx hA L fun j hj=>h j (List.mem_cons_of_mem _ hj))
    show zf K H (ys.getD i .non) (CP.pairD (CP.at' ps i))
    rw [List.getD_eq_getElem?_getD,hx]
    exact hd
theorem Xc : CallR X (.builtin "sorted") (fun xs H Q=>∃ (p : Addr) (ys : List V) (ps : List CP.Pr),xs=[.ref p]∧SqL X.K H p ys∧zd X.K H ys (ps.map CP.pairD)∧ps.Nodup∧ps.length < 64∧∀ l zs qs,H l=none→zd X.K H zs (qs.map CP.pairD)→qs.Perm ps→CP.yo qs=true→Q (.ref l) (upd H l (.lst zs))):=by
  intro pins s σ H xs us Q I r h
  obtain ⟨p,ys,ps,rfl,hq,hA,hnd,h64,q⟩:=h
  obtain ⟨u,rfl,rx⟩:=vals1 r
  cases rx
  obtain ⟨its,rv,pl,hz⟩:=I.list hq
  have hlen:=rv.length
  have hlp : ys.length=ps.length:=by have:=zd.length hA; rwa [List.length_map] at this
  have line : 64≤sizeLine:=by decide
  by_cases h2 : its.length < 2
  · obtain ⟨v,hv⟩:=L12.JV h2
    refine L12.We (v:=v) (hv ▸ pl.isList) fun h' D c k hD e=>?_
    rw [← hv] at e
    exact ⟨.ref D,_,I.laid (a:=D) (t':=s.toks) (o := .lst ys) k hD ⟨hz,its,c,rv,e⟩,rfl,q D ys ps (I.hok.fresh hD) hA (List.Perm.refl _) (CP.yZ.mpr fun i hi=>by omega)⟩
  · obtain ⟨m,F⟩:=L12.fr_all I
    have pr : ∀ i,i < its.length→∃ x o n t t',its.getD i Value.none=Value.ref x∧s.heap.get? x=some o∧x≠X.env.locals∧o.cls = .type "tuple"∧o.data = .seq #[.int (CP.at' ps i).1 t,.int (CP.at' ps i).2 t'] n:=fun k hk=>by
      obtain ⟨u',e1,rr⟩:=rv.get (x:=ys[k]'(by omega)) (i:=k) (List.getElem?_eq_getElem (by omega))
      rw [List.getElem?_eq_getElem hk] at e1
      obtain ⟨a,t,ha,ey,ht⟩:=CP.pairs_at hA (List.getElem?_eq_getElem (show k < ys.length by omega))
      rw [ey,← Option.some.inj e1] at rr
      obtain ⟨its2,rv2,⟨o,ho,hc,n,hd⟩,_⟩:=I.tuple (SqT.of ht)
      obtain ⟨v1,v2,rfl,⟨t1,rfl⟩,⟨t2,rfl⟩⟩:=vals2 rv2
      rw [CP.at_of ha]
      refine ⟨t,o,n,t1,t2,?_,ho,fun z=>?_,hc,hd⟩
      · rw [List.getD_eq_getElem?_getD,List.getElem?_eq_getElem hk]
        exact rr
      · obtain ⟨o2,_,_,ho2,hd2,_⟩:=F.ns
        rw [← z,ho] at ho2
        rw [← Option.some.inj ho2,hd] at hd2
        cases hd2
    refine kat_sorted F (L12.news_all s.heap X.env.locals) pl.isList (by omega) (by omega) fun D e1 h' F' N' hD=>?_
    have pr' : ∀ i,i < its.length→∃ x o n t t',its.getD i Value.none=Value.ref x∧h'.get? x=some o∧o.cls = .type "tuple"∧o.data = .seq #[.int (CP.at' ps i).1 t,.int (CP.at' ps i).2 t'] n:=fun i hi=>by
      obtain ⟨x,o,n,t,t',e,ho,hL,hc,hd⟩:=pr i hi
      exact ⟨x,o,n,t,t',e,(N' _ (List.mem_cons_of_mem _ (L12.Zd ho hL))).1,hc,hd⟩
    obtain ⟨fs,kt,lf,hf⟩:=L12.jq (s:={ s with heap:=h' }) (vs:=its) fun v hv=>by
      obtain ⟨k,hk,rfl⟩:=List.getElem_of_mem hv
      obtain ⟨x,o,n,t,t',e,ho,hc,hd⟩:=pr' k hk
      rw [List.getD_eq_getElem?_getD,List.getElem?_eq_getElem hk] at e
      exact ⟨x,o,n,_,_,t,t',e,ho,hc,hd⟩
    refine kat_kind (T := .type "int") kt (by omega) (fun v hv=>?_) (by decide) ?_
    · obtain ⟨i,t,rfl⟩:=hf v hv
      exact .now
    have fin:=L12.Vk (n:=its.length) (by omega)
    refine Vo (n:=its.length) (c:=fun i j=>CP.ya (CP.at' ps i) (CP.at' ps j)) (fun i j C hi hj hC=>?_) fin ?_
    · unfold kas_ask
      exact Xb (s:={ s with heap:=h' }) (pr' i hi) (pr' j hj) hC
    · have ho : L12.zK its.length (run (fun i j=>CP.ya (CP.at' ps i) (CP.at' ps j)) (kas_sort its.length)):=Zk fin
      have hil : its.length=ps.length:=by omega
      have up:=VY (Z0 hnd) (by omega)
      rw [hil] at ho ⊢
      generalize run (fun i j=>CP.ya (CP.at' ps i) (CP.at' ps j)) (kas_sort ps.length)=o at ho up ⊢
      have hz2 : Vals (o.toList.map fun i=>ys.getD i .non) (o.toList.map fun i=>its.getD i Value.none):=by
        refine L7.vH (by rw [List.length_map,List.length_map]) fun i x u h1 h2=>?_
        rw [List.getElem?_map] at h1 h2
        obtain ⟨k,hk,rfl⟩:=Option.map_eq_some_iff.mp h1
        rw [hk] at h2
        obtain rfl:=Option.some.inj h2
        have hkl : k < ps.length:=by
          have:=(Array.perm_iff_toList_perm.mp ho).mem_iff.mp (List.mem_of_getElem? hk)
          simpa using this
        obtain ⟨u',e1,rr⟩:=rv.get (x:=ys[k]'(by omega)) (i:=k) (List.getElem?_eq_getElem (by omega))
        show RelV (ys.getD k .non) (its.getD k Value.none)
        rw [List.getD_eq_getElem?_getD,List.getElem?_eq_getElem (by omega),List.getD_eq_getElem?_getD,e1]
        exact rr
      have hD2 : zd X.K H (o.toList.map fun i=>ys.getD i .non) ((o.toList.map (CP.at' ps)).map CP.pairD):=jx hA _ fun i hi=>by
        have:=(Array.perm_iff_toList_perm.mp ho).mem_iff.mp hi
        simpa using this
      have nD : D≠X.env.locals:=(N' _ (List.mem_cons_self ..)).2.1
      refine KasFin.intro F' N' (UpdF.head fun a ha=>Nat.ne_of_lt (hD a ha)) fun h'' c F'' N''=>?_
      obtain ⟨noD,I'⟩:=L12.YX I F (t':=s.toks) F'' (fun a ha=>N'' a (List.mem_cons_of_mem _ ha)) (N'' _ (List.mem_cons_self ..)).1 hD nD hz2 (by rw [List.length_map,Array.length_toList,wX ho]; omega)
      exact ⟨.ref D,_,I',rfl,q D _ _ noD hD2 (X4 ho) (Yi hnd ho (by omega) up)⟩
end
end L16
namespace CD
open CB (zU)
noncomputable def hpT (held : List Nat) : Nat→List (Nat × Nat)
  | 0=>[]
  | i + 1=>hpT held i ++ (zU (held.getD i 0)).map fun w=>(w,i)
theorem jO {held : List Nat} {w p : Nat} : ∀ {i : Nat},(w,p)∈hpT held i↔p < i∧hb held p w=true
  | 0=>⟨(fun h=>nomatch h),fun h=>absurd h.1 (Nat.not_lt_zero _)⟩
  | i + 1=>by
    rw [hpT,List.mem_append,jO,List.mem_map]
    constructor
    · rintro (⟨h1,h2⟩ | ⟨x,hx,e⟩)
      · exact ⟨by omega,h2⟩
      · obtain ⟨rfl,rfl⟩:=Prod.mk.inj e
        exact ⟨by omega,CB.yy.mp hx⟩
    · rintro ⟨h1,h2⟩
      by_cases z : p=i
      · subst z
        exact .inr ⟨w,CB.yy.mpr h2,rfl⟩
      · exact .inl ⟨by omega,h2⟩
theorem X5 (m : Nat) : (zU m).Nodup:=(CB.ZU m).imp fun h=>Nat.ne_of_lt h
theorem ZC (held : List Nat) : ∀ i,(hpT held i).Nodup
  | 0=>List.nodup_nil
  | i + 1=>by
    rw [hpT]
    refine List.nodup_append.mpr ⟨ZC held i,List.Pairwise.map _ (fun a b hab z=>hab (Prod.mk.inj z).1) (X5 _),fun x hx y hy e=>?_⟩
    obtain ⟨w,_,rfl⟩:=List.mem_map.mp hy
    subst e
    have:=(jO.mp hx).1
    omega
theorem Wi (m w : Nat) : (zU m).count w=one (m.testBit w):=by
  unfold one
  cases e : m.testBit w with
  | true=>rw [if_pos rfl,(X5 m).count,if_pos (CB.yy.mpr e)]
  | false=>rw [if_neg (by decide),List.count_eq_zero.mpr (fun z=>by rw [CB.yy.mp z] at e; cases e)]
theorem Z1 (held : List Nat) (w : Nat) : ∀ i,((hpT held i).map Prod.fst).count w=col held (List.range i) w
  | 0=>rfl
  | i + 1=>by
    rw [hpT,List.map_append,List.count_append,Z1 held w i,List.map_map]
    unfold col
    rw [List.range_succ,List.countP_append]
    congr 1
    rw [show (Prod.fst ∘ fun w=>(w,i))=(id : Nat→Nat) from rfl,List.map_id,Wi,List.countP_cons,List.countP_nil,Nat.zero_add]
    rfl
theorem Z2 (held : List Nat) (p : Nat) : ∀ i,((hpT held i).map Prod.snd).count p=if p < i then (zU (held.getD p 0)).length else 0
  | 0=>rfl
  | i + 1=>by
    have e : ((zU (held.getD i 0)).map fun w=>(w,i)).map Prod.snd=List.replicate (zU (held.getD i 0)).length i:=by
      rw [List.map_map]
      exact List.map_const' ..
    rw [hpT,List.map_append,List.count_append,Z2 held p i,e,List.count_replicate]
    by_cases z : p=i
    · subst z
      rw [if_neg (Nat.lt_irrefl _),if_pos (beq_self_eq_true _),if_pos (Nat.lt_succ_self _),Nat.zero_add]
    · rw [if_neg (show ¬ ((i == p)=true) by rw [beq_iff_eq]; exact fun h=>z h.symm),Nat.add_zero]
      by_cases h : p < i
      · rw [if_pos h,if_pos (by omega)]
      · rw [if_neg h,if_neg (by omega)]
theorem Z3 (held : List Nat) : ∀ i,(hpT held i).length=zk ((List.range i).map fun p=>(zU (held.getD p 0)).length)
  | 0=>rfl
  | i + 1=>by
    rw [hpT,List.length_append,Z3 held i,List.range_succ,List.map_append,j9,List.length_map]
    rfl
structure Dl (ws os ms : List Nat) (tk : List (Nat × Nat)) : Prop where
  nd : tk.Nodup
  fit : ∀ q∈tk,q.1 < os.length∧q.2 < ms.length∧hb ms q.2 q.1=true
  cw : ∀ w,w < os.length→(tk.map Prod.fst).count w≤os.getD w 0
  cp : ∀ p,p < ws.length→(tk.map Prod.snd).count p≤ws.getD p 0
theorem count_cast (i : Nat) : ∀ l : List Nat,(l.map fun n : Nat=>(n : Int)).count ((i : Nat) : Int)=l.count i
  | []=>rfl
  | a :: l=>by
    rw [List.map_cons,List.count_cons,List.count_cons,count_cast i l]
    congr 1
    by_cases h : a=i
    · rw [if_pos (by rw [h]; exact beq_self_eq_true _),if_pos (by rw [h]; exact beq_self_eq_true _)]
    · rw [if_neg (by rw [beq_iff_eq]; omega),if_neg (by rw [beq_iff_eq]; exact h)]
theorem Dl.yz {ws os ms : List Nat} {tk : List (Nat × Nat)} (d : Dl ws os ms tk) {qs : List CP.Pr} (hp : qs.Perm (tk.map CP.xy)) (hr : CP.yo qs=true) : CP.yz qs ws os ms=true:=by
  unfold CP.yz
  rw [hr,Bool.true_and,Bool.and_eq_true,Bool.and_eq_true]
  refine ⟨CP.Zf.mpr fun q hq=>?_,CP.xO.mpr fun i hi=>?_,CP.xO.mpr fun i hi=>?_⟩
  · obtain ⟨x,hx,rfl⟩:=List.mem_map.mp (hp.mem_iff.mp hq)
    obtain ⟨h1,h2,h3⟩:=d.fit x hx
    unfold CP.xH CP.xy
    rw [decide_eq_true (show (0 : Int)≤(x.1 : Nat) by omega),decide_eq_true (show ((x.1 : Nat) : Int) < os.length by omega),decide_eq_true (show (0 : Int)≤(x.2 : Nat) by omega),decide_eq_true (show ((x.2 : Nat) : Int) < ms.length by omega),Int.toNat_natCast,Int.toNat_natCast]
    exact h3
  · rw [(hp.map Prod.fst).count_eq,List.map_map,show (Prod.fst ∘ CP.xy)=((fun n : Nat=>(n : Int)) ∘ Prod.fst) from rfl,← List.map_map,count_cast]
    exact d.cw i hi
  · rw [(hp.map Prod.snd).count_eq,List.map_map,show (Prod.snd ∘ CP.xy)=((fun n : Nat=>(n : Int)) ∘ Prod.snd) from rfl,← List.map_map,count_cast]
    exact d.cp i hi
theorem zV.Xd {ws os ms held zc left : List Nat} (d : zV ws os ms held zc left) {p : Nat} (hp : p < ms.length) : (zU (held.getD p 0)).length=row held os.length p:=by
  refine Zj (d.small ?_)
  rw [List.getD_eq_getElem?_getD,List.getElem?_eq_getElem (by rw [d.lh]; exact hp)]
  exact List.getElem_mem _
theorem zV.total {ws os ms held zc left : List Nat} (d : zV ws os ms held zc left) : (hpT held ms.length).length + zk zc=zk ws:=by
  rw [Z3,wV zc,wV ws,d.ls,d.lw,Nat.add_comm,← vJ]
  refine vt fun p hp=>?_
  have hp':=List.mem_range.mp hp
  rw [d.Xd hp']
  exact d.cp p hp'
theorem zV.dl {ws os ms held zc left : List Nat} (d : zV ws os ms held zc left) : Dl ws os ms (hpT held ms.length):=by
  refine ⟨ZC held _,fun q hq=>?_,fun w hw=>?_,fun p hp=>?_⟩
  · obtain ⟨h1,h2⟩:=jO.mp (show (q.1,q.2)∈_ from hq)
    exact ⟨d.lt _ _ (d.sub _ _ h2),h1,d.sub _ _ h2⟩
  · rw [Z1]
    have:=d.cw w hw
    omega
  · rw [d.lw] at hp
    rw [Z2,if_pos hp,d.Xd hp]
    have:=d.cp p hp
    omega
noncomputable def heldOf (tk : List (Nat × Nat)) (n m : Nat) : List Nat:=(List.range n).map fun p=>CB.maskOf ((List.range m).filter fun w=>tk.contains (w,p))
theorem Vq (tk : List (Nat × Nat)) (n m p w : Nat) : hb (heldOf tk n m) p w=(decide (p < n) && (decide (w < m) && tk.contains (w,p))):=by
  unfold hb heldOf
  by_cases hp : p < n
  · rw [List.getD_eq_getElem?_getD,List.getElem?_map,List.getElem?_range hp]
    show (CB.maskOf ((List.range m).filter fun w=>tk.contains (w,p))).testBit w=_
    rw [CB.Zb,decide_eq_true hp,Bool.true_and,Bool.eq_iff_iff,List.contains_iff_mem,List.mem_filter,List.mem_range,Bool.and_eq_true,decide_eq_true_eq]
  · rw [List.getD_eq_getElem?_getD,List.getElem?_eq_none (by rw [List.length_map,List.length_range]; omega),decide_eq_false hp,Bool.false_and]
    exact Nat.zero_testBit w
theorem ZD (f : Nat→Nat) {n p : Nat} (hp : p < n) : ((List.range n).map f).getD p 0=f p:=by
  rw [List.getD_eq_getElem?_getD,List.getElem?_map,List.getElem?_range hp]
  rfl
theorem Dl.Xe {ws os ms : List Nat} {tk : List (Nat × Nat)} (d : Dl ws os ms tk) (lw : ws.length=ms.length) (hm : ∀ p w,hb ms p w=true→w < os.length) : ∃ held zc left,zV ws os ms held zc left∧tk.length + zk zc=zk ws:=by
  have hlen : (heldOf tk ms.length os.length).length=ms.length:=by unfold heldOf; rw [List.length_map,List.length_range]
  have hbt : ∀ p w,hb (heldOf tk ms.length os.length) p w=true↔(w,p)∈tk:=fun p w=>by
    rw [Vq,Bool.and_eq_true,Bool.and_eq_true,decide_eq_true_eq,decide_eq_true_eq,List.contains_iff_mem]
    exact ⟨fun h=>h.2.2,fun h=>⟨(d.fit _ h).2.1,(d.fit _ h).1,h⟩⟩
  generalize heldOf tk ms.length os.length=held at hlen hbt
  have perm : (hpT held ms.length).Perm tk:=(List.perm_ext_iff_of_nodup (ZC held _) d.nd).mpr fun q=>by
    rw [show q=(q.1,q.2) from rfl,jO,hbt]
    exact ⟨fun h=>h.2,fun h=>⟨(d.fit _ h).2.1,h⟩⟩
  have zbW : ∀ w,col held (List.range ms.length) w=(tk.map Prod.fst).count w:=fun w=>by rw [← Z1,(perm.map Prod.fst).count_eq]
  have hsm : ∀ p,p < ms.length→held.getD p 0 < 2 ^ os.length:=fun p hp=>by
    refine Nat.lt_pow_two_of_testBit _ fun w hw=>?_
    cases e : (held.getD p 0).testBit w with
    | false=>rfl
    | true =>
      have:=(d.fit _ ((hbt p w).mp e)).1
      have : w < os.length:=this
      omega
  have zbX : ∀ p,p < ms.length→row held os.length p=(tk.map Prod.snd).count p:=fun p hp=>by
    rw [← (perm.map Prod.snd).count_eq,Z2,if_pos hp]
    exact (Zj (hsm p hp)).symm
  have D : zV ws os ms held ((List.range ms.length).map fun p=>ws.getD p 0 - row held os.length p) ((List.range os.length).map fun w=>os.getD w 0 - col held (List.range ms.length) w):=by
    refine ⟨hlen,lw,by rw [List.length_map,List.length_range],by rw [List.length_map,List.length_range],fun p w e=>(d.fit _ ((hbt p w).mp e)).2.2,hm,fun w hw=>?_,fun p hp=>?_⟩
    · rw [ZD _ hw]
      have:=d.cw w hw
      have:=zbW w
      omega
    · rw [ZD _ hp]
      have:=d.cp p (by omega)
      have:=zbX p hp
      omega
  refine ⟨held,_,_,D,?_⟩
  rw [← perm.length_eq]
  exact D.total
theorem Dl.weak {ws os ms : List Nat} {tk : List (Nat × Nat)} (d : Dl ws os ms tk) (lw : ws.length=ms.length) (hm : ∀ p w,hb ms p w=true→w < os.length) {v : Int} (o : Opt ws os ms v) : v + (tk.length : Nat)≤(zk ws : Nat):=by
  obtain ⟨held,zc,left,D,e⟩:=d.Xe lw hm
  obtain ⟨⟨P,hP,e2⟩,_⟩:=o
  have:=D.weak hP
  omega
theorem Vr {a b : List Nat} (h : a.Perm b) : zk a=zk b:=by
  induction h with
  | nil=>rfl
  | cons x _ ih=>show x + zk _=x + zk _; rw [ih]
  | swap x y l=>show y + (x + zk l)=x + (y + zk l); omega
  | trans _ _ i1 i2=>rw [i1,i2]
theorem zao (held : List Nat) {i j : Nat} (h : i≤j) : (hpT held i).length≤(hpT held j).length:=by
  induction j with
  | zero=>rw [Nat.le_zero.mp h]; exact Nat.le_refl _
  | succ j ih =>
    by_cases e : i=j + 1
    · rw [e]; exact Nat.le_refl _
    · rw [hpT,List.length_append]
      have:=ih (by omega)
      omega
theorem Wj {P P' : List Nat} (h : P'.Perm P) (ws os ms : List Nat) : CG.yQ P' ws os ms=CG.yQ P ws os ms:=by
  have e1 : want P' ws=want P ws:=Vr (h.map _)
  have e2 : give P' os ms=give P os ms:=vt fun w _=>by
    unfold col
    rw [h.countP_eq]
  rw [vL,vL,e1,e2]
theorem yN.perm {n : Nat} {P P' : List Nat} (h : P'.Perm P) (k : yN n P) : yN n P':=⟨h.nodup_iff.mpr k.1,fun p hp=>k.2 p (h.mem_iff.mp hp)⟩
theorem VZ {l : List (Nat × Nat)} (h : l.Nodup) : (l.map CP.xy).Nodup:=List.Pairwise.map _ (fun _ _ hab z=>hab (CP.VU z)) h
end CD
namespace CO
open PySem L2 L3 L4 L6 CD
theorem Xf {K : PySem.W.Frag} {D : Hp} {p : Nat} : ∀ {ws : List Nat} {zs : List V},L13.Els (PrT p) D zs ws→zd K D zs ((ws.map fun w=>(w,p)).map fun q=>CP.pairD (CP.xy q))
  | [],zs,h=>by
    rw [List.eq_nil_of_length_eq_zero (l:=zs) h.1]
    exact zd.nil
  | w :: ws,[],h=>absurd h.1 (by simp)
  | w :: ws,z :: zs,h=>by
    obtain ⟨t,rfl,et⟩:=h.2 0 z w rfl rfl
    exact zd.cons (CP.XX (p:=CP.xy (w,p)) et) (Xf ⟨by have:=h.1; simpa using this,fun i v a e1 e2=>h.2 (i + 1) v a (by simpa using e1) (by simpa using e2)⟩)
theorem V0 {ks : List Nat} {zs : List Int} (h : zs.Perm (ks.map fun n : Nat=>(n : Int))) : zs.map V.int=nV (zs.map Int.toNat)∧(zs.map Int.toNat).Perm ks:=by
  constructor
  · unfold nV
    rw [List.map_map]
    refine List.map_congr_left fun z hz=>?_
    obtain ⟨k,_,rfl⟩:=List.mem_map.mp (h.mem_iff.mp hz)
    show V.int ((k : Nat) : Int)=V.int (((k : Int).toNat : Nat) : Int)
    rw [Int.toNat_natCast]
  · have:=h.map Int.toNat
    rw [List.map_map] at this
    refine this.trans (List.Perm.of_eq ?_)
    exact (List.map_congr_left fun k _=>Int.toNat_natCast k).trans (List.map_id _)
end CO
namespace CD
structure Tkn (ws os ms : List Nat) (tk : List (Nat × Nat)) (wc pc : List Nat) : Prop where
  dl : Dl ws os ms tk
  lw : wc.length=os.length
  lp : pc.length=ws.length
  cw : ∀ w,w < os.length→wc.getD w 0=(tk.map Prod.fst).count w
  cp : ∀ p,p < ws.length→pc.getD p 0=(tk.map Prod.snd).count p
theorem Xg (n p : Nat) : (List.replicate n 0).getD p 0=0:=by
  rw [List.getD_eq_getElem?_getD,List.getElem?_replicate]
  by_cases h : p < n
  · rw [if_pos h]; rfl
  · rw [if_neg h]; rfl
theorem Tkn.zero (ws os ms : List Nat) : Tkn ws os ms [] (List.replicate os.length 0) (List.replicate ws.length 0) :=
  ⟨⟨List.nodup_nil,(fun _ h=>nomatch h),fun _ _=>Nat.zero_le _,fun _ _=>Nat.zero_le _⟩,List.length_replicate,List.length_replicate,fun w _=>Xg _ _,fun p _=>Xg _ _⟩
noncomputable def turn (m : Nat) : Nat→Nat
  | 0=>0
  | k + 1=>2 * turn m k + m / 2 ^ k % 2
theorem ZE {B : Nat} : ∀ {l : List Nat},(∀ w∈l,w≤B)→zk l≤B * l.length
  | [],_=>Nat.zero_le _
  | a :: l,h=>by
    have h1:=h a (List.mem_cons_self ..)
    have h2:=ZE fun w hw=>h w (List.mem_cons_of_mem _ hw)
    show a + zk l≤B * (l.length + 1)
    rw [Nat.mul_succ]
    omega
end CD
namespace L24
open PySem PySem.W PyProof.Rows
noncomputable def J2 : Bool→Keyed→Array Keyed→Nat→Nat→Nat→StateT SortSt Sem (Option Nat):=sortPriv% PySem.Builtin.gallop
noncomputable def V1 : Array Keyed→Array Keyed→StateT SortSt Sem (Array Keyed):=sortPriv% PySem.Builtin.mergeLo
noncomputable def V2 : Array Keyed→Array Keyed→StateT SortSt Sem (Array Keyed):=sortPriv% PySem.Builtin.mergeHi
noncomputable def zbh : Nat→StateT SortSt Sem Unit:=sortPriv% PySem.Builtin.setMinGallop
noncomputable def look (left : Bool) (key : Keyed) (arr : Array Keyed) (base i : Nat) : StateT SortSt Sem (Option Bool) :=
  elem' arr (base + i) >>= fun x=>if left=true then lt' x key else lt' key x >>= fun r=>pure (r.map fun b=>!b)
noncomputable def bey (c : Nat→Nat→Bool) (left : Bool) (q : Array Nat) (base k i : Nat) : Bool:=if left=true then c (q.getD (base + i) 0) k else !(c k (q.getD (base + i) 0))
section
variable {prog : Program} {w : World} {A : Around} {E : Value→Shared→Prop} {s : Shared} {κ : SortKind} {it : Array Keyed} {N : Nat} {c : Nat→Nat→Bool}
noncomputable def ve (prog : Program) (w : World) (A : Around) (s : Shared) (κ : SortKind) (it : Array Keyed) (N : Nat) (c : Nat→Nat→Bool) : Prop :=
  ∀ i j (Q : Bool→Shared→Prop),i < N→j < N→Q (c i j) s→kas_cmp prog w A κ it i j Q s
theorem ZF (ha : ve prog w A s κ it N c) {i j : Nat} (hi : i < N) (hj : j < N) {st : SortSt} (hk : kindOf st=κ) {Q : Option Bool→SortSt→Prop} (h : Q (some (c i j)) st) : wpS (model prog w) A E s (lt' (kas_item it i) (kas_item it j)) Q st:=by
  rw [lt'_eq]
  refine wpS_bind (wpS_get ?_)
  rw [hk]
  exact wpS_bind (wpS_lift (wpAny_attempt (wpAny_mono (ha i j (fun b s'=>s'=s∧b=c i j) hi hj ⟨rfl,rfl⟩) (fun b s' hb=>⟨hb.1,hb.2 ▸ wpS_pure h⟩) fun _ _ hF=>hF.elim)))
theorem zI {q : Array Nat} {i : Nat} (hi : i < q.size) {st : SortSt} {Q : Keyed→SortSt→Prop} (h : Q (kas_item it (q.getD i 0)) st) : wpS (model prog w) A E s (elem' (q.map (kas_item it)) i) Q st:=by
  have e : (q.map (kas_item it))[i]?=some (kas_item it (q.getD i 0)):=by
    rw [Array.getElem?_map,Array.getElem?_eq_getElem hi,Array.getD_eq_getD_getElem?,Array.getElem?_eq_getElem hi]
    rfl
  rw [elem'_eq,e]
  exact wpS_pure h
noncomputable def Low (N : Nat) (q : Array Nat) : Prop:=∀ i,i < q.size→q.getD i 0 < N
theorem vB (ha : ve prog w A s κ it N c) {left : Bool} {q : Array Nat} {base k i : Nat} (hl : Low N q) (hi : base + i < q.size) (hk : k < N) {st : SortSt} (hs : kindOf st=κ) {Q : Option Bool→SortSt→Prop} (h : Q (some (bey c left q base k i)) st) :
    wpS (model prog w) A E s (look left (kas_item it k) (q.map (kas_item it)) base i) Q st:=by
  refine wpS_bind (zI hi ?_)
  cases left with
  | true=>exact ZF ha (hl _ hi) hk hs h
  | false=>exact wpS_bind (ZF ha hk (hl _ hi) hs (wpS_pure h))
theorem yW (ha : ve prog w A s κ it N c) {left : Bool} {q : Array Nat} {base k n hint : Nat} (hl : Low N q) (hn : base + n≤q.size) (hk : k < N) (hh : hint < n) {st : SortSt} (hs : kindOf st=κ) {Q : Option Nat→SortSt→Prop}
    (mono : ∀ i j,i < j→j < n→bey c left q base k j=true→bey c left q base k i=true)
    (h : ∀ r,r≤n→(∀ i,i < r→bey c left q base k i=true)→(∀ i,r≤i→i < n→bey c left q base k i=false)→Q (some r) st) :
    wpS (model prog w) A E s (J2 left (kas_item it k) (q.map (kas_item it)) base n hint) Q st:=by
  have no : ∀ i j,i < j→j < n→bey c left q base k i=false→bey c left q base k j=false:=fun i j h1 h2 h3=>by
    cases e : bey c left q base k j with
    | false=>rfl
    | true =>
      rw [mono i j h1 h2 e] at h3
      cases h3
  refine wpS_bind (vB ha hl (by omega) hk hs ?_)
  cases e0 : bey c left q base k hint with
  | true =>
    refine wpS_bind (wpS_mono (Q:=fun (r : Option (Option Nat) × Nat × Nat) st'=>st'=st∧r.1=none∧r.2.1 < r.2.2∧hint + r.2.1 < n∧bey c left q base k (hint + r.2.1)=true∧(n - hint≤r.2.2∨bey c left q base k (hint + r.2.2)=false)) (wpS_forRange (I:=fun i (r : Option (Option Nat) × Nat × Nat) st'=>st'=st∧r.1=none∧r.2.1 < r.2.2∧i < r.2.2∧hint + r.2.1 < n∧bey c left q base k (hint + r.2.1)=true) ?_ ?_ ⟨rfl,rfl,Nat.zero_lt_one,Nat.zero_lt_one,hh,e0⟩) ?_)
    · rintro i ⟨r,la,of⟩ st' _ hi ⟨rfl,h1,h2,h3,h4,h5⟩
      obtain rfl : r=none:=h1
      dsimp only at h2 h3 h4 h5 ⊢
      by_cases g : of ≥ n - hint
      · rw [if_pos g]
        exact wpS_pure ⟨rfl,rfl,h2,h4,h5,.inl g⟩
      · rw [if_neg g]
        refine wpS_bind (vB ha hl (by omega) hk hs ?_)
        cases e1 : bey c left q base k (hint + of) with
        | true =>
          refine wpS_pure ⟨rfl,rfl,?_,?_,?_,e1⟩
          all_goals (dsimp only; omega)
        | false=>exact wpS_pure ⟨rfl,rfl,h2,h4,h5,.inr e1⟩
    · rintro ⟨r,la,of⟩ st' ⟨rfl,h1,h2,h3,h4,h5⟩
      exact ⟨rfl,h1,h2,h4,h5,.inl (by dsimp only at h3 ⊢; omega)⟩
    · rintro ⟨r,la,of⟩ st' ⟨rfl,h1,h2,h3,h4,h5⟩
      obtain rfl : r=none:=h1
      dsimp only at h2 h3 h4 h5
      have b1 : hint + la + 1≤hint + min of (n - hint):=by omega
      have b2 : hint + min of (n - hint)≤n:=by omega
      have b3 : ∀ j,j < hint + la + 1→bey c left q base k j=true:=fun j hj=>by
        by_cases z : j=hint + la
        · rw [z]; exact h4
        · exact mono j _ (by omega) h3 h4
      have b4 : ∀ j,hint + min of (n - hint)≤j→j < n→bey c left q base k j=false:=fun j hj hjn=>by
        rcases h5 with z | z
        · omega
        · by_cases y : j=hint + of
          · rw [y]; exact z
          · exact no _ j (by omega) hjn z
      refine wpS_bind (wpS_mono (Q:=fun (r : Option (Option Nat) × Nat × Nat) st2=>st2=st'∧r.1=none∧r.2.1=r.2.2∧r.2.2≤n∧(∀ j,j < r.2.1→bey c left q base k j=true)∧(∀ j,r.2.2≤j→j < n→bey c left q base k j=false)) (wpS_forRange (I:=fun i (r : Option (Option Nat) × Nat × Nat) st2=>st2=st'∧r.1=none∧r.2.1≤r.2.2∧r.2.2≤n∧r.2.2 - r.2.1≤n - i∧(∀ j,j < r.2.1→bey c left q base k j=true)∧(∀ j,r.2.2≤j→j < n→bey c left q base k j=false)) ?_ ?_ ⟨rfl,rfl,b1,b2,by dsimp only; omega,b3,b4⟩) ?_)
      · rintro i ⟨r,lo,hi⟩ st' _ hin ⟨rfl,h1,h2,h3,h4,h5,h6⟩
        obtain rfl : r=none:=h1
        dsimp only at h2 h3 h4 h5 h6 ⊢
        by_cases g : lo ≥ hi
        · rw [if_pos g]
          exact wpS_pure ⟨rfl,rfl,Nat.le_antisymm h2 g,h3,h5,h6⟩
        · rw [if_neg g]
          refine wpS_bind (vB ha hl (by omega) hk hs ?_)
          cases e1 : bey c left q base k (lo + (hi - lo) / 2) with
          | true =>
            refine wpS_pure ⟨rfl,rfl,?_,h3,?_,fun j hj=>?_,h6⟩
            · show lo + (hi - lo) / 2 + 1≤hi; omega
            · show hi - (lo + (hi - lo) / 2 + 1)≤n - (i + 1); omega
            · have hj' : j < lo + (hi - lo) / 2 + 1:=hj
              by_cases z : j=lo + (hi - lo) / 2
              · rw [z]; exact e1
              · exact mono j _ (by omega) (by omega) e1
          | false =>
            refine wpS_pure ⟨rfl,rfl,?_,?_,?_,h5,fun j hj hjn=>?_⟩
            · show lo≤lo + (hi - lo) / 2; omega
            · show lo + (hi - lo) / 2≤n; omega
            · show lo + (hi - lo) / 2 - lo≤n - (i + 1); omega
            · have hj' : lo + (hi - lo) / 2≤j:=hj
              by_cases z : j=lo + (hi - lo) / 2
              · rw [z]; exact e1
              · exact no _ j (by omega) hjn e1
      · rintro ⟨r,lo,hi⟩ st' ⟨rfl,h1,h2,h3,h4,h5,h6⟩
        refine ⟨rfl,h1,?_,h3,h5,h6⟩
        dsimp only at h2 h3 h4 ⊢
        omega
      · rintro ⟨r,lo,hi⟩ st' ⟨rfl,h1,h2,h3,h5,h6⟩
        obtain rfl : r=none:=h1
        obtain rfl : lo=hi:=h2
        exact wpS_pure (h lo h3 h5 h6)
  | false =>
    refine wpS_bind (wpS_mono (Q:=fun (r : Option (Option Nat) × Nat × Nat) st'=>st'=st∧r.1=none∧r.2.1 < r.2.2∧r.2.1≤hint∧bey c left q base k (hint - r.2.1)=false∧(hint + 1≤r.2.2∨bey c left q base k (hint - r.2.2)=true)) (wpS_forRange (I:=fun i (r : Option (Option Nat) × Nat × Nat) st'=>st'=st∧r.1=none∧r.2.1 < r.2.2∧i < r.2.2∧r.2.1≤hint∧bey c left q base k (hint - r.2.1)=false) ?_ ?_ ⟨rfl,rfl,Nat.zero_lt_one,Nat.zero_lt_one,Nat.zero_le _,e0⟩) ?_)
    · rintro i ⟨r,la,of⟩ st' _ hi ⟨rfl,h1,h2,h3,h4,h5⟩
      obtain rfl : r=none:=h1
      dsimp only at h2 h3 h4 h5 ⊢
      by_cases g : of ≥ hint + 1
      · rw [if_pos g]
        exact wpS_pure ⟨rfl,rfl,h2,h4,h5,.inl g⟩
      · rw [if_neg g]
        refine wpS_bind (vB ha hl (by omega) hk hs ?_)
        cases e1 : bey c left q base k (hint - of) with
        | false =>
          refine wpS_pure ⟨rfl,rfl,?_,?_,?_,e1⟩
          all_goals (dsimp only; omega)
        | true=>exact wpS_pure ⟨rfl,rfl,h2,h4,h5,.inr e1⟩
    · rintro ⟨r,la,of⟩ st' ⟨rfl,h1,h2,h3,h4,h5⟩
      exact ⟨rfl,h1,h2,h4,h5,.inl (by dsimp only at h3 ⊢; omega)⟩
    · rintro ⟨r,la,of⟩ st' ⟨rfl,h1,h2,h3,h4,h5⟩
      obtain rfl : r=none:=h1
      dsimp only at h2 h3 h4 h5
      have b1 : hint + 1 - min of (hint + 1)≤hint - la:=by omega
      have b2 : hint - la≤n:=by omega
      have b3 : ∀ j,j < hint + 1 - min of (hint + 1)→bey c left q base k j=true:=fun j hj=>by
        rcases h5 with z | z
        · omega
        · by_cases y : j=hint - of
          · rw [y]; exact z
          · exact mono j _ (by omega) (by omega) z
      have b4 : ∀ j,hint - la≤j→j < n→bey c left q base k j=false:=fun j hj hjn=>by
        by_cases z : j=hint - la
        · rw [z]; exact h4
        · exact no _ j (by omega) hjn h4
      refine wpS_bind (wpS_mono (Q:=fun (r : Option (Option Nat) × Nat × Nat) st2=>st2=st'∧r.1=none∧r.2.1=r.2.2∧r.2.2≤n∧(∀ j,j < r.2.1→bey c left q base k j=true)∧(∀ j,r.2.2≤j→j < n→bey c left q base k j=false)) (wpS_forRange (I:=fun i (r : Option (Option Nat) × Nat × Nat) st2=>st2=st'∧r.1=none∧r.2.1≤r.2.2∧r.2.2≤n∧r.2.2 - r.2.1≤n - i∧(∀ j,j < r.2.1→bey c left q base k j=true)∧(∀ j,r.2.2≤j→j < n→bey c left q base k j=false)) ?_ ?_ ⟨rfl,rfl,b1,b2,by dsimp only; omega,b3,b4⟩) ?_)
      · rintro i ⟨r,lo,hi⟩ st' _ hin ⟨rfl,h1,h2,h3,h4,h5,h6⟩
        obtain rfl : r=none:=h1
        dsimp only at h2 h3 h4 h5 h6 ⊢
        by_cases g : lo ≥ hi
        · rw [if_pos g]
          exact wpS_pure ⟨rfl,rfl,Nat.le_antisymm h2 g,h3,h5,h6⟩
        · rw [if_neg g]
          refine wpS_bind (vB ha hl (by omega) hk hs ?_)
          cases e1 : bey c left q base k (lo + (hi - lo) / 2) with
          | true =>
            refine wpS_pure ⟨rfl,rfl,?_,h3,?_,fun j hj=>?_,h6⟩
            · show lo + (hi - lo) / 2 + 1≤hi; omega
            · show hi - (lo + (hi - lo) / 2 + 1)≤n - (i + 1); omega
            · have hj' : j < lo + (hi - lo) / 2 + 1:=hj
              by_cases z : j=lo + (hi - lo) / 2
              · rw [z]; exact e1
              · exact mono j _ (by omega) (by omega) e1
          | false =>
            refine wpS_pure ⟨rfl,rfl,?_,?_,?_,h5,fun j hj hjn=>?_⟩
            · show lo≤lo + (hi - lo) / 2; omega
            · show lo + (hi - lo) / 2≤n; omega
            · show lo + (hi - lo) / 2 - lo≤n - (i + 1); omega
            · have hj' : lo + (hi - lo) / 2≤j:=hj
              by_cases z : j=lo + (hi - lo) / 2
              · rw [z]; exact e1
              · exact no _ j (by omega) hjn e1
      · rintro ⟨r,lo,hi⟩ st' ⟨rfl,h1,h2,h3,h4,h5,h6⟩
        refine ⟨rfl,h1,?_,h3,h5,h6⟩
        dsimp only at h2 h3 h4 ⊢
        omega
      · rintro ⟨r,lo,hi⟩ st' ⟨rfl,h1,h2,h3,h5,h6⟩
        obtain rfl : r=none:=h1
        obtain rfl : lo=hi:=h2
        exact wpS_pure (h lo h3 h5 h6)
end
end L24
namespace L24
open PySem PySem.W PyProof.Rows
structure Or (c : Nat→Nat→Bool) : Prop where
  yL : ∀ i j,c i j=true→c j i=false
  tr : ∀ i j k,c j i=false→c k j=false→c k i=false
noncomputable abbrev S (c : Nat→Nat→Bool) (l : List Nat) : Prop:=l.Pairwise fun x y=>c y x=false
section
variable {c : Nat→Nat→Bool}
theorem S.mid {l x r : List Nat} (h : S c (l ++ r)) (hx : S c (l ++ x)) (hxr : ∀ a∈x,∀ b∈r,c b a=false) : S c (l ++ (x ++ r)):=by
  have h1:=List.pairwise_append.mp h
  have h2:=List.pairwise_append.mp hx
  refine List.pairwise_append.mpr ⟨h1.1,List.pairwise_append.mpr ⟨h2.2.1,h1.2.1,hxr⟩,fun a ha b hb=>?_⟩
  rcases List.mem_append.mp hb with z | z
  · exact h2.2.2 a ha b z
  · exact h1.2.2 a ha b z
theorem Zl (a : Array Nat) (i k : Nat) : (a.extract i (i + k)).toList=(a.toList.drop i).take k:=by
  rw [Array.toList_extract,List.extract_eq_drop_take,Nat.add_sub_cancel_left]
theorem xC (a : Array Nat) (i : Nat) : (a.extract i a.size).toList=a.toList.drop i:=by
  rw [Array.toList_extract,List.extract_eq_drop_take,List.take_of_length_le]
  simp
theorem drop_cons {a : Array Nat} {i : Nat} (h : i < a.size) : a.toList.drop i=a.getD i 0 :: a.toList.drop (i + 1):=by
  rw [List.drop_eq_getElem_cons (by simpa using h)]
  congr 1
  simp [Array.getD,h]
theorem ZG (a : Array Nat) (i k : Nat) : a.toList.drop i=(a.toList.drop i).take k ++ a.toList.drop (i + k):=by
  rw [← List.drop_drop,List.take_append_drop]
structure Mg (c : Nat→Nat→Bool) (a b o : Array Nat) (ia ib : Nat) : Prop where
  sa : S c (o.toList ++ a.toList.drop ia)
  sb : S c (o.toList ++ b.toList.drop ib)
  pm : (o.toList ++ (a.toList.drop ia ++ b.toList.drop ib)).Perm (a.toList ++ b.toList)
noncomputable def Good (c : Nat→Nat→Bool) (a b : Array Nat) (o : Array Nat) : Prop:=S c o.toList∧o.toList.Perm (a.toList ++ b.toList)
variable {a b o : Array Nat} {ia ib : Nat}
theorem Mg.ak (m : Mg c a b o ia ib) (k : Nat) (h : ∀ x∈(a.toList.drop ia).take k,∀ y∈b.toList.drop ib,c y x=false) : Mg c a b (o ++ a.extract ia (ia + k)) (ia + k) ib:=by
  have e : (o ++ a.extract ia (ia + k)).toList=o.toList ++ (a.toList.drop ia).take k:=by rw [Array.toList_append,Zl]
  have s1 : S c (o.toList ++ ((a.toList.drop ia).take k ++ a.toList.drop (ia + k))):=by rw [← ZG]; exact m.sa
  refine ⟨?_,?_,?_⟩
  · rw [e,List.append_assoc]
    exact s1
  · rw [e,List.append_assoc]
    refine S.mid m.sb ?_ h
    rw [← List.append_assoc] at s1
    exact (List.pairwise_append.mp s1).1
  · refine List.Perm.trans (List.Perm.of_eq ?_) m.pm
    rw [e,List.append_assoc,← List.append_assoc ((a.toList.drop ia).take k),← ZG]
theorem Mg.bk (m : Mg c a b o ia ib) (k : Nat) (h : ∀ y∈(b.toList.drop ib).take k,∀ x∈a.toList.drop ia,c x y=false) : Mg c a b (o ++ b.extract ib (ib + k)) ia (ib + k):=by
  have e : (o ++ b.extract ib (ib + k)).toList=o.toList ++ (b.toList.drop ib).take k:=by rw [Array.toList_append,Zl]
  have s1 : S c (o.toList ++ ((b.toList.drop ib).take k ++ b.toList.drop (ib + k))):=by rw [← ZG]; exact m.sb
  refine ⟨?_,?_,?_⟩
  · rw [e,List.append_assoc]
    refine S.mid m.sa ?_ h
    rw [← List.append_assoc] at s1
    exact (List.pairwise_append.mp s1).1
  · rw [e,List.append_assoc]
    exact s1
  · refine List.Perm.trans ?_ m.pm
    rw [e,List.append_assoc]
    refine List.Perm.append_left _ ?_
    conv=>rhs; rw [ZG b ib k]
    exact List.perm_append_comm_assoc ..
theorem xD {a : Array Nat} {i : Nat} (h : i < a.size) : a.extract i (i + 1)=#[a.getD i 0]:=by
  apply Array.ext'
  rw [Zl,drop_cons h]
  rfl
theorem Mg.a1 (m : Mg c a b o ia ib) (hi : ia < a.size) (h : ∀ y∈b.toList.drop ib,c y (a.getD ia 0)=false) : Mg c a b (o.push (a.getD ia 0)) (ia + 1) ib:=by
  have:=m.ak 1 (by rw [drop_cons hi]; intro x hx; rw [List.mem_singleton.mp hx]; exact h)
  rw [xD hi] at this
  exact this
theorem Mg.b1 (m : Mg c a b o ia ib) (hi : ib < b.size) (h : ∀ x∈a.toList.drop ia,c x (b.getD ib 0)=false) : Mg c a b (o.push (b.getD ib 0)) ia (ib + 1):=by
  have:=m.bk 1 (by rw [drop_cons hi]; intro x hx; rw [List.mem_singleton.mp hx]; exact h)
  rw [xD hi] at this
  exact this
theorem Mg.jP (m : Mg c a b o ia ib) (h : ib=b.size) : Good c a b (o ++ a.extract ia a.size ++ b.extract ib b.size):=by
  have e : (o ++ a.extract ia a.size ++ b.extract ib b.size).toList=o.toList ++ (a.toList.drop ia ++ b.toList.drop ib):=by rw [Array.toList_append,Array.toList_append,xC,xC,List.append_assoc]
  unfold Good
  rw [e]
  refine ⟨?_,m.pm⟩
  rw [h,show b.toList.drop b.size=[] from List.drop_of_length_le (by simp),List.append_nil]
  exact m.sa
theorem Mg.jQ (m : Mg c a b o ia ib) (h : ia=a.size) : Good c a b (o ++ a.extract ia a.size ++ b.extract ib b.size):=by
  have e : (o ++ a.extract ia a.size ++ b.extract ib b.size).toList=o.toList ++ (a.toList.drop ia ++ b.toList.drop ib):=by rw [Array.toList_append,Array.toList_append,xC,xC,List.append_assoc]
  unfold Good
  rw [e]
  refine ⟨?_,m.pm⟩
  rw [h,show a.toList.drop a.size=[] from List.drop_of_length_le (by simp),List.nil_append]
  exact m.sb
theorem Mg.last (m : Mg c a b o ia ib) (h : ia + 1=a.size) (hl : ∀ y∈b.toList,c (a.getD ia 0) y=false) : Good c a b (o ++ b.extract ib b.size ++ a.extract ia a.size):=by
  have e : (o ++ b.extract ib b.size ++ a.extract ia a.size).toList=o.toList ++ (b.toList.drop ib ++ a.toList.drop ia):=by rw [Array.toList_append,Array.toList_append,xC,xC,List.append_assoc]
  unfold Good
  rw [e]
  refine ⟨S.mid m.sa m.sb ?_,List.Perm.trans (List.Perm.append_left _ List.perm_append_comm) m.pm⟩
  intro y hy x hx
  rw [drop_cons (by omega),List.drop_of_length_le (by simp; omega)] at hx
  rw [List.mem_singleton.mp hx]
  exact hl y (List.mem_of_mem_drop hy)
theorem Mg.leA (m : Mg c a b o ia ib) (hi : ia < a.size) : ∀ x∈a.toList.drop (ia + 1),c x (a.getD ia 0)=false:=by
  have:=(List.pairwise_append.mp m.sa).2.1
  rw [drop_cons hi] at this
  exact (List.pairwise_cons.mp this).1
theorem Mg.leB (m : Mg c a b o ia ib) (hi : ib < b.size) : ∀ x∈b.toList.drop (ib + 1),c x (b.getD ib 0)=false:=by
  have:=(List.pairwise_append.mp m.sb).2.1
  rw [drop_cons hi] at this
  exact (List.pairwise_cons.mp this).1
theorem Yo (o : Or c) (i : Nat) : c i i=false:=by
  cases e : c i i with
  | false=>rfl
  | true=>rw [o.yL i i e] at e; cases e
theorem Mg.ZH (r : Or c) (m : Mg c a b o ia ib) (hi : ia < a.size) {v : Nat} (h : c (a.getD ia 0) v=false) : ∀ x∈a.toList.drop ia,c x v=false:=by
  rw [drop_cons hi]
  intro x hx
  rcases List.mem_cons.mp hx with rfl | z
  · exact h
  · exact r.tr _ _ _ h (m.leA hi x z)
theorem Mg.Xh (r : Or c) (m : Mg c a b o ia ib) (hi : ib < b.size) {v : Nat} (h : c (b.getD ib 0) v=false) : ∀ x∈b.toList.drop ib,c x v=false:=by
  rw [drop_cons hi]
  intro x hx
  rcases List.mem_cons.mp hx with rfl | z
  · exact h
  · exact r.tr _ _ _ h (m.leB hi x z)
theorem jR {a : Array Nat} {i j : Nat} (h : i + j < a.size) : (a.toList.drop i)[j]?=some (a.getD (i + j) 0):=by
  rw [List.getElem?_drop]
  simp [Array.getD,h]
theorem Zm {a : Array Nat} {i k x : Nat} (h : x∈(a.toList.drop i).take k) : ∃ j,j < k∧i + j < a.size∧x=a.getD (i + j) 0:=by
  obtain ⟨j,hj,e⟩:=List.mem_iff_getElem.mp h
  rw [List.length_take,List.length_drop] at hj
  have hs : i + j < a.size:=by simp at hj; omega
  refine ⟨j,by omega,hs,?_⟩
  have h2:=jR hs
  rw [List.getElem_take] at e
  rw [List.getElem?_eq_getElem (by rw [List.length_drop]; simp; omega),e] at h2
  exact Option.some.inj h2
theorem Xi {a : Array Nat} {i : Nat} (h : S c (a.toList.drop i)) {j k : Nat} (hjk : j < k) (hk : i + k < a.size) : c (a.getD (i + k) 0) (a.getD (i + j) 0)=false:=by
  have h1:=jR (a:=a) (i:=i) (j:=j) (by omega)
  have h2:=jR hk
  obtain ⟨l1,e1⟩:=List.getElem?_eq_some_iff.mp h1
  obtain ⟨l2,e2⟩:=List.getElem?_eq_some_iff.mp h2
  rw [← e1,← e2]
  exact List.pairwise_iff_getElem.mp h j k l1 l2 hjk
end
end L24
namespace L24
open PySem PySem.W PyProof.Rows
structure Sm (st st' : SortSt) : Prop where
  k : kindOf st'=kindOf st
  a : arrOf st'=arrOf st
  p : pendingOf st'=pendingOf st
  f : failedOf st'=failedOf st
theorem Sm.refl (st : SortSt) : Sm st st:=⟨rfl,rfl,rfl,rfl⟩
section
variable {prog : Program} {w : World} {A : Around} {E : Value→Shared→Prop} {s : Shared} {κ : SortKind} {it : Array Keyed} {N : Nat} {c : Nat→Nat→Bool}
theorem jS {st0 st : SortSt} (hm : Sm st0 st) {g : Nat} {Q : Unit→SortSt→Prop} (h : ∀ st',Sm st0 st'→Q () st') : wpS (model prog w) A E s (zbh g) Q st:=wpS_modify (h _ ⟨hm.k,hm.a,hm.p,hm.f⟩)
noncomputable def Hd (c : Nat→Nat→Bool) (it : Array Keyed) (a b : Array Nat) (out : Array Keyed) (ia ib : Nat) : Prop:=∃ o : Array Nat,out=o.map (kas_item it)∧Mg c a b o ia ib∧ia + 1 < a.size∧ib < b.size
noncomputable def Fin (c : Nat→Nat→Bool) (it : Array Keyed) (a b : Array Nat) (r : Array Keyed) : Prop:=∃ o : Array Nat,r=o.map (kas_item it)∧Good c a b o
variable {a b o : Array Nat} {ia ib : Nat}
theorem wz (h : Good c a b (o ++ a.extract ia a.size ++ b.extract ib b.size)) : Fin c it a b (o.map (kas_item it) ++ (a.map (kas_item it)).extract ia (a.map (kas_item it)).size ++ (b.map (kas_item it)).extract ib (b.map (kas_item it)).size) :=
  ⟨_,by rw [Array.map_append,Array.map_append,Array.map_extract,Array.map_extract,Array.size_map,Array.size_map],h⟩
theorem vM (h : Good c a b (o ++ b.extract ib b.size ++ a.extract ia a.size)) : Fin c it a b (o.map (kas_item it) ++ (b.map (kas_item it)).extract ib (b.map (kas_item it)).size ++ (a.map (kas_item it)).extract ia (a.map (kas_item it)).size) :=
  ⟨_,by rw [Array.map_append,Array.map_append,Array.map_extract,Array.map_extract,Array.size_map,Array.size_map],h⟩
theorem vN {q : Array Nat} {x : Nat} (h : x=q.size) : (x == (q.map (kas_item it)).size)=true:=by rw [Array.size_map,h]; exact beq_self_eq_true _
theorem vO {q : Array Nat} {x : Nat} (h : ¬ x=q.size) : ¬ (x == (q.map (kas_item it)).size)=true:=by rw [Array.size_map,beq_iff_eq]; exact h
theorem yM {e : Nat} : (o.map (kas_item it)).push (kas_item it e)=(o.push e).map (kas_item it):=by rw [Array.map_push]
theorem X6 {i j : Nat} {q : Array Nat} : o.map (kas_item it) ++ (q.map (kas_item it)).extract i j=(o ++ q.extract i j).map (kas_item it):=by rw [Array.map_append,Array.map_extract]
noncomputable abbrev R1:=Option (Array Keyed) × Array Keyed × Nat × Nat × Nat × Nat
noncomputable abbrev R2:=Option (Array Keyed) × Array Keyed × Nat × Nat × Nat × Nat × Nat
noncomputable abbrev R0:=Option (Array Keyed) × Array Keyed × Nat × Nat × Nat
theorem Wk (ha : ve prog w A s κ it N c) (r : Or c) (la : Low N a) (lb : Low N b) (sa : S c a.toList) (sb : S c b.toList) (pa : 0 < a.size) (pb : 0 < b.size) (h0 : c (b.getD 0 0) (a.getD 0 0)=true) (hl : ∀ y∈b.toList,c (a.getD (a.size - 1) 0) y=false)
    {st : SortSt} (hs : kindOf st=κ) {Q : Array Keyed→SortSt→Prop} (h : ∀ v st',Fin c it a b v→Sm st st'→Q v st') : wpS (model prog w) A E s (V1 (a.map (kas_item it)) (b.map (kas_item it))) Q st:=by
  refine wpS_bind (wpS_lift (wpAny_rule ⟨rfl,?_⟩))
  refine wpS_bind (zI pb ?_)
  have m00 : Mg c a b #[] 0 0:=⟨by simpa using sa,by simpa using sb,by simp⟩
  have m0 : Mg c a b #[b.getD 0 0] 0 1:=m00.b1 pb (m00.ZH r pa (r.yL _ _ h0))
  have e0 : #[kas_item it (b.getD 0 0)]=(#[b.getD 0 0] : Array Nat).map (kas_item it):=by simp
  have Yp : ∀ {i},i + 1=a.size→∀ y∈b.toList,c (a.getD i 0) y=false:=fun {i} e=>by rw [show i=a.size - 1 by omega]; exact hl
  rw [e0]
  dsimp only
  by_cases g1 : 1=b.size
  · rw [if_pos (vN g1)]
    exact wpS_pure (h _ _ (wz (m0.jP g1)) (Sm.refl st))
  rw [if_neg (vO g1)]
  by_cases g2 : 0 + 1=a.size
  · rw [if_pos (vN g2)]
    exact wpS_pure (h _ _ (vM (m0.last g2 (Yp g2))) (Sm.refl st))
  rw [if_neg (vO g2)]
  refine wpS_bind (wpS_get ?_)
  refine wpS_bind (wpS_mono (Q:=fun (r : R0) st'=>Sm st st'∧∃ v,r.1=some v∧Fin c it a b v) (wpS_forRange (I:=fun i (r : R0) st'=>Sm st st'∧r.1=none∧Hd c it a b r.2.1 r.2.2.1 r.2.2.2.1∧i + 1≤r.2.2.1 + r.2.2.2.1) ?_ ?_ ⟨Sm.refl st,rfl,⟨_,rfl,m0,by show 0 + 1 < _; omega,by show 1 < _; omega⟩,Nat.le_refl _⟩) ?_)
  · rintro i ⟨r1,out,ia,ib,mg⟩ st1 _ hi ⟨hm,h1,h2,h3⟩
    obtain rfl : r1=none:=h1
    dsimp only at h2 h3 ⊢
    have hn1 : 1≤(a.map (kas_item it)).size + (b.map (kas_item it)).size:=by rw [Array.size_map]; omega
    refine wpS_bind (wpS_mono (Q:=fun (x : R1) st'=>Sm st st'∧((∃ v,x.1=some v∧Fin c it a b v)∨(x.1=none∧Hd c it a b x.2.1 x.2.2.1 x.2.2.2.1∧ia + ib + 1≤x.2.2.1 + x.2.2.2.1))) (wpS_forRange (I:=fun i (x : R1) st'=>Sm st st'∧x.1=none∧Hd c it a b x.2.1 x.2.2.1 x.2.2.2.1∧ia + ib + i≤x.2.2.1 + x.2.2.2.1) ?_ ?_ ⟨hm,rfl,h2,Nat.le_refl _⟩) ?_)
    · rintro j ⟨x1,wA,ja,jb,ac,bc⟩ st2 _ hj ⟨hm2,k1,⟨o,k2,m,k3,k4⟩,k5⟩
      obtain rfl : x1=none:=k1
      dsimp only at k2 m k3 k4 k5 ⊢
      subst k2
      refine wpS_bind (zI k4 ?_)
      refine wpS_bind (zI (by omega) ?_)
      refine wpS_bind (ZF ha (lb _ k4) (la _ (by omega)) (hm2.k.trans hs) ?_)
      cases e : c (b.getD jb 0) (a.getD ja 0) with
      | true =>
        dsimp only
        rw [if_pos rfl]
        refine wpS_bind (zI k4 ?_)
        have m2:=m.b1 k4 (m.ZH r (by omega) (r.yL _ _ e))
        rw [yM]
        try dsimp only
        by_cases g3 : jb + 1=b.size
        · rw [if_pos (vN g3)]
          exact wpS_pure ⟨hm2,.inl ⟨_,rfl,wz (m2.jP g3)⟩⟩
        rw [if_neg (vO g3)]
        by_cases g4 : bc + 1 ≥ mg
        · rw [if_pos g4]
          exact wpS_pure ⟨hm2,.inr ⟨rfl,⟨_,rfl,m2,k3,by dsimp only; omega⟩,by dsimp only; omega⟩⟩
        · rw [if_neg g4]
          exact wpS_pure ⟨hm2,rfl,⟨_,rfl,m2,k3,by dsimp only; omega⟩,by dsimp only; omega⟩
      | false =>
        dsimp only
        rw [if_neg (by decide)]
        refine wpS_bind (zI (by omega) ?_)
        have m2:=m.a1 (by omega) (m.Xh r k4 e)
        rw [yM]
        try dsimp only
        by_cases g3 : ja + 1 + 1=a.size
        · rw [if_pos (vN g3)]
          exact wpS_pure ⟨hm2,.inl ⟨_,rfl,vM (m2.last g3 (Yp g3))⟩⟩
        rw [if_neg (vO g3)]
        by_cases g4 : ac + 1 ≥ mg
        · rw [if_pos g4]
          exact wpS_pure ⟨hm2,.inr ⟨rfl,⟨_,rfl,m2,by dsimp only; omega,k4⟩,by dsimp only; omega⟩⟩
        · rw [if_neg g4]
          exact wpS_pure ⟨hm2,rfl,⟨_,rfl,m2,by dsimp only; omega,k4⟩,by dsimp only; omega⟩
    · rintro ⟨x1,wA,ja,jb,ac,bc⟩ st2 ⟨hm2,k1,k2,k5⟩
      exact ⟨hm2,.inr ⟨k1,k2,by dsimp only at k5 ⊢; omega⟩⟩
    rintro ⟨x1,wA,ja,jb,ac,bc⟩ st2 ⟨hm2,⟨v,k1,k2⟩ | ⟨k1,k2,k5⟩⟩
    · obtain rfl : x1=some v:=k1
      exact wpS_pure ⟨hm2,v,rfl,k2⟩
    obtain rfl : x1=none:=k1
    dsimp only at k2 k5 ⊢
    clear h2 hm
    refine wpS_bind (wpS_lift (wpAny_rule ⟨rfl,?_⟩))
    refine wpS_bind (wpS_mono (Q:=fun (x : R2) st'=>Sm st st'∧((∃ v,x.1=some v∧Fin c it a b v)∨(x.1=none∧Hd c it a b x.2.1 x.2.2.1 x.2.2.2.1∧ia + ib + 1≤x.2.2.1 + x.2.2.2.1))) (wpS_forRange (I:=fun i (x : R2) st'=>Sm st st'∧x.1=none∧Hd c it a b x.2.1 x.2.2.1 x.2.2.2.1∧ia + ib + 1≤x.2.2.1 + x.2.2.2.1) ?_ ?_ ⟨hm2,rfl,k2,k5⟩) ?_)
    · rintro j ⟨x1,wA,ja,jb,mg1,ac,bc⟩ st3 _ hj ⟨hm3,k1,⟨o,k2,m,k3,k4⟩,k5⟩
      obtain rfl : x1=none:=k1
      dsimp only at k2 m k3 k4 k5 ⊢
      subst k2
      have srA:=(List.pairwise_append.mp m.sa).2.1
      by_cases g0 : mg1 > 1
      all_goals
        first | rw [if_pos g0] | rw [if_neg g0]
        refine wpS_bind (jS hm3 fun st4 hm4=>?_)
        refine wpS_bind (zI k4 ?_)
        refine wpS_bind (yW ha la (by rw [Array.size_map]; omega) (lb _ k4) (by rw [Array.size_map]; omega) (hm4.k.trans hs) (fun i j h1 h2 h3=>?_) fun k hk1 hk2 hk3=>?_)
        · rw [Array.size_map] at h2
          simp only [bey,Bool.false_eq_true,if_false,Bool.not_eq_true'] at h3 ⊢
          exact r.tr _ _ _ (Xi srA h1 (by omega)) h3
        rw [Array.size_map] at hk1 hk3
        simp only [bey,Bool.false_eq_true,if_false,Bool.not_eq_true',Bool.not_eq_false'] at hk2 hk3
        have mA:=m.ak k fun x hx=>by
          obtain ⟨i,hi1,hi2,rfl⟩:=Zm hx
          exact m.Xh r k4 (hk2 i hi1)
        have q2 : ja + k < a.size→∀ x∈a.toList.drop (ja + k),c x (b.getD jb 0)=false:=fun hlt=>mA.ZH r hlt (r.yL _ _ (hk3 k (Nat.le_refl _) (by omega)))
        dsimp only
        rw [X6]
        by_cases gk : k > 0
        all_goals first
          | rw [if_pos gk]
            by_cases g5 : ja + k + 1=a.size
            · rw [if_pos (vN g5)]
              exact wpS_pure ⟨hm4,.inl ⟨_,rfl,vM (mA.last g5 (Yp g5))⟩⟩
            rw [if_neg (vO g5)]
            by_cases g6 : ja + k=a.size
            · rw [if_pos (vN g6)]
              exact wpS_pure ⟨hm4,.inl ⟨_,rfl,wz (mA.jQ g6)⟩⟩
            rw [if_neg (vO g6)]
            have q1 : ja + k + 1 < a.size:=by omega
            have q3:=q2 (by omega)
            have q4 : ja≤ja + k:=by omega
            clear q2 hk3 hk1
            generalize o ++ a.extract ja (ja + k)=o' at mA ⊢
            generalize ja + k=ja' at mA q1 q3 q4 ⊢
          | rw [if_neg gk]
            obtain rfl : k=0:=by omega
            have q3:=q2 (by omega)
            rw [Nat.add_zero] at q3
            obtain ⟨o',e9⟩ : ∃ o',o'=o:=⟨_,rfl⟩
            obtain ⟨ja',e8⟩ : ∃ ja',ja'=ja:=⟨_,rfl⟩
            have q1 : ja' + 1 < a.size:=by omega
            have q4 : ja≤ja':=by omega
            replace mA : Mg c a b o' ja' jb:=by rw [e9,e8]; exact m
            rw [← e8] at q3
            rw [← e9,← e8]
            clear q2 hk3 hk1
        all_goals
          have m2:=mA.b1 k4 q3
          refine wpS_bind (zI k4 ?_)
          rw [yM]
          by_cases g7 : jb + 1=b.size
          · rw [if_pos (vN g7)]
            exact wpS_pure ⟨hm4,.inl ⟨_,rfl,wz (m2.jP g7)⟩⟩
          rw [if_neg (vO g7)]
          have srB:=(List.pairwise_append.mp m2.sb).2.1
          refine wpS_bind (zI (by omega) ?_)
          refine wpS_bind (yW ha lb (by rw [Array.size_map]; omega) (la _ (by omega)) (by rw [Array.size_map]; omega) (hm4.k.trans hs) (fun i j h1 h2 h3=>?_) fun k2 hk4 hk5 hk6=>?_)
          · rw [Array.size_map] at h2
            simp only [bey,if_true] at h3 ⊢
            cases e : c (b.getD (jb + 1 + i) 0) (a.getD ja' 0) with
            | true=>rfl
            | false =>
              rw [r.tr _ _ _ e (Xi srB h1 (by omega))] at h3
              cases h3
          rw [Array.size_map] at hk4 hk6
          simp only [bey,if_true] at hk5 hk6
          have mB:=m2.bk k2 fun y hy=>by
            obtain ⟨i,hi1,hi2,rfl⟩:=Zm hy
            exact m2.ZH r (by omega) (r.yL _ _ (hk5 i hi1))
          have q5 : jb + 1 + k2 < b.size→∀ y∈b.toList.drop (jb + 1 + k2),c y (a.getD ja' 0)=false:=fun hlt=>mB.Xh r hlt (hk6 k2 (Nat.le_refl _) (by omega))
          dsimp only
          rw [X6]
          by_cases gk2 : k2 > 0
          all_goals first
            | rw [if_pos gk2]
              by_cases g8 : jb + 1 + k2=b.size
              · rw [if_pos (vN g8)]
                exact wpS_pure ⟨hm4,.inl ⟨_,rfl,wz (mB.jP g8)⟩⟩
              rw [if_neg (vO g8)]
              have q6 : jb + 1 + k2 < b.size:=by omega
              have q7:=q5 q6
              have q8 : jb + 1≤jb + 1 + k2:=by omega
              clear q5 hk6 hk4
              generalize o'.push (b.getD jb 0) ++ b.extract (jb + 1) (jb + 1 + k2)=o2 at mB ⊢
              generalize jb + 1 + k2=jb' at mB q6 q7 q8 ⊢
            | rw [if_neg gk2]
              obtain rfl : k2=0:=by omega
              have q7:=q5 (by omega)
              rw [Nat.add_zero] at q7
              obtain ⟨o2,e9⟩ : ∃ o2,o2=o'.push (b.getD jb 0):=⟨_,rfl⟩
              obtain ⟨jb',e8⟩ : ∃ jb',jb'=jb + 1:=⟨_,rfl⟩
              have q6 : jb' < b.size:=by omega
              have q8 : jb + 1≤jb':=by omega
              replace mB : Mg c a b o2 ja' jb':=by rw [e9,e8]; exact m2
              rw [← e8] at q7
              rw [← e9,← e8]
              clear q5 hk6 hk4
          all_goals
            have m3:=mB.a1 (by omega) q7
            refine wpS_bind (zI (by omega) ?_)
            rw [yM]
            by_cases g9 : ja' + 1 + 1=a.size
            · rw [if_pos (vN g9)]
              exact wpS_pure ⟨hm4,.inl ⟨_,rfl,vM (m3.last g9 (Yp g9))⟩⟩
            rw [if_neg (vO g9)]
            split
            · exact wpS_pure ⟨hm4,.inr ⟨rfl,⟨_,rfl,m3,by dsimp only; omega,q6⟩,by dsimp only; omega⟩⟩
            · exact wpS_pure ⟨hm4,rfl,⟨_,rfl,m3,by dsimp only; omega,q6⟩,by dsimp only; omega⟩
    · rintro ⟨x1,wA,ja,jb,mg1,ac,bc⟩ st3 ⟨hm3,k1,k2,k5⟩
      exact ⟨hm3,.inr ⟨k1,k2,k5⟩⟩
    rintro ⟨x1,wA,ja,jb,mg1,ac,bc⟩ st3 ⟨hm3,⟨v,k1,k2⟩ | ⟨k1,k2,k5⟩⟩
    · obtain rfl : x1=some v:=k1
      exact wpS_pure ⟨hm3,v,rfl,k2⟩
    obtain rfl : x1=none:=k1
    exact wpS_bind (jS hm3 fun st4 hm4=>wpS_pure ⟨hm4,rfl,k2,by dsimp only at k5 h3 ⊢; omega⟩)
  · rintro ⟨r1,out,ia,ib,mg⟩ st1 ⟨hm,h1,⟨o,_,_,h4,h5⟩,h3⟩
    dsimp only at h3 h4 h5
    simp only [Array.size_map] at h3
    omega
  · rintro ⟨r1,out,ia,ib,mg⟩ st1 ⟨hm,v,h1,h2⟩
    obtain rfl : r1=some v:=h1
    exact wpS_pure (h _ _ h2 hm)
end
end L24
namespace L24
open PySem PySem.W PyProof.Rows
section
variable {c : Nat→Nat→Bool}
theorem S.front {l x r : List Nat} (h : S c (l ++ r)) (hx : S c (x ++ r)) (hxl : ∀ a∈l,∀ b∈x,c b a=false) : S c (l ++ (x ++ r)):=by
  have h1:=List.pairwise_append.mp h
  refine List.pairwise_append.mpr ⟨h1.1,hx,fun a ha b hb=>?_⟩
  rcases List.mem_append.mp hb with z | z
  · exact hxl a ha b z
  · exact h1.2.2 a ha b z
theorem wB (a : Array Nat) {i n : Nat} (h : i≤n) : a.toList.take n=a.toList.take i ++ (a.extract i n).toList:=by
  rw [Array.toList_extract,List.extract_eq_drop_take]
  conv=>lhs; rw [show n=i + (n - i) by omega]
  exact List.take_add
theorem take_one {a : Array Nat} {n : Nat} (h : n < a.size) : a.toList.take (n + 1)=a.toList.take n ++ [a.getD n 0]:=by
  rw [wB a (Nat.le_succ n),xD h]
structure Mh (c : Nat→Nat→Bool) (a b o : Array Nat) (na nb : Nat) : Prop where
  sa : S c (a.toList.take na ++ o.toList.reverse)
  sb : S c (b.toList.take nb ++ o.toList.reverse)
  pm : ((a.toList.take na ++ b.toList.take nb) ++ o.toList.reverse).Perm (a.toList ++ b.toList)
variable {a b o : Array Nat} {na nb : Nat}
theorem Mh.ak (m : Mh c a b o na nb) {t : Nat} (ht : t≤na) (h : ∀ y∈b.toList.take nb,∀ x∈(a.extract t na).toList,c x y=false) : Mh c a b (o ++ (a.extract t na).reverse) t nb:=by
  have e : (o ++ (a.extract t na).reverse).toList.reverse=(a.extract t na).toList ++ o.toList.reverse:=by rw [Array.toList_append,List.reverse_append,Array.toList_reverse,List.reverse_reverse]
  have s1 : S c (a.toList.take t ++ ((a.extract t na).toList ++ o.toList.reverse)):=by rw [← List.append_assoc,← wB a ht]; exact m.sa
  refine ⟨?_,?_,?_⟩
  · rw [e]
    exact s1
  · rw [e]
    exact S.front m.sb (List.pairwise_append.mp s1).2.1 h
  · refine List.Perm.trans ?_ m.pm
    rw [e,← List.append_assoc]
    refine List.Perm.append_right _ ?_
    rw [wB a ht,List.append_assoc,List.append_assoc]
    exact List.Perm.append_left _ List.perm_append_comm
theorem Mh.bk (m : Mh c a b o na nb) {t : Nat} (ht : t≤nb) (h : ∀ x∈a.toList.take na,∀ y∈(b.extract t nb).toList,c y x=false) : Mh c a b (o ++ (b.extract t nb).reverse) na t:=by
  have e : (o ++ (b.extract t nb).reverse).toList.reverse=(b.extract t nb).toList ++ o.toList.reverse:=by rw [Array.toList_append,List.reverse_append,Array.toList_reverse,List.reverse_reverse]
  have s1 : S c (b.toList.take t ++ ((b.extract t nb).toList ++ o.toList.reverse)):=by rw [← List.append_assoc,← wB b ht]; exact m.sb
  refine ⟨?_,?_,?_⟩
  · rw [e]
    exact S.front m.sa (List.pairwise_append.mp s1).2.1 h
  · rw [e]
    exact s1
  · refine List.Perm.trans (List.Perm.of_eq ?_) m.pm
    rw [e,wB b ht]
    simp only [List.append_assoc]
theorem Mh.a1 (m : Mh c a b o (na + 1) nb) (hi : na < a.size) (h : ∀ y∈b.toList.take nb,c (a.getD na 0) y=false) : Mh c a b (o.push (a.getD na 0)) na nb:=by
  have:=m.ak (Nat.le_succ na) (by rw [xD hi]; intro y hy x hx; rw [List.mem_singleton.mp hx]; exact h y hy)
  rw [xD hi] at this
  exact this
theorem Mh.b1 (m : Mh c a b o na (nb + 1)) (hi : nb < b.size) (h : ∀ x∈a.toList.take na,c (b.getD nb 0) x=false) : Mh c a b (o.push (b.getD nb 0)) na nb:=by
  have:=m.bk (Nat.le_succ nb) (by rw [xD hi]; intro y hy x hx; rw [List.mem_singleton.mp hx]; exact h y hy)
  rw [xD hi] at this
  exact this
theorem jy (a : Array Nat) (n : Nat) : (a.extract 0 n).toList=a.toList.take n:=by
  rw [Array.toList_extract,List.extract_eq_drop_take,List.drop_zero,Nat.sub_zero]
theorem Mh.jQ (m : Mh c a b o 0 nb) : Good c a b (a.extract 0 0 ++ b.extract 0 nb ++ o.reverse):=by
  have e : (a.extract 0 0 ++ b.extract 0 nb ++ o.reverse).toList=(a.toList.take 0 ++ b.toList.take nb) ++ o.toList.reverse:=by rw [Array.toList_append,Array.toList_append,jy,jy,Array.toList_reverse]
  unfold Good
  rw [e]
  exact ⟨m.sb,m.pm⟩
theorem Mh.jP (m : Mh c a b o na 0) : Good c a b (a.extract 0 na ++ b.extract 0 0 ++ o.reverse):=by
  have e : (a.extract 0 na ++ b.extract 0 0 ++ o.reverse).toList=(a.toList.take na ++ b.toList.take 0) ++ o.toList.reverse:=by rw [Array.toList_append,Array.toList_append,jy,jy,Array.toList_reverse]
  unfold Good
  rw [e]
  refine ⟨?_,m.pm⟩
  rw [List.take_zero,List.append_nil]
  exact m.sa
theorem Mh.first (m : Mh c a b o na 1) (hb : 0 < b.size) (hl : ∀ x∈a.toList,c x (b.getD 0 0)=false) : Good c a b (b.extract 0 1 ++ a.extract 0 na ++ o.reverse):=by
  have e : (b.extract 0 1 ++ a.extract 0 na ++ o.reverse).toList=(b.toList.take 1 ++ a.toList.take na) ++ o.toList.reverse:=by rw [Array.toList_append,Array.toList_append,jy,jy,Array.toList_reverse]
  unfold Good
  rw [e]
  refine ⟨?_,List.Perm.trans (List.Perm.append_right _ List.perm_append_comm) m.pm⟩
  rw [List.append_assoc]
  refine S.front m.sb m.sa ?_
  intro y hy x hx
  rw [take_one hb] at hy
  have hy' : y=b.getD 0 0:=List.mem_singleton.mp hy
  rw [hy']
  exact hl x (List.mem_of_mem_take hx)
theorem above {q : Array Nat} {l : List Nat} {n : Nat} (r : Or c) (m : S c (q.toList.take (n + 1) ++ l)) (hi : n < q.size) {v : Nat} (h : c v (q.getD n 0)=false) : ∀ x∈q.toList.take (n + 1),c v x=false:=by
  have s:=(List.pairwise_append.mp m).1
  rw [take_one hi] at s ⊢
  intro x hx
  rcases List.mem_append.mp hx with z | z
  · exact r.tr _ _ _ ((List.pairwise_append.mp s).2.2 x z _ (List.mem_singleton.mpr rfl)) h
  · rw [List.mem_singleton.mp z]
    exact h
theorem Xj {q : Array Nat} {n : Nat} (h : S c (q.toList.take n)) (hn : n≤q.size) {j k : Nat} (hjk : j < k) (hk : k < n) : c (q.getD k 0) (q.getD j 0)=false:=by
  have e : ∀ i,i < n→(q.toList.take n)[i]?=some (q.getD i 0):=fun i hi=>by
    rw [List.getElem?_take_of_lt hi]
    simp [Array.getD,show i < q.size by omega]
  obtain ⟨l1,e1⟩:=List.getElem?_eq_some_iff.mp (e j (by omega))
  obtain ⟨l2,e2⟩:=List.getElem?_eq_some_iff.mp (e k hk)
  rw [← e1,← e2]
  exact List.pairwise_iff_getElem.mp h j k l1 l2 hjk
theorem xE {q : Array Nat} {t n x : Nat} (h : x∈(q.extract t n).toList) : ∃ j,t≤j∧j < n∧j < q.size∧x=q.getD j 0:=by
  rw [Array.toList_extract,List.extract_eq_drop_take] at h
  obtain ⟨j,h1,h2,h3⟩:=Zm h
  exact ⟨t + j,by omega,by omega,h2,h3⟩
theorem Xk {q : Array Nat} {n x : Nat} (h : x∈q.toList.take n) : ∃ j,j < n∧j < q.size∧x=q.getD j 0:=by
  rw [← jy] at h
  obtain ⟨j,_,h2,h3,h4⟩:=xE h
  exact ⟨j,h2,h3,h4⟩
end
end L24
namespace L24
open PySem PySem.W PyProof.Rows
section
variable {prog : Program} {w : World} {A : Around} {E : Value→Shared→Prop} {s : Shared} {κ : SortKind} {it : Array Keyed} {N : Nat} {c : Nat→Nat→Bool}
noncomputable def Hh (c : Nat→Nat→Bool) (it : Array Keyed) (a b : Array Nat) (out : Array Keyed) (na nb : Nat) : Prop:=∃ o : Array Nat,out=o.map (kas_item it)∧Mh c a b o na nb∧0 < na∧1 < nb∧na≤a.size∧nb≤b.size
variable {a b o : Array Nat} {na nb : Nat}
theorem ZI (h : Good c a b (a.extract 0 na ++ b.extract 0 nb ++ o.reverse)) : Fin c it a b ((a.map (kas_item it)).extract 0 na ++ (b.map (kas_item it)).extract 0 nb ++ (o.map (kas_item it)).reverse) :=
  ⟨_,by rw [Array.map_append,Array.map_append,Array.map_extract,Array.map_extract,Array.map_reverse],h⟩
theorem Yq (h : Good c a b (b.extract 0 nb ++ a.extract 0 na ++ o.reverse)) : Fin c it a b ((b.map (kas_item it)).extract 0 nb ++ (a.map (kas_item it)).extract 0 na ++ (o.map (kas_item it)).reverse) :=
  ⟨_,by rw [Array.map_append,Array.map_append,Array.map_extract,Array.map_extract,Array.map_reverse],h⟩
theorem X7 {i j : Nat} {q : Array Nat} : o.map (kas_item it) ++ ((q.map (kas_item it)).extract i j).reverse=(o ++ (q.extract i j).reverse).map (kas_item it):=by rw [Array.map_append,Array.map_reverse,Array.map_extract]
theorem xT {x y : Nat} (h : x=y) : (x == y)=true:=by rw [h]; exact beq_self_eq_true _
theorem xU {x y : Nat} (h : ¬ x=y) : ¬ (x == y)=true:=by rw [beq_iff_eq]; exact h
noncomputable abbrev T0:=Option (Array Keyed) × Nat × Nat × Array Keyed × Nat
noncomputable abbrev T1:=Option (Array Keyed) × Nat × Nat × Array Keyed × Nat × Nat
noncomputable abbrev T2:=Option (Array Keyed) × Nat × Nat × Array Keyed × Nat × Nat × Nat
theorem Wl (ha : ve prog w A s κ it N c) (r : Or c) (la : Low N a) (lb : Low N b) (sa : S c a.toList) (sb : S c b.toList) (pa : 0 < a.size) (pb : 0 < b.size) (hf : ∀ x∈a.toList,c x (b.getD 0 0)=false) (hl : ∀ y∈b.toList,c (a.getD (a.size - 1) 0) y=false)
    {st : SortSt} (hs : kindOf st=κ) {Q : Array Keyed→SortSt→Prop} (h : ∀ v st',Fin c it a b v→Sm st st'→Q v st') : wpS (model prog w) A E s (V2 (a.map (kas_item it)) (b.map (kas_item it))) Q st:=by
  obtain ⟨n,hn⟩ : ∃ n,a.size=n + 1:=⟨a.size - 1,by omega⟩
  rw [hn,Nat.add_sub_cancel] at hl
  have ta : a.toList.take (n + 1)=a.toList:=List.take_of_length_le (by rw [Array.length_toList]; omega)
  have tb : b.toList.take b.size=b.toList:=List.take_of_length_le (by rw [Array.length_toList]; omega)
  have m00 : Mh c a b #[] (n + 1) b.size:=⟨by rw [ta]; simpa using sa,by rw [tb]; simpa using sb,by rw [ta,tb]; simp⟩
  have m0 : Mh c a b #[a.getD n 0] n b.size:=m00.a1 (by omega) fun y hy=>hl y (List.mem_of_mem_take hy)
  have e0 : #[kas_item it (a.getD n 0)]=(#[a.getD n 0] : Array Nat).map (kas_item it):=by simp
  have za : (a.map (kas_item it)).size=n + 1:=by rw [Array.size_map,hn]
  have zb : (b.map (kas_item it)).size=b.size:=Array.size_map
  refine wpS_bind (wpS_lift (wpAny_rule ⟨rfl,?_⟩))
  dsimp only
  rw [za,zb,Nat.add_sub_cancel]
  refine wpS_bind (zI (by omega) ?_)
  rw [e0]
  try dsimp only
  by_cases g1 : n=0
  · rw [if_pos (xT g1)]
    subst g1
    exact wpS_pure (h _ _ (ZI m0.jQ) (Sm.refl st))
  rw [if_neg (xU g1)]
  by_cases g2 : b.size=1
  · rw [if_pos (xT g2)]
    rw [g2] at m0 ⊢
    exact wpS_pure (h _ _ (Yq (m0.first pb hf)) (Sm.refl st))
  rw [if_neg (xU g2)]
  refine wpS_bind (wpS_get ?_)
  refine wpS_bind (wpS_mono (Q:=fun (x : T0) st'=>Sm st st'∧∃ v,x.1=some v∧Fin c it a b v) (wpS_forRange (I:=fun i (x : T0) st'=>Sm st st'∧x.1=none∧Hh c it a b x.2.2.2.1 x.2.1 x.2.2.1∧i + 1 + x.2.1 + x.2.2.1≤n + 1 + b.size) ?_ ?_ ⟨Sm.refl st,rfl,⟨_,rfl,m0,by dsimp only; omega,by dsimp only; omega,by dsimp only; omega,Nat.le_refl _⟩,by dsimp only; omega⟩) ?_)
  · rintro i ⟨r1,na,nb,out,mg⟩ st1 _ hi ⟨hm,h1,h2,h3⟩
    obtain rfl : r1=none:=h1
    dsimp only at h2 h3 ⊢
    refine wpS_bind (wpS_mono (Q:=fun (x : T1) st'=>Sm st st'∧((∃ v,x.1=some v∧Fin c it a b v)∨(x.1=none∧Hh c it a b x.2.2.2.1 x.2.1 x.2.2.1∧x.2.1 + x.2.2.1 + 1≤na + nb))) (wpS_forRange (I:=fun i (x : T1) st'=>Sm st st'∧x.1=none∧Hh c it a b x.2.2.2.1 x.2.1 x.2.2.1∧x.2.1 + x.2.2.1 + i≤na + nb) ?_ ?_ ⟨hm,rfl,h2,Nat.le_refl _⟩) ?_)
    · rintro j ⟨x1,ma,mb,wA,ac,bc⟩ st2 _ hj ⟨hm2,k1,⟨o,k2,m,k3,k4,k6,k7⟩,k5⟩
      obtain rfl : x1=none:=k1
      dsimp only at k2 m k3 k4 k5 k6 k7 ⊢
      subst k2
      obtain ⟨x,rfl⟩ : ∃ x,ma=x + 1:=⟨ma - 1,by omega⟩
      obtain ⟨y,rfl⟩ : ∃ y,mb=y + 1:=⟨mb - 1,by omega⟩
      simp only [Nat.add_sub_cancel]
      refine wpS_bind (zI (by omega) ?_)
      refine wpS_bind (zI (by omega) ?_)
      refine wpS_bind (ZF ha (lb _ (by omega)) (la _ (by omega)) (hm2.k.trans hs) ?_)
      cases e : c (b.getD y 0) (a.getD x 0) with
      | true =>
        dsimp only
        rw [if_pos rfl]
        refine wpS_bind (zI (by omega) ?_)
        have m2:=m.a1 (by omega) (above r m.sb (by omega) (r.yL _ _ e))
        rw [yM]
        by_cases g3 : x=0
        · rw [if_pos (xT g3)]
          subst g3
          exact wpS_pure ⟨hm2,.inl ⟨_,rfl,ZI m2.jQ⟩⟩
        rw [if_neg (xU g3)]
        by_cases g4 : ac + 1 ≥ mg
        · rw [if_pos g4]
          exact wpS_pure ⟨hm2,.inr ⟨rfl,⟨_,rfl,m2,by dsimp only; omega,k4,by dsimp only; omega,k7⟩,by dsimp only; omega⟩⟩
        · rw [if_neg g4]
          exact wpS_pure ⟨hm2,rfl,⟨_,rfl,m2,by dsimp only; omega,k4,by dsimp only; omega,k7⟩,by dsimp only; omega⟩
      | false =>
        dsimp only
        rw [if_neg (by decide)]
        refine wpS_bind (zI (by omega) ?_)
        have m2:=m.b1 (by omega) (above r m.sa (by omega) e)
        rw [yM]
        by_cases g3 : y=1
        · rw [if_pos (xT g3)]
          subst g3
          exact wpS_pure ⟨hm2,.inl ⟨_,rfl,Yq (m2.first pb hf)⟩⟩
        rw [if_neg (xU g3)]
        by_cases g4 : bc + 1 ≥ mg
        · rw [if_pos g4]
          exact wpS_pure ⟨hm2,.inr ⟨rfl,⟨_,rfl,m2,k3,by dsimp only; omega,k6,by dsimp only; omega⟩,by dsimp only; omega⟩⟩
        · rw [if_neg g4]
          exact wpS_pure ⟨hm2,rfl,⟨_,rfl,m2,k3,by dsimp only; omega,k6,by dsimp only; omega⟩,by dsimp only; omega⟩
    · rintro ⟨x1,ma,mb,wA,ac,bc⟩ st2 ⟨hm2,k1,k2,k5⟩
      exact ⟨hm2,.inr ⟨k1,k2,by dsimp only at k5 ⊢; omega⟩⟩
    rintro ⟨x1,ma,mb,wA,ac,bc⟩ st2 ⟨hm2,⟨v,k1,k2⟩ | ⟨k1,k2,k5⟩⟩
    · obtain rfl : x1=some v:=k1
      exact wpS_pure ⟨hm2,v,rfl,k2⟩
    obtain rfl : x1=none:=k1
    dsimp only at k2 k5 ⊢
    clear h2 hm
    refine wpS_bind (wpS_lift (wpAny_rule ⟨rfl,?_⟩))
    refine wpS_bind (wpS_mono (Q:=fun (x : T2) st'=>Sm st st'∧((∃ v,x.1=some v∧Fin c it a b v)∨(x.1=none∧Hh c it a b x.2.2.2.1 x.2.1 x.2.2.1∧x.2.1 + x.2.2.1 + 1≤na + nb))) (wpS_forRange (I:=fun i (x : T2) st'=>Sm st st'∧x.1=none∧Hh c it a b x.2.2.2.1 x.2.1 x.2.2.1∧x.2.1 + x.2.2.1 + 1≤na + nb) ?_ ?_ ⟨hm2,rfl,k2,k5⟩) ?_)
    · rintro j ⟨x1,ma,mb,wA,mg1,ac,bc⟩ st3 _ hj ⟨hm3,k1,⟨o,k2,m,k3,k4,k6,k7⟩,k5⟩
      obtain rfl : x1=none:=k1
      dsimp only at k2 m k3 k4 k5 k6 k7 ⊢
      subst k2
      obtain ⟨x,rfl⟩ : ∃ x,ma=x + 1:=⟨ma - 1,by omega⟩
      obtain ⟨y,rfl⟩ : ∃ y,mb=y + 1:=⟨mb - 1,by omega⟩
      simp only [Nat.add_sub_cancel]
      have srA:=(List.pairwise_append.mp m.sa).1
      by_cases g0 : mg1 > 1
      all_goals
        first | rw [if_pos g0] | rw [if_neg g0]
        refine wpS_bind (jS hm3 fun st4 hm4=>?_)
        refine wpS_bind (zI (by omega) ?_)
        refine wpS_bind (yW ha la (by omega) (lb _ (by omega)) (by omega) (hm4.k.trans hs) (fun i j h1 h2 h3=>?_) fun t hk1 hk2 hk3=>?_)
        · simp only [bey,Bool.false_eq_true,if_false,Bool.not_eq_true',Nat.zero_add] at h3 ⊢
          exact r.tr _ _ _ (Xj srA k6 h1 h2) h3
        simp only [bey,Bool.false_eq_true,if_false,Bool.not_eq_true',Bool.not_eq_false',Nat.zero_add] at hk2 hk3
        have mA:=m.ak hk1 fun y' hy z hz=>by
          obtain ⟨i,hi1,hi2,hi3,rfl⟩:=xE hz
          exact above r m.sb (by omega) (r.yL _ _ (hk3 i hi1 hi2)) y' hy
        have q3 : ∀ z∈a.toList.take t,c (b.getD y 0) z=false:=fun z hz=>by
          obtain ⟨i,hi1,hi2,rfl⟩:=Xk hz
          exact hk2 i hi1
        dsimp only
        rw [X7]
        by_cases gk : x + 1 - t > 0
        all_goals first
          | rw [if_pos gk]
            by_cases g5 : t=0
            · rw [if_pos (xT g5)]
              subst g5
              exact wpS_pure ⟨hm4,.inl ⟨_,rfl,ZI mA.jQ⟩⟩
            rw [if_neg (xU g5)]
            clear hk3
            generalize o ++ (a.extract t (x + 1)).reverse=o' at mA ⊢
            obtain ⟨t',rfl⟩ : ∃ t',t=t' + 1:=⟨t - 1,by omega⟩
            simp only [Nat.add_sub_cancel]
          | rw [if_neg gk]
            obtain rfl : t=x + 1:=by omega
            obtain ⟨o',e9⟩ : ∃ o',o'=o:=⟨_,rfl⟩
            obtain ⟨t',e8⟩ : ∃ t',t'=x:=⟨_,rfl⟩
            replace mA : Mh c a b o' (t' + 1) (y + 1):=by rw [e9,e8]; exact m
            rw [← e8] at q3 hk1 hk2
            rw [← e9,← e8]
            clear hk3
        all_goals
          have m2:=mA.b1 (by omega) q3
          refine wpS_bind (zI (by omega) ?_)
          rw [yM]
          by_cases g7 : y=1
          · rw [if_pos (xT g7)]
            subst g7
            exact wpS_pure ⟨hm4,.inl ⟨_,rfl,Yq (m2.first pb hf)⟩⟩
          rw [if_neg (xU g7)]
          have srB:=(List.pairwise_append.mp m2.sb).1
          refine wpS_bind (zI (by omega) ?_)
          refine wpS_bind (yW ha lb (by omega) (la _ (by omega)) (by omega) (hm4.k.trans hs) (fun i j h1 h2 h3=>?_) fun u hk4 hk5 hk6=>?_)
          · simp only [bey,if_true,Nat.zero_add] at h3 ⊢
            cases e : c (b.getD i 0) (a.getD t' 0) with
            | true=>rfl
            | false =>
              rw [r.tr _ _ _ e (Xj srB (by omega) h1 h2)] at h3
              cases h3
          simp only [bey,if_true,Nat.zero_add] at hk5 hk6
          have mB:=m2.bk hk4 fun x' hx z hz=>by
            obtain ⟨i,hi1,hi2,hi3,rfl⟩:=xE hz
            exact above r m2.sa (by omega) (hk6 i hi1 hi2) x' hx
          have q7 : ∀ z∈b.toList.take u,c (a.getD t' 0) z=false:=fun z hz=>by
            obtain ⟨i,hi1,hi2,rfl⟩:=Xk hz
            exact r.yL _ _ (hk5 i hi1)
          dsimp only
          rw [X7]
          by_cases gk2 : y - u > 0
          all_goals first
            | rw [if_pos gk2]
              by_cases g8 : u=1
              · rw [if_pos (xT g8)]
                subst g8
                exact wpS_pure ⟨hm4,.inl ⟨_,rfl,Yq (mB.first pb hf)⟩⟩
              rw [if_neg (xU g8)]
              by_cases g8 : u=0
              · rw [if_pos (xT g8)]
                subst g8
                exact wpS_pure ⟨hm4,.inl ⟨_,rfl,ZI mB.jP⟩⟩
              rw [if_neg (xU g8)]
              have q6 : 1 < u:=by omega
              clear hk6
              generalize o'.push (b.getD y 0) ++ (b.extract u y).reverse=o2 at mB ⊢
            | rw [if_neg gk2]
              obtain rfl : u=y:=by omega
              obtain ⟨o2,e9⟩ : ∃ o2,o2=o'.push (b.getD u 0):=⟨_,rfl⟩
              have q6 : 1 < u:=by omega
              replace mB : Mh c a b o2 (t' + 1) u:=by rw [e9]; exact m2
              rw [← e9]
              clear hk6
          all_goals
            have m3:=mB.a1 (by omega) q7
            refine wpS_bind (zI (by omega) ?_)
            rw [yM]
            by_cases g9 : t'=0
            · rw [if_pos (xT g9)]
              subst g9
              exact wpS_pure ⟨hm4,.inl ⟨_,rfl,ZI m3.jQ⟩⟩
            rw [if_neg (xU g9)]
            split
            · exact wpS_pure ⟨hm4,.inr ⟨rfl,⟨_,rfl,m3,by dsimp only; omega,q6,by dsimp only; omega,by dsimp only; omega⟩,by dsimp only; omega⟩⟩
            · exact wpS_pure ⟨hm4,rfl,⟨_,rfl,m3,by dsimp only; omega,q6,by dsimp only; omega,by dsimp only; omega⟩,by dsimp only; omega⟩
    · rintro ⟨x1,ma,mb,wA,mg1,ac,bc⟩ st3 ⟨hm3,k1,k2,k5⟩
      exact ⟨hm3,.inr ⟨k1,k2,k5⟩⟩
    rintro ⟨x1,ma,mb,wA,mg1,ac,bc⟩ st3 ⟨hm3,⟨v,k1,k2⟩ | ⟨k1,k2,k5⟩⟩
    · obtain rfl : x1=some v:=k1
      exact wpS_pure ⟨hm3,v,rfl,k2⟩
    obtain rfl : x1=none:=k1
    exact wpS_bind (jS hm3 fun st4 hm4=>wpS_pure ⟨hm4,rfl,k2,by dsimp only at k5 h3 ⊢; omega⟩)
  · rintro ⟨r1,na,nb,out,mg⟩ st1 ⟨hm,h1,⟨o,_,_,h4,h5,_⟩,h3⟩
    dsimp only at h3 h4 h5
    omega
  · rintro ⟨r1,na,nb,out,mg⟩ st1 ⟨hm,v,h1,h2⟩
    obtain rfl : r1=some v:=h1
    exact wpS_pure (h _ _ h2 hm)
end
end L24
namespace L24
open PySem PySem.W PyProof.Rows
structure At (κ : SortKind) (it : Array Keyed) (p : Array Nat) (pe : Array (Nat × Nat × Nat)) (st : SortSt) : Prop where
  k : kindOf st=κ
  a : arrOf st=p.map (kas_item it)
  p : pendingOf st=pe
  f : failedOf st=none
noncomputable def Pm (N : Nat) (p : Array Nat) : Prop:=p.Perm (List.toArray (List.range N))
theorem Pm.size {N : Nat} {p : Array Nat} (h : Pm N p) : p.size=N:=by
  have:=h.size_eq
  simpa using this
theorem Pm.low {N : Nat} {p : Array Nat} (h : Pm N p) : Low N p:=fun i hi=>by
  have hm : p[i]∈List.range N:=by
    have:=(Array.perm_iff_toList_perm.mp h).mem_iff (a:=p[i])
    exact this.mp (by simp)
  have e : p.getD i 0=p[i]:=by simp [Array.getD,hi]
  rw [e]
  exact List.mem_range.mp hm
theorem Pm.ne {N : Nat} {p : Array Nat} (h : Pm N p) {i j : Nat} (hi : i < N) (hj : j < N) (hij : i≠j) : p.getD i 0≠p.getD j 0:=by
  have hp:=Array.perm_iff_toList_perm.mp h
  have nd : p.toList.Nodup:=hp.nodup_iff.mpr (by simpa using List.nodup_range)
  have e : ∀ k (hk : k < N),p.toList[k]?=some (p.getD k 0):=fun k hk=>by
    have hs : k < p.size:=by rw [h.size]; exact hk
    simp [Array.getD,hs]
  intro z
  obtain ⟨l1,e1⟩:=List.getElem?_eq_some_iff.mp (e i hi)
  obtain ⟨l2,e2⟩:=List.getElem?_eq_some_iff.mp (e j hj)
  rw [← e1,← e2] at z
  rcases Nat.lt_or_gt_of_ne hij with y | y
  · exact List.pairwise_iff_getElem.mp nd i j l1 l2 y z
  · exact List.pairwise_iff_getElem.mp nd j i l2 l1 y z.symm
noncomputable def Srt (c : Nat→Nat→Bool) (p : Array Nat) (lo n : Nat) : Prop:=∀ i j,i < j→j < n→c (p.getD (lo + j) 0) (p.getD (lo + i) 0)=false
noncomputable def Dsc (c : Nat→Nat→Bool) (p : Array Nat) (lo n : Nat) : Prop:=∀ i j,i < j→j < n→c (p.getD (lo + j) 0) (p.getD (lo + i) 0)=true
noncomputable def Out (p p' : Array Nat) (lo n : Nat) : Prop:=∀ k,k < lo∨lo + n≤k→p'.getD k 0=p.getD k 0
theorem vf {p : Array Nat} {i j : Nat} (hj : j≤p.size) (k : Nat) : (mirror p i j ((j - i) / 2)).getD k 0=if i≤k∧k < j then p.getD (i + j - 1 - k) 0 else p.getD k 0:=by
  simp only [Array.getD_eq_getD_getElem?]
  rw [getElem?_mirror_all hj]
  by_cases h1 : i≤k∧k < j
  · rw [if_pos h1,if_pos h1]
  · rw [if_neg h1,if_neg h1]
theorem XR {p : Array Nat} {k d : Nat} (hs : k < p.size) (hd : d≤k) (i : Nat) : (bubble p k d).getD i 0=if i=k - d then p.getD k 0 else if k - d < i∧i≤k then p.getD (i - 1) 0 else p.getD i 0:=by
  simp only [Array.getD_eq_getD_getElem?]
  rw [getElem?_bubble hs d hd]
  by_cases h1 : i=k - d
  · rw [if_pos h1,if_pos h1]
  · rw [if_neg h1,if_neg h1]
    by_cases h2 : k - d < i∧i≤k
    · rw [if_pos h2,if_pos h2]
    · rw [if_neg h2,if_neg h2]
section
variable {c : Nat→Nat→Bool} {p : Array Nat} {lo n : Nat}
theorem Srt.succ (r : Or c) (h : Srt c p lo n) (hn : 0 < n) (e : c (p.getD (lo + n) 0) (p.getD (lo + n - 1) 0)=false) : Srt c p lo (n + 1):=fun i j hij hj=>by
  by_cases z : j < n
  · exact h i j hij z
  · obtain rfl : j=n:=by omega
    by_cases y : i=j - 1
    · rw [y,show lo + (j - 1)=lo + j - 1 by omega]
      exact e
    · refine r.tr _ _ _ (h i (j - 1) (by omega) (by omega)) ?_
      rw [show lo + (j - 1)=lo + j - 1 by omega]
      exact e
theorem zbi (r : Or c) {i j k : Nat} (h1 : c i j=true) (h2 : c j k=true) : c i k=true:=by
  cases e : c i k with
  | true=>rfl
  | false =>
    rw [r.tr j k i (r.yL j k h2) e] at h1
    cases h1
theorem Dsc.succ (r : Or c) (h : Dsc c p lo n) (hn : 0 < n) (e : c (p.getD (lo + n) 0) (p.getD (lo + n - 1) 0)=true) : Dsc c p lo (n + 1):=fun i j hij hj=>by
  by_cases z : j < n
  · exact h i j hij z
  · obtain rfl : j=n:=by omega
    by_cases y : i=j - 1
    · rw [y,show lo + (j - 1)=lo + j - 1 by omega]
      exact e
    · refine zbi r ?_ (h i (j - 1) (by omega) (by omega))
      rw [show lo + (j - 1)=lo + j - 1 by omega]
      exact e
theorem Dsc.rev (r : Or c) (h : Dsc c p lo n) (hn : lo + n≤p.size) : Srt c (mirror p lo (lo + n) ((lo + n - lo) / 2)) lo n:=fun i j hij hj=>by
  rw [vf hn,vf hn,if_pos (by omega),if_pos (by omega),show lo + (lo + n) - 1 - (lo + j)=lo + (n - 1 - j) by omega,show lo + (lo + n) - 1 - (lo + i)=lo + (n - 1 - i) by omega]
  exact r.yL _ _ (h (n - 1 - j) (n - 1 - i) (by omega) (by omega))
theorem J3 (hn : lo + n≤p.size) {m : Nat} (hm : n≤m) : Out p (mirror p lo (lo + n) ((lo + n - lo) / 2)) lo m:=fun k hk=>by
  rw [vf hn,if_neg (by omega)]
end
section
variable {prog : Program} {w : World} {A : Around} {E : Value→Shared→Prop} {s : Shared} {κ : SortKind} {it : Array Keyed} {N : Nat} {c : Nat→Nat→Bool} {p : Array Nat} {pe : Array (Nat × Nat × Nat)} {st : SortSt}
theorem we (ha : ve prog w A s κ it N c) (hp : Pm N p) (h : At κ it p pe st) {i j : Nat} (hi : i < N) (hj : j < N) {Q : Option Bool→SortSt→Prop} (q : Q (some (c (p.getD i 0) (p.getD j 0))) st) : wpS (model prog w) A E s (ltAt' i j) Q st:=by
  have h1 : i < p.size:=by rw [hp.size]; exact hi
  have h2 : j < p.size:=by rw [hp.size]; exact hj
  rw [ltAt'_eq]
  refine wpS_bind (wpS_get ?_)
  dsimp only
  rw [h.a]
  exact wpS_bind (zI h1 (wpS_bind (zI h2 (ZF ha (hp.low _ h1) (hp.low _ h2) h.k q))))
theorem zap (h : At κ it p pe st) {i j : Nat} {Q : Unit→SortSt→Prop} (q : ∀ st',At κ it (mirror p i j ((j - i) / 2)) pe st'→Q () st') : wpS (model prog w) A E s (reverseSlice' i j) Q st:=by
  rw [reverseSlice'_eq]
  refine wpS_modify (q _ ⟨h.k,?_,h.p,h.f⟩)
  show mirror (arrOf st) i j ((j - i) / 2)=_
  rw [h.a]
  exact kas_swaps_map (kas_item it) (fun k=>i + k) (fun k=>j - 1 - k) _ p
theorem J4 (h : At κ it p pe st) {i j : Nat} {Q : Unit→SortSt→Prop} (q : ∀ st',At κ it (bubble p i (i - j)) pe st'→Q () st') : wpS (model prog w) A E s (moveDown' i j) Q st:=by
  rw [moveDown'_eq]
  refine wpS_modify (q _ ⟨h.k,?_,h.p,h.f⟩)
  show bubble (arrOf st) i (i - j)=_
  rw [h.a]
  exact kas_swaps_map (kas_item it) (fun k=>i - k) (fun k=>i - k - 1) _ p
end
end L24
namespace L24
open PySem PySem.W PyProof.Rows
section
variable {prog : Program} {w : World} {A : Around} {E : Value→Shared→Prop} {s : Shared} {κ : SortKind} {it : Array Keyed} {N : Nat} {c : Nat→Nat→Bool} {p : Array Nat} {pe : Array (Nat × Nat × Nat)} {st : SortSt}
noncomputable def Run (κ : SortKind) (it : Array Keyed) (N : Nat) (c : Nat→Nat→Bool) (p : Array Nat) (pe : Array (Nat × Nat × Nat)) (lo m n : Nat) (st' : SortSt) : Prop:=∃ p',At κ it p' pe st'∧Pm N p'∧Srt c p' lo n∧Out p p' lo m
theorem Xl (ha : ve prog w A s κ it N c) (r : Or c) (tot : ∀ i j,i < N→j < N→i≠j→c i j=true∨c j i=true) (hp : Pm N p) (h : At κ it p pe st) {lo m : Nat} (h1 : 0 < m) (hm : lo + m≤N) {Q : Option Nat→SortSt→Prop}
    (q : ∀ n st',1≤n→n≤m→Run κ it N c p pe lo m n st'→Q (some n) st') : wpS (model prog w) A E s (countRun' lo m) Q st:=by
  have hz:=hp.size
  refine wpS_bind (wpS_mono (Q:=fun (x : AscSt) st'=>st'=st∧x.1=none∧1≤x.2∧x.2≤m∧Srt c p lo x.2∧(x.2=m∨c (p.getD (lo + x.2) 0) (p.getD (lo + x.2 - 1) 0)=true)) (wpS_forRange (I:=fun i (x : AscSt) st'=>st'=st∧x.1=none∧x.2=i∧1≤i∧i≤m∧Srt c p lo i) ?_ ?_ ⟨rfl,rfl,rfl,Nat.le_refl _,h1,fun i j h2 h3=>by omega⟩) ?_)
  · rintro i ⟨x,n⟩ st' h2 h3 ⟨rfl,k1,k2,k3,k4,k5⟩
    obtain rfl : x=none:=k1
    obtain rfl : n=i:=k2
    refine wpS_bind (we ha hp h (by omega) (by omega) ?_)
    cases e : c (p.getD (lo + n) 0) (p.getD (lo + n - 1) 0) with
    | true=>exact wpS_pure ⟨rfl,rfl,k3,k4,k5,.inr e⟩
    | false=>exact wpS_pure ⟨rfl,rfl,rfl,by omega,by omega,k5.succ r k3 e⟩
  · rintro ⟨x,n⟩ st' ⟨rfl,k1,k2,k3,k4,k5⟩
    obtain rfl : n=max 1 m:=k2
    rw [show max 1 m=m by omega] at *
    exact ⟨rfl,k1,h1,Nat.le_refl _,k5,.inl rfl⟩
  rintro ⟨x,n⟩ st' ⟨rfl,k1,k2,k3,k4,k5⟩
  obtain rfl : x=none:=k1
  dsimp only at k2 k3 k4 k5 ⊢
  have zaq : Run κ it N c p pe lo m n st':=⟨p,h,hp,k4,fun _ _=>rfl⟩
  by_cases g1 : n=m
  · rw [if_pos (xT g1)]
    exact wpS_pure (q _ _ k2 k3 zaq)
  rw [if_neg (xU g1)]
  by_cases g2 : n > 1
  · rw [if_pos g2]
    refine wpS_bind (we ha hp h (by omega) (by omega) ?_)
    have e : c (p.getD lo 0) (p.getD (lo + n - 1) 0)=true:=by
      rcases tot _ _ (hp.low lo (by omega)) (hp.low (lo + n - 1) (by omega)) (hp.ne (by omega) (by omega) (by omega)) with z | z
      · exact z
      · have:=k4 0 (n - 1) (by omega) (by omega)
        rw [Nat.add_zero,show lo + (n - 1)=lo + n - 1 by omega,z] at this
        cases this
    rw [e]
    exact wpS_pure (q _ _ k2 k3 zaq)
  rw [if_neg g2]
  obtain rfl : n=1:=by omega
  have e1 : c (p.getD (lo + 1) 0) (p.getD (lo + 1 - 1) 0)=true:=k5.resolve_left g1
  refine wpS_bind (wpS_lift (wpAny_rule ⟨rfl,?_⟩))
  have d2 : Dsc c p lo 2:=fun i j hij hj=>by
    obtain rfl : i=0:=by omega
    obtain rfl : j=1:=by omega
    exact e1
  refine wpS_bind (wpS_mono (Q:=fun (x : DescSt) s2=>s2=st'∧x.1=none∧x.2.2=0∧2≤x.2.1∧x.2.1≤m∧Dsc c p lo x.2.1) (wpS_forRange (I:=fun i (x : DescSt) s2=>s2=st'∧x.1=none∧x.2.2=0∧x.2.1=i∧2≤i∧i≤m∧Dsc c p lo i) ?_ ?_ ⟨rfl,rfl,rfl,rfl,Nat.le_refl _,by omega,d2⟩) ?_)
  · rintro i ⟨x,n,ne⟩ s2 h2 h3 ⟨rfl,k1,k2,k3,k4,k5,k6⟩
    obtain rfl : x=none:=k1
    obtain rfl : ne=0:=k2
    obtain rfl : n=i:=k3
    dsimp only
    refine wpS_bind (we ha hp h (by omega) (by omega) ?_)
    cases e : c (p.getD (lo + n) 0) (p.getD (lo + n - 1) 0) with
    | true =>
      dsimp only
      rw [if_pos rfl,if_neg (by decide)]
      exact wpS_pure ⟨rfl,rfl,rfl,rfl,by omega,by omega,k6.succ r (by omega) e⟩
    | false =>
      dsimp only
      rw [if_neg (by decide)]
      refine wpS_bind (we ha hp h (by omega) (by omega) ?_)
      have e2 : c (p.getD (lo + n - 1) 0) (p.getD (lo + n) 0)=true:=by
        rcases tot _ _ (hp.low (lo + n) (by omega)) (hp.low (lo + n - 1) (by omega)) (hp.ne (by omega) (by omega) (by omega)) with z | z
        · rw [e] at z
          cases z
        · exact z
      rw [e2]
      exact wpS_pure ⟨rfl,rfl,rfl,k4,k5,k6⟩
  · rintro ⟨x,n,ne⟩ s2 ⟨rfl,k1,k2,k3,k4,k5,k6⟩
    obtain rfl : n=max (1 + 1) m:=k3
    rw [show max (1 + 1) m=m by omega] at *
    exact ⟨rfl,k1,k2,k4,Nat.le_refl _,k6⟩
  rintro ⟨x,n,ne⟩ s2 ⟨rfl,k1,k2,k3,k4,k5⟩
  obtain rfl : x=none:=k1
  obtain rfl : ne=0:=k2
  dsimp only at k3 k4 k5 ⊢
  rw [if_neg (by decide)]
  refine wpS_bind (zap h fun s3 h3=>?_)
  have sr:=k5.rev r (by omega)
  have ou:=J3 (p:=p) (lo:=lo) (n:=n) (by omega) k4
  have hp3 : Pm N (mirror p lo (lo + n) ((lo + n - lo) / 2)):=(mirror_perm _ _ _ _).trans hp
  generalize mirror p lo (lo + n) ((lo + n - lo) / 2)=p3 at h3 sr ou hp3
  refine wpS_bind (wpS_mono (Q:=fun (x : AscSt) s4=>s4=s3∧x.1=none∧1≤x.2∧x.2≤m∧Srt c p3 lo x.2) (wpS_forRange (I:=fun i (x : AscSt) s4=>s4=s3∧x.1=none∧x.2=i∧1≤i∧i≤m∧Srt c p3 lo i) ?_ ?_ ⟨rfl,rfl,rfl,by omega,k4,sr⟩) ?_)
  · rintro i ⟨x,n⟩ s4 h2 h4 ⟨rfl,k1,k2,k3,k4,k5⟩
    obtain rfl : x=none:=k1
    obtain rfl : n=i:=k2
    refine wpS_bind (we ha hp3 h3 (by omega) (by omega) ?_)
    cases e : c (p3.getD (lo + n) 0) (p3.getD (lo + n - 1) 0) with
    | true=>exact wpS_pure ⟨rfl,rfl,k3,k4,k5⟩
    | false=>exact wpS_pure ⟨rfl,rfl,rfl,by omega,by omega,k5.succ r k3 e⟩
  · rintro ⟨x,n'⟩ s4 ⟨rfl,k1,k2,k3,k6,k5⟩
    obtain rfl : n'=max n m:=k2
    exact ⟨rfl,k1,k3,k6,k5⟩
  rintro ⟨x,n'⟩ s4 ⟨rfl,k1,k2,k3,k6⟩
  obtain rfl : x=none:=k1
  exact wpS_pure (q _ _ k2 k3 ⟨p3,h3,hp3,k6,ou⟩)
end
end L24
namespace L24
open PySem PySem.W PyProof.Rows
section
variable {prog : Program} {w : World} {A : Around} {E : Value→Shared→Prop} {s : Shared} {κ : SortKind} {it : Array Keyed} {N : Nat} {c : Nat→Nat→Bool} {p : Array Nat} {pe : Array (Nat × Nat × Nat)} {st : SortSt}
theorem Vs (ha : ve prog w A s κ it N c) (r : Or c) (hp : Pm N p) (h : At κ it p pe st) {lo n ok : Nat} (h1 : 1≤ok) (h2 : ok≤n) (hm : lo + n≤N) (sr : Srt c p lo ok) {Q : Bool→SortSt→Prop}
    (q : ∀ st',Run κ it N c p pe lo n n st'→Q true st') : wpS (model prog w) A E s (binarySort' lo n ok) Q st:=by
  have hz:=hp.size
  refine wpS_bind (wpS_forRange (I:=fun k (x : Option Bool × Unit) st'=>x.1=none∧k≤n∧Run κ it N c p pe lo n k st') ?_ ?_ ⟨rfl,by omega,p,h,hp,by rw [show max ok 1=ok by omega]; exact sr,fun _ _=>rfl⟩)
  · rintro k ⟨x,_⟩ st1 g1 g2 ⟨k1,_,p1,at1,pm1,s1,o1⟩
    obtain rfl : x=none:=k1
    have hz1:=pm1.size
    refine wpS_bind (wpS_mono (Q:=fun (x : Option Bool × Nat × Nat) st'=>st'=st1∧x.1=none∧x.2.1≤k∧(∀ i,i < x.2.1→c (p1.getD (lo + k) 0) (p1.getD (lo + i) 0)=false)∧(∀ i,x.2.1≤i→i < k→c (p1.getD (lo + k) 0) (p1.getD (lo + i) 0)=true)) (wpS_forRange (I:=fun i (x : Option Bool × Nat × Nat) st'=>st'=st1∧x.1=none∧x.2.1≤x.2.2∧x.2.2≤k∧x.2.2 - x.2.1≤k - i∧(∀ i,i < x.2.1→c (p1.getD (lo + k) 0) (p1.getD (lo + i) 0)=false)∧(∀ i,x.2.2≤i→i < k→c (p1.getD (lo + k) 0) (p1.getD (lo + i) 0)=true)) ?_ ?_ ⟨rfl,rfl,Nat.zero_le _,Nat.le_refl _,Nat.le_refl _,fun i hi=>absurd hi (Nat.not_lt_zero _),fun i h3 h4=>by dsimp only at h3; omega⟩) ?_)
    · rintro i ⟨x,l,u⟩ st2 _ hi ⟨rfl,k1,k2,k3,k4,k5,k6⟩
      obtain rfl : x=none:=k1
      dsimp only at k2 k3 k4 k5 k6 ⊢
      by_cases g3 : l ≥ u
      · rw [if_pos g3]
        obtain rfl : l=u:=by omega
        exact wpS_pure ⟨rfl,rfl,k3,k5,k6⟩
      rw [if_neg g3]
      refine wpS_bind (we ha pm1 at1 (by omega) (by omega) ?_)
      cases e : c (p1.getD (lo + k) 0) (p1.getD (lo + (l + u) / 2) 0) with
      | true =>
        refine wpS_pure ⟨rfl,rfl,by dsimp only; omega,by dsimp only; omega,by dsimp only; omega,k5,fun j h3 h4=>?_⟩
        have h3' : (l + u) / 2≤j:=h3
        by_cases z : j=(l + u) / 2
        · rw [z]; exact e
        · cases e2 : c (p1.getD (lo + k) 0) (p1.getD (lo + j) 0) with
          | true=>rfl
          | false =>
            rw [r.tr _ _ _ (s1 ((l + u) / 2) j (by omega) h4) e2] at e
            cases e
      | false =>
        refine wpS_pure ⟨rfl,rfl,by dsimp only; omega,k3,by dsimp only; omega,fun j h3=>?_,k6⟩
        have h3' : j < (l + u) / 2 + 1:=h3
        by_cases z : j=(l + u) / 2
        · rw [z]; exact e
        · exact r.tr _ _ _ (s1 j ((l + u) / 2) (by omega) (by omega)) e
    · rintro ⟨x,l,u⟩ st2 ⟨rfl,k1,k2,k3,k4,k5,k6⟩
      dsimp only at k2 k3 k4 k5 k6
      obtain rfl : l=u:=by omega
      exact ⟨rfl,k1,k3,k5,k6⟩
    rintro ⟨x,l,u⟩ st2 ⟨rfl,k1,k2,k5,k6⟩
    obtain rfl : x=none:=k1
    dsimp only at k2 k5 k6 ⊢
    refine wpS_bind (J4 at1 fun st3 at3=>?_)
    have e : ∀ i,(bubble p1 (lo + k) (lo + k - (lo + l))).getD i 0=if i=lo + l then p1.getD (lo + k) 0 else if lo + l < i∧i≤lo + k then p1.getD (i - 1) 0 else p1.getD i 0:=fun i=>by
      rw [XR (by omega) (by omega),show lo + k - (lo + k - (lo + l))=lo + l by omega]
    refine wpS_pure ⟨rfl,by omega,_,at3,(bubble_perm _ _ _).trans pm1,fun i j hij hj=>?_,fun i hi=>?_⟩
    · rw [e,e]
      by_cases z1 : j=l
      · rw [if_pos (by omega),if_neg (by omega),if_neg (by omega)]
        exact k5 i (by omega)
      · rw [if_neg (by omega)]
        by_cases z2 : l < j
        · rw [if_pos (by omega),show lo + j - 1=lo + (j - 1) by omega]
          by_cases z3 : i=l
          · rw [if_pos (by omega)]
            exact r.yL _ _ (k6 (j - 1) (by omega) (by omega))
          · rw [if_neg (by omega)]
            by_cases z4 : l < i
            · rw [if_pos (by omega),show lo + i - 1=lo + (i - 1) by omega]
              exact s1 (i - 1) (j - 1) (by omega) (by omega)
            · rw [if_neg (by omega)]
              exact s1 i (j - 1) (by omega) (by omega)
        · rw [if_neg (by omega),if_neg (by omega),if_neg (by omega)]
          exact s1 i j hij (by omega)
    · rw [e,if_neg (by omega),if_neg (by omega)]
      exact o1 i hi
  · rintro ⟨x,_⟩ st1 ⟨k1,_,k2⟩
    obtain rfl : x=none:=k1
    rw [show max (max ok 1) n=n by omega] at k2
    exact wpS_pure (q _ k2)
end
end L24
namespace L24
open PySem PySem.W PyProof.Rows
theorem Xm {α : Type} (sa : Nat) : ∀ (l : List α) (j : Nat) (q : Array α),sa + j + l.length≤q.size→((l.zipIdx j).foldl (fun a x=>a.setIfInBounds (sa + x.2) x.1) q).toList=q.toList.take (sa + j) ++ (l ++ q.toList.drop (sa + j + l.length))
  | [],j,q,_=>by
    show q.toList=q.toList.take (sa + j) ++ q.toList.drop (sa + j + 0)
    exact (List.take_append_drop _ _).symm
  | x :: t,j,q,h=>by
    rw [List.length_cons] at h
    rw [List.zipIdx_cons,List.foldl_cons,Xm sa t (j + 1) _ (by rw [Array.size_setIfInBounds]; omega),Array.toList_setIfInBounds,List.length_cons]
    have e1 : (q.toList.set (sa + j) x).take (sa + (j + 1))=q.toList.take (sa + j) ++ [x]:=by
      have hl : sa + j < q.toList.length:=by rw [Array.length_toList]; omega
      rw [List.take_set,show sa + (j + 1)=sa + j + 1 by omega,List.take_succ_eq_append_getElem hl,List.set_append_right _ _ (by rw [List.length_take]; omega),show sa + j - (q.toList.take (sa + j)).length=0 by rw [List.length_take]; omega]
      rfl
    have e2 : (q.toList.set (sa + j) x).drop (sa + (j + 1) + t.length)=q.toList.drop (sa + j + (t.length + 1)):=by
      rw [List.drop_set_of_lt (by omega)]
      congr 1
      omega
    rw [e1,e2,List.append_assoc]
    rfl
theorem Vt {q : Array Nat} {i x : Nat} (h : x∈q.toList.drop i) : ∃ j,i + j < q.size∧x=q.getD (i + j) 0:=by
  obtain ⟨j,hj,e⟩:=List.mem_iff_getElem.mp h
  rw [List.length_drop,Array.length_toList] at hj
  refine ⟨j,by omega,?_⟩
  have h2:=jR (a:=q) (i:=i) (j:=j) (by omega)
  rw [List.getElem?_eq_getElem (by rw [List.length_drop,Array.length_toList]; omega),e] at h2
  exact Option.some.inj h2
section
variable {c : Nat→Nat→Bool} {p : Array Nat}
theorem Yr {i j lo n : Nat} (h : Srt c p lo n) (h1 : lo≤i) (h2 : j≤lo + n) (hn : lo + n≤p.size) : S c (p.extract i j).toList:=by
  refine List.pairwise_iff_getElem.mpr ?_
  intro x y hx hy hxy
  rw [Array.length_toList,Array.size_extract] at hx hy
  have e : ∀ z (hz : z < (p.extract i j).toList.length),(p.extract i j).toList[z]=p.getD (lo + (i - lo + z)) 0:=fun z hz=>by
    rw [Array.length_toList,Array.size_extract] at hz
    rw [Array.getElem_toList,Array.getElem_extract,show lo + (i - lo + z)=i + z by omega]
    simp [Array.getD,show i + z < p.size by omega]
  rw [e,e]
  exact h _ _ (by omega) (by omega)
theorem zbY {n m : Nat} (h : Srt c p 0 n) (hm : m≤n) (hn : n≤p.size) : S c (p.toList.take m):=by
  rw [← jy]
  exact Yr h (Nat.le_refl _) (by omega) (by omega)
theorem zbZ {i lo n : Nat} (h : Srt c p lo n) (h1 : lo≤i) (hn : lo + n=p.size) : S c (p.toList.drop i):=by
  rw [← xC]
  exact Yr h h1 (by omega) (by omega)
theorem zbj (h : S c p.toList) : Srt c p 0 p.size:=fun i j hij hj=>by
  have h0 : S c (p.toList.drop 0):=h
  exact Xi h0 hij (by omega)
theorem Srt.two (r : Or c) {n m : Nat} (h1 : Srt c p 0 n) (h2 : Srt c p n m) (hn : 0 < n) (hm : 0 < m) (e : c (p.getD n 0) (p.getD (n - 1) 0)=false) : Srt c p 0 (n + m):=fun i j hij hj=>by
  rw [Nat.zero_add,Nat.zero_add]
  by_cases z : j < n
  · have:=h1 i j hij z
    rwa [Nat.zero_add,Nat.zero_add] at this
  · have hj' : c (p.getD j 0) (p.getD n 0)=false:=by
      by_cases y : j=n
      · rw [y]; exact Yo r _
      · have:=h2 0 (j - n) (by omega) (by omega)
        rwa [Nat.add_zero,show n + (j - n)=j by omega] at this
    by_cases y : i < n
    · have hi' : c (p.getD (n - 1) 0) (p.getD i 0)=false:=by
        by_cases x : i=n - 1
        · rw [x]; exact Yo r _
        · have:=h1 i (n - 1) (by omega) (by omega)
          rwa [Nat.zero_add,Nat.zero_add] at this
      exact r.tr _ _ _ hi' (r.tr _ _ _ e hj')
    · have:=h2 (i - n) (j - n) (by omega) (by omega)
      rwa [show n + (i - n)=i by omega,show n + (j - n)=j by omega] at this
end
section
variable {prog : Program} {w : World} {A : Around} {E : Value→Shared→Prop} {s : Shared} {κ : SortKind} {it : Array Keyed} {N : Nat} {c : Nat→Nat→Bool} {p : Array Nat} {st : SortSt}
theorem J5 {σ : Type} {M : Model} {st st' : σ} {Q : PUnit→σ→Prop} (h : Q ⟨⟩ st') : wpS M A E s (set st' : StateT σ Sem PUnit) Q st:=by
  unfold wpS
  rw [StateT.run_set]
  exact wpAny_pure ⟨rfl,h⟩
theorem Wm (ha : ve prog w A s κ it N c) (r : Or c) (hp : Pm N p) {n m w1 w2 : Nat} (h : At κ it p #[(0,n,w1),(n,m,w2)] st) (hn : 0 < n) (hm : 0 < m) (hN : n + m=N) (s1 : Srt c p 0 n) (s2 : Srt c p n m) {Q : Bool→SortSt→Prop}
    (q : ∀ p' st',At κ it p' #[(0,n + m,w1)] st'→Pm N p'→Srt c p' 0 N→Q true st') : wpS (model prog w) A E s (mergeAt' 0) Q st:=by
  have hz:=hp.size
  have lw:=hp.low
  obtain ⟨ek,ea,ep,ef⟩:=h
  cases st with | mk k0 a0 p0 g0 f0 =>
  obtain rfl : k0=κ:=ek
  obtain rfl : a0=p.map (kas_item it):=ea
  obtain rfl : p0=#[(0,n,w1),(n,m,w2)]:=ep
  obtain rfl : f0=none:=ef
  refine wpS_bind (wpS_get ?_)
  refine wpS_bind (J5 ?_)
  have ep : ((#[(0,n,w1),(n,m,w2)] : Array (Nat × Nat × Nat)).setIfInBounds 0 (0,n + m,w1)).eraseIdxIfInBounds (0 + 1)=#[(0,n + m,w1)]:=by simp [Array.eraseIdxIfInBounds]
  rw [ep]
  refine wpS_bind (zI (by omega) ?_)
  refine wpS_bind (yW ha lw (by omega) (lw _ (by omega)) hn rfl (fun i j h1 h2 h3=>?_) fun k hk1 hk2 hk3=>?_)
  · simp only [bey,Bool.false_eq_true,if_false,Bool.not_eq_true',Nat.zero_add] at h3 ⊢
    have:=s1 i j h1 h2
    rw [Nat.zero_add,Nat.zero_add] at this
    exact r.tr _ _ _ this h3
  simp only [bey,Bool.false_eq_true,if_false,Bool.not_eq_true',Bool.not_eq_false',Nat.zero_add] at hk2 hk3
  dsimp only
  by_cases g1 : n - k=0
  · rw [if_pos (xT g1)]
    refine wpS_pure (q p _ ⟨rfl,rfl,rfl,rfl⟩ hp ?_)
    rw [← hN]
    exact s1.two r s2 hn hm (hk2 (n - 1) (by omega))
  rw [if_neg (xU g1)]
  rw [show 0 + k + (n - k) - 1=n - 1 by omega]
  refine wpS_bind (zI (by omega) ?_)
  refine wpS_bind (yW ha lw (by omega) (lw _ (by omega)) (by omega) rfl (fun i j h1 h2 h3=>?_) fun u hk4 hk5 hk6=>?_)
  · simp only [bey,if_true] at h3 ⊢
    cases e : c (p.getD (n + i) 0) (p.getD (n - 1) 0) with
    | true=>rfl
    | false =>
      rw [r.tr _ _ _ e (s2 i j h1 h2)] at h3
      cases h3
  simp only [bey,if_true] at hk5 hk6
  dsimp only
  by_cases g2 : u=0
  · rw [if_pos (xT g2)]
    refine wpS_pure (q p _ ⟨rfl,rfl,rfl,rfl⟩ hp ?_)
    rw [← hN]
    exact s1.two r s2 hn hm (by have:=hk6 0 (by omega) (by omega); rwa [Nat.add_zero] at this)
  rw [if_neg (xU g2)]
  have ex : (p.map (kas_item it)).extract (0 + k) n=(p.extract k n).map (kas_item it):=by rw [Nat.zero_add,Array.map_extract]
  have ey : (p.map (kas_item it)).extract n (n + u)=(p.extract n (n + u)).map (kas_item it):=by rw [Array.map_extract]
  rw [ex,ey]
  have zx : (p.extract k n).size=n - k:=by rw [Array.size_extract]; omega
  have zy : (p.extract n (n + u)).size=u:=by rw [Array.size_extract]; omega
  have gx : ∀ i,i < n - k→(p.extract k n).getD i 0=p.getD (k + i) 0:=fun i hi=>by
    rw [Array.getD_eq_getD_getElem?,Array.getElem?_extract,if_pos (by omega),Array.getD_eq_getD_getElem?]
  have gy : ∀ i,i < u→(p.extract n (n + u)).getD i 0=p.getD (n + i) 0:=fun i hi=>by
    rw [Array.getD_eq_getD_getElem?,Array.getElem?_extract,if_pos (by omega),Array.getD_eq_getD_getElem?]
  have lx : Low N (p.extract k n):=fun i hi=>by rw [gx i (by omega)]; exact lw _ (by omega)
  have ly : Low N (p.extract n (n + u)):=fun i hi=>by rw [gy i (by omega)]; exact lw _ (by omega)
  have sx : S c (p.extract k n).toList:=Yr s1 (Nat.zero_le _) (by omega) (by omega)
  have sy : S c (p.extract n (n + u)).toList:=Yr s2 (Nat.le_refl _) (by omega) (by omega)
  have h0 : c ((p.extract n (n + u)).getD 0 0) ((p.extract k n).getD 0 0)=true:=by
    rw [gx 0 (by omega),gy 0 (by omega),Nat.add_zero,Nat.add_zero]
    exact hk3 k (Nat.le_refl _) (by omega)
  have hl : ∀ y∈(p.extract n (n + u)).toList,c ((p.extract k n).getD ((p.extract k n).size - 1) 0) y=false:=fun y hy=>by
    obtain ⟨j,h1,h2,h3,rfl⟩:=xE hy
    rw [zx,gx _ (by omega),show k + (n - k - 1)=n - 1 by omega]
    have:=hk5 (j - n) (by omega)
    rw [show n + (j - n)=j by omega] at this
    exact r.yL _ _ this
  have hf : ∀ x∈(p.extract k n).toList,c x ((p.extract n (n + u)).getD 0 0)=false:=fun x hx=>by
    obtain ⟨j,h1,h2,h3,rfl⟩:=xE hx
    rw [gy 0 (by omega),Nat.add_zero]
    exact r.yL _ _ (hk3 j h1 h2)
  have fin : ∀ (v : Array Keyed) (st' : SortSt),Fin c it (p.extract k n) (p.extract n (n + u)) v→Sm (SortSt.mk' k0 (p.map (kas_item it)) #[(0,n + m,w1)] g0 none) st'→wpS (model prog w) A E s (do
      modify fun s=>SortSt.mk' (kindOf s) ((v.toList.zipIdx).foldl (fun a x=>a.setIfInBounds (0 + k + x.2) x.1) (arrOf s)) (pendingOf s) (gallopOf s) (failedOf s)
      let z ← get
      pure (failedOf z).isNone) Q st':=fun v st' hv hs=>by
    obtain ⟨o,rfl,sg,pg⟩:=hv
    have oz : o.size=n - k + u:=by
      have:=pg.length_eq
      rw [List.length_append,Array.length_toList,Array.length_toList,Array.length_toList,zx,zy] at this
      exact this
    have ear : ((o.map (kas_item it)).toList.zipIdx).foldl (fun a x=>a.setIfInBounds (0 + k + x.2) x.1) (p.map (kas_item it))=(List.toArray (p.toList.take k ++ (o.toList ++ p.toList.drop (n + u)))).map (kas_item it):=by
      apply Array.ext'
      rw [Xm (0 + k) (o.map (kas_item it)).toList 0 _ (by rw [Array.length_toList,Array.size_map,Array.size_map]; omega)]
      rw [Array.toList_map,Array.toList_map,Array.toList_map,List.length_map,Array.length_toList,oz,show 0 + k + 0=k by omega,show k + (n - k + u)=n + u by omega,List.map_append,List.map_append,List.map_take,List.map_drop]
    have pd : p.toList=p.toList.take k ++ ((p.extract k n).toList ++ ((p.extract n (n + u)).toList ++ p.toList.drop (n + u))):=by
      have e1:=wB p (show k≤n by omega)
      have e2:=wB p (show n≤n + u by omega)
      rw [← List.append_assoc,← e1,← List.append_assoc,← e2,List.take_append_drop]
    have pp : Pm N (List.toArray (p.toList.take k ++ (o.toList ++ p.toList.drop (n + u)))):=by
      refine Array.Perm.trans ?_ hp
      refine Array.perm_iff_toList_perm.mpr ?_
      conv=>rhs; rw [pd]
      refine List.Perm.append_left _ ?_
      rw [← List.append_assoc]
      exact List.Perm.append_right _ pg
    have inO : ∀ z∈o.toList,(∃ j,k≤j∧j < n∧z=p.getD j 0)∨∃ j,j < u∧z=p.getD (n + j) 0:=fun z hz=>by
      rcases List.mem_append.mp (pg.mem_iff.mp hz) with y | y
      · obtain ⟨j,h1,h2,_,e⟩:=xE y
        exact .inl ⟨j,h1,h2,e⟩
      · obtain ⟨j,h1,h2,_,e⟩:=xE y
        exact .inr ⟨j - n,by omega,by rw [show n + (j - n)=j by omega]; exact e⟩
    have b0 : ∀ j,j < m→c (p.getD (n + j) 0) (p.getD n 0)=false:=fun j hj=>by
      by_cases y : j=0
      · rw [y]; exact Yo r _
      · have:=s2 0 j (by omega) hj
        rwa [Nat.add_zero] at this
    have al : ∀ j,j < n→c (p.getD (n - 1) 0) (p.getD j 0)=false:=fun j hj=>by
      by_cases y : j=n - 1
      · rw [y]; exact Yo r _
      · have:=s1 j (n - 1) (by omega) (by omega)
        rwa [Nat.zero_add,Nat.zero_add] at this
    have sr : S c (p.toList.take k ++ (o.toList ++ p.toList.drop (n + u))):=by
      refine List.pairwise_append.mpr ⟨zbY s1 (by omega) (by omega),List.pairwise_append.mpr ⟨sg,zbZ s2 (by omega) (by omega),fun x hx y hy=>?_⟩,fun x hx y hy=>?_⟩
      · obtain ⟨j,hj,rfl⟩:=Vt hy
        have hb : c (p.getD (n + u + j) 0) (p.getD (n - 1) 0)=false:=by
          rw [show n + u + j=n + (u + j) by omega]
          exact hk6 (u + j) (by omega) (by omega)
        rcases inO x hx with ⟨i,h1,h2,rfl⟩ | ⟨i,h1,rfl⟩
        · exact r.tr _ _ _ (al i h2) hb
        · rw [show n + u + j=n + (u + j) by omega]
          exact s2 i (u + j) (by omega) (by omega)
      · obtain ⟨i,h1,h2,rfl⟩:=Xk hx
        rcases List.mem_append.mp hy with hy | hy
        · rcases inO y hy with ⟨j,h3,h4,rfl⟩ | ⟨j,h3,rfl⟩
          · have:=s1 i j (by omega) h4
            rwa [Nat.zero_add,Nat.zero_add] at this
          · exact r.tr _ _ _ (hk2 i h1) (b0 j (by omega))
        · obtain ⟨j,hj,rfl⟩:=Vt hy
          rw [show n + u + j=n + (u + j) by omega]
          exact r.tr _ _ _ (hk2 i h1) (b0 (u + j) (by omega))
    refine wpS_bind (wpS_modify ?_)
    refine wpS_bind (wpS_get ?_)
    refine wpS_pure ?_
    have ef : failedOf st'=none:=hs.f
    show Q (failedOf st').isNone _
    rw [ef]
    have zz : (List.toArray (p.toList.take k ++ (o.toList ++ p.toList.drop (n + u)))).size=N:=pp.size
    refine q _ _ ⟨hs.k,?_,hs.p,rfl⟩ pp (by rw [← zz]; exact zbj sr)
    show ((o.map (kas_item it)).toList.zipIdx).foldl _ (arrOf st')=_
    rw [show arrOf st'=p.map (kas_item it) from hs.a]
    exact ear
  by_cases g3 : n - k≤u
  · rw [if_pos g3]
    exact wpS_bind (Wk ha r lx ly sx sy (by omega) (by omega) h0 hl rfl fin)
  · rw [if_neg g3]
    exact wpS_bind (Wl ha r lx ly sx sy (by omega) (by omega) hf hl rfl fin)
end
end L24
namespace L24
open PySem PySem.W PyProof.Rows
section
variable {prog : Program} {w : World} {A : Around} {E : Value→Shared→Prop} {s : Shared} {κ : SortKind} {it : Array Keyed} {N : Nat} {c : Nat→Nat→Bool} {p : Array Nat} {st : SortSt}
noncomputable def Two (κ : SortKind) (it : Array Keyed) (N : Nat) (c : Nat→Nat→Bool) (p : Array Nat) (st : SortSt) : Prop:=∃ n m w1 w2,At κ it p #[(0,n,w1),(n,m,w2)] st∧0 < n∧0 < m∧n + m=N∧Srt c p 0 n∧Srt c p n m
theorem yH {pe : Array (Nat × Nat × Nat)} (h : At κ it p pe st) : (sortPriv% PySem.Builtin.SortState.pending) st=pe:=h.p
theorem J6 (ha : ve prog w A s κ it N c) (r : Or c) (tot : ∀ i j,i < N→j < N→i≠j→c i j=true∨c j i=true) (hp : Pm N p) (h : At κ it p #[] st) (h64 : 64≤N) (zb0 : N < 128) {Q : Unit→SortSt→Prop}
    (q : ∀ p' pe st',At κ it p' pe st'→Pm N p'→Srt c p' 0 N→Q () st') : wpS (model prog w) A E s sortRuns' Q st:=by
  have hz:=hp.size
  obtain ⟨mr,emr,m1,m2,m3⟩ : ∃ mr,(sortPriv% PySem.Builtin.minRun) N N 0=mr∧32≤mr∧mr≤N∧N≤mr + mr:=by
    refine ⟨_,rfl,?_⟩
    show 32≤minRun' N N 0∧minRun' N N 0≤N∧N≤minRun' N N 0 + minRun' N N 0
    obtain ⟨f,rfl⟩ : ∃ f,N=f + 2:=⟨N - 2,by omega⟩
    rw [minRun'_succ,if_neg (by omega),minRun'_succ,if_pos (by omega)]
    omega
  refine wpS_bind (wpS_get ?_)
  have ez : (arrOf st).size=N:=by rw [h.a,Array.size_map,hz]
  dsimp only
  rw [ez,emr]
  refine wpS_bind (wpS_mono (Q:=fun (x : Option Unit × Nat) st'=>x.1=none∧∃ p',Pm N p'∧((∃ w1,At κ it p' #[(0,N,w1)] st'∧Srt c p' 0 N)∨Two κ it N c p' st')) (wpS_forRange (I:=fun i (x : Option Unit × Nat) st'=>x.1=none∧∃ p',Pm N p'∧((i=0∧x.2=0∧At κ it p' #[] st')∨(i=1∧0 < x.2∧mr≤x.2∧x.2≤N∧At κ it p' #[(0,x.2,0)] st'∧Srt c p' 0 x.2)∨(i=2∧x.2=N∧Two κ it N c p' st'))) ?_ ?_ ⟨rfl,p,hp,.inl ⟨rfl,rfl,h⟩⟩) ?_)
  · rintro i ⟨x,lo⟩ st1 _ hi ⟨k1,p1,pm1,⟨rfl,k2,at1⟩ | ⟨rfl,k2,k3,k4,at1,s1⟩ | ⟨rfl,k2,tw⟩⟩
    · obtain rfl : x=none:=k1
      obtain rfl : lo=0:=k2
      dsimp only
      rw [if_neg (by omega)]
      refine wpS_bind (Xl ha r tot pm1 at1 (by omega) (by omega) fun n st2 h1 h2 hr=>?_)
      obtain ⟨p2,at2,pm2,s2,o2⟩:=hr
      dsimp only
      by_cases g : n < mr
      · rw [if_pos g,Nat.sub_zero,Nat.min_eq_right m2]
        refine wpS_bind (wpS_lift (wpAny_rule ⟨rfl,?_⟩))
        refine wpS_bind (Vs ha r pm2 at2 h1 (by omega) (by omega) s2 fun st3 hr3=>?_)
        obtain ⟨p3,at3,pm3,s3,o3⟩:=hr3
        refine wpS_bind (wpS_get ?_)
        rw [yH at3]
        refine wpS_bind (wpS_modify ?_)
        refine wpS_pure ⟨rfl,p3,pm3,.inr (.inl ⟨rfl,by dsimp only; omega,by dsimp only; omega,by dsimp only; omega,⟨at3.k,at3.a,?_,at3.f⟩,by dsimp only; rw [Nat.zero_add]; exact s3⟩)⟩
        show ((sortPriv% PySem.Builtin.SortState.pending) st3).push _=_
        rw [yH at3,Nat.zero_add]
        rfl
      · rw [if_neg g]
        refine wpS_bind (wpS_get ?_)
        rw [yH at2]
        refine wpS_bind (wpS_modify ?_)
        refine wpS_pure ⟨rfl,p2,pm2,.inr (.inl ⟨rfl,by dsimp only; omega,by dsimp only; omega,by dsimp only; omega,⟨at2.k,at2.a,?_,at2.f⟩,by dsimp only; rw [Nat.zero_add]; exact s2⟩)⟩
        show ((sortPriv% PySem.Builtin.SortState.pending) st2).push _=_
        rw [yH at2,Nat.zero_add]
        rfl
    · obtain rfl : x=none:=k1
      dsimp only at k2 k3 k4 at1 s1 ⊢
      by_cases g0 : lo ≥ N
      · rw [if_pos g0]
        obtain rfl : lo=N:=by omega
        exact wpS_pure ⟨rfl,p1,pm1,.inl ⟨_,at1,s1⟩⟩
      rw [if_neg g0]
      have fin : ∀ p2 st2,At κ it p2 #[(0,lo,0)] st2→Pm N p2→Srt c p2 lo (N - lo)→Out p1 p2 lo (N - lo)→∀ pw,Two κ it N c p2 (SortSt.mk' (kindOf st2) (arrOf st2) (((pendingOf st2).modify ((pendingOf st2).size - 1) fun x=>(x.1,x.2.1,pw)).push (lo,N - lo,0)) (gallopOf st2) (failedOf st2)):=fun p2 st2 at2 pm2 s2 o2 pw=>by
        refine ⟨lo,N - lo,pw,0,⟨at2.k,at2.a,?_,at2.f⟩,k2,by omega,by omega,fun i j hij hj=>?_,s2⟩
        · show ((pendingOf st2).modify _ _).push _=_
          rw [at2.p]
          rfl
        · rw [o2 _ (.inl (by omega)),o2 _ (.inl (by omega))]
          exact s1 i j hij hj
      refine wpS_bind (Xl ha r tot pm1 at1 (by omega) (by omega) fun n st2 h1 h2 hr=>?_)
      obtain ⟨p2,at2,pm2,s2,o2⟩:=hr
      dsimp only
      by_cases g : n < mr
      · rw [if_pos g,Nat.min_eq_left (show N - lo≤mr by omega)]
        refine wpS_bind (wpS_lift (wpAny_rule ⟨rfl,?_⟩))
        refine wpS_bind (Vs ha r pm2 at2 h1 (by omega) (by omega) s2 fun st3 hr3=>?_)
        obtain ⟨p3,at3,pm3,s3,o3⟩:=hr3
        refine wpS_bind (wpS_get ?_)
        rw [yH at3]
        refine wpS_bind (wpS_mono (Q:=fun (x : Option Unit × Unit) st'=>x.1=none∧st'=st3) (wpS_forRange (I:=fun i (x : Option Unit × Unit) st'=>x.1=none∧st'=st3) ?_ (fun _ _ z=>z) ⟨rfl,rfl⟩) ?_)
        · rintro j ⟨x,_⟩ st4 _ _ ⟨z1,rfl⟩
          refine wpS_bind (wpS_get ?_)
          rw [yH at3]
          exact wpS_pure ⟨rfl,rfl⟩
        rintro ⟨x,_⟩ st4 ⟨z1,rfl⟩
        obtain rfl : x=none:=z1
        refine wpS_bind (wpS_modify ?_)
        refine wpS_bind (wpS_modify ?_)
        exact wpS_pure ⟨rfl,p3,pm3,.inr (.inr ⟨rfl,by dsimp only; omega,fin p3 st4 at3 pm3 s3 (fun k hk=>(o3 k hk).trans (o2 k hk)) _⟩)⟩
      · rw [if_neg g]
        obtain rfl : n=N - lo:=by omega
        refine wpS_bind (wpS_get ?_)
        rw [yH at2]
        refine wpS_bind (wpS_mono (Q:=fun (x : Option Unit × Unit) st'=>x.1=none∧st'=st2) (wpS_forRange (I:=fun i (x : Option Unit × Unit) st'=>x.1=none∧st'=st2) ?_ (fun _ _ z=>z) ⟨rfl,rfl⟩) ?_)
        · rintro j ⟨x,_⟩ st4 _ _ ⟨z1,rfl⟩
          refine wpS_bind (wpS_get ?_)
          rw [yH at2]
          exact wpS_pure ⟨rfl,rfl⟩
        rintro ⟨x,_⟩ st4 ⟨z1,rfl⟩
        obtain rfl : x=none:=z1
        refine wpS_bind (wpS_modify ?_)
        refine wpS_bind (wpS_modify ?_)
        exact wpS_pure ⟨rfl,p2,pm2,.inr (.inr ⟨rfl,by dsimp only; omega,fin p2 st4 at2 pm2 s2 o2 _⟩)⟩
    · obtain rfl : x=none:=k1
      dsimp only at k2 ⊢
      rw [if_pos (by omega)]
      exact wpS_pure ⟨rfl,p1,pm1,.inr tw⟩
  · rintro ⟨x,lo⟩ st1 ⟨k1,p1,pm1,⟨z,_⟩ | ⟨z,_⟩ | ⟨z,_⟩⟩ <;> omega
  rintro ⟨x,lo⟩ st1 ⟨k1,p1,pm1,k2⟩
  obtain rfl : x=none:=k1
  dsimp only
  refine wpS_bind (wpS_mono (Q:=fun (x : Option Unit × Unit) st'=>∃ p' pe,At κ it p' pe st'∧Pm N p'∧Srt c p' 0 N) (wpS_forRange (I:=fun i (x : Option Unit × Unit) st'=>x.1=none∧∃ p',Pm N p'∧((∃ w1,At κ it p' #[(0,N,w1)] st'∧Srt c p' 0 N)∨(i=0∧Two κ it N c p' st'))) ?_ ?_ ⟨rfl,p1,pm1,k2.imp (fun z=>z) fun z=>⟨rfl,z⟩⟩) ?_)
  · rintro i ⟨x,_⟩ st2 _ hi ⟨z1,p2,pm2,⟨w1,at2,s2⟩ | ⟨rfl,n,m,w1,w2,at2,hn,hm,hnm,s2,s3⟩⟩
    · refine wpS_bind (wpS_get ?_)
      rw [yH at2]
      exact wpS_pure ⟨p2,_,at2,pm2,s2⟩
    · refine wpS_bind (wpS_get ?_)
      rw [yH at2]
      refine wpS_bind (Wm ha r pm2 at2 hn hm hnm s2 s3 fun p3 st3 at3 pm3 s4=>?_)
      refine wpS_pure ⟨rfl,p3,pm3,.inl ⟨w1,?_,s4⟩⟩
      rw [hnm] at at3
      exact at3
  · rintro ⟨x,_⟩ st2 ⟨z1,p2,pm2,⟨w1,at2,s2⟩ | ⟨z,_⟩⟩
    · exact ⟨p2,_,at2,pm2,s2⟩
    · omega
  rintro ⟨x,_⟩ st2 ⟨p2,pe,at2,pm2,s2⟩
  cases x with
  | none=>exact wpS_pure (q _ _ _ at2 pm2 s2)
  | some u=>exact wpS_pure (q _ _ _ at2 pm2 s2)
end
end L24
namespace L24
open PySem PySem.W PyProof.Rows
section
variable {prog : Program} {w : World} {A : Around} {E : Value→Shared→Prop} {s : Shared} {c : Nat→Nat→Bool}
theorem Vu {a : Addr} {vs : Array Value} {n : Nat} {P : PySem.Fin→Shared→Prop} (hq : s.heap.get? a=some { cls := .type "list",data := .seq vs n }) (h2 : 2≤vs.size) (hl : vs.size≤sizeLine)
    (run : ∀ h' : Heap,(∀ b o,b≠a→s.heap.get? b=some o→h'.get? b=some o)→∃ κ,(∀ Q : SortKind→Shared→Prop,Q κ { s with heap:=h' }→wpAny (model prog w) A (keyKind' vs) Q E { s with heap:=h' }) ∧
      ∀ Q : SortSt→Prop,(∀ p pe st',At κ (vs.zip vs) p pe st'→Pm vs.size p→Srt c p 0 vs.size→Q st')→wpS (model prog w) A E { s with heap:=h' } sortRuns' (fun _ st'=>Q st') (SortSt.mk' κ (vs.zip vs) #[] 7 none))
    (q : ∀ h' e p,Pm vs.size p→Srt c p 0 vs.size→(∀ b o,b≠a→s.heap.get? b=some o→h'.get? b=some o)→h'.get? a=some { cls := .type "list",data := .seq (p.map fun i=>vs.getD i Value.none) e }→P (.done (.ret .none)) { s with heap:=h' }) :
    wpAny (model prog w) A (Builtin.«list.sort» ⟨[.ref a],[]⟩) P E s:=by
  rw [list_sort_plain]
  generalize keyKind'=KK at run ⊢
  generalize sortRuns'=SR at run ⊢
  wp_walk using wpAny_loadPart' hq
  have e1 : (s.heap.update a (Obj.mapSeq fun _=>(#[] : Array Value))).get? a=some { cls := .type "list",data := .seq #[] (if ((#[] : Array Value).size == vs.size)=true then n else n + 1) }:=Heap.get?_update_self _ hq rfl
  have e2:=Heap.get?_push_of_some { cls := .type "list",data := .seq #[] } (Heap.get?_push_of_some { cls := .type "tuple",data := .seq vs.toList.toArray } e1)
  have keep : ∀ b o,b≠a→s.heap.get? b=some o→(((s.heap.update a (Obj.mapSeq fun _=>(#[] : Array Value))).push { cls := .type "tuple",data := .seq vs.toList.toArray }).push { cls := .type "list",data := .seq #[] }).get? b=some o:=fun b o hb e=>by
    refine Heap.get?_push_of_some _ (Heap.get?_push_of_some _ ?_)
    rw [Heap.get?_update_ne _ _ _ _ hb]
    exact e
  obtain ⟨κ,hk,hr⟩:=run _ keep
  refine hk _ ?_
  dsimp only
  rw [if_neg (by omega)]
  refine wpAny_bind (wpAny_mono (hr (fun st'=>∃ p pe,At κ (vs.zip vs) p pe st'∧Pm vs.size p∧Srt c p 0 vs.size) fun p pe st' h1 h2 h3=>⟨p,pe,h1,h2,h3⟩) ?_ fun _ _ e=>e)
  rintro ⟨⟨⟩,st'⟩ s' ⟨rfl,p,pe,at1,pm,sr⟩
  have ez : Array.map (fun x=>x.snd) (arrOf st')=p.map fun i=>vs.getD i Value.none:=by
    rw [at1.a,Array.map_map]
    refine Array.map_congr_left fun i hi=>?_
    show (kas_item (vs.zip vs) i).2=_
    have hiN : i < vs.size:=by
      have:=(Array.perm_iff_toList_perm.mp pm).mem_iff.mp (Array.mem_toList_iff.mpr hi)
      simpa using this
    unfold kas_item
    simp [Array.getD,hiN]
  dsimp only
  rw [ez]
  wp_walk using wpAny_loadPart' e2
  have ps : (p.map fun i=>vs.getD i Value.none).size≤sizeLine:=by rw [Array.size_map,pm.size]; exact hl
  have el : (Obj.mapSeq (fun _=>p.map fun i=>vs.getD i Value.none) { cls := .type "list",data:=Data.seq #[] (if ((#[] : Array Value).size == vs.size)=true then n else n + 1) }).data.pastItsLine=none:=if_neg (by show ¬ (p.map fun i=>vs.getD i Value.none).size > sizeLine + 1; omega)
  rw [el]
  refine wpAny_pure ?_
  rw [at1.f]
  dsimp only
  rw [if_neg (by simp)]
  refine wpAny_pure (q _ _ p pm sr (fun b o hb e=>?_) (Heap.get?_update_self _ e2 rfl))
  rw [Heap.get?_update_ne _ _ _ _ hb]
  exact keep b o hb e
theorem XS {l : Addr} {vs : Array Value} {Q : Value→Shared→Prop} (hv : s.heap.IsList l vs) (h2 : 2≤vs.size) (hl : vs.size≤sizeLine)
    (run : ∀ h' : Heap,(∀ b o,s.heap.get? b=some o→h'.get? b=some o)→∃ κ,(∀ (Q : SortKind→Shared→Prop) E,Q κ { s with heap:=h' }→wpAny (model prog w) A.in1.in1 (keyKind' vs) Q E { s with heap:=h' }) ∧
      ∀ (Q : SortSt→Prop) E,(∀ p pe st',At κ (vs.zip vs) p pe st'→Pm vs.size p→Srt c p 0 vs.size→Q st')→wpS (model prog w) A.in1.in1 E { s with heap:=h' } sortRuns' (fun _ st'=>Q st') (SortSt.mk' κ (vs.zip vs) #[] 7 none))
    (q : ∀ h' D e p,Pm vs.size p→Srt c p 0 vs.size→(∀ b o,s.heap.get? b=some o→h'.get? b=some o)→s.heap.objs.size≤D→h'.get? D=some { cls := .type "list",data := .seq (p.map fun i=>vs.getD i Value.none) e }→Q (.ref D) { s with heap:=h' }) :
    wpAny (model prog w) A (call (.builtin "sorted") [.ref l]) Q E s:=by
  have hv' : s.heap.IsList l vs.toList.toArray:=by rw [Array.toArray_toList]; exact hv
  have few : vs.toList.length≤sizeLine:=by rw [Array.length_toList]; exact hl
  refine Calls.call_function_entry kind_sorted plain_sorted entry_sorted (args_sorted1 _) ?_
  unfold Builtin.«sorted»
  refine wpAny_bind (m:=checkCount "sorted" 1 1 _) (wpAny_pure (wpAny_bind (collect_list hv' ?_ few)))
  generalize hg : (s.heap.push (seqObj "list" #[] 0)).update s.heap.objs.size (Obj.mapSeq (· ++ vs.toList.toArray))=g
  have gs : g.objs.size=s.heap.objs.size + 1:=by rw [← hg,Heap.size_update,size_push']
  have gk : ∀ b o,s.heap.get? b=some o→g.get? b=some o:=fun b o e=>by
    rw [← hg,Heap.get?_update_ne _ _ _ _ (Nat.ne_of_lt (Heap.lt_size e))]
    exact Heap.get?_push_of_some _ e
  refine wpAny_bind (wpAny_newList ?_ few)
  have eD : (g.push { cls := .type "list",data := .seq vs.toList.toArray }).get? g.objs.size=some { cls := .type "list",data := .seq vs 0 }:=by
    rw [Heap.get?_push_size _ rfl,Array.toArray_toList]
  have nb : ∀ {b : Addr} {o : Obj},s.heap.get? b=some o→b≠g.objs.size:=fun eb=>Nat.ne_of_lt (Nat.lt_trans (Heap.lt_size eb) (by omega))
  refine wpAny_bind (wpAny_holding (wpAny_call_entry slot_list_sort ⟨_,eD,rfl⟩ entry_list_sort (Vu (c:=c) (s:={ s with heap:=g.push { cls := .type "list",data := .seq vs.toList.toArray } }) eD h2 hl (fun h' k=>?_) fun h' e p pm sr k ea=>⟨_,rfl,wpAny_pure ⟨_,rfl,?_⟩⟩) (args_list_sort _)))
  · obtain ⟨κ,h3,h4⟩:=run h' fun b o eb=>k b o (nb eb) (Heap.get?_push_of_some _ (gk b o eb))
    exact ⟨κ,fun Q=>h3 Q _,fun Q=>h4 Q _⟩
  · exact q h' g.objs.size e p pm sr (fun b o eb=>k b o (nb eb) (Heap.get?_push_of_some _ (gk b o eb))) (by omega) ea
end
section
variable {X : L2.Cx}
open L2 L3 L4 PySem.Spec
theorem zar {ps : List CP.Pr} : Or fun i j=>CP.ya (CP.at' ps i) (CP.at' ps j):=by
  refine ⟨fun i j h=>?_,fun i j k h1 h2=>?_⟩
  · simp only [L16.xP,decide_eq_true_eq,decide_eq_false_iff_not] at h ⊢
    omega
  · simp only [L16.xP,decide_eq_false_iff_not] at h1 h2 ⊢
    omega
theorem Xn : CallR X (.builtin "sorted") (fun xs H Q=>∃ (p : Addr) (ys : List V) (ps : List CP.Pr),xs=[.ref p]∧SqL X.K H p ys∧zd X.K H ys (ps.map CP.pairD)∧ps.Nodup∧ps.length < 128∧∀ l zs qs,H l=none→zd X.K H zs (qs.map CP.pairD)→qs.Perm ps→CP.yo qs=true→Q (.ref l) (upd H l (.lst zs))):=by
  intro pins s σ H xs us Q I r h
  obtain ⟨p,ys,ps,rfl,hq,hA,hnd,zb0,q⟩:=h
  by_cases h64 : ps.length < 64
  · exact L16.Xc pins s σ H _ us Q I r ⟨p,ys,ps,rfl,hq,hA,hnd,h64,q⟩
  obtain ⟨u,rfl,rx⟩:=vals1 r
  cases rx
  obtain ⟨its,rv,pl,hz⟩:=I.list hq
  have hlen:=rv.length
  have hlp : ys.length=ps.length:=by have:=zd.length hA; rwa [List.length_map] at this
  have line : 128≤sizeLine:=by decide
  have zi : its.toArray.size=its.length:=by simp
  have pr : ∀ i,i < its.length→∃ x o n t t',its.getD i Value.none=Value.ref x∧s.heap.get? x=some o∧o.cls = .type "tuple"∧o.data = .seq #[.int (CP.at' ps i).1 t,.int (CP.at' ps i).2 t'] n:=fun k hk=>by
    obtain ⟨u',e1,rr⟩:=rv.get (x:=ys[k]'(by omega)) (i:=k) (List.getElem?_eq_getElem (by omega))
    rw [List.getElem?_eq_getElem hk] at e1
    obtain ⟨a,t,ha,ey,ht⟩:=CP.pairs_at hA (List.getElem?_eq_getElem (show k < ys.length by omega))
    rw [ey,← Option.some.inj e1] at rr
    obtain ⟨its2,rv2,⟨o,ho,hc,n,hd⟩,_⟩:=I.tuple (SqT.of ht)
    obtain ⟨v1,v2,rfl,⟨t1,rfl⟩,⟨t2,rfl⟩⟩:=vals2 rv2
    rw [CP.at_of ha]
    refine ⟨t,o,n,t1,t2,?_,ho,hc,hd⟩
    rw [List.getD_eq_getElem?_getD,List.getElem?_eq_getElem hk]
    exact rr
  refine XS (c:=fun i j=>CP.ya (CP.at' ps i) (CP.at' ps j)) pl.isList (by omega) (by omega) (fun h' hk=>?_) fun h' D e o pm sr hk hD eD=>?_
  · have pr' : ∀ i,i < its.length→∃ x o n t t',its.getD i Value.none=Value.ref x∧h'.get? x=some o∧o.cls = .type "tuple"∧o.data = .seq #[.int (CP.at' ps i).1 t,.int (CP.at' ps i).2 t'] n:=fun i hi=>by
      obtain ⟨x,o,n,t,t',e,ho,hc,hd⟩:=pr i hi
      exact ⟨x,o,n,t,t',e,hk _ _ ho,hc,hd⟩
    obtain ⟨fs,kt,lf,hf⟩:=L12.jq (s:={ s with heap:=h' }) (vs:=its) fun v hv=>by
      obtain ⟨k,hk,rfl⟩:=List.getElem_of_mem hv
      obtain ⟨x,o,n,t,t',e,ho,hc,hd⟩:=pr' k hk
      rw [List.getD_eq_getElem?_getD,List.getElem?_eq_getElem hk] at e
      exact ⟨x,o,n,_,_,t,t',e,ho,hc,hd⟩
    refine ⟨tuples' true,fun Q E hQ=>kat_kind (T := .type "int") kt (by omega) (fun v hv=>?_) (by decide) hQ,fun Q E hQ=>?_⟩
    · obtain ⟨i,t,rfl⟩:=hf v hv
      exact .now
    · have kr:=kas_range (its.toArray.zip its.toArray)
      rw [show (its.toArray.zip its.toArray).size=its.toArray.size by simp] at kr
      refine J6 (N:=its.toArray.size) (κ:=tuples' true) (it:=its.toArray.zip its.toArray) (c:=fun i j=>CP.ya (CP.at' ps i) (CP.at' ps j)) (fun i j Q' hi hj hQ'=>?_) zar (fun i j hi hj hij=>?_) (Array.Perm.refl _) ⟨rfl,kr.symm,rfl,rfl⟩ (by omega) (by omega) hQ
      · unfold kas_cmp
        rw [kat_item rfl,kat_item rfl]
        exact L16.Xb (s:={ s with heap:=h' }) (pr' i (by omega)) (pr' j (by omega)) hQ'
      · exact (L16.Z0 hnd).tot i j (by omega) (by omega) hij
  · rw [zi] at pm sr
    have hil : its.length=ps.length:=by omega
    rw [hil] at pm sr
    have ho : L12.zK ps.length o:=pm
    have lo : ∀ i∈o.toList,i < ps.length:=fun i hi=>by
      have:=(Array.perm_iff_toList_perm.mp ho).mem_iff.mp hi
      simpa using this
    have up : L16.Up (fun i j=>CP.ya (CP.at' ps i) (CP.at' ps j)) o ps.length:=fun i j hij hj=>by
      have:=sr i j hij hj
      rwa [Nat.zero_add,Nat.zero_add] at this
    have hz2 : Vals (o.toList.map fun i=>ys.getD i .non) (o.toList.map fun i=>its.getD i Value.none):=by
      refine L7.vH (by rw [List.length_map,List.length_map]) fun i x u h1 h2=>?_
      rw [List.getElem?_map] at h1 h2
      obtain ⟨k,hk,rfl⟩:=Option.map_eq_some_iff.mp h1
      rw [hk] at h2
      obtain rfl:=Option.some.inj h2
      have hkl:=lo k (List.mem_of_getElem? hk)
      obtain ⟨u',e1,rr⟩:=rv.get (x:=ys[k]'(by omega)) (i:=k) (List.getElem?_eq_getElem (by omega))
      show RelV (ys.getD k .non) (its.getD k Value.none)
      rw [List.getD_eq_getElem?_getD,List.getElem?_eq_getElem (by omega),List.getD_eq_getElem?_getD,e1]
      exact rr
    have eo : (o.map fun i=>its.toArray.getD i Value.none)=(o.toList.map fun i=>its.getD i Value.none).toArray:=by
      apply Array.ext'
      rw [Array.toList_map]
      refine List.map_congr_left fun i hi=>?_
      simp [Array.getD,List.getD_eq_getElem?_getD]
      have:=lo i hi
      rw [dif_pos (by omega),List.getElem?_eq_getElem (by omega)]
      rfl
    rw [eo] at eD
    exact ⟨.ref D,_,I.laid (a:=D) (t':=s.toks) (o := .lst (o.toList.map fun i=>ys.getD i .non)) hk hD ⟨by rw [List.length_map,Array.length_toList,pm.size]; omega,_,e,hz2,eD⟩,rfl,q D _ (o.toList.map (CP.at' ps)) (I.hok.fresh hD) (L16.jx hA _ lo) (L16.X4 ho) (L16.Yi hnd ho (by omega) up)⟩
end
end L24
namespace CU
open CD
noncomputable abbrev Pt:=Option (Nat × Nat)
noncomputable def op (ms held : List Nat) (p : Nat) : Nat:=CB.less (ms.getD p 0) (held.getD p 0)
noncomputable def goN (ms held : List Nat) (c : zH) (p : Nat) : Nat→zH
  | 0=>[]
  | i + 1=>match (CB.zU (op ms held p &&& held.getD i 0))[0]? with
    | none=>goN ms held c p i
    | some w=>if i∈(c ++ goN ms held c p i).map Prod.fst then goN ms held c p i else goN ms held c p i ++ [(i,some (w,p))]
section
variable {ms held : List Nat} {c : zH} {p i w : Nat}
theorem V3 (h : op ms held p &&& held.getD i 0=0) : goN ms held c p (i + 1)=goN ms held c p i:=by
  rw [goN,h]
  rfl
theorem zas (h : (CB.zU (op ms held p &&& held.getD i 0))[0]?=some w) (hi : i∈(c ++ goN ms held c p i).map Prod.fst) : goN ms held c p (i + 1)=goN ms held c p i:=by
  rw [goN,h]
  exact if_pos hi
theorem J7 (h : (CB.zU (op ms held p &&& held.getD i 0))[0]?=some w) (hi : ¬ i∈(c ++ goN ms held c p i).map Prod.fst) : goN ms held c p (i + 1)=goN ms held c p i ++ [(i,some (w,p))]:=by
  rw [goN,h]
  exact if_neg hi
end
noncomputable def cs (ms held zc : List Nat) : Nat→zH
  | 0=>CO.roots (CO.yg zc)
  | k + 1=>match (cs ms held zc k)[k]? with
    | none=>cs ms held zc k
    | some e=>cs ms held zc k ++ goN ms held (cs ms held zc k) e.1 ms.length
noncomputable def fr (ms held left : List Nat) (p : Nat) : Nat:=op ms held p &&& CB.maskOf (CO.yg left)
noncomputable def res (ms held zc left : List Nat) (k : Nat) : Option Pt:=match (cs ms held zc k)[k]? with
  | none=>some none
  | some e=>((CB.zU (fr ms held left e.1))[0]?).map fun w=>some (w,e.1)
noncomputable def Sr (ms held zc left : List Nat) (c : zH) (r : Pt) : Prop:=∃ k,c=cs ms held zc k∧(∀ j,j < k→res ms held zc left j=none)∧res ms held zc left k=some r
section
variable {ms held zc left : List Nat}
theorem J8 {c : zH} {k p : Nat} {o : Pt} (e : c=cs ms held zc k) (h : c[k]?=some (p,o)) : c ++ goN ms held c p ms.length=cs ms held zc (k + 1):=by
  subst e
  rw [cs,h]
theorem zat {c : zH} {k p : Nat} {o : Pt} (e : c=cs ms held zc k) (h : c[k]?=some (p,o)) (h0 : fr ms held left p=0) : res ms held zc left k=none:=by
  subst e
  rw [res,h]
  show Option.map _ (CB.zU (fr ms held left p))[0]?=none
  rw [h0]
  rfl
theorem J9 {c : zH} {k : Nat} (e : c=cs ms held zc k) (h : c[k]?=none) : res ms held zc left k=some none:=by
  subst e
  rw [res,h]
theorem zaa {c : zH} {k p w : Nat} {o : Pt} (e : c=cs ms held zc k) (h : c[k]?=some (p,o)) (hw : (CB.zU (fr ms held left p))[0]?=some w) : res ms held zc left k=some (some (w,p)):=by
  subst e
  rw [res,h]
  show Option.map _ (CB.zU (fr ms held left p))[0]?=_
  rw [hw]
  rfl
theorem Sr.uniq {c c' : zH} {r r' : Pt} (h : Sr ms held zc left c r) (h' : Sr ms held zc left c' r') : c=c'∧r=r':=by
  obtain ⟨k,e1,e2,e3⟩:=h
  obtain ⟨k',f1,f2,f3⟩:=h'
  have hk : k=k':=by
    rcases Nat.lt_trichotomy k k' with z | z | z
    · rw [f2 k z] at e3
      cases e3
    · exact z
    · rw [e2 k' z] at f3
      cases f3
  subst hk
  rw [e3] at f3
  exact ⟨e1.trans f1.symm,Option.some.inj f3⟩
end
inductive Walk (c : zH) : List Nat→Nat→Nat→List Nat→Nat→Prop where
  | stop {hk : List Nat} {k p : Nat} (h : (p,none)∈c) : Walk c hk k p (hk.set p (hk.getD p 0 ||| CB.maskOf [k])) p
  | go {hk : List Nat} {k p b q : Nat} {h' : List Nat} {e : Nat} (h : (p,some (b,q))∈c) (t : Walk c ((hk.set p (hk.getD p 0 ||| CB.maskOf [k])).set p (CB.less ((hk.set p (hk.getD p 0 ||| CB.maskOf [k])).getD p 0) (CB.maskOf [b]))) b q h' e) : Walk c hk k p h' e
theorem vP {α : Type} : ∀ {c : List (Nat × α)} {p : Nat} {o o' : α},(c.map Prod.fst).Nodup→(p,o)∈c→(p,o')∈c→o=o'
  | [],_,_,_,_,h,_=>nomatch h
  | (a,b) :: r,p,o,o',hn,h,h'=>by
    have ⟨h1,h2⟩:=List.nodup_cons.mp hn
    rcases List.mem_cons.mp h with z | z
    · rcases List.mem_cons.mp h' with y | y
      · rw [← z] at y
        exact (congrArg Prod.snd y).symm
      · exact absurd (List.mem_map.mpr ⟨_,y,show p=a from congrArg Prod.fst z⟩) h1
    · rcases List.mem_cons.mp h' with y | y
      · exact absurd (List.mem_map.mpr ⟨_,z,show p=a from congrArg Prod.fst y⟩) h1
      · exact vP h2 z y
theorem Walk.uniq {c : zH} (hn : (c.map Prod.fst).Nodup) {hk : List Nat} {k p : Nat} {h' : List Nat} {e : Nat} (w : Walk c hk k p h' e) : ∀ {h2 : List Nat} {e2 : Nat},Walk c hk k p h2 e2→h'=h2∧e=e2:=by
  induction w with
  | stop h =>
    intro h2 e2 w2
    cases w2 with
    | stop g=>exact ⟨rfl,rfl⟩
    | go g t=>exact nomatch vP hn h g
  | go h t ih =>
    intro h2 e2 w2
    cases w2 with
    | stop g=>exact nomatch vP hn h g
    | go g t2 =>
      have:=Option.some.inj (vP hn h g)
      cases this
      exact ih t2
inductive vg (ms : List Nat) : List Nat→List Nat→List Nat→List Nat→List Nat→List Nat→zH→Prop where
  | stop {held zc left : List Nat} {c : zH} (h : Sr ms held zc left c none) : vg ms held zc left held zc left c
  | go {held zc left Jv held' zP left' : List Nat} {c c' : zH} {k p e : Nat} (h : Sr ms held zc left c (some (k,p))) (hn : (c.map Prod.fst).Nodup) (w : Walk c held k p Jv e)
    (t : vg ms Jv (zc.set e (zc.getD e 0 - 1)) (left.set k (left.getD k 0 - 1)) held' zP left' c') : vg ms held zc left held' zP left' c'
theorem vg.uniq {ms held zc left a b d : List Nat} {c : zH} (g : vg ms held zc left a b d c) : ∀ {a' b' d' : List Nat} {c' : zH},vg ms held zc left a' b' d' c'→a=a'∧b=b'∧c=c':=by
  induction g with
  | stop h =>
    intro a' b' d' c' g'
    cases g' with
    | stop h'=>exact ⟨rfl,rfl,(h.uniq h').1⟩
    | go h' _ _ _=>exact nomatch (h.uniq h').2
  | go h hn w t ih =>
    intro a' b' d' c' g'
    cases g' with
    | stop h'=>exact nomatch (h.uniq h').2
    | go h' _ w' t' =>
      obtain ⟨e1,e2⟩:=h.uniq h'
      subst e1
      cases e2
      obtain ⟨rfl,rfl⟩:=w.uniq hn w'
      exact ih t'
end CU
namespace CU
theorem zab {k p a b : Nat} (h : some (L2.HO.tup [.int (k : Nat),.int (p : Nat)])=some (L2.HO.tup [.int (a : Nat),.int (b : Nat)])) : some (a,b)=some (k,p):=by
  have h1:=L2.HO.tup.inj (Option.some.inj h)
  have h2:=List.cons.inj h1
  have h3:=List.cons.inj h2.2
  have e1:=L2.V.int.inj h2.1
  have e2:=L2.V.int.inj h3.1
  rw [show a=k by omega,show b=p by omega]
end CU
namespace CU
theorem Vv {a b d : CP.Pr} (h1 : CP.ya a b=true) (h2 : CP.ya b d=true) : CP.ya a d=true:=by
  rw [L16.xP,decide_eq_true_eq] at h1 h2 ⊢
  omega
theorem Yj : ∀ {qs : List CP.Pr},CP.yo qs=true→qs.Pairwise fun a b=>CP.ya a b=true:=by
  intro qs h
  have h1:=CP.yZ.mp h
  refine List.pairwise_iff_getElem.mpr fun i j hi hj hij=>?_
  have e : ∀ k (hk : k < qs.length),CP.at' qs k=qs[k]:=fun k hk=>CP.at_of (List.getElem?_eq_getElem hk)
  have go : ∀ d i,i + d + 1 < qs.length→CP.ya (CP.at' qs i) (CP.at' qs (i + d + 1))=true:=by
    intro d
    induction d with
    | zero=>exact fun i hi=>h1 i hi
    | succ d ih=>exact fun i hi=>Vv (ih i (by omega)) (h1 (i + d + 1) (by omega))
  have:=go (j - i - 1) i (by omega)
  rw [show i + (j - i - 1) + 1=j by omega,e i hi,e j hj] at this
  exact this
noncomputable def Told (ws os ms : List Nat) (qs : List CP.Pr) (z : Nat) (ze : List Nat) : Prop:=∃ held zc left c,vg ms (List.replicate ms.length 0) ws os held zc left c∧qs.Perm ((CD.hpT held ms.length).map CP.xy)∧CP.yo qs=true∧z=CD.zk zc∧ze.Perm (c.map Prod.fst)∧ze.Pairwise (·≤·)
theorem Told.uniq {ws os ms : List Nat} {qs qs' : List CP.Pr} {z z' : Nat} {pa pa' : List Nat} (h : Told ws os ms qs z pa) (h' : Told ws os ms qs' z' pa') : qs=qs'∧z=z'∧pa=pa':=by
  obtain ⟨held,zc,left,c,g,p1,r1,e1,p2,r2⟩:=h
  obtain ⟨held',zP,left',c',g',p1',r1',e1',p2',r2'⟩:=h'
  obtain ⟨rfl,rfl,rfl⟩:=g.uniq g'
  refine ⟨List.Perm.eq_of_pairwise (le:=fun a b=>CP.ya a b=true) (fun a b _ _ h1 h2=>?_) (Yj r1) (Yj r1') (p1.trans p1'.symm),e1.trans e1'.symm,List.Perm.eq_of_pairwise (fun a b _ _ h1 h2=>Nat.le_antisymm h1 h2) r2 r2' (p2.trans p2'.symm)⟩
  have:=Vv h1 h2
  rw [L16.xP,decide_eq_true_eq] at this
  omega
end CU
set_option maxHeartbeats 4000000
namespace K53
open PySem PySem.Spec PyProof.Rows L2 L3 L4 L5 L6 L7
seal L2.PE L2.PT L2.PW L2.PA L2.PS L2.PSs L2.PG L2.PGs L2.PI L2.PC L2.PO L3.PF L3.Za L2.OpR L2.CallR L2.IxR L2.SlR
noncomputable def top (i : Nat) : Stmt:=PySem.Challenge.pw_court_k53_whole_dealt_and_shown.main.body.getD i (.Pass ⟨0,0,0,0⟩)
noncomputable abbrev yC : Stmt:=(top 1)
noncomputable def wY : List Str:=["numbers","mask","number"]
theorem zau : FnScope wY ["numbers"] (defScope yC):=⟨rfl,rfl,rfl,by decide +kernel,rfl,by decide +kernel,by decide +kernel⟩
noncomputable abbrev yu : Stmt:=(top 2)
noncomputable def Ys : List Str:=["mask"]
theorem zav : FnScope Ys ["mask"] (defScope yu):=⟨rfl,rfl,rfl,by decide +kernel,rfl,by decide +kernel,by decide +kernel⟩
noncomputable abbrev vh : Stmt:=(top 3)
noncomputable def Wn : List Str:=["mask","number"]
theorem zbk : FnScope Wn ["mask","number"] (defScope vh):=⟨rfl,rfl,rfl,by decide +kernel,rfl,by decide +kernel,by decide +kernel⟩
noncomputable abbrev wC : Stmt:=(top 4)
noncomputable def Wo : List Str:=["mask"]
theorem zbl : FnScope Wo ["mask"] (defScope wC):=⟨rfl,rfl,rfl,by decide +kernel,rfl,by decide +kernel,by decide +kernel⟩
noncomputable abbrev xJ : Stmt:=(top 5)
noncomputable def Wq : List Str:=["one","other"]
theorem zaw : FnScope Wq ["one","other"] (defScope xJ):=⟨rfl,rfl,rfl,by decide +kernel,rfl,by decide +kernel,by decide +kernel⟩
noncomputable abbrev vQ : Stmt:=(top 6)
noncomputable def V4 : List Str:=["one","other"]
theorem zbm : FnScope V4 ["one","other"] (defScope vQ):=⟨rfl,rfl,rfl,by decide +kernel,rfl,by decide +kernel,by decide +kernel⟩
noncomputable abbrev xK : Stmt:=(top 7)
noncomputable def Wr : List Str:=["one","other"]
theorem zax : FnScope Wr ["one","other"] (defScope xK):=⟨rfl,rfl,rfl,by decide +kernel,rfl,by decide +kernel,by decide +kernel⟩
noncomputable abbrev yl : Stmt:=(inClass (top 9) 0)
noncomputable def xV : List Str:=["self","wants","oftens","masks"]
theorem zbn : FnScope xV ["self","wants","oftens","masks"] (defScope yl):=⟨rfl,rfl,rfl,by decide +kernel,rfl,by decide +kernel,by decide +kernel⟩
noncomputable abbrev zw : Stmt:=(inClass (top 9) 1)
noncomputable def zO : List Str:=["self","free","queue","place","number","works","last"]
theorem zbo : FnScope zO ["self"] (defScope zw):=⟨rfl,rfl,rfl,by decide +kernel,rfl,by decide +kernel,by decide +kernel⟩
noncomputable abbrev z6 : Stmt:=(inClass (top 9) 2)
noncomputable def yI : List Str:=["self","place","works","found","other","held","work"]
theorem zbp : FnScope yI ["self","place","works"] (defScope z6):=⟨rfl,rfl,rfl,by decide +kernel,rfl,by decide +kernel,by decide +kernel⟩
noncomputable abbrev zR : Stmt:=(inClass (top 9) 3)
noncomputable def yb : List Str:=["self","pair","place"]
theorem zbq : FnScope yb ["self","pair"] (defScope zR):=⟨rfl,rfl,rfl,by decide +kernel,rfl,by decide +kernel,by decide +kernel⟩
noncomputable abbrev xj : Stmt:=(inClass (top 9) 4)
noncomputable def jz : List Str:=["self","pair"]
theorem zbr : FnScope jz ["self"] (defScope xj):=⟨rfl,rfl,rfl,by decide +kernel,rfl,by decide +kernel,by decide +kernel⟩
noncomputable abbrev zY : Stmt:=(top 10)
noncomputable def xM : List Str:=["held","pairs","place","mask"]
theorem zay : FnScope xM ["held"] (defScope zY):=⟨rfl,rfl,rfl,by decide +kernel,rfl,by decide +kernel,by decide +kernel⟩
noncomputable abbrev yD : Stmt:=(top 11)
noncomputable def vR : List Str:=["wants","oftens","masks","dealer"]
theorem zbs : FnScope vR ["wants","oftens","masks"] (defScope yD):=⟨rfl,rfl,rfl,by decide +kernel,rfl,by decide +kernel,by decide +kernel⟩
noncomputable abbrev yS : Stmt:=(top 13)
noncomputable def ZJ : List Str:=["_law_script","_law_k"]
theorem zaz : FnScope ZJ ["_law_script","_law_k"] (defScope yS):=⟨rfl,rfl,rfl,by decide +kernel,rfl,by decide +kernel,by decide +kernel⟩
noncomputable abbrev yO : Stmt:=(top 14)
noncomputable def vS : List Str:=["_law_cell","_law_k","_law_some"]
theorem zaA : FnScope vS ["_law_cell","_law_k"] (defScope yO):=⟨rfl,rfl,rfl,by decide +kernel,rfl,by decide +kernel,by decide +kernel⟩
noncomputable abbrev zm : Stmt:=(top 15)
noncomputable def zA : List Str:=["_law_script","_law_most","_law_places","_law_wants","_law_k","_law_some","_law_oftens","_law_masks","_law_cell","_law_bit","_law_left"]
theorem zaB : FnScope zA ["_law_script","_law_most"] (defScope zm):=⟨rfl,rfl,rfl,by decide +kernel,rfl,by decide +kernel,by decide +kernel⟩
noncomputable abbrev xq : Stmt:=(top 16)
noncomputable def Yt : List Str:=["_law_masks","_law_work","_law_place"]
theorem zaC : FnScope Yt ["_law_masks","_law_work","_law_place"] (defScope xq):=⟨rfl,rfl,rfl,by decide +kernel,rfl,by decide +kernel,by decide +kernel⟩
noncomputable abbrev zh : Stmt:=(top 17)
noncomputable def zB : List Str:=["_law_pairs","_law_wants","_law_oftens","_law_masks","_law_works","_law_places","_law_before","_law_pair","_law_number","_law_k"]
theorem zaD : FnScope zB ["_law_pairs","_law_wants","_law_oftens","_law_masks"] (defScope zh):=⟨rfl,rfl,rfl,by decide +kernel,rfl,by decide +kernel,by decide +kernel⟩
noncomputable abbrev zF : Stmt:=(top 18)
noncomputable def zX : List Str:=["_law_paper_here","_law_wants","_law_oftens","_law_masks","_law_found","_law_place","_law_work","_law_many"]
theorem zaE : FnScope zX ["_law_paper_here","_law_wants","_law_oftens","_law_masks"] (defScope zF):=⟨rfl,rfl,rfl,by decide +kernel,rfl,by decide +kernel,by decide +kernel⟩
noncomputable abbrev zN : Stmt:=(top 19)
noncomputable def yv : List Str:=["_law_paper_here","_law_places","_law_k"]
theorem zaF : FnScope yv ["_law_paper_here","_law_places"] (defScope zN):=⟨rfl,rfl,rfl,by decide +kernel,rfl,by decide +kernel,by decide +kernel⟩
noncomputable abbrev zj : Stmt:=(top 20)
noncomputable def zu : List Str:=["_law_script","_law_wants","_law_oftens","_law_masks","_law_handed","_law_found","_law_pairs","_law_wanting","_law_paper_here","_law_kept","_law_again"]
theorem zbt : FnScope zu ["_law_script"] (defScope zj):=⟨rfl,rfl,rfl,by decide +kernel,rfl,by decide +kernel,by decide +kernel⟩
structure Adr where
  vC : Addr
  members : Addr
  has : Addr
  wD : Addr
  shared : Addr
  either : Addr
  less : Addr
  xr : Addr
  xW : Addr
  yP : Addr
  xX : Addr
  vj : Addr
  Zn : Addr
  Xe : Addr
  vm : Addr
  jA : Addr
  vU : Addr
  vD : Addr
  vn : Addr
  jB : Addr
  jC : Addr
  zg : Addr
structure Txt (K : PySem.W.Frag) (mg : Str→Option Value) (a : Adr) : Prop where
  Ws : mg "mask_of"=some (.ref a.vC)
  zbu : mg "members"=some (.ref a.members)
  zb1 : mg "has"=some (.ref a.has)
  zaG : mg "first_of"=some (.ref a.wD)
  Jw : mg "shared"=some (.ref a.shared)
  zb2 : mg "either"=some (.ref a.either)
  Jx : mg "less"=some (.ref a.less)
  zbv : mg "pairs_of"=some (.ref a.Zn)
  V5 : mg "deal"=some (.ref a.Xe)
  Jy : mg "_law_cell_at"=some (.ref a.vm)
  ZK : mg "_law_mixed"=some (.ref a.jA)
  zbw : mg "_law_ground"=some (.ref a.vU)
  Jz : mg "_law_fit"=some (.ref a.vD)
  zbx : mg "_law_dealing"=some (.ref a.vn)
  zby : mg "_law_shown"=some (.ref a.jB)
  zbz : mg "_law_paper"=some (.ref a.jC)
  wF : mg "Dealer"=some (.ref a.zg)
  zl : Cls K a.zg
  Vw : Mk K a.zg a.xr
  xQ : Meth K a.zg "search" a.xW
  vo : Meth K a.zg "go_on_from" a.yP
  jD : Meth K a.zg "change" a.xX
  Zo : Meth K a.zg "grow" a.vj
  ye : NoAttr K a.zg "masks"
  zE : NoAttr K a.zg "held"
  zQ : NoAttr K a.zg "still"
  zW : NoAttr K a.zg "left"
  zJ : NoAttr K a.zg "came"
  wG : mg "bool"=none
  yi : mg "enumerate"=none
  wZ : mg "int"=none
  zG : mg "isinstance"=none
  z7 : mg "len"=none
  yq : mg "list"=none
  ZL : mg "min"=none
  yx : mg "range"=none
  xF : mg "sorted"=none
  jT : mg "sum"=none
  wg : mg "tuple"=none
section
variable {P : Program} {w : World} {K : PySem.W.Frag} {mg : Str→Option Value} {base : Heap} {a : Adr}
noncomputable def yT (ns : List Int) (k : Int) : Int:=ns.getD k.toNat 0
noncomputable def Vx (K : PySem.W.Frag) : Sp:=fun vs H Q _=>∃ (a : Addr) (ns : List Int) (k : Int),vs=[.ref a,.int k]∧SqL K H a (ns.map V.int)∧ns.length≤63∧0≤k∧Q (.int (yT ns k)) H
theorem zaH {f : Addr} {fd : FuncData} (F : Fun K "_law_cell_at" "_law_cell_at" yS f fd) (T : Txt K mg a) : FnOk P w K mg base CX0 1 f fd ["_law_script","_law_k"] (Vx K):=by
  refine F.ok zaz (fun vs H Q E h=>?_) (fun cdv A outer s H vs Q E hr h=>?_)
  · obtain ⟨a,ns,k,rfl,_⟩:=h
    rfl
  · obtain ⟨a,ns,k,rfl,hS,hl,h0,q⟩:=h
    refine ⟨_,(pss_cons (ps_if (pt_cmpR op_lt (pvA 1 (defScope yS) ZJ rfl rfl) (zo (sc:=defScope yS) call_len rfl (by decide +kernel) T.z7 z8 (pa_cons (pvA 0 (defScope yS) ZJ rfl rfl) pa_nil)) (nomark _)) (pss_one (ps_ret (pe_ix ix_seq (pvA 0 (defScope yS) ZJ rfl rfl) (pvA 1 (defScope yS) ZJ rfl rfl) (fun _ _=>rfl)))) pss_nil)
      (pss_one (ps_ret pe_int))),?_⟩
    refine ⟨_,rfl,_,rfl,.ref a,ns.length,rfl,.inl ⟨_,hS,by simp⟩,_,_,rfl,rfl,_,rfl,ite2 (fun hlt=>?_) (fun hge=>?_)⟩
    · have hk : k < (ns.length : Int):=of_decide_eq_true hlt
      refine ⟨_,rfl,_,rfl,.inl ⟨a,_,k,.int (yT ns k),rfl,rfl,hS,?_,q⟩⟩
      have hk' : k.toNat < ns.length:=by omega
      have e : (k.toNat : Int)=k:=Int.toNat_of_nonneg h0
      rw [← e]
      refine atI_nat ?_
      rw [List.getElem?_map,List.getElem?_eq_getElem hk']
      unfold yT
      rw [Int.toNat_natCast,List.getD_eq_getElem?_getD,List.getElem?_eq_getElem hk']
      rfl
    · have hk : ¬ k < (ns.length : Int):=fun z=>hge (decide_eq_true z)
      have e : yT ns k=0:=by
        unfold yT
        rw [List.getD_eq_getElem?_getD,List.getElem?_eq_none (by omega)]
        rfl
      rw [e] at q
      exact q
theorem Zp (n : Nat) : (List.replicate n [V.int 0]).flatten=nV (List.replicate n 0):=by
  induction n with
  | zero=>rfl
  | succ n ih=>rw [List.replicate_succ,List.flatten_cons,ih]; rfl
theorem getD_at {l : List Nat} {p : Nat} (h : p < l.length) : l[p]?=some (l.getD p 0):=by
  rw [List.getD_eq_getElem?_getD,List.getElem?_eq_getElem h]
  rfl
theorem yf {l : List Nat} {p : Nat} (h : p < l.length) : atI (nV l) ((p : Nat) : Int)=some (.int (l.getD p 0 : Nat)) :=
  atI_nat (by unfold nV; rw [List.getElem?_map,getD_at h]; rfl)
theorem xG {n i : Nat} (h : i < n) : ixN n ((i : Nat) : Int)=some i:=by
  unfold ixN
  rw [if_pos (by omega),if_pos (by omega),Int.toNat_natCast]
theorem V6 (n : Nat) : ixN (n + 1) (-1)=some n:=by
  unfold ixN
  rw [if_neg (by decide),if_pos (by omega),show (-1 + ((n + 1 : Nat) : Int)).toNat=n by omega]
theorem zD (l : List Nat) : (nV l).length=l.length:=by unfold nV; rw [List.length_map]
theorem X8 (l : List Nat) (x : Nat) : nV l ++ [V.int (x : Nat)]=nV (l ++ [x]):=by unfold nV; rw [List.map_append]; rfl
theorem xR (l : List Nat) (j x : Nat) : (nV l).set j (.int (x : Nat))=nV (l.set j x):=by
  unfold nV
  rw [List.map_set]
noncomputable def JA (_ : PySem.W.Frag) : Sp:=fun vs H Q _=>∃ (m : Nat) (n : Int),vs=[.int m,.int n]∧Q (.bl (decide (0≤n) && m.testBit n.toNat)) H
theorem zbA {f : Addr} {fd : FuncData} (F : Fun K "has" "has" vh f fd) (T : Txt K mg a) : FnOk P w K mg base CX0 1 f fd ["mask","number"] (JA K):=by
  refine F.ok zbk (fun vs H Q E h=>?_) (fun cdv A outer s H vs Q E hr h=>?_)
  · obtain ⟨m,n,rfl,_⟩:=h
    rfl
  · obtain ⟨m,n,rfl,q⟩:=h
    refine ⟨_,(pss_one (ps_ret (pe_and (pe_cmpR op_ge (pvA 1 (defScope vh) Wn rfl rfl) pe_int (nomark _)) (pe_one (pe_cmpR op_eq (pe_op op_and (pe_op op_shr (pvA 0 (defScope vh) Wn rfl rfl) (pvA 1 (defScope vh) Wn rfl rfl)) pe_int) pe_int (nomark _)))))),?_⟩
    refine ⟨_,rfl,_,_,rfl,rfl,_,rfl,ite2 (fun h0=>?_) (fun h0=>?_)⟩
    · have h0' : 0≤n:=of_decide_eq_true h0
      refine ⟨_,rfl,_,rfl,_,_,rfl,rfl,h0',_,_,rfl,rfl,rfl,?_⟩
      have e : (decide (0≤n) && m.testBit n.toNat)=decide (V.int (Builtin.bitAnd ((m : Int) / 2 ^ n.toNat) 1)=V.int 1):=by
        rw [decide_eq_true h0',Bool.true_and,← CB.zag]
        exact decide_eq_decide.mpr ⟨fun z=>by rw [z],fun z=>V.int.inj z⟩
      rw [e] at q
      exact q
    · rw [decide_eq_false (fun z=>h0 (decide_eq_true z)),Bool.false_and] at q
      exact q
noncomputable def Xo (K : PySem.W.Frag) : Sp:=fun vs H Q _=>∃ (p : Addr) (ns : List Nat),vs=[.ref p]∧SqL K H p (ns.map fun n : Nat=>V.int n)∧(∀ n∈ns,n≤1000)∧Q (.int (CB.maskOf ns : Nat)) H
theorem zaI {f : Addr} {fd : FuncData} (F : Fun K "mask_of" "mask_of" yC f fd) (T : Txt K mg a) : FnOk P w K mg base CX0 1 f fd ["numbers"] (Xo K):=by
  refine F.ok zau (fun vs H Q E h=>?_) (fun cdv A outer s H vs Q E hr h=>?_)
  · obtain ⟨p,ns,rfl,_⟩:=h
    rfl
  · obtain ⟨p,ns,rfl,hp,hb,q⟩:=h
    refine ⟨_,(pss_cons (psN (i:=1) (sc:=defScope yC) (M:=wY) rfl rfl (by decide +kernel) pe_int)
      (pss_cons (ps_for PassesOwn.never rfl (pi_list (pvA 0 (defScope yC) wY rfl rfl)) (pgN (i:=2) (sc:=defScope yC) (M:=wY) rfl rfl (by decide +kernel)) (pss_one (psN (i:=1) (sc:=defScope yC) (M:=wY) rfl rfl (by decide +kernel) (pe_op op_or (pvA 1 (defScope yC) wY rfl rfl) (pe_op op_shl pe_int (pvA 2 (defScope yC) wY rfl rfl))))))
      (pss_one (ps_ret (pvA 1 (defScope yC) wY rfl rfl))))),?_⟩
    refine ⟨_,rfl,p,rfl,⟨_,hp⟩,for_list (xs:=ns.map fun n : Nat=>V.int n) (fun i σ H'=>(∃ v,σ=[some (.ref p),some (.int (CB.maskOf (ns.take i) : Nat)),v])∧H'=H) ⟨⟨_,rfl⟩,rfl⟩ ?_ ?_ ?_⟩
    · rintro i σ H' _ ⟨_,rfl⟩
      exact hp
    · rintro i x σ H' hx ⟨⟨v,rfl⟩,rfl⟩
      rw [List.getElem?_map] at hx
      obtain ⟨n,hn,rfl⟩:=Option.map_eq_some_iff.mp hx
      have hb':=hb n (List.mem_of_getElem? hn)
      refine ⟨_,rfl,_,rfl,_,_,rfl,rfl,⟨by omega,by omega,by decide⟩,_,_,rfl,rfl,⟨some (.int (n : Nat)),?_⟩,rfl⟩
      have e : Builtin.bitOr ((CB.maskOf (ns.take i) : Nat) : Int) (1 * 2 ^ ((n : Int)).toNat)=((CB.maskOf (ns.take (i + 1)) : Nat) : Int):=by
        rw [Int.one_mul,Int.toNat_natCast,CB.wo,CB.or_cast,take_snoc hn]
        unfold CB.maskOf
        rw [List.foldl_append]
        rfl
      rw [← e]
      rfl
    · rintro σ H' ⟨⟨v,rfl⟩,rfl⟩
      rw [List.length_map,List.take_length]
      exact ⟨_,rfl,q⟩
noncomputable def Vy (_ : PySem.W.Frag) : Sp:=fun vs H Q _=>∃ m : Nat,vs=[.int m]∧m < 2 ^ 1000∧∀ H' l,H l=none→Same H H'→H' l=some (.lst ((CB.zU m).map fun n : Nat=>V.int n))→Q (.ref l) H'
theorem zaJ {f : Addr} {fd Wt : FuncData} (F : Fun K "members" "members" yu f fd) (T : Txt K mg a)
    (V7 : FnOk P w K mg base CX0 1 a.has Wt ["mask","number"] (JA K)) (Xp : Fun K "has" "has" vh a.has Wt) (V8 : Binds K Wt ["mask","number"] []) : FnOk P w K mg base CX0 2 f fd ["mask"] (Vy K):=by
  refine F.ok zav (fun vs H Q E h=>?_) (fun cdv A outer s H vs Q E hr h=>?_)
  · obtain ⟨m,rfl,_⟩:=h
    rfl
  · obtain ⟨m,rfl,hm,q⟩:=h
    refine ⟨_,(pss_one (ps_ret (vq rfl (N:=["number","mask"]) (own:=1) (js:=[0]) (X:=(cxOf CX0 P w K mg base Ys "members" (defScope yu) f cdv A outer s H E).nox) (vp (defScope yu) Ys rfl rfl (by decide +kernel)) (pi_range1 (glR (sc:=defScope yu) rfl (by decide +kernel)) T.yx (pa_cons (pe_bm0 PySem.F.plainAttrs_int slot_int_bit_length type_int_bit_length je (pvA 0 (defScope yu) Ys rfl rfl)) pa_nil)) (fun fp0 sx0 Hx0=>(pgN (i:=0) (sc:=zC _ (defScope yu)) (M:=["number","mask"]) rfl rfl (by decide +kernel))) (fun fp0 sx0 Hx0=>(vF (pt_val (zq (sc:=zC _ (defScope yu)) V7 (hr.mono (by decide)) rfl (by decide +kernel) T.zb1 Xp.kp V8 .nil pass0 (pa_cons (pvN (i:=1) (sc:=zC _ (defScope yu)) (M:=["number","mask"]) rfl rfl (by decide +kernel)) (pa_cons (pvN (i:=0) (sc:=zC _ (defScope yu)) (M:=["number","mask"]) rfl rfl (by decide +kernel)) pa_nil)))))) (fun fp0 sx0 Hx0=>(pvN (i:=0) (sc:=zC _ (defScope yu)) (M:=["number","mask"]) rfl rfl (by decide +kernel)))))),?_⟩
    have hb : Builtin.Int.intBits (m : Int)≤1000:=intBits_le_iff.mpr (by rw [Int.natAbs_natCast]; exact hm)
    have hs : sizeLine=16777216:=sizeLine_eq
    refine ⟨_,rfl,rfl,rfl,_,rfl,_,rfl,by omega,by omega,fun c hc=>?_⟩
    refine jl hc (jk (P:=fun _=>True)) (fun σ=>∃ v,σ=[v,some (.int m)]) (fun x=>match x with | .int z=>if m.testBit z.toNat then some (.int z) else none | _=>none) ⟨_,rfl⟩ (fun _ _=>trivial) (by rw [List.length_map,List.length_range]; omega) ?_ ?_
    · rintro x ys σ H' R1 R0 hx ⟨v,rfl⟩ s1 k1 k0
      obtain ⟨i,hi,rfl⟩:=List.mem_map.mp hx
      rw [show (0 : Int) + (i : Nat)=(i : Nat) by omega] at k1 k0 ⊢
      refine ⟨_,rfl,_,rfl,m,_,rfl,_,rfl,?_⟩
      rw [decide_eq_true (show (0 : Int)≤(i : Nat) by omega),Bool.true_and,Int.toNat_natCast]
      have te : (if m.testBit ((i : Nat) : Int).toNat=true then some (V.int (i : Nat)) else none)=(if m.testBit i=true then some (V.int (i : Nat)) else none):=by rw [Int.toNat_natCast]
      refine ite2 (fun h1=>?_) (fun h1=>?_)
      · exact ⟨_,rfl,k1 _ _ _ ⟨_,rfl⟩ (te.trans (if_pos h1)) (Same.refl _)⟩
      · exact k0 _ _ ⟨_,rfl⟩ (te.trans (if_neg h1)) (Same.refl _)
    · intro H' s1 e1
      refine q H' c hc s1 (e1.trans ?_)
      congr 2
      rw [Int.toNat_natCast]
      unfold CB.zU
      generalize Builtin.Int.intBits (m : Int)=n
      rw [List.filterMap_map]
      induction List.range n with
      | nil=>rfl
      | cons i r ih =>
        rw [List.filterMap_cons,List.filter_cons]
        have ez : (0 : Int) + (i : Nat)=(i : Nat):=by omega
        cases h1 : m.testBit i with
        | true =>
          have : ((fun x=>match x with | V.int z=>if m.testBit z.toNat=true then some (V.int z) else none | _=>none) ∘ fun i : Nat=>V.int (0 + (i : Nat))) i=some (V.int (i : Nat)):=by
            show (if m.testBit ((0 : Int) + (i : Nat)).toNat=true then some (V.int (0 + (i : Nat))) else none)=_
            rw [ez,Int.toNat_natCast,if_pos h1]
          rw [this,if_pos rfl,List.map_cons]
          dsimp only
          rw [ih]
        | false =>
          have : ((fun x=>match x with | V.int z=>if m.testBit z.toNat=true then some (V.int z) else none | _=>none) ∘ fun i : Nat=>V.int (0 + (i : Nat))) i=none:=by
            show (if m.testBit ((0 : Int) + (i : Nat)).toNat=true then some (V.int (0 + (i : Nat))) else none)=_
            rw [ez,Int.toNat_natCast,if_neg (by rw [h1]; decide)]
          rw [this,if_neg (by decide)]
          dsimp only
          rw [ih]
noncomputable def Wu (_ : PySem.W.Frag) : Sp:=fun vs H Q _=>∃ m : Nat,vs=[.int m]∧∀ r,(m=0∧r=V.non∨∃ k : Nat,(CB.zU m)[0]?=some k∧r = .int (k : Nat))→Q r H
theorem zbB {f : Addr} {fd : FuncData} (F : Fun K "first_of" "first_of" wC f fd) (T : Txt K mg a) : FnOk P w K mg base CX0 1 f fd ["mask"] (Wu K):=by
  refine F.ok zbl (fun vs H Q E h=>?_) (fun cdv A outer s H vs Q E hr h=>?_)
  · obtain ⟨m,rfl,_⟩:=h
    rfl
  · obtain ⟨m,rfl,q1⟩:=h
    refine ⟨_,(pss_cons (ps_if (pt_cmpR op_eq (pvA 0 (defScope wC) Wo rfl rfl) pe_int (nomark _)) (pss_one (ps_ret pe_non)) pss_nil)
      (pss_one (ps_ret (pe_op op_sub (pe_bm0 PySem.F.plainAttrs_int slot_int_bit_length type_int_bit_length je (pe_op op_and (pvA 0 (defScope wC) Wo rfl rfl) (pe_un un_neg (pvA 0 (defScope wC) Wo rfl rfl)))) pe_int)))),?_⟩
    refine ⟨_,rfl,rfl,_,rfl,ite2 (fun h1=>?_) (fun h1=>?_)⟩
    · have h1':=V.int.inj (of_decide_eq_true h1)
      exact q1 _ (.inl ⟨by omega,rfl⟩)
    · have h1' : m≠0:=fun z=>h1 (decide_eq_true (by rw [z]; rfl))
      obtain ⟨k,e1,e2⟩:=CB.zah h1'
      have q:=q1 _ (.inr ⟨k,e1,rfl⟩)
      rw [← e2] at q
      exact ⟨_,rfl,_,rfl,_,rfl,_,_,rfl,rfl,rfl,rfl,_,rfl,_,_,rfl,rfl,q⟩
noncomputable def Xq (_ : PySem.W.Frag) : Sp:=fun vs H Q _=>∃ m n : Nat,vs=[.int m,.int n]∧Q (.int (m &&& n : Nat)) H
theorem zaK {f : Addr} {fd : FuncData} (F : Fun K "shared" "shared" xJ f fd) (T : Txt K mg a) : FnOk P w K mg base CX0 1 f fd ["one","other"] (Xq K):=by
  refine F.ok zaw (fun vs H Q E h=>?_) (fun cdv A outer s H vs Q E hr h=>?_)
  · obtain ⟨m,n,rfl,_⟩:=h
    rfl
  · obtain ⟨m,n,rfl,q⟩:=h
    refine ⟨_,(pss_one (ps_ret (pe_op op_and (pvA 0 (defScope xJ) Wq rfl rfl) (pvA 1 (defScope xJ) Wq rfl rfl)))),?_⟩
    rw [← CB.and_cast] at q
    exact ⟨_,rfl,_,rfl,_,_,rfl,rfl,q⟩
noncomputable def JB (_ : PySem.W.Frag) : Sp:=fun vs H Q _=>∃ m n : Nat,vs=[.int m,.int n]∧Q (.int (m ||| n : Nat)) H
theorem zbC {f : Addr} {fd : FuncData} (F : Fun K "either" "either" vQ f fd) (T : Txt K mg a) : FnOk P w K mg base CX0 1 f fd ["one","other"] (JB K):=by
  refine F.ok zbm (fun vs H Q E h=>?_) (fun cdv A outer s H vs Q E hr h=>?_)
  · obtain ⟨m,n,rfl,_⟩:=h
    rfl
  · obtain ⟨m,n,rfl,q⟩:=h
    refine ⟨_,(pss_one (ps_ret (pe_op op_or (pvA 0 (defScope vQ) V4 rfl rfl) (pvA 1 (defScope vQ) V4 rfl rfl)))),?_⟩
    rw [← CB.or_cast] at q
    exact ⟨_,rfl,_,rfl,_,_,rfl,rfl,q⟩
noncomputable def Xr (_ : PySem.W.Frag) : Sp:=fun vs H Q _=>∃ m n : Nat,vs=[.int m,.int n]∧Q (.int (CB.less m n : Nat)) H
theorem zaL {f : Addr} {fd : FuncData} (F : Fun K "less" "less" xK f fd) (T : Txt K mg a) : FnOk P w K mg base CX0 1 f fd ["one","other"] (Xr K):=by
  refine F.ok zax (fun vs H Q E h=>?_) (fun cdv A outer s H vs Q E hr h=>?_)
  · obtain ⟨m,n,rfl,_⟩:=h
    rfl
  · obtain ⟨m,n,rfl,q⟩:=h
    refine ⟨_,(pss_one (ps_ret (pe_op op_and (pvA 0 (defScope xK) Wr rfl rfl) (pe_un un_inv (pvA 1 (defScope xK) Wr rfl rfl))))),?_⟩
    rw [← CB.Vh] at q
    exact ⟨_,rfl,_,rfl,_,rfl,_,_,rfl,rfl,q⟩
noncomputable def open_ (ms held : List Nat) (p : Nat) : Nat:=CB.less (ms.getD p 0) (held.getD p 0)
noncomputable def JC (K : PySem.W.Frag) (C : Addr) : Sp:=fun vs H Q _=>∃ (x dx pm ph ps pl pc : Addr) (ms held zc left : List Nat) (kvs : List (Key × V)) (c : CD.zH) (D : Hp) (p j : Nat) (o : Option (Nat × Nat)),vs=[.ref x,.int (p : Nat),.int (open_ ms held p : Nat)]∧CO.Dlr C D H x dx pm ph ps pl pc ms held zc left kvs∧CO.zM D kvs c∧CD.Tree ms held zc ms.length c∧c[j]?=some (p,o)∧held.length=ms.length∧ms.length≤1000 ∧
  ∀ D' H' kvs' new pf,new=CU.goN ms held c p ms.length→CO.Dlr C D' H' x dx pm ph ps pl pc ms held zc left kvs'→CO.zM D' kvs' (c ++ new)→CD.Tree ms held zc ms.length (c ++ new)→(∀ w,CD.hb ms p w=true→CD.hb held p w=false→∀ q,q < ms.length→CD.hb held q w=true→q∈(c ++ new).map Prod.fst)→H pf=none→D' pf=none→H' pf=some (.lst (nV (new.map Prod.fst)))→Same D D'→(∀ b u,b≠pc→H b=some u→H' b=some u)→(∀ b u,H b=some u→D b=none→D' b=none)→Q (.ref pf) H'
theorem zbD {f : Addr} {fd vV wH : FuncData} (F : Fun K "go_on_from" "Dealer.go_on_from" z6 f fd) (T : Txt K mg a)
    (Z4 : FnOk P w K mg base CX0 1 a.wD vV ["mask"] (Wu K)) (jE : Fun K "first_of" "first_of" wC a.wD vV) (Z5 : Binds K vV ["mask"] [])
    (jU : FnOk P w K mg base CX0 1 a.shared wH ["one","other"] (Xq K)) (w6 : Fun K "shared" "shared" xJ a.shared wH) (jV : Binds K wH ["one","other"] []) : FnOk P w K mg base CX0 2 f fd ["self","place","works"] (JC K a.zg):=by
  refine F.ok zbp (fun vs H Q E h=>?_) (fun cdv A outer s H vs Q E hr h=>?_)
  · obtain ⟨x,dx,pm,ph,ps,pl,pc,ms,held,zc,left,kvs,c,D,p,j,o,rfl,_⟩:=h
    rfl
  · obtain ⟨x,dx,pm,ph,ps,pl,pc,ms,held,zc,left,kvs,c,D,p,j,o,rfl,r,ca,tr,ej,lh,hn,q⟩:=h
    refine ⟨_,(pss_cons (psN (i:=3) (sc:=defScope z6) (M:=yI) rfl rfl (by decide +kernel) (pe_lst pa_nil))
      (pss_cons (ps_for PassesOwn.never rfl (jM (glR (sc:=defScope z6) rfl (by decide +kernel)) T.yi (pa_cons (pe_fld (pvA 0 (defScope z6) yI rfl rfl) rfl) pa_nil)) (pg_tup (n:=2) (by rfl) (pgs_cons (pgN (i:=4) (sc:=defScope z6) (M:=yI) rfl rfl (by decide +kernel)) (pgs_cons (pgN (i:=5) (sc:=defScope z6) (M:=yI) rfl rfl (by decide +kernel)) pgs_nil))) (pss_cons (psN (i:=6) (sc:=defScope z6) (M:=yI) rfl rfl (by decide +kernel) (zq (sc:=defScope z6) Z4 (hr.mono (by decide)) rfl (by decide +kernel) T.zaG jE.kp Z5 .nil pass0 (pa_cons (zq (sc:=defScope z6) jU (hr.mono (by decide)) rfl (by decide +kernel) T.Jw w6.kp jV .nil pass0 (pa_cons (pvA 2 (defScope z6) yI rfl rfl) (pa_cons (pvA 5 (defScope z6) yI rfl rfl) pa_nil))) pa_nil)))
      (pss_one (ps_if (PW.pt (pw_and (pt_cmpR op_notN (pvA 6 (defScope z6) yI rfl rfl) pe_non (nomark _)) (pw_and1 (pt_cmp (pc_dnotin (hu_of hr) (pvA 4 (defScope z6) yI rfl rfl) (pe_fld (pvA 0 (defScope z6) yI rfl rfl) rfl)))))) (pss_cons (ps_dput (hu_of hr) (pe_fld (pvA 0 (defScope z6) yI rfl rfl) rfl) (pvA 4 (defScope z6) yI rfl rfl) (pe_tup (pa_cons (pvA 6 (defScope z6) yI rfl rfl) (pa_cons (pvA 1 (defScope z6) yI rfl rfl) pa_nil))) rfl)
      (pss_one (ps_expr (pe_bm PySem.F.plainAttrs_list PySem.F.slot_list_append PySem.F.type_list_append mt_append (pvA 3 (defScope z6) yI rfl rfl) (pa_cons (pvA 4 (defScope z6) yI rfl rfl) pa_nil))))) pss_nil))))
      (pss_one (ps_ret (pvA 3 (defScope z6) yI rfl rfl))))),?_⟩
    have hs : sizeLine=16777216:=sizeLine_eq
    have lc : ∀ {c' : CD.zH},CD.Tree ms held zc ms.length c'→c'.length≤1000:=fun t=>Nat.le_trans (CO.Zh t) hn
    refine ⟨by show 0≤sizeLine; omega,fun pf hpf=>?_⟩
    have r1:=r.gr (Gr.ZT (o := .lst []) r.dh hpf)
    have e1 : upd H pf (.lst []) pf=some (.lst []):=upd_same
    have s1 : Same H (upd H pf (.lst [])):=Same.zp hpf
    have nf : pf∉[x,pm,ph,ps,pl,pc]:=r.fresh hpf
    generalize upd H pf (.lst [])=H1 at r1 e1 s1 ⊢
    refine ⟨_,rfl,x,_,dx,_,_,rfl,r1.ins,T.zl,T.zE,CO.wu,ph,rfl,⟨_,SqL.of r1.h⟩,?_⟩
    refine L5.YT (xs:=nV held) (fun i σ H'=>∃ D' kvs' new v4 v5 v6,σ=[some (.ref x),some (.int (p : Nat)),some (.int (open_ ms held p : Nat)),some (.ref pf),v4,v5,v6]∧new=CU.goN ms held c p i∧CO.Dlr a.zg D' H' x dx pm ph ps pl pc ms held zc left kvs'∧CO.zM D' kvs' (c ++ new)∧CD.Tree ms held zc ms.length (c ++ new)∧(∀ w,CD.hb ms p w=true→CD.hb held p w=false→∀ q,q < i→CD.hb held q w=true→q∈(c ++ new).map Prod.fst)∧D' pf=none∧H' pf=some (.lst (nV (new.map Prod.fst)))∧Same D D'∧(∀ b u,b≠pc→H b=some u→H' b=some u)∧(∀ b u,H b=some u→D b=none→D' b=none)) ⟨D,kvs,[],_,_,_,rfl,rfl,r1,by rw [List.append_nil]; exact ca,by rw [List.append_nil]; exact tr,fun _ _ _ q hq=>absurd hq (Nat.not_lt_zero q),r.dh.free hpf,e1,Same.refl _,fun b u _ e=>s1 b u e,fun _ _ _ n=>n⟩ ?_ ?_ ?_
    · rintro i σ H' _ ⟨D',kvs',new,v4,v5,v6,_,_,r',_⟩
      exact SqL.of r'.h
    · rintro i y σ H2 Tt hy ⟨D2,wI,new,v4,v5,v6,rfl,gN,r2,ca2,tr2,cov,n2,e2,sd,kp,nw⟩ hTt
      unfold nV at hy
      rw [List.getElem?_map] at hy
      obtain ⟨hd,hhd,rfl⟩:=Option.map_eq_some_iff.mp hy
      have hi : i < ms.length:=by rw [← lh]; exact (List.getElem?_eq_some_iff.mp hhd).1
      have ehd : held.getD i 0=hd:=CG.XW hhd
      rw [show (0 : Int) + (i : Nat)=(i : Nat) by omega]
      have g2:=Gr.ZT (o := .tup [.int (i : Nat),.int (hd : Nat)]) r2.dh hTt
      have r3:=r2.gr g2
      have e3:=g2.hh _ _ e2
      have k3 : ∀ b u,b≠pc→H b=some u→upd H2 Tt (.tup [.int (i : Nat),.int (hd : Nat)]) b=some u:=fun b u hb e=>g2.hh _ _ (kp b u hb e)
      have et : upd H2 Tt (.tup [.int (i : Nat),.int (hd : Nat)]) Tt=some (.tup [.int (i : Nat),.int (hd : Nat)]):=upd_same
      generalize upd H2 Tt (.tup [.int (i : Nat),.int (hd : Nat)])=H3 at r3 e3 k3 et ⊢
      have bit : ∀ w,(open_ ms held p &&& hd).testBit w=(CD.hb ms p w && !CD.hb held p w && CD.hb held i w):=fun w=>by
        rw [Nat.testBit_and]
        unfold open_
        rw [CB.Zc,← ehd]
        rfl
      refine ⟨Tt,_,rfl,SqT.of et,rfl,_,_,rfl,_,_,rfl,rfl,?_⟩
      refine ⟨_,rfl,_,rfl,_,_,rfl,_,rfl,fun rv hrv=>?_⟩
      rcases hrv with ⟨h0,rfl⟩ | ⟨wk,hwk,rfl⟩
      · refine ⟨_,rfl,rfl,_,rfl,iteF (iteF ?_)⟩
        refine ⟨D2,wI,new,_,_,_,rfl,gN.trans (CU.V3 (by rw [ehd]; exact h0)).symm,r3,ca2,tr2,fun w h1 h2 q hq h3=>?_,n2,e3,sd,k3,nw⟩
        by_cases z : q < i
        · exact cov w h1 h2 q z h3
        · obtain rfl : q=i:=by omega
          have:=bit w
          rw [h0,Nat.zero_testBit,h1,h2,h3] at this
          cases this
      · have hwb:=CB.yy.mp (List.mem_of_getElem? hwk)
        rw [bit wk,Bool.and_eq_true,Bool.and_eq_true,Bool.not_eq_true'] at hwb
        obtain ⟨⟨b1,b2⟩,b3⟩:=hwb
        refine ⟨_,rfl,rfl,_,rfl,iteT ⟨_,rfl,_,rfl,x,_,dx,_,_,rfl,r3.ins,T.zl,T.zJ,CO.jt,pc,_,rfl,DGet.k (k:=CO.pk i) r3.c,?_⟩⟩
        rw [ca2.has i]
        by_cases hin : i∈(c ++ new).map Prod.fst
        · refine ⟨_,rfl,?_⟩
          rw [decide_eq_true hin]
          refine iteF ?_
          refine ⟨D2,wI,new,_,_,_,rfl,gN.trans (CU.zas (by rw [ehd]; exact hwk) (by rw [← gN]; exact hin)).symm,r3,ca2,tr2,fun w h1 h2 q hq h3=>?_,n2,e3,sd,k3,nw⟩
          by_cases z : q < i
          · exact cov w h1 h2 q z h3
          · obtain rfl : q=i:=by omega
            exact hin
        · refine ⟨_,rfl,?_⟩
          rw [decide_eq_false hin]
          refine iteT ?_
          refine ⟨_,rfl,_,rfl,by first | decide | (simp only [List.length_cons,List.length_nil,List.length_append,List.length_map]; decide),fun t ht=>?_⟩
          have g4:=Gr.lay (o := .tup [.int (wk : Nat),.int (p : Nat)]) r3.dh ht
          have r4:=r3.gr g4
          have e4:=g4.hh _ _ e3
          have ca4:=ca2.up g4.dd
          have k4 : ∀ b u,b≠pc→H b=some u→upd H3 t (.tup [.int (wk : Nat),.int (p : Nat)]) b=some u:=fun b u hb e=>g4.hh _ _ (k3 b u hb e)
          have ntf : pf≠t:=ne_of_none e3 ht
          have et4 : upd D2 t (.tup [.int (wk : Nat),.int (p : Nat)]) t=some (.tup [.int (wk : Nat),.int (p : Nat)]):=upd_same
          have n4 : upd D2 t (.tup [.int (wk : Nat),.int (p : Nat)]) pf=none:=by rw [upd_ne ntf]; exact n2
          have nw4 : ∀ b u,H b=some u→D b=none→upd D2 t (.tup [.int (wk : Nat),.int (p : Nat)]) b=none:=fun b u e n=>by
            have hbt : b≠t:=by
              by_cases z : b=pc
              · rw [z]
                exact ne_of_none r3.c ht
              · exact ne_of_none (k3 b u z e) ht
            rw [upd_ne hbt]
            exact nw b u e n
          have sd4 : Same D (upd D2 t (.tup [.int (wk : Nat),.int (p : Nat)])):=sd.trans g4.dd
          generalize upd H3 t (.tup [.int (wk : Nat),.int (p : Nat)])=H4 at r4 e4 k4 ⊢
          generalize upd D2 t (.tup [.int (wk : Nat),.int (p : Nat)])=D4 at r4 ca4 et4 n4 sd4 nw4
          have lkv:=ca2.len
          have lt2:=lc tr2
          obtain ⟨ep,ca5⟩:=ca4.snoc (p:=i) (v := .ref t) (o:=some (wk,p)) hin ⟨t,rfl,et4⟩
          have hj : j < c.length:=(List.getElem?_eq_some_iff.mp ej).1
          have tr5:=tr2.snoc (p:=i) (o:=some (wk,p)) hi hin ⟨⟨j,o,by rw [List.length_append]; omega,by rw [List.getElem?_append_left hj]; exact ej⟩,b1,b2,b3⟩
          refine ⟨_,rfl,x,_,dx,_,_,rfl,r4.ins,T.zl,T.zJ,CO.jt,_,rfl,pc,_,rfl,.inl ⟨wI,CO.pk i,r4.c,rfl,by omega,rfl⟩,?_⟩
          rw [ep]
          have r5:=r4.setC (wI ++ [(CO.pk i,V.ref t)])
          have npf : pf≠pc:=fun z=>nf (by rw [z]; simp)
          have e5 : upd H4 pc (.dK (wI ++ [(CO.pk i,V.ref t)])) pf=some (.lst (nV (new.map Prod.fst))):=by rw [upd_ne npf]; exact e4
          have k5 : ∀ b u,b≠pc→H b=some u→upd H4 pc (.dK (wI ++ [(CO.pk i,V.ref t)])) b=some u:=fun b u hb e=>by
            rw [upd_ne hb]
            exact k4 b u hb e
          generalize upd H4 pc (.dK (wI ++ [(CO.pk i,V.ref t)]))=H5 at r5 e5 k5 ⊢
          refine ⟨_,rfl,.inl ⟨rfl,_,SqL.of e5⟩,_,rfl,pf,_,_,rfl,rfl,e5,?_,?_⟩
          · rw [zD,List.length_map]
            have : new.length≤(c ++ new).length:=by rw [List.length_append]; omega
            omega
          rw [X8]
          refine ⟨D4,_,new ++ [(i,some (wk,p))],_,_,_,rfl,(by rw [CU.J7 (by rw [ehd]; exact hwk) (by rw [← gN]; exact hin),← gN]),r5.other nf n4,by rw [← List.append_assoc]; exact ca5,by rw [← List.append_assoc]; exact tr5,fun w h1 h2 q hq h3=>?_,n4,by rw [List.map_append]; exact upd_same,sd4,fun b u hb e=>?_,nw4⟩
          · rw [← List.append_assoc,List.map_append]
            by_cases z : q < i
            · exact List.mem_append_left _ (cov w h1 h2 q z h3)
            · obtain rfl : q=i:=by omega
              exact List.mem_append_right _ (List.mem_singleton.mpr rfl)
          · rw [upd_ne (ne_of_none e hpf)]
            exact k5 b u hb e
    · rintro σ H' ⟨D',kvs',new,v4,v5,v6,rfl,gN,r',ca',tr',cov,n',e',sd,kp,nw⟩
      rw [zD,lh] at cov gN
      exact ⟨_,rfl,q D' H' kvs' new pf gN r' ca' tr' cov hpf n' e' sd kp nw⟩
noncomputable def Found (D : Hp) (ms held zc left : List Nat) (c : CD.zH) (r : V) : Prop :=
  (r = .non∧CD.ZA ms held zc left (c.map Prod.fst) ms.length)∨∃ (t : Addr) (k p j : Nat) (o : Option (Nat × Nat)),r = .ref t∧D t=some (.tup [.int (k : Nat),.int (p : Nat)])∧c[j]?=some (p,o)∧CD.hb ms p k=true∧CD.hb held p k=false∧0 < left.getD k 0
noncomputable def JD (K : PySem.W.Frag) (C : Addr) : Sp:=fun vs H Q _=>∃ (x dx pm ph ps pl pc : Addr) (ms held zc left : List Nat) (kvs : List (Key × V)) (D : Hp),vs=[.ref x]∧CO.Dlr C D H x dx pm ph ps pl pc ms held zc left kvs∧held.length=ms.length∧zc.length=ms.length∧ms.length≤1000∧left.length≤1000 ∧
  ∀ D' H' pc' kvs' c r res,CU.Sr ms held zc left c res→CO.PV D' r res→CO.Dlr C D' H' x dx pm ph ps pl pc' ms held zc left kvs'→CO.zM D' kvs' c→CD.Tree ms held zc ms.length c→Found D' ms held zc left c r→Same D D'→(∀ b u,b≠x→H b=some u→H' b=some u)→Q r H'
theorem zbE {f : Addr} {fd Wv vV wJ wK wH : FuncData} (F : Fun K "search" "Dealer.search" zw f fd) (T : Txt K mg a)
    (V9 : FnOk P w K mg base CX0 2 a.yP Wv ["self","place","works"] (JC K a.zg)) (Ww : Fun K "go_on_from" "Dealer.go_on_from" z6 a.yP Wv) (Ja : Binds K Wv ["self","place","works"] [])
    (Z4 : FnOk P w K mg base CX0 1 a.wD vV ["mask"] (Wu K)) (jE : Fun K "first_of" "first_of" wC a.wD vV) (Z5 : Binds K vV ["mask"] [])
    (jW : FnOk P w K mg base CX0 1 a.less wJ ["one","other"] (Xr K)) (w9 : Fun K "less" "less" xK a.less wJ) (jX : Binds K wJ ["one","other"] [])
    (vW : FnOk P w K mg base CX0 1 a.vC wK ["numbers"] (Xo K)) (xY : Fun K "mask_of" "mask_of" yC a.vC wK) (vX : Binds K wK ["numbers"] [])
    (jU : FnOk P w K mg base CX0 1 a.shared wH ["one","other"] (Xq K)) (w6 : Fun K "shared" "shared" xJ a.shared wH) (jV : Binds K wH ["one","other"] []) : FnOk P w K mg base CX0 4 f fd ["self"] (JD K a.zg):=by
  refine F.ok zbo (fun vs H Q E h=>?_) (fun cdv A outer s H vs Q E hr h=>?_)
  · obtain ⟨x,dx,pm,ph,ps,pl,pc,ms,held,zc,left,kvs,D,rfl,_⟩:=h
    rfl
  · obtain ⟨x,dx,pm,ph,ps,pl,pc,ms,held,zc,left,kvs,D,rfl,r,lh,ls,hn,hl,q⟩:=h
    refine ⟨_,(pss_cons (psN (i:=1) (sc:=defScope zw) (M:=zO) rfl rfl (by decide +kernel) (zq (sc:=defScope zw) vW (hr.mono (by decide)) rfl (by decide +kernel) T.Ws xY.kp vX .nil pass0 (pa_cons (vq rfl (N:=["work","left"]) (own:=2) (js:=[]) (X:=(cxOf CX0 P w K mg base zO "Dealer.search" (defScope zw) f cdv A outer s H E).nox) (vp (defScope zw) zO rfl rfl (by decide +kernel)) (jM (glR (sc:=defScope zw) rfl (by decide +kernel)) T.yi (pa_cons (pe_fld (pvA 0 (defScope zw) zO rfl rfl) rfl) pa_nil)) (fun fp0 sx0 Hx0=>(Js (K:=K) rfl (pg_tup (n:=2) (by rfl) (pgs_cons (pgN (i:=0) (sc:=zC _ (defScope zw)) (M:=["work","left"]) rfl rfl (by decide +kernel)) (pgs_cons (pgN (i:=1) (sc:=zC _ (defScope zw)) (M:=["work","left"]) rfl rfl (by decide +kernel)) pgs_nil))))) (fun fp0 sx0 Hx0=>(vF (pt_cmpR op_gt (pvN (i:=1) (sc:=zC _ (defScope zw)) (M:=["work","left"]) rfl rfl (by decide +kernel)) pe_int (nomark _)))) (fun fp0 sx0 Hx0=>(pvN (i:=0) (sc:=zC _ (defScope zw)) (M:=["work","left"]) rfl rfl (by decide +kernel)))) pa_nil)))
      (pss_cons (VN (i:=2) (sc:=defScope zw) (M:=zO) rfl rfl rfl (by decide +kernel) (N:=["place","still"]) (own:=2) (js:=[]) (X:=(cxOf CX0 P w K mg base zO "Dealer.search" (defScope zw) f cdv A outer s H E).nox) (vp (defScope zw) zO rfl rfl (by decide +kernel)) (jM (glR (sc:=defScope zw) rfl (by decide +kernel)) T.yi (pa_cons (pe_fld (pvA 0 (defScope zw) zO rfl rfl) rfl) pa_nil)) (fun fp0 sx0 Hx0=>(Js (K:=K) rfl (pg_tup (n:=2) (by rfl) (pgs_cons (pgN (i:=0) (sc:=zC _ (defScope zw)) (M:=["place","still"]) rfl rfl (by decide +kernel)) (pgs_cons (pgN (i:=1) (sc:=zC _ (defScope zw)) (M:=["place","still"]) rfl rfl (by decide +kernel)) pgs_nil))))) (fun fp0 sx0 Hx0=>(vF (pt_cmpR op_gt (pvN (i:=1) (sc:=zC _ (defScope zw)) (M:=["place","still"]) rfl rfl (by decide +kernel)) pe_int (nomark _)))) (fun fp0 sx0 Hx0=>(pvN (i:=0) (sc:=zC _ (defScope zw)) (M:=["place","still"]) rfl rfl (by decide +kernel))) rfl)
      (pss_cons (ps_fld (pvA 0 (defScope zw) zO rfl rfl) pe_dnewK rfl)
      (pss_cons (ps_for PassesOwn.never rfl (pi_list (pvA 2 (defScope zw) zO rfl rfl)) (pgN (i:=3) (sc:=defScope zw) (M:=zO) rfl rfl (by decide +kernel)) (pss_one (ps_dput (hu_of hr) (pe_fld (pvA 0 (defScope zw) zO rfl rfl) rfl) (pvA 3 (defScope zw) zO rfl rfl) pe_non rfl)))
      (pss_cons (psN (i:=4) (sc:=defScope zw) (M:=zO) rfl rfl (by decide +kernel) pe_int)
      (pss_cons (ps_while PassesOwn.never (pt_cmpR op_lt (pvA 4 (defScope zw) zO rfl rfl) (zo (sc:=defScope zw) call_len rfl (by decide +kernel) T.z7 z8 (pa_cons (pvA 2 (defScope zw) zO rfl rfl) pa_nil)) (nomark _)) (pss_cons (psN (i:=3) (sc:=defScope zw) (M:=zO) rfl rfl (by decide +kernel) (pe_ix ix_list (pvA 2 (defScope zw) zO rfl rfl) (pvA 4 (defScope zw) zO rfl rfl) (fun _ _=>rfl)))
      (pss_cons (psN (i:=5) (sc:=defScope zw) (M:=zO) rfl rfl (by decide +kernel) (zq (sc:=defScope zw) jW (hr.mono (by decide)) rfl (by decide +kernel) T.Jx w9.kp jX .nil pass0 (pa_cons (pe_ix ix_list (pe_fld (pvA 0 (defScope zw) zO rfl rfl) rfl) (pvA 3 (defScope zw) zO rfl rfl) (fun _ _=>rfl)) (pa_cons (pe_ix ix_list (pe_fld (pvA 0 (defScope zw) zO rfl rfl) rfl) (pvA 3 (defScope zw) zO rfl rfl) (fun _ _=>rfl)) pa_nil))))
      (pss_cons (psN (i:=6) (sc:=defScope zw) (M:=zO) rfl rfl (by decide +kernel) (zq (sc:=defScope zw) Z4 (hr.mono (by decide)) rfl (by decide +kernel) T.zaG jE.kp Z5 .nil pass0 (pa_cons (zq (sc:=defScope zw) jU (hr.mono (by decide)) rfl (by decide +kernel) T.Jw w6.kp jV .nil pass0 (pa_cons (pvA 5 (defScope zw) zO rfl rfl) (pa_cons (pvA 1 (defScope zw) zO rfl rfl) pa_nil))) pa_nil)))
      (pss_cons (ps_if (pt_cmpR op_notN (pvA 6 (defScope zw) zO rfl rfl) pe_non (nomark _)) (pss_one (ps_ret (pe_tup (pa_cons (pvA 6 (defScope zw) zO rfl rfl) (pa_cons (pvA 3 (defScope zw) zO rfl rfl) pa_nil))))) pss_nil)
      (pss_cons (ps_expr (pe_bm PySem.F.plainAttrs_list PySem.F.slot_list_extend PySem.F.type_list_extend mt_extend (pvA 2 (defScope zw) zO rfl rfl) (pa_cons (pe_meth (pvA 0 (defScope zw) zO rfl rfl) T.zl T.vo V9 (hr.mono (by decide)) Ja .nil pass0 (pa_cons (pvA 3 (defScope zw) zO rfl rfl) (pa_cons (pvA 5 (defScope zw) zO rfl rfl) pa_nil))) pa_nil)))
      (pss_one (psN (i:=4) (sc:=defScope zw) (M:=zO) rfl rfl (by decide +kernel) (pe_op op_add (pvA 4 (defScope zw) zO rfl rfl) pe_int)))))))))
      (pss_one (ps_ret pe_non)))))))),?_⟩
    have hs : sizeLine=16777216:=sizeLine_eq
    refine ⟨_,rfl,x,_,dx,_,_,rfl,r.ins,T.zl,T.zW,CO.Y3,pl,rfl,⟨_,SqL.of r.l⟩,fun c1 hc1=>?_⟩
    refine L5.Z7 hc1 (fun H' s'=>s'.seq (SqL.of r.l)) (fun σ=>∃ v1 v2,σ=[v1,v2]) CO.Y5 ⟨_,_,rfl⟩ (by rw [zD]; omega) ?_ ?_
    · rintro i y σ H1 Tt R1 R0 hy ⟨v1,v2,rfl⟩ s1 hTt k1 k0
      unfold nV at hy
      rw [List.getElem?_map] at hy
      obtain ⟨n,hn',rfl⟩:=Option.map_eq_some_iff.mp hy
      rw [show (0 : Int) + (i : Nat)=(i : Nat) by omega]
      refine ⟨Tt,_,rfl,SqT.of upd_same,rfl,_,_,rfl,_,_,rfl,rfl,?_⟩
      refine ⟨_,rfl,_,_,rfl,rfl,_,rfl,?_⟩
      have ex : CO.Y5 i (V.int (n : Nat))=if (0 : Int) < (n : Nat) then some (V.int (i : Nat)) else none:=rfl
      refine ite2 (fun h1=>?_) (fun h1=>?_)
      · exact ⟨_,rfl,k1 _ _ _ ⟨_,_,rfl⟩ (ex.trans (if_pos (of_decide_eq_true h1))) (Same.zp hTt)⟩
      · exact k0 _ _ ⟨_,_,rfl⟩ (ex.trans (if_neg fun z=>h1 (decide_eq_true z))) (Same.zp hTt)
    intro H1 s1 e1
    rw [CO.Y6] at e1
    have r1:=r.gr (Gr.heap r.dh s1)
    refine ⟨c1,CO.yg left,rfl,SqL.of e1,fun n hn=>by have:=CO.XZ hn; omega,?_⟩
    refine ⟨_,rfl,x,_,dx,_,_,rfl,r1.ins,T.zl,T.zQ,CO.jN,ps,rfl,⟨_,SqL.of r1.s⟩,fun pq hpq=>?_⟩
    refine L5.Z7 hpq (fun H' s'=>s'.seq (SqL.of r1.s)) (fun σ=>∃ v1 v2,σ=[v1,v2]) CO.Y5 ⟨_,_,rfl⟩ (by rw [zD]; omega) ?_ ?_
    · rintro i y σ H1 Tt R1 R0 hy ⟨v1,v2,rfl⟩ s1 hTt k1 k0
      unfold nV at hy
      rw [List.getElem?_map] at hy
      obtain ⟨n,hn',rfl⟩:=Option.map_eq_some_iff.mp hy
      rw [show (0 : Int) + (i : Nat)=(i : Nat) by omega]
      refine ⟨Tt,_,rfl,SqT.of upd_same,rfl,_,_,rfl,_,_,rfl,rfl,?_⟩
      refine ⟨_,rfl,_,_,rfl,rfl,_,rfl,?_⟩
      have ex : CO.Y5 i (V.int (n : Nat))=if (0 : Int) < (n : Nat) then some (V.int (i : Nat)) else none:=rfl
      refine ite2 (fun h1=>?_) (fun h1=>?_)
      · exact ⟨_,rfl,k1 _ _ _ ⟨_,_,rfl⟩ (ex.trans (if_pos (of_decide_eq_true h1))) (Same.zp hTt)⟩
      · exact k0 _ _ ⟨_,_,rfl⟩ (ex.trans (if_neg fun z=>h1 (decide_eq_true z))) (Same.zp hTt)
    intro H2 s2 e2
    rw [CO.Y6] at e2
    have r2:=r1.gr (Gr.heap r1.dh s2)
    have nq1:=r1.fresh hpq
    simp only [List.mem_cons,List.not_mem_nil,or_false,not_or] at nq1
    refine fun pd hpd=>⟨_,rfl,x,_,dx,_,rfl,(Same.zp hpd) _ _ r2.ins,T.zl,T.zJ,by show 5 < 1000; decide,?_⟩
    rw [CO.J1]
    have dpq : D pq=none:=r1.dh.free hpq
    have npd : pq≠pd:=ne_of_none e2 hpd
    have zaM : H pd=none:=(s1.trans s2).free hpd
    have zb3 : H pq=none:=s1.free hpq
    have r3:=(r2.gr (Gr.ZT (o := .dK []) r2.dh hpd)).zbU (pc':=pd) (kvs':=[]) upd_same (r2.dh.free hpd)
    have e3 : upd (upd H2 pd (.dK [])) x (.ins a.zg dx (CO.fs pm ph ps pl pd)) pq=some (.lst (nV (CO.yg zc))):=by
      rw [upd_ne nq1.1,upd_ne npd]
      exact e2
    have k3 : ∀ b u,b≠x→H b=some u→upd (upd H2 pd (.dK [])) x (.ins a.zg dx (CO.fs pm ph ps pl pd)) b=some u:=fun b u hb e=>by
      rw [upd_ne hb]
      exact (Same.zp hpd) _ _ (s2 _ _ (s1 _ _ e))
    have nq : pq∉[x,pm,ph,ps,pl,pd]:=by
      simp only [List.mem_cons,List.not_mem_nil,or_false,not_or]
      exact ⟨nq1.1,nq1.2.1,nq1.2.2.1,nq1.2.2.2.1,nq1.2.2.2.2.1,npd⟩
    clear nq1 r1 r2 s1 s2 e1 e2 hpq hc1
    generalize upd (upd H2 pd (.dK [])) x _=H3 at r3 e3 k3 ⊢
    have lp : (CO.yg zc).length≤1000:=by have:=CO.VX zc; omega
    refine ⟨_,rfl,pq,rfl,⟨_,SqL.of e3⟩,for_list (xs:=nV (CO.yg zc)) (fun i σ H'=>∃ kvs' v3,σ=[some (.ref x),some (.int (CB.maskOf (CO.yg left) : Nat)),some (.ref pq),v3,none,none,none]∧CO.Dlr a.zg D H' x dx pm ph ps pl pd ms held zc left kvs'∧CO.zM D kvs' (CO.roots ((CO.yg zc).take i))∧H' pq=some (.lst (nV (CO.yg zc)))∧(∀ b u,b≠x→H b=some u→H' b=some u)) ⟨[],_,rfl,r3,CO.zM.nil,e3,k3⟩ ?_ ?_ ?_⟩
    · rintro i σ H' _ ⟨kvs',v3,_,_,_,e',_⟩
      exact SqL.of e'
    · rintro i y σ H4 hy ⟨Xs,v3,rfl,r4,ca4,e4,k4⟩
      unfold nV at hy
      rw [List.getElem?_map] at hy
      obtain ⟨p,hp,rfl⟩:=Option.map_eq_some_iff.mp hy
      have l4:=ca4.len
      have np : p∉(CO.roots ((CO.yg zc).take i)).map Prod.fst:=by
        rw [CO.wW]
        have h1:=CO.X0 zc
        have h2 : ((CO.yg zc).take (i + 1)).Nodup:=h1.sublist (List.take_sublist _ _)
        rw [take_snoc hp] at h2
        exact fun z=>(List.nodup_append.mp h2).2.2 p z p (List.mem_singleton.mpr rfl) rfl
      obtain ⟨ep,ca5⟩:=ca4.snoc (p:=p) (v := .non) (o:=none) np rfl
      refine ⟨_,rfl,x,_,dx,_,_,rfl,r4.ins,T.zl,T.zJ,CO.jt,_,rfl,pd,_,rfl,.inl ⟨Xs,CO.pk p,r4.c,rfl,?_,rfl⟩,?_⟩
      · rw [l4]
        unfold CO.roots
        rw [List.length_map,List.length_take]
        omega
      rw [ep]
      refine ⟨_,_,rfl,r4.setC _,?_,?_,?_⟩
      · rw [take_snoc hp]
        unfold CO.roots at ca5 ⊢
        rw [List.map_append]
        exact ca5
      · rw [upd_ne npd]
        exact e4
      · intro b u hb e
        rw [upd_ne (ne_of_none e zaM)]
        exact k4 b u hb e
    · rintro σ H4 ⟨Xs,v3,rfl,r4,ca4,e4,k4⟩
      rw [zD,List.take_length] at ca4
      refine ⟨fun m σ H'=>∃ D' kvs' c k v3 v5 v6,c=CU.cs ms held zc k∧(∀ j,j < k→CU.res ms held zc left j=none)∧m=ms.length - k∧k≤c.length∧σ=[some (.ref x),some (.int (CB.maskOf (CO.yg left) : Nat)),some (.ref pq),v3,some (.int (k : Nat)),v5,v6]∧CO.Dlr a.zg D' H' x dx pm ph ps pl pd ms held zc left kvs'∧CO.zM D' kvs' c∧CD.Tree ms held zc ms.length c∧CD.Done ms held left ms.length c k∧(∀ p,p < ms.length→0 < zc.getD p 0→p∈c.map Prod.fst)∧H' pq=some (.lst (nV (c.map Prod.fst)))∧D' pq=none∧Same D D'∧(∀ b u,b≠x→H b=some u→H' b=some u),⟨_,D,Xs,CO.roots (CO.yg zc),0,_,_,_,rfl,(fun j hj=>absurd hj (Nat.not_lt_zero j)),rfl,Nat.zero_le _,rfl,r4,ca4,CO.Wh ls,CO.Done.nil,fun p _ h0=>by rw [CO.wW]; exact CO.Zi.mpr h0,by rw [CO.wW]; exact e4,dpq,Same.refl _,k4⟩,?_⟩
      clear ca4 e4 k4 r4 r3 e3 k3
      rintro m σ H5 ⟨D5,Jb,c,k,v3,v5,v6,ck,cj,rfl,hk,rfl,r5,ca5,tr5,dn5,rt5,e5,n5,s5,k5⟩
      have lc:=CO.Zh tr5
      refine ⟨_,rfl,_,rfl,.ref pq,c.length,rfl,.inl ⟨_,SqL.of e5,by rw [zD,List.length_map]⟩,_,_,rfl,rfl,_,rfl,ite2 (fun h1=>?_) (fun h1=>?_)⟩
      · have hkl : k < c.length:=by have:=of_decide_eq_true h1; omega
        obtain ⟨p,o,ek⟩ : ∃ p o,c[k]?=some (p,o):=⟨c[k].1,c[k].2,List.getElem?_eq_getElem hkl⟩
        have hp : p < ms.length:=tr5.lt _ (List.mem_of_getElem? ek)
        refine ⟨_,fun σ' H' h=>h,?_⟩
        refine ⟨_,rfl,_,rfl,pq,_,_,_,rfl,rfl,SqL.of e5,atI_nat (v := .int (p : Nat)) (by unfold nV; rw [List.getElem?_map,List.getElem?_map,ek]; rfl),?_⟩
        refine ⟨_,rfl,x,_,dx,_,_,rfl,r5.ins,T.zl,T.ye,CO.JY,_,rfl,pm,_,_,_,rfl,rfl,SqL.of r5.m,yf hp,_,rfl,x,_,dx,_,_,rfl,r5.ins,T.zl,T.zE,CO.wu,_,rfl,ph,_,_,_,rfl,rfl,SqL.of r5.h,yf (by rw [lh]; exact hp),_,_,rfl,?_⟩
        refine ⟨_,rfl,_,rfl,_,_,rfl,_,rfl,fun rv hrv=>?_⟩
        have bit : ∀ w,(open_ ms held p &&& CB.maskOf (CO.yg left)).testBit w=(CD.hb ms p w && !CD.hb held p w && decide (0 < left.getD w 0)):=fun w=>by
          rw [Nat.testBit_and]
          unfold open_
          rw [CB.Zc,CB.Zb,CO.Ym]
          rfl
        replace hrv : (open_ ms held p &&& CB.maskOf (CO.yg left)=0∧rv=V.non)∨∃ k : Nat,(CB.zU (open_ ms held p &&& CB.maskOf (CO.yg left)))[0]?=some k∧rv=V.int (k : Nat):=hrv
        refine ⟨_,rfl,rfl,_,rfl,?_⟩
        rcases hrv with ⟨h0,rfl⟩ | ⟨w,hw,rfl⟩
        · have nm4 : ("go_on_from" : Str)≠"masks"∧("go_on_from" : Str)≠"held"∧("go_on_from" : Str)≠"still"∧("go_on_from" : Str)≠"left"∧("go_on_from" : Str)≠"came":=by decide +kernel
          refine iteF ?_
          refine ⟨_,rfl,.inl ⟨rfl,_,SqL.of e5⟩,_,rfl,x,dx,_,rfl,r5.ins,CO.jv nm4,_,rfl,_,rfl,x,dx,pm,ph,ps,pl,pd,ms,held,zc,left,Jb,c,D5,p,k,o,rfl,r5,ca5,tr5,ek,lh,hn,fun D6 H6 zb4 new pf gN r6 ca6 tr6 cov hpf nf6 ef6 sd6 k6 nw6=>?_⟩
          have e6:=k6 pq _ npd e5
          have l6:=CO.Zh tr6
          rw [List.length_append] at l6
          refine ⟨pq,pf,_,_,rfl,rfl,e6,ef6,by rw [zD,zD,List.length_map,List.length_map]; omega,?_⟩
          have n6 : D6 pq=none:=nw6 pq _ e5 n5
          have eq6 : nV (c.map Prod.fst) ++ nV (new.map Prod.fst)=nV ((c ++ new).map Prod.fst):=by unfold nV; rw [List.map_append,List.map_append]
          rw [eq6]
          have r7:=r6.other (o := .lst (nV ((c ++ new).map Prod.fst))) nq n6
          refine ⟨_,rfl,_,_,rfl,rfl,ms.length - (k + 1),by omega,D6,zb4,c ++ new,k + 1,_,_,_,(by rw [gN]; exact CU.J8 ck ek),(fun j hj=>(Nat.lt_succ_iff_lt_or_eq.mp hj).elim (cj j) fun z=>z ▸ CU.zat ck ek h0),rfl,by rw [List.length_append]; omega,rfl,r7,ca6,tr6,CO.Done.step dn5 ek (fun w h1 h2=>?_) cov,fun p' hp' h0'=>?_,upd_same,n6,s5.trans sd6,fun b u hb e=>?_⟩
          · have:=bit w
            rw [h0,Nat.zero_testBit,h1,h2] at this
            have h3 : ¬ 0 < left.getD w 0:=fun z=>by
              rw [decide_eq_true z] at this
              cases this
            omega
          · rw [List.map_append]
            exact List.mem_append_left _ (rt5 p' hp' h0')
          · rw [upd_ne (ne_of_none e zb3)]
            exact k6 b u (ne_of_none e zaM) (k5 b u hb e)
        · have hwb:=CB.yy.mp (List.mem_of_getElem? hw)
          rw [bit w,Bool.and_eq_true,Bool.and_eq_true,Bool.not_eq_true',decide_eq_true_eq] at hwb
          obtain ⟨⟨b1,b2⟩,b3⟩:=hwb
          refine iteT ⟨_,rfl,_,rfl,by first | decide | (simp only [List.length_cons,List.length_nil,List.length_append,List.length_map]; decide),fun t ht=>?_⟩
          have g6:=Gr.lay (o := .tup [.int (w : Nat),.int (p : Nat)]) r5.dh ht
          exact q _ _ pd Jb c (.ref t) (some (w,p)) ⟨k,ck,cj,CU.zaa ck ek hw⟩ ⟨t,rfl,upd_same⟩ (r5.gr g6) (ca5.up g6.dd) tr5 (.inr ⟨t,w,p,k,o,rfl,upd_same,ek,b1,b2,b3⟩) (s5.trans g6.dd) fun b u hb e=>g6.hh _ _ (k5 b u hb e)
      · have hk2 : k=c.length:=by
          have : ¬ ((k : Nat) : Int) < (c.length : Nat):=fun z=>h1 (decide_eq_true z)
          omega
        subst hk2
        exact q D5 H5 pd Jb c .non none ⟨c.length,ck,cj,CU.J9 ck (List.getElem?_eq_none (Nat.le_refl _))⟩ rfl r5 ca5 tr5 (.inl ⟨rfl,tr5.stuck dn5 rt5⟩) s5 k5
noncomputable def JE (K : PySem.W.Frag) (C : Addr) : Sp:=fun vs H Q _=>∃ (x dx pm ph ps pl pc t : Addr) (ws os ms held zc left : List Nat) (kvs : List (Key × V)) (c : CD.zH) (D : Hp) (k p j : Nat) (o : Option (Nat × Nat)),vs=[.ref x,.ref t]∧CO.Dlr C D H x dx pm ph ps pl pc ms held zc left kvs∧CO.zM D kvs c∧CD.Tree ms held zc ms.length c∧CD.zV ws os ms held zc left∧D t=some (.tup [.int (k : Nat),.int (p : Nat)])∧c[j]?=some (p,o)∧CD.hb ms p k=true∧CD.hb held p k=false∧0 < left.getD k 0∧ms.length≤1000∧os.length≤1000 ∧
  ∀ H' held' zP left' e,CU.Walk c held k p held' e→zP=zc.set e (zc.getD e 0 - 1)→left'=left.set k (left.getD k 0 - 1)→CO.Dlr C D H' x dx pm ph ps pl pc ms held' zP left' kvs→CD.zV ws os ms held' zP left'→CD.zk zP < CD.zk zc→(∀ b u,b∉[ph,ps,pl]→H b=some u→H' b=some u)→Q .non H'
theorem zbF {f : Addr} {fd Wx wJ wK : FuncData} (F : Fun K "change" "Dealer.change" zR f fd) (T : Txt K mg a)
    (Jc : FnOk P w K mg base CX0 1 a.either Wx ["one","other"] (JB K)) (Xu : Fun K "either" "either" vQ a.either Wx) (Jd : Binds K Wx ["one","other"] [])
    (jW : FnOk P w K mg base CX0 1 a.less wJ ["one","other"] (Xr K)) (w9 : Fun K "less" "less" xK a.less wJ) (jX : Binds K wJ ["one","other"] [])
    (vW : FnOk P w K mg base CX0 1 a.vC wK ["numbers"] (Xo K)) (xY : Fun K "mask_of" "mask_of" yC a.vC wK) (vX : Binds K wK ["numbers"] []) : FnOk P w K mg base CX0 2 f fd ["self","pair"] (JE K a.zg):=by
  refine F.ok zbq (fun vs H Q E h=>?_) (fun cdv A outer s H vs Q E hr h=>?_)
  · obtain ⟨x,dx,pm,ph,ps,pl,pc,t,ws,os,ms,held,zc,left,kvs,c,D,k,p,j,o,rfl,_⟩:=h
    rfl
  · obtain ⟨x,dx,pm,ph,ps,pl,pc,t,ws,os,ms,held,zc,left,kvs,c,D,k,p,j,o,rfl,r,ca,tr,dl,et,ej,hf,hw,h0,hn,ho,q⟩:=h
    refine ⟨_,(pss_cons (ps_asg (pe_op op_sub (pe_ix ix_list (pe_fld (pvA 0 (defScope zR) yb rfl rfl) rfl) (pe_ix ix_tup (pvA 1 (defScope zR) yb rfl rfl) pe_int (fun _ _=>rfl)) (fun _ _=>rfl)) pe_int) (pg_sub (pe_fld (pvA 0 (defScope zR) yb rfl rfl) rfl) (pe_ix ix_tup (pvA 1 (defScope zR) yb rfl rfl) pe_int (fun _ _=>rfl)) set_list))
      (pss_cons (ps_while PassesOwn.never (pt_cmpR op_notN (pvA 1 (defScope zR) yb rfl rfl) pe_non (nomark _)) (pss_cons (psN (i:=2) (sc:=defScope zR) (M:=yb) rfl rfl (by decide +kernel) (pe_ix ix_tup (pvA 1 (defScope zR) yb rfl rfl) pe_int (fun _ _=>rfl)))
      (pss_cons (ps_asg (zq (sc:=defScope zR) Jc (hr.mono (by decide)) rfl (by decide +kernel) T.zb2 Xu.kp Jd .nil pass0 (pa_cons (pe_ix ix_list (pe_fld (pvA 0 (defScope zR) yb rfl rfl) rfl) (pvA 2 (defScope zR) yb rfl rfl) (fun _ _=>rfl)) (pa_cons (zq (sc:=defScope zR) vW (hr.mono (by decide)) rfl (by decide +kernel) T.Ws xY.kp vX .nil pass0 (pa_cons (pe_lst (pa_cons (pe_ix ix_tup (pvA 1 (defScope zR) yb rfl rfl) pe_int (fun _ _=>rfl)) pa_nil)) pa_nil)) pa_nil))) (pg_sub (pe_fld (pvA 0 (defScope zR) yb rfl rfl) rfl) (pvA 2 (defScope zR) yb rfl rfl) set_list))
      (pss_cons (psN (i:=1) (sc:=defScope zR) (M:=yb) rfl rfl (by decide +kernel) (pe_dget (hu_of hr) (pe_fld (pvA 0 (defScope zR) yb rfl rfl) rfl) (pvA 2 (defScope zR) yb rfl rfl) (fun _ _=>rfl)))
      (pss_one (ps_if (pt_cmpR op_notN (pvA 1 (defScope zR) yb rfl rfl) pe_non (nomark _)) (pss_one (ps_asg (zq (sc:=defScope zR) jW (hr.mono (by decide)) rfl (by decide +kernel) T.Jx w9.kp jX .nil pass0 (pa_cons (pe_ix ix_list (pe_fld (pvA 0 (defScope zR) yb rfl rfl) rfl) (pvA 2 (defScope zR) yb rfl rfl) (fun _ _=>rfl)) (pa_cons (zq (sc:=defScope zR) vW (hr.mono (by decide)) rfl (by decide +kernel) T.Ws xY.kp vX .nil pass0 (pa_cons (pe_lst (pa_cons (pe_ix ix_tup (pvA 1 (defScope zR) yb rfl rfl) pe_int (fun _ _=>rfl)) pa_nil)) pa_nil)) pa_nil))) (pg_sub (pe_fld (pvA 0 (defScope zR) yb rfl rfl) rfl) (pvA 2 (defScope zR) yb rfl rfl) set_list))) pss_nil))))))
      (pss_one (ps_asg (pe_op op_sub (pe_ix ix_list (pe_fld (pvA 0 (defScope zR) yb rfl rfl) rfl) (pvA 2 (defScope zR) yb rfl rfl) (fun _ _=>rfl)) pe_int) (pg_sub (pe_fld (pvA 0 (defScope zR) yb rfl rfl) rfl) (pvA 2 (defScope zR) yb rfl rfl) set_list))))),?_⟩
    have hs : sizeLine=16777216:=sizeLine_eq
    have hk : k < os.length:=dl.lt p k hf
    have hkl : k < left.length:=by rw [dl.ll]; exact hk
    have etH : H t=some (.tup [.int (k : Nat),.int (p : Nat)]):=r.dh _ _ et
    refine ⟨_,rfl,x,_,dx,_,_,rfl,r.ins,T.zl,T.zW,CO.Y3,_,rfl,t,_,_,_,rfl,rfl,SqT.of etH,rfl,pl,_,_,_,rfl,rfl,SqL.of r.l,yf hkl,_,_,rfl,rfl,_,rfl,x,_,dx,_,_,rfl,r.ins,T.zl,T.zW,CO.Y3,_,rfl,t,_,_,_,rfl,rfl,SqT.of etH,rfl,pl,_,_,k,rfl,rfl,r.l,by rw [zD]; exact xG hkl,?_⟩
    rw [show (fun i j : Int=>V.int (i - j)) ((left.getD k 0 : Nat) : Int) 1=V.int ((left.getD k 0 - 1 : Nat) : Int) from congrArg V.int (by omega),xR]
    have r1:=r.zbT (left.set k (left.getD k 0 - 1))
    have k1 : ∀ b u,b∉[ph,ps,pl]→H b=some u→upd H pl (.lst (nV (left.set k (left.getD k 0 - 1)))) b=some u:=fun b u hb e=>by
      rw [upd_ne (fun z=>hb (by rw [z]; simp))]
      exact e
    have hd:=dl.hand (tr.lt _ (List.mem_of_getElem? ej)) hf hw h0
    generalize upd H pl _=H1 at r1 k1 ⊢
    obtain ⟨WK,hWK⟩ : ∃ WK : List Nat→Nat→Prop,∀ h' e,WK h' e↔CU.Walk c held k p h' e:=⟨_,fun _ _=>Iff.rfl⟩
    obtain ⟨Yu,hleft⟩ : ∃ l,left.set k (left.getD k 0 - 1)=l:=⟨_,rfl⟩
    rw [hleft] at r1 hd
    refine ⟨fun m σ H'=>(∃ hk k p j o t v2,m=j + 1∧σ=[some (.ref x),some (.ref t),v2]∧D t=some (.tup [.int (k : Nat),.int (p : Nat)])∧c[j]?=some (p,o)∧CO.Dlr a.zg D H' x dx pm ph ps pl pc ms hk zc Yu kvs∧CD.Hand ws os ms hk zc Yu k p∧CO.Agree held hk c j∧(∀ h' e,CU.Walk c hk k p h' e→WK h' e)∧(∀ b u,b∉[ph,ps,pl]→H b=some u→H' b=some u))∨(∃ hk p,WK hk p∧m=0∧σ=[some (.ref x),some .non,some (.int (p : Nat))]∧CO.Dlr a.zg D H' x dx pm ph ps pl pc ms hk zc Yu kvs∧0 < zc.getD p 0∧p < ms.length∧CD.zV ws os ms hk (zc.set p (zc.getD p 0 - 1)) Yu∧(∀ b u,b∉[ph,ps,pl]→H b=some u→H' b=some u)),⟨j + 1,.inl ⟨held,k,p,j,o,t,_,rfl,rfl,et,ej,r1,hd,fun _ _ _ _ _=>rfl,fun h' e z=>(hWK h' e).mpr z,k1⟩⟩,?_⟩
    have lst : zc.length=ms.length:=dl.ls
    have olt : ∀ {p w : Nat},CD.hb ms p w=true→w≤1000:=fun e=>by have:=dl.lt _ _ e; omega
    clear r1 k1 hd etH hkl hk et ej hf hw h0 r
    rintro m σ H2 (⟨hk,k,p,j,o,t,v2,rfl,rfl,et,ej,r2,hd,ag,wkk,k2⟩ | ⟨hk,p,wkk,rfl,rfl,r2,h0,hp,dl2,k2⟩)
    · have hpl : p < hk.length:=by rw [hd.lh]; exact hd.pl
      have etH : H2 t=some (.tup [.int (k : Nat),.int (p : Nat)]):=r2.dh _ _ et
      refine ⟨_,rfl,rfl,_,rfl,iteT ⟨_,fun σ' H' h=>h,?_⟩⟩
      refine ⟨_,rfl,t,_,_,_,rfl,rfl,SqT.of etH,rfl,?_⟩
      refine ⟨_,rfl,x,_,dx,_,_,rfl,r2.ins,T.zl,T.zE,CO.wu,_,rfl,ph,_,_,_,rfl,rfl,SqL.of r2.h,yf hpl,_,rfl,t,_,_,_,rfl,rfl,SqT.of etH,rfl,by first | decide | (simp only [List.length_cons,List.length_nil,List.length_append,List.length_map]; decide),fun q1 hq1=>?_⟩
      have g3:=Gr.ZT (o := .lst [V.int (k : Nat)]) r2.dh hq1
      have r3:=r2.gr g3
      have e3 : upd H2 q1 (.lst [V.int (k : Nat)]) q1=some (.lst ([k].map fun n : Nat=>V.int n)):=upd_same
      have k3 : ∀ b u,b∉[ph,ps,pl]→H b=some u→upd H2 q1 (.lst [V.int (k : Nat)]) b=some u:=fun b u hb e=>g3.hh _ _ (k2 b u hb e)
      generalize upd H2 q1 (.lst [V.int (k : Nat)])=H3 at r3 e3 k3 ⊢
      refine ⟨q1,[k],rfl,SqL.of e3,(fun n hn=>by rw [List.mem_singleton.mp hn]; exact olt hd.fit),hk.getD p 0,CB.maskOf [k],rfl,_,rfl,x,_,dx,_,_,rfl,r3.ins,T.zl,T.zE,CO.wu,_,rfl,ph,_,_,p,rfl,rfl,r3.h,by rw [zD]; exact xG hpl,?_⟩
      rw [xR]
      have hx : ∀ w,(hk.getD p 0 ||| CB.maskOf [k]).testBit w=(CD.hb hk p w || decide (w=k)):=fun w=>by
        rw [Nat.testBit_or,CO.Jt]
        rfl
      generalize exm : hk.getD p 0 ||| CB.maskOf [k]=xm at hx ⊢
      have r4:=r3.zam (hk.set p xm)
      have k4 : ∀ b u,b∉[ph,ps,pl]→H b=some u→upd H3 ph (.lst (nV (hk.set p xm))) b=some u:=fun b u hb e=>by
        rw [upd_ne (fun z=>hb (by rw [z]; simp))]
        exact k3 b u hb e
      generalize upd H3 ph (.lst (nV (hk.set p xm)))=H4 at r4 k4 ⊢
      obtain ⟨v,ev,pv⟩:=ca.get tr.nd ej
      refine ⟨_,rfl,x,_,dx,_,_,rfl,r4.ins,T.zl,T.zJ,CO.jt,_,rfl,pc,v,rfl,(ev ▸ DGet.k (k:=CO.pk p) r4.c),?_⟩
      have Zg:=tr.Zg j p o ej
      cases o with
      | none =>
        obtain rfl : v = .non:=pv
        refine ⟨_,rfl,rfl,_,rfl,iteF ?_⟩
        exact ⟨0,by omega,.inr ⟨_,p,wkk _ _ (by rw [← exm]; exact CU.Walk.stop (List.mem_of_getElem? ej)),rfl,rfl,r4,Zg,hd.pl,hd.root hx Zg,k4⟩⟩
      | some bq =>
        obtain ⟨b,q'⟩:=bq
        obtain ⟨t2,rfl,et2⟩:=pv
        have zb5 : H4 t2=some (.tup [.int (b : Nat),.int (q' : Nat)]):=r4.dh _ _ et2
        have zaN : p < (hk.set p xm).length:=by rw [List.length_set]; exact hpl
        refine ⟨_,rfl,rfl,_,rfl,iteT ?_⟩
        refine ⟨_,rfl,x,_,dx,_,_,rfl,r4.ins,T.zl,T.zE,CO.wu,_,rfl,ph,_,_,_,rfl,rfl,SqL.of r4.h,yf zaN,_,rfl,t2,_,_,_,rfl,rfl,SqT.of zb5,rfl,by first | decide | (simp only [List.length_cons,List.length_nil,List.length_append,List.length_map]; decide),fun q2 hq2=>?_⟩
        have g5:=Gr.ZT (o := .lst [V.int (b : Nat)]) r4.dh hq2
        have r5:=r4.gr g5
        have e5 : upd H4 q2 (.lst [V.int (b : Nat)]) q2=some (.lst ([b].map fun n : Nat=>V.int n)):=upd_same
        have k5 : ∀ b_ u,b_∉[ph,ps,pl]→H b_=some u→upd H4 q2 (.lst [V.int (b : Nat)]) b_=some u:=fun b_ u hb e=>g5.hh _ _ (k4 b_ u hb e)
        generalize upd H4 q2 (.lst [V.int (b : Nat)])=H5 at r5 e5 k5 ⊢
        refine ⟨q2,[b],rfl,SqL.of e5,(fun n hn=>by rw [List.mem_singleton.mp hn]; exact olt Zg.2.1),(hk.set p xm).getD p 0,CB.maskOf [b],rfl,_,rfl,x,_,dx,_,_,rfl,r5.ins,T.zl,T.zE,CO.wu,_,rfl,ph,_,_,p,rfl,rfl,r5.h,by rw [zD]; exact xG zaN,?_⟩
        rw [xR]
        have hy : ∀ w,(CB.less ((hk.set p xm).getD p 0) (CB.maskOf [b])).testBit w=(xm.testBit w && !decide (w=b)):=fun w=>by
          rw [CB.Zc,CO.Jt,CP.yK _ _ _ _ hpl,if_pos rfl]
        generalize eym : CB.less ((hk.set p xm).getD p 0) (CB.maskOf [b])=ym at hy ⊢
        obtain ⟨i',o',hi',ei,hd',ag'⟩:=CO.JZ tr hd ej ag hx hy
        refine ⟨i' + 1,by omega,.inl ⟨_,b,q',i',o',t2,_,rfl,rfl,et2,ei,r5.zam _,hd',ag',(fun h' e z=>wkk h' e (CU.Walk.go (List.mem_of_getElem? ej) (by rw [exm,eym]; exact z))),fun b_ u hb e=>?_⟩⟩
        rw [upd_ne (fun z=>hb (by rw [z]; simp))]
        exact k5 b_ u hb e
    · refine ⟨_,rfl,rfl,_,rfl,iteF ?_⟩
      have hps : p < zc.length:=by rw [lst]; exact hp
      refine ⟨_,rfl,x,_,dx,_,_,rfl,r2.ins,T.zl,T.zQ,CO.jN,_,rfl,ps,_,_,_,rfl,rfl,SqL.of r2.s,yf hps,_,_,rfl,rfl,_,rfl,x,_,dx,_,_,rfl,r2.ins,T.zl,T.zQ,CO.jN,_,rfl,ps,_,_,p,rfl,rfl,r2.s,by rw [zD]; exact xG hps,?_⟩
      rw [show (fun i j : Int=>V.int (i - j)) ((zc.getD p 0 : Nat) : Int) 1=V.int ((zc.getD p 0 - 1 : Nat) : Int) from congrArg V.int (by omega),xR]
      refine q _ _ _ _ p ((hWK _ _).mp wkk) rfl hleft.symm (r2.zbS _) dl2 (by have:=CO.Y7 h0; omega) fun b u hb e=>?_
      rw [upd_ne (fun z=>hb (by rw [z]; simp))]
      exact k2 b u hb e
noncomputable def JF (K : PySem.W.Frag) (C : Addr) : Sp:=fun vs H Q _=>∃ (x dx pm ph ps pl pc : Addr) (ws os ms held zc left : List Nat) (kvs : List (Key × V)) (D : Hp),vs=[.ref x]∧CO.Dlr C D H x dx pm ph ps pl pc ms held zc left kvs∧CD.zV ws os ms held zc left∧ms.length≤1000∧os.length≤1000 ∧
  ∀ D' H' pc' kvs' c held' zP left',CU.vg ms held zc left held' zP left' c→CO.Dlr C D' H' x dx pm ph ps pl pc' ms held' zP left' kvs'→CO.zM D' kvs' c→CD.zV ws os ms held' zP left'→CD.ZA ms held' zP left' (c.map Prod.fst) ms.length→Same D D'→(∀ b u,b∉[x,ph,ps,pl]→H b=some u→H' b=some u)→Q .non H'
theorem zbG {f : Addr} {fd Wy Wz : FuncData} (F : Fun K "grow" "Dealer.grow" xj f fd) (T : Txt K mg a)
    (Je : FnOk P w K mg base CX0 2 a.xX Wy ["self","pair"] (JE K a.zg)) (WA : Fun K "change" "Dealer.change" zR a.xX Wy) (Jf : Binds K Wy ["self","pair"] [])
    (WB : FnOk P w K mg base CX0 4 a.xW Wz ["self"] (JD K a.zg)) (WC : Fun K "search" "Dealer.search" zw a.xW Wz) (WD : Binds K Wz ["self"] []) : FnOk P w K mg base CX0 6 f fd ["self"] (JF K a.zg):=by
  refine F.ok zbr (fun vs H Q E h=>?_) (fun cdv A outer s H vs Q E hr h=>?_)
  · obtain ⟨x,dx,pm,ph,ps,pl,pc,ws,os,ms,held,zc,left,kvs,D,rfl,_⟩:=h
    rfl
  · obtain ⟨x,dx,pm,ph,ps,pl,pc,ws,os,ms,held,zc,left,kvs,D,rfl,r,dl,hn,ho,q⟩:=h
    refine ⟨_,(pss_cons (psN (i:=1) (sc:=defScope xj) (M:=jz) rfl rfl (by decide +kernel) (pe_meth0 (pvA 0 (defScope xj) jz rfl rfl) T.zl T.xQ WB (hr.mono (by decide)) WD .nil pass0))
      (pss_one (ps_while PassesOwn.never (pt_cmpR op_notN (pvA 1 (defScope xj) jz rfl rfl) pe_non (nomark _)) (pss_cons (ps_expr (pe_meth (pvA 0 (defScope xj) jz rfl rfl) T.zl T.jD Je (hr.mono (by decide)) Jf .nil pass0 (pa_cons (pvA 1 (defScope xj) jz rfl rfl) pa_nil)))
      (pss_one (psN (i:=1) (sc:=defScope xj) (M:=jz) rfl rfl (by decide +kernel) (pe_meth0 (pvA 0 (defScope xj) jz rfl rfl) T.zl T.xQ WB (hr.mono (by decide)) WD .nil pass0))))))),?_⟩
    have hs : sizeLine=16777216:=sizeLine_eq
    have nm1 : ("search" : Str)≠"masks"∧("search" : Str)≠"held"∧("search" : Str)≠"still"∧("search" : Str)≠"left"∧("search" : Str)≠"came":=by decide +kernel
    have nm2 : ("change" : Str)≠"masks"∧("change" : Str)≠"held"∧("change" : Str)≠"still"∧("change" : Str)≠"left"∧("change" : Str)≠"came":=by decide +kernel
    refine ⟨_,rfl,x,dx,_,rfl,r.ins,CO.jv nm1,x,dx,pm,ph,ps,pl,pc,ms,held,zc,left,kvs,D,rfl,r,dl.lh,dl.ls,hn,by rw [dl.ll]; exact ho,fun D1 H1 pc1 zb6 c1 rv rs1 sr1 pv1 r1 ca1 tr1 fo1 s1 k1=>?_⟩
    refine ⟨fun m σ H'=>∃ D' pc' kvs' c' held' zP left' rv res,CU.Sr ms held' zP left' c' res∧CO.PV D' rv res∧(∀ h s l c,CU.vg ms held' zP left' h s l c→CU.vg ms held zc left h s l c)∧m=CD.zk zP∧σ=[some (.ref x),some rv]∧CO.Dlr a.zg D' H' x dx pm ph ps pl pc' ms held' zP left' kvs'∧CO.zM D' kvs' c'∧CD.Tree ms held' zP ms.length c'∧CD.zV ws os ms held' zP left'∧Found D' ms held' zP left' c' rv∧Same D D'∧(∀ b u,b∉[x,ph,ps,pl]→H b=some u→H' b=some u),⟨_,D1,pc1,zb6,c1,held,zc,left,rv,rs1,sr1,pv1,(fun _ _ _ _ z=>z),rfl,rfl,r1,ca1,tr1,dl,fo1,s1,fun b u hb e=>k1 b u (fun z=>hb (z ▸ List.mem_cons_self ..)) e⟩,?_⟩
    rintro m σ H2 ⟨D2,pc2,wI,c2,JG,Vz,JH,rv2,rs2,sr2,pv2,gr2,rfl,rfl,r2,ca2,tr2,dl2,fo2,s2,k2⟩
    refine ⟨_,rfl,rfl,_,rfl,?_⟩
    rcases fo2 with ⟨rfl,st⟩ | ⟨t,k,p,j,o,rfl,et,ej,hf,hw,h0⟩
    · obtain rfl : rs2=none:=by
        cases rs2 with
        | none=>rfl
        | some z =>
          obtain ⟨z1,z2⟩:=z
          obtain ⟨t,e,_⟩:=pv2
          cases e
      exact iteF (q D2 H2 pc2 wI c2 JG Vz JH (gr2 _ _ _ _ (.stop sr2)) r2 ca2 dl2 st s2 k2)
    · obtain rfl : rs2=some (k,p):=by
        cases rs2 with
        | none=>cases pv2
        | some z =>
          obtain ⟨z1,z2⟩:=z
          obtain ⟨t',e,h⟩:=pv2
          cases e
          rw [et] at h
          exact CU.zab h
      refine iteT ⟨_,fun σ' H' h=>h,?_⟩
      refine ⟨_,rfl,x,dx,_,rfl,r2.ins,CO.jv nm2,_,rfl,x,dx,pm,ph,ps,pl,pc2,t,ws,os,ms,JG,Vz,JH,wI,c2,D2,k,p,j,o,rfl,r2,ca2,tr2,dl2,et,ej,hf,hw,h0,hn,ho,fun H3 vY vE Yv en3 wk3 es3 el3 r3 dl3 lt3 k3=>?_⟩
      refine ⟨_,rfl,x,dx,_,rfl,r3.ins,CO.jv nm1,x,dx,pm,ph,ps,pl,pc2,ms,vY,vE,Yv,wI,D2,rfl,r3,dl3.lh,dl3.ls,hn,by rw [dl3.ll]; exact ho,fun D4 H4 pc4 Xs c4 rv4 rs4 sr4 pv4 r4 ca4 tr4 fo4 s4 k4=>?_⟩
      refine ⟨_,lt3,D4,pc4,Xs,c4,vY,vE,Yv,rv4,rs4,sr4,pv4,(fun h s l c z=>gr2 _ _ _ _ (.go sr2 tr2.nd wk3 (by rw [← es3,← el3]; exact z))),rfl,rfl,r4,ca4,tr4,dl3,fo4,s2.trans s4,fun b u hb e=>k4 b u (fun z=>hb (z ▸ List.mem_cons_self ..)) (k3 b u (fun z=>hb (List.mem_cons_of_mem _ z)) (k2 b u hb e))⟩
noncomputable def JI (K : PySem.W.Frag) (C : Addr) : Sp:=fun vs H Q _=>∃ (x dx pw po pk : Addr) (ws os ms : List Nat) (D : Hp),vs=[.ref x,.ref pw,.ref po,.ref pk]∧Same D H∧H x=some (.ins C dx [])∧D x=none∧H pw=some (.lst (nV ws))∧H po=some (.lst (nV os))∧H pk=some (.lst (nV ms))∧ms.length≤1000 ∧
  ∀ H' pm ph ps pl pc,CO.Dlr C D H' x dx pm ph ps pl pc ms (List.replicate ms.length 0) ws os []→(∀ b u,b≠x→H b=some u→H' b=some u)→Q .non H'
theorem zbH {f : Addr} {fd : FuncData} (F : Fun K "__init__" "Dealer.__init__" yl f fd) (T : Txt K mg a) : FnOk P w K mg base CX0 1 f fd ["self","wants","oftens","masks"] (JI K a.zg):=by
  refine F.ok zbn (fun vs H Q E h=>?_) (fun cdv A outer s H vs Q E hr h=>?_)
  · obtain ⟨x,dx,pw,po,pk,ws,os,ms,D,rfl,_⟩:=h
    rfl
  · obtain ⟨x,dx,pw,po,pk,ws,os,ms,D,rfl,sD,hx,nx,hw,ho,hm,lm,q⟩:=h
    refine ⟨_,(pss_cons (ps_fld (pvA 0 (defScope yl) xV rfl rfl) (yh (sc:=defScope yl) call_list_of rfl (by decide +kernel) T.yq yG (pa_cons (pvA 3 (defScope yl) xV rfl rfl) pa_nil)) rfl)
      (pss_cons (ps_fld (pvA 0 (defScope yl) xV rfl rfl) (vq rfl (N:=["mask"]) (own:=1) (js:=[]) (X:=(cxOf CX0 P w K mg base xV "Dealer.__init__" (defScope yl) f cdv A outer s H E).nox) (vp (defScope yl) xV rfl rfl (by decide +kernel)) (pi_list (pvA 3 (defScope yl) xV rfl rfl)) (fun fp0 sx0 Hx0=>(pgN (i:=0) (sc:=zC _ (defScope yl)) (M:=["mask"]) rfl rfl (by decide +kernel))) (fun fp0 sx0 Hx0=>YM) (fun fp0 sx0 Hx0=>pe_int)) rfl)
      (pss_cons (ps_fld (pvA 0 (defScope yl) xV rfl rfl) (yh (sc:=defScope yl) call_list_of rfl (by decide +kernel) T.yq yG (pa_cons (pvA 1 (defScope yl) xV rfl rfl) pa_nil)) rfl)
      (pss_cons (ps_fld (pvA 0 (defScope yl) xV rfl rfl) (yh (sc:=defScope yl) call_list_of rfl (by decide +kernel) T.yq yG (pa_cons (pvA 2 (defScope yl) xV rfl rfl) pa_nil)) rfl)
      (pss_one (ps_fld (pvA 0 (defScope yl) xV rfl rfl) pe_dnewK rfl)))))),?_⟩
    have hs : sizeLine=16777216:=sizeLine_eq
    have B0 : CO.Bld a.zg H H x dx [] []:=⟨hx,fun b u _ e=>e,(fun e he=>nomatch he),List.nodup_nil⟩
    refine ⟨_,rfl,pk,_,rfl,.inl (SqL.of hm),fun pm hpm=>⟨_,rfl,x,_,dx,_,rfl,(Same.zp hpm) _ _ hx,T.zl,T.ye,by first | decide | (simp only [List.length_cons,List.length_nil,List.length_append,List.length_map]; decide),?_⟩⟩
    rw [CO.p1]
    have B1:=(B0.put (l:=ms) (H':=upd H pm (.lst (nV ms))) hpm (Same.zp hpm) upd_same).set [("masks",.ref pm)]
    generalize upd (upd H pm (.lst (nV ms))) x _=H1 at B1 ⊢
    have kx : ∀ {b : Addr} {l : List V},H b=some (.lst l)→b≠x:=fun e=>CO.ne_of e hx (fun z=>nomatch z)
    have hm1:=B1.keep _ _ (kx hm) hm
    refine ⟨_,rfl,pk,rfl,⟨_,SqL.of hm1⟩,fun ph hph=>?_⟩
    refine jl hph (j6 (xs:=nV ms)) (fun σ=>∃ v,σ=[v]) (fun _=>some (.int 0)) ⟨_,rfl⟩ (fun H' s'=>SqL.of (s' _ _ hm1)) (by rw [zD]; omega) ?_ ?_
    · rintro y ys σ H' R1 R0 hy ⟨v,rfl⟩ s' k1 k0
      exact k1 _ _ _ ⟨_,rfl⟩ rfl (Same.refl _)
    intro H2 s2 e2
    rw [CO.zeros] at e2
    have B2:=B1.put hph s2 e2
    refine ⟨_,rfl,x,_,dx,_,rfl,B2.ins,T.zl,T.zE,by show 1 < 1000; decide,?_⟩
    rw [CO.p2]
    have B3:=B2.set [("masks",.ref pm),("held",.ref ph)]
    generalize upd H2 x _=H3 at B3 ⊢
    clear B1 B2 s2 e2
    refine ⟨_,rfl,pw,_,rfl,.inl (SqL.of (B3.keep _ _ (kx hw) hw)),fun ps hps=>?_⟩
    have B4:=B3.put (l:=ws) (H':=upd H3 ps (.lst (nV ws))) hps (Same.zp hps) upd_same
    generalize upd H3 ps (.lst (nV ws))=H4 at B4 ⊢
    refine ⟨_,rfl,x,_,dx,_,rfl,B4.ins,T.zl,T.zQ,by show 2 < 1000; decide,?_⟩
    rw [CO.p3]
    have B5:=B4.set [("masks",.ref pm),("held",.ref ph),("still",.ref ps)]
    generalize upd H4 x _=H5 at B5 ⊢
    refine ⟨_,rfl,po,_,rfl,.inl (SqL.of (B5.keep _ _ (kx ho) ho)),fun pl hpl=>?_⟩
    have B6:=B5.put (l:=os) (H':=upd H5 pl (.lst (nV os))) hpl (Same.zp hpl) upd_same
    generalize upd H5 pl (.lst (nV os))=H6 at B6 ⊢
    refine ⟨_,rfl,x,_,dx,_,rfl,B6.ins,T.zl,T.zW,by show 3 < 1000; decide,?_⟩
    rw [CO.p4]
    have B7:=B6.set [("masks",.ref pm),("held",.ref ph),("still",.ref ps),("left",.ref pl)]
    generalize upd H6 x _=H7 at B7 ⊢
    refine fun pc hpc=>⟨_,rfl,x,_,dx,_,rfl,(Same.zp hpc) _ _ B7.ins,T.zl,T.zJ,by show 4 < 1000; decide,?_⟩
    rw [CO.p5]
    have B8:=(B7.grow (Same.zp (o := .dK []) hpc)).set (CO.fs pm ph ps pl pc)
    obtain ⟨f1,f2,_⟩:=B7.free hpc
    exact q _ pm ph ps pl pc (B8.dlr sD nx (by rw [upd_ne f2]; exact upd_same) f1) B8.keep
noncomputable def VA (K : PySem.W.Frag) : Sp:=fun vs H Q _=>∃ (p : Addr) (held : List Nat),vs=[.ref p]∧SqL K H p (nV held)∧held.length≤1000∧(∀ m∈held,m < 2 ^ 1000)∧(CD.hpT held held.length).length < 128∧∀ H' l zs qs,H l=none→Same H H'→H' l=some (.lst zs)→zd K H' zs (List.map CP.pairD qs)→qs.Perm ((CD.hpT held held.length).map CP.xy)→CP.yo qs=true→Q (.ref l) H'
theorem zaO {f : Addr} {fd Xv : FuncData} (F : Fun K "pairs_of" "pairs_of" zY f fd) (T : Txt K mg a)
    (WE : FnOk P w K mg base CX0 2 a.members Xv ["mask"] (Vy K)) (ZM : Fun K "members" "members" yu a.members Xv) (WG : Binds K Xv ["mask"] []) : FnOk P w K mg base CX0 3 f fd ["held"] (VA K):=by
  refine F.ok zay (fun vs H Q E h=>?_) (fun cdv A outer s H vs Q E hr h=>?_)
  · obtain ⟨p,held,rfl,_⟩:=h
    rfl
  · obtain ⟨p,held,rfl,hp,hl,hm,h64,q⟩:=h
    refine ⟨_,(pss_cons (psN (i:=1) (sc:=defScope zY) (M:=xM) rfl rfl (by decide +kernel) (pe_lst pa_nil))
      (pss_cons (ps_for PassesOwn.never rfl (jM (glR (sc:=defScope zY) rfl (by decide +kernel)) T.yi (pa_cons (pvA 0 (defScope zY) xM rfl rfl) pa_nil)) (pg_tup (n:=2) (by rfl) (pgs_cons (pgC (i:=2) (sc:=defScope zY) (M:=xM) rfl rfl rfl (by decide +kernel)) (pgs_cons (pgN (i:=3) (sc:=defScope zY) (M:=xM) rfl rfl (by decide +kernel)) pgs_nil))) (pss_one (ps_expr (pe_bm PySem.F.plainAttrs_list PySem.F.slot_list_extend PySem.F.type_list_extend mt_extend (pvA 1 (defScope zY) xM rfl rfl) (pa_cons (vq rfl (N:=["work","place"]) (own:=1) (js:=[2]) (X:=(cxOf CX0 P w K mg base xM "pairs_of" (defScope zY) f cdv A outer s H E).nox) (vp (defScope zY) xM rfl rfl (by decide +kernel)) (pi_list (zq (sc:=defScope zY) WE (hr.mono (by decide)) rfl (by decide +kernel) T.zbu ZM.kp WG .nil pass0 (pa_cons (pvA 3 (defScope zY) xM rfl rfl) pa_nil))) (fun fp0 sx0 Hx0=>(pgN (i:=0) (sc:=zC _ (defScope zY)) (M:=["work","place"]) rfl rfl (by decide +kernel))) (fun fp0 sx0 Hx0=>YM) (fun fp0 sx0 Hx0=>(pe_tup (pa_cons (pvN (i:=0) (sc:=zC _ (defScope zY)) (M:=["work","place"]) rfl rfl (by decide +kernel)) (pa_cons (pvN (i:=1) (sc:=zC _ (defScope zY)) (M:=["work","place"]) rfl rfl (by decide +kernel)) pa_nil))))) pa_nil)))))
      (pss_one (ps_ret (zo (sc:=defScope zY) L24.Xn rfl (by decide +kernel) T.xF jm (pa_cons (pvA 1 (defScope zY) xM rfl rfl) pa_nil)))))),?_⟩
    have hs : sizeLine=16777216:=sizeLine_eq
    refine ⟨by first | decide | (simp only [List.length_cons,List.length_nil,List.length_append,List.length_map]; decide),fun l hl0=>?_⟩
    have s1 : Same H (upd H l (.lst [])):=Same.zp hl0
    have e1 : upd H l (.lst []) l=some (.lst []):=upd_same
    generalize upd H l (.lst [])=H1 at s1 e1 ⊢
    refine ⟨_,rfl,p,rfl,⟨_,s1.seq hp⟩,?_⟩
    refine L5.YT (xs:=nV held) (fun i σ H'=>∃ v2 v3 ys D',σ=[some (.ref p),some (.ref l),v2,v3]∧Same H H'∧Same D' H'∧D' l=none∧H' l=some (.lst ys)∧zd K D' ys ((CD.hpT held i).map fun q=>CP.pairD (CP.xy q))) ⟨_,_,[],H,rfl,s1,s1,hl0,e1,zd.nil⟩ ?_ ?_ ?_
    · rintro i σ H' _ ⟨v2,v3,ys,D',_,s',_⟩
      exact s'.seq hp
    · rintro i y σ H2 Tt hy ⟨v2,v3,ys,D2,rfl,s2,d2,n2,e2,hA⟩ hTt
      unfold nV at hy
      rw [List.getElem?_map] at hy
      obtain ⟨m,hm',rfl⟩:=Option.map_eq_some_iff.mp hy
      rw [show (0 : Int) + (i : Nat)=(i : Nat) by omega]
      have s3:=s2.trans (Same.zp (o := .tup [.int (i : Nat),.int (m : Nat)]) hTt)
      have d3:=d2.trans (Same.zp (o := .tup [.int (i : Nat),.int (m : Nat)]) hTt)
      have e3:=(Same.zp (o := .tup [.int (i : Nat),.int (m : Nat)]) hTt) _ _ e2
      have et : upd H2 Tt (.tup [.int (i : Nat),.int (m : Nat)]) Tt=some (.tup [.int (i : Nat),.int (m : Nat)]):=upd_same
      generalize upd H2 Tt (.tup [.int (i : Nat),.int (m : Nat)])=H3 at s3 d3 e3 et ⊢
      have hil : i < held.length:=(List.getElem?_eq_some_iff.mp hm').1
      have em : held.getD i 0=m:=CG.XW hm'
      have ly:=zd.length hA
      rw [List.length_map] at ly
      have lt:=CD.zao held (show i + 1≤held.length by omega)
      have la : (CD.hpT held (i + 1)).length=(CD.hpT held i).length + (CB.zU m).length:=by
        rw [CD.hpT,List.length_append,List.length_map,em]
      refine ⟨Tt,_,rfl,SqT.of et,rfl,_,_,rfl,_,_,rfl,rfl,?_⟩
      refine ⟨_,rfl,.inl ⟨rfl,_,SqL.of e3⟩,_,rfl,m,rfl,hm m (List.mem_of_getElem? hm'),fun H4 lm hlm s4 e4=>⟨lm,rfl,⟨_,SqL.of e4⟩,fun cc hcc=>?_⟩⟩
      refine L13.VW (Pd:=CO.PrT i) CO.PrT.up (d3.trans s4) hcc (j6 (xs:=(CB.zU m).map fun n : Nat=>V.int n)) (fun σ=>∃ v,σ=[v,some (.int (i : Nat))]) (CB.zU m) (by rw [List.length_map]) ⟨_,rfl⟩ (fun H' s'=>SqL.of (s' _ _ e4)) (by rw [List.length_map]; omega) ?_ ?_
      · rintro k y w σ D1 H1 R1 R0 hy hw ⟨v,rfl⟩ G k1
        rw [List.getElem?_map,hw] at hy
        obtain rfl:=Option.some.inj hy
        refine ⟨_,rfl,_,rfl,by first | decide | (simp only [List.length_cons,List.length_nil,List.length_append,List.length_map]; decide),fun t ht=>?_⟩
        exact k1 _ _ _ _ ⟨_,rfl⟩ (Gr.lay G.dh ht) ⟨t,rfl,upd_same⟩
      intro D5 H5 zs G e5 n5 els
      have s5:=s4.trans G.hh
      have lz:=els.1
      have n5l : D5 l=none:=G.nw l _ (s4 _ _ e3) n2
      refine ⟨l,cc,_,_,rfl,rfl,s5 _ _ e3,e5,by omega,?_⟩
      refine ⟨_,_,ys ++ zs,D5,rfl,zT (s3.trans s5) hl0,zT G.dh n5l,n5l,upd_same,?_⟩
      rw [CD.hpT,List.map_append,em]
      exact zd.append (zd.same G.dd _ hA) (CO.Xf els)
    · rintro σ H2 ⟨v2,v3,ys,D2,rfl,s2,d2,n2,e2,hA⟩
      rw [zD] at hA
      refine ⟨_,rfl,l,ys,(CD.hpT held held.length).map CP.xy,rfl,SqL.of e2,by rw [List.map_map]; exact zd.same d2 _ hA,CD.VZ (CD.ZC held _),by rw [List.length_map]; exact h64,fun l2 zs qs hl2 hD hp2 hr2=>?_⟩
      exact q _ l2 zs qs (s2.free hl2) (s2.trans (Same.zp hl2)) upd_same (zd.same (Same.zp hl2) _ hD) hp2 hr2
noncomputable def JJ (K : PySem.W.Frag) : Sp:=fun vs H Q _=>∃ (pw po pk : Addr) (ws os ms : List Nat),vs=[.ref pw,.ref po,.ref pk]∧H pw=some (.lst (nV ws))∧H po=some (.lst (nV os))∧H pk=some (.lst (nV ms))∧ws.length=ms.length∧os.length≤1000∧ms.length < 64∧(∀ m∈ms,m < 2 ^ os.length)∧CD.zk (ws.map fun n=>min n os.length) < 128 ∧
  ∀ H' t l1 l3 zs qs ze z,CU.Told ws os ms qs z ze→H l1=none→H l3=none→H t=none→l1≠l3→Same H H'→H' t=some (.tup [.ref l1,.int (z : Nat),.ref l3])→H' l1=some (.lst zs)→zd K H' zs (List.map CP.pairD qs)→CP.yz qs ws os ms=true→qs.length + z=CD.zk ws→H' l3=some (.lst (nV ze))→CD.yN ws.length ze→CG.yQ ze ws os ms=((z : Nat) : Int)→CD.Opt ws os ms ((z : Nat) : Int)→Q (.ref t) H'
theorem zbI {f : Addr} {fd WH WI Xw : FuncData} (F : Fun K "deal" "deal" yD f fd) (T : Txt K mg a)
    (Jg : FnOk P w K mg base CX0 1 a.xr WH ["self","wants","oftens","masks"] (JI K a.zg)) (WJ : Fun K "__init__" "Dealer.__init__" yl a.xr WH) (Jh : Binds K WH ["self","wants","oftens","masks"] [])
    (Ji : FnOk P w K mg base CX0 6 a.vj WI ["self"] (JF K a.zg)) (WL : Fun K "grow" "Dealer.grow" xj a.vj WI) (Jj : Binds K WI ["self"] [])
    (WM : FnOk P w K mg base CX0 3 a.Zn Xw ["held"] (VA K)) (ZN : Fun K "pairs_of" "pairs_of" zY a.Zn Xw) (WN : Binds K Xw ["held"] []) : FnOk P w K mg base CX0 8 f fd ["wants","oftens","masks"] (JJ K):=by
  refine F.ok zbs (fun vs H Q E h=>?_) (fun cdv A outer s H vs Q E hr h=>?_)
  · obtain ⟨pw,po,pk,ws,os,ms,rfl,_⟩:=h
    rfl
  · obtain ⟨pw,po,pk,ws,os,ms,rfl,hw,ho,hm,lw,lo,lm,hb,h64,q⟩:=h
    refine ⟨_,(pss_cons (psN (i:=3) (sc:=defScope yD) (M:=vR) rfl rfl (by decide +kernel) (pe_make T.Vw Jg (hr.mono (by decide)) (glR (sc:=defScope yD) rfl (by decide +kernel)) T.wF Jh .nil pass0 (pa_cons (pvA 0 (defScope yD) vR rfl rfl) (pa_cons (pvA 1 (defScope yD) vR rfl rfl) (pa_cons (pvA 2 (defScope yD) vR rfl rfl) pa_nil)))))
      (pss_cons (ps_expr (pe_meth0 (pvA 3 (defScope yD) vR rfl rfl) T.zl T.Zo Ji (hr.mono (by decide)) Jj .nil pass0))
      (pss_one (ps_ret (pe_tup (pa_cons (zq (sc:=defScope yD) WM (hr.mono (by decide)) rfl (by decide +kernel) T.zbv ZN.kp WN .nil pass0 (pa_cons (pe_fld (pvA 3 (defScope yD) vR rfl rfl) rfl) pa_nil)) (pa_cons (zo (sc:=defScope yD) (Yb rfl) rfl (by decide +kernel) T.jT Vc (pa_cons (pe_fld (pvA 3 (defScope yD) vR rfl rfl) rfl) pa_nil)) (pa_cons (zo (sc:=defScope yD) (L15.Y8 rfl) rfl (by decide +kernel) T.xF jm (pa_cons (pe_fld (pvA 3 (defScope yD) vR rfl rfl) rfl) pa_nil)) pa_nil)))))))),?_⟩
    have hs : sizeLine=16777216:=sizeLine_eq
    have nm3 : ("grow" : Str)≠"masks"∧("grow" : Str)≠"held"∧("grow" : Str)≠"still"∧("grow" : Str)≠"left"∧("grow" : Str)≠"came":=by decide +kernel
    refine ⟨_,rfl,_,rfl,_,rfl,fun x dx hx hdx hne=>?_⟩
    have s0 : Same H (upd (upd H dx (.own x)) x (.ins a.zg dx [])):=(Same.zp hdx).trans (Same.zp (by rw [upd_ne hne.symm]; exact hx))
    refine ⟨x,dx,pw,po,pk,ws,os,ms,H,rfl,s0,upd_same,hx,s0 _ _ hw,s0 _ _ ho,s0 _ _ hm,by omega,fun H2 pm ph ps pl pc r2 k2=>⟨rfl,?_⟩⟩
    clear s0 k2
    refine ⟨_,rfl,x,dx,_,rfl,r2.ins,CO.jv nm3,x,dx,pm,ph,ps,pl,pc,ws,os,ms,_,ws,os,[],H,rfl,r2,CD.zV.start lw hb,by omega,lo,fun D3 H3 pc3 zb7 c3 vY vE Yv gr3 r3 ca3 dl3 st3 s3 _=>?_⟩
    have lc : c3.length≤ms.length:=by have:=CO.ju st3.pap; rwa [List.length_map] at this
    have tot:=dl3.total
    have few : (CD.hpT vY vY.length).length < 128:=by
      have:=dl3.few
      rw [CD.Y9,dl3.lh,← CD.Z3] at this
      rw [dl3.lh]
      omega
    refine ⟨_,rfl,x,_,dx,_,_,rfl,r3.ins,T.zl,T.zE,CO.wu,ph,vY,rfl,SqL.of r3.h,by rw [dl3.lh]; omega,fun m hm=>Nat.lt_of_lt_of_le (dl3.small hm) (Nat.pow_le_pow_right (by decide) lo),few,fun H4 l zs qs hl0 s4 e4 hA4 hp4 hr4=>?_⟩
    have r4:=r3.gr (Gr.heap r3.dh s4)
    have sH4 : Same H H4:=(s3.trans r3.dh).trans s4
    rw [dl3.lh] at hp4
    have dB:=dl3.dl.yz hp4 hr4
    have lq:=hp4.length_eq
    rw [List.length_map] at lq
    have op:=dl3.opt (by rw [lw]; exact st3)
    have st:=dl3.Vm (by rw [lw]; exact st3)
    refine ⟨_,rfl,x,_,dx,_,_,rfl,r4.ins,T.zl,T.zQ,CO.jN,ps,vE.map (fun n : Nat=>(n : Int)),rfl,SqL.of (by rw [List.map_map]; exact r4.s),?_⟩
    rw [CO.sum_nat]
    refine ⟨_,rfl,x,_,dx,_,_,rfl,r4.ins,T.zl,T.zJ,CO.jt,pc3,zb7,(c3.map Prod.fst).map (fun n : Nat=>(n : Int)),rfl,.inl r4.c,by rw [ca3.keys,List.map_map,List.map_map]; rfl,by rw [List.length_map,List.length_map]; omega,fun l2 ks hl2 hk2 so2=>?_⟩
    obtain ⟨k1,k2⟩:=CO.V0 hk2
    rw [k1]
    refine ⟨by first | decide | (simp only [List.length_cons,List.length_nil,List.length_append,List.length_map]; decide),fun tt htt=>?_⟩
    have s5:=Same.zp (o := .lst (nV (ks.map Int.toNat))) hl2
    have e5 : upd H4 l2 (.lst (nV (ks.map Int.toNat))) l2=some (.lst (nV (ks.map Int.toNat))):=upd_same
    generalize upd H4 l2 (.lst (nV (ks.map Int.toNat)))=H5 at s5 e5 htt ⊢
    have s6:=Same.zp (o := .tup [.ref l,.int (CD.zk vE : Nat),.ref l2]) htt
    exact q _ tt l l2 zs qs (ks.map Int.toNat) _ ⟨vY,vE,Yv,c3,gr3,hp4,hr4,rfl,k2,List.Pairwise.map _ (fun a b h=>Int.toNat_le_toNat h) so2⟩ ((s3.trans r3.dh).free hl0) (sH4.free hl2) ((sH4.trans s5).free htt) (ne_of_none e4 hl2) ((sH4.trans s5).trans s6) upd_same (s6 _ _ (s5 _ _ e4)) (zd.same (s5.trans s6) _ hA4) dB (by omega) (s6 _ _ e5) (CD.yN.perm k2 (by rw [lw]; exact st3.pap)) (by rw [CD.Wj k2]; exact st) op
noncomputable def wL (c k : Int) : Int:=(c % 2147483647 + 31 * k + 1) * 48271 * (c % 2147483647 + 3 * k + 7) % 2147483629
theorem zb8 (c k : Int) : 0≤wL c k:=Int.emod_nonneg _ (by decide)
noncomputable def VB (_ : PySem.W.Frag) : Sp:=fun vs H Q _=>∃ c k : Int,vs=[.int c,.int k]∧0≤k∧k≤1000∧Q (.int (wL c k)) H
theorem zaP {f : Addr} {fd : FuncData} (F : Fun K "_law_mixed" "_law_mixed" yO f fd) (T : Txt K mg a) : FnOk P w K mg base CX0 1 f fd ["_law_cell","_law_k"] (VB K):=by
  refine F.ok zaA (fun vs H Q E h=>?_) (fun cdv A outer s H vs Q E hr h=>?_)
  · obtain ⟨c,k,rfl,_⟩:=h
    rfl
  · obtain ⟨c,k,rfl,h0,h1,q⟩:=h
    refine ⟨_,(pss_cons (psN (i:=2) (sc:=defScope yO) (M:=vS) rfl rfl (by decide +kernel) (pe_op op_mod (pvA 0 (defScope yO) vS rfl rfl) pe_int))
      (pss_one (ps_ret (pe_op op_mod (pe_op op_mul (pe_op op_mul (pe_op op_add (pe_op op_add (pvA 2 (defScope yO) vS rfl rfl) (pe_op op_mul pe_int (pvA 1 (defScope yO) vS rfl rfl))) pe_int) pe_int) (pe_op op_add (pe_op op_add (pvA 2 (defScope yO) vS rfl rfl) (pe_op op_mul pe_int (pvA 1 (defScope yO) vS rfl rfl))) pe_int)) pe_int)))),?_⟩
    have a0 : 0≤c % 2147483647:=Int.emod_nonneg _ (by decide)
    have a1 : c % 2147483647 < 2147483647:=Int.emod_lt_of_pos _ (by decide)
    refine ⟨_,rfl,_,_,rfl,rfl,(by show (0 : Int) < 2147483647; decide),?_⟩
    refine ⟨_,rfl,_,rfl,_,_,rfl,rfl,.inl ⟨by decide,by decide⟩,_,_,rfl,rfl,_,_,rfl,rfl,_,_,rfl,rfl,.inr ⟨by decide,by decide⟩,?_⟩
    refine ⟨_,rfl,_,rfl,_,_,rfl,rfl,.inl ⟨by decide,by decide⟩,_,_,rfl,rfl,_,_,rfl,rfl,_,_,rfl,rfl,.inr ⟨?_,?_⟩,?_⟩
    · show (-(2 ^ 64) : Int) < c % 2147483647 + 3 * k + 7
      omega
    · show c % 2147483647 + 3 * k + 7 < (2 ^ 64 : Int)
      omega
    exact ⟨_,_,rfl,rfl,(by show (0 : Int) < 2147483629; decide),q⟩
noncomputable def Xx (K : PySem.W.Frag) : Sp:=fun vs H Q _=>∃ (p : Addr) (ms : List Nat) (w k m : Nat),vs=[.ref p,.int w,.int k]∧SqL K H p (nV ms)∧ms[k]?=some m∧Q (.bl (m.testBit w)) H
theorem zaQ {f : Addr} {fd : FuncData} (F : Fun K "_law_fit" "_law_fit" xq f fd) (T : Txt K mg a) : FnOk P w K mg base CX0 1 f fd ["_law_masks","_law_work","_law_place"] (Xx K):=by
  refine F.ok zaC (fun vs H Q E h=>?_) (fun cdv A outer s H vs Q E hr h=>?_)
  · obtain ⟨p,ms,w,k,m,rfl,_⟩:=h
    rfl
  · obtain ⟨p,ms,w,k,m,rfl,hp,hm,q⟩:=h
    refine ⟨_,(pss_one (ps_ret (pe_cmpR op_eq (pe_op op_mod (pe_op op_shr (pe_ix ix_list (pvA 0 (defScope xq) Yt rfl rfl) (pvA 2 (defScope xq) Yt rfl rfl) (fun _ _=>rfl)) (pvA 1 (defScope xq) Yt rfl rfl)) pe_int) pe_int (nomark _)))),?_⟩
    refine ⟨_,rfl,_,rfl,p,_,_,_,rfl,rfl,hp,atI_nat (by unfold nV; rw [List.getElem?_map,hm]; rfl),_,rfl,_,_,rfl,rfl,(by show (0 : Int)≤(w : Nat); omega),_,_,rfl,rfl,(by show (0 : Int) < 2; decide),rfl,?_⟩
    have e : m.testBit w=decide (V.int (((m : Nat) : Int) / 2 ^ ((w : Nat) : Int).toNat % 2)=V.int 1):=by
      rw [Int.toNat_natCast,Bool.eq_iff_iff,decide_eq_true_eq,← CG.JT]
      exact ⟨fun z=>by rw [z],fun z=>V.int.inj z⟩
    rw [e] at q
    exact q
noncomputable def VC (K : PySem.W.Frag) : Sp:=fun vs H Q _=>∃ (a : Addr) (ns : List Int) (most : Nat),vs=[.ref a,.int most]∧SqL K H a (ns.map V.int)∧ns.length≤63∧most≤63∧∀ (ws os ms : List Nat) H' t pw po pm,Same H H'→CG.Good most ws os ms→H' t=some (.tup [.ref pw,.ref po,.ref pm])→H' pw=some (.lst (nV ws))→H' po=some (.lst (nV os))→H' pm=some (.lst (nV ms))→Q (.ref t) H'
theorem zaR {f : Addr} {fd Xy Xz : FuncData} (F : Fun K "_law_ground" "_law_ground" zm f fd) (T : Txt K mg a)
    (Yw : FnOk P w K mg base CX0 1 a.vm Xy ["_law_script","_law_k"] (Vx K)) (jY : Fun K "_law_cell_at" "_law_cell_at" yS a.vm Xy) (Yx : Binds K Xy ["_law_script","_law_k"] [])
    (vZ : FnOk P w K mg base CX0 1 a.jA Xz ["_law_cell","_law_k"] (VB K)) (xZ : Fun K "_law_mixed" "_law_mixed" yO a.jA Xz) (v7 : Binds K Xz ["_law_cell","_law_k"] []) : FnOk P w K mg base CX0 2 f fd ["_law_script","_law_most"] (VC K):=by
  refine F.ok zaB (fun vs H Q E h=>?_) (fun cdv A outer s H vs Q E hr h=>?_)
  · obtain ⟨a,ns,most,rfl,_⟩:=h
    rfl
  · obtain ⟨ad,ns,most,rfl,hS,hl,hmost,q⟩:=h
    refine ⟨_,(pss_cons (psN (i:=2) (sc:=defScope zm) (M:=zA) rfl rfl (by decide +kernel) (pe_op op_add pe_int (pe_op op_mod (zq (sc:=defScope zm) Yw (hr.mono (by decide)) rfl (by decide +kernel) T.Jy jY.kp Yx .nil pass0 (pa_cons (pvA 0 (defScope zm) zA rfl rfl) (pa_cons pe_int pa_nil))) pe_int)))
      (pss_cons (psN (i:=3) (sc:=defScope zm) (M:=zA) rfl rfl (by decide +kernel) (pe_lst pa_nil))
      (pss_cons (ps_for PassesOwn.never rfl (pi_range1 (glR (sc:=defScope zm) rfl (by decide +kernel)) T.yx (pa_cons (pvA 2 (defScope zm) zA rfl rfl) pa_nil)) (pgN (i:=4) (sc:=defScope zm) (M:=zA) rfl rfl (by decide +kernel)) (pss_cons (psN (i:=5) (sc:=defScope zm) (M:=zA) rfl rfl (by decide +kernel) (pe_op op_fdiv (zq (sc:=defScope zm) vZ (hr.mono (by decide)) rfl (by decide +kernel) T.ZK xZ.kp v7 .nil pass0 (pa_cons (zq (sc:=defScope zm) Yw (hr.mono (by decide)) rfl (by decide +kernel) T.Jy jY.kp Yx .nil pass0 (pa_cons (pvA 0 (defScope zm) zA rfl rfl) (pa_cons pe_int pa_nil))) (pa_cons (pvA 4 (defScope zm) zA rfl rfl) pa_nil))) pe_int))
      (pss_cons (ps_expr (pe_bm PySem.F.plainAttrs_list PySem.F.slot_list_append PySem.F.type_list_append mt_append (pvA 3 (defScope zm) zA rfl rfl) (pa_cons (pe_op op_mod (pvA 5 (defScope zm) zA rfl rfl) pe_int) pa_nil)))
      (pss_one (ps_if (PW.pt (pw_and (pt_cmpR op_eq (pvA 4 (defScope zm) zA rfl rfl) pe_int (nomark _)) (pw_and1 (pt_cmpR op_eq (pe_op op_mod (pe_op op_fdiv (pvA 5 (defScope zm) zA rfl rfl) pe_int) pe_int) pe_int (nomark _))))) (pss_one (ps_asg (pe_op op_mod (pe_op op_fdiv (pvA 5 (defScope zm) zA rfl rfl) pe_int) pe_int) (pg_sub (pvA 3 (defScope zm) zA rfl rfl) (pvA 4 (defScope zm) zA rfl rfl) set_list))) pss_nil)))))
      (pss_cons (psN (i:=6) (sc:=defScope zm) (M:=zA) rfl rfl (by decide +kernel) (pe_lst pa_nil))
      (pss_cons (psN (i:=7) (sc:=defScope zm) (M:=zA) rfl rfl (by decide +kernel) (pe_op op_rep (pe_lst (pa_cons pe_int pa_nil)) (pvA 2 (defScope zm) zA rfl rfl)))
      (pss_cons (ps_for PassesOwn.never rfl (pi_list (pe_slice sl_list (pvA 0 (defScope zm) zA rfl rfl) (po_some pe_int) (po_some (pe_op op_add pe_int (pvA 1 (defScope zm) zA rfl rfl))))) (pgN (i:=8) (sc:=defScope zm) (M:=zA) rfl rfl (by decide +kernel)) (pss_cons (psN (i:=9) (sc:=defScope zm) (M:=zA) rfl rfl (by decide +kernel) (pe_op op_shl pe_int (zo (sc:=defScope zm) call_len rfl (by decide +kernel) T.z7 z8 (pa_cons (pvA 6 (defScope zm) zA rfl rfl) pa_nil))))
      (pss_cons (ps_expr (pe_bm PySem.F.plainAttrs_list PySem.F.slot_list_append PySem.F.type_list_append mt_append (pvA 6 (defScope zm) zA rfl rfl) (pa_cons (pe_op op_add pe_int (pe_op op_mod (pe_op op_fdiv (zq (sc:=defScope zm) vZ (hr.mono (by decide)) rfl (by decide +kernel) T.ZK xZ.kp v7 .nil pass0 (pa_cons (pvA 8 (defScope zm) zA rfl rfl) (pa_cons pe_int pa_nil))) pe_int) pe_int)) pa_nil)))
      (JN (ps_if (pt_cmpR op_eq (pe_op op_mod (pe_op op_fdiv (zq (sc:=defScope zm) vZ (hr.mono (by decide)) rfl (by decide +kernel) T.ZK xZ.kp v7 .nil pass0 (pa_cons (pvA 8 (defScope zm) zA rfl rfl) (pa_cons pe_int pa_nil))) pe_int) pe_int) pe_int (nomark _)) (pss_one (ps_asg (pe_op op_add pe_int (pe_op op_mod (pe_op op_fdiv (zq (sc:=defScope zm) vZ (hr.mono (by decide)) rfl (by decide +kernel) T.ZK xZ.kp v7 .nil pass0 (pa_cons (pvA 8 (defScope zm) zA rfl rfl) (pa_cons pe_int pa_nil))) pe_int) pe_int)) (pg_sub (pvA 6 (defScope zm) zA rfl rfl) (pe_un un_neg pe_int) set_list))) pss_nil)
      (pss_cons (psN (i:=10) (sc:=defScope zm) (M:=zA) rfl rfl (by decide +kernel) (pe_op op_fdiv (zq (sc:=defScope zm) vZ (hr.mono (by decide)) rfl (by decide +kernel) T.ZK xZ.kp v7 .nil pass0 (pa_cons (pvA 8 (defScope zm) zA rfl rfl) (pa_cons pe_int pa_nil))) pe_int))
      (pss_one (ps_for PassesOwn.never rfl (pi_range1 (glR (sc:=defScope zm) rfl (by decide +kernel)) T.yx (pa_cons (pvA 2 (defScope zm) zA rfl rfl) pa_nil)) (pgN (i:=4) (sc:=defScope zm) (M:=zA) rfl rfl (by decide +kernel)) (pss_cons (ps_asg (pe_op op_add (pe_ix ix_list (pvA 7 (defScope zm) zA rfl rfl) (pvA 4 (defScope zm) zA rfl rfl) (fun _ _=>rfl)) (pe_op op_mul (pvA 9 (defScope zm) zA rfl rfl) (pe_op op_mod (pvA 10 (defScope zm) zA rfl rfl) pe_int))) (pg_sub (pvA 7 (defScope zm) zA rfl rfl) (pvA 4 (defScope zm) zA rfl rfl) set_list))
      (pss_one (psN (i:=10) (sc:=defScope zm) (M:=zA) rfl rfl (by decide +kernel) (pe_op op_fdiv (pvA 10 (defScope zm) zA rfl rfl) pe_int)))))))))))
      (pss_one (ps_ret (pe_tup (pa_cons (pvA 3 (defScope zm) zA rfl rfl) (pa_cons (pvA 6 (defScope zm) zA rfl rfl) (pa_cons (pvA 7 (defScope zm) zA rfl rfl) pa_nil)))))))))))),?_⟩
    have hs : sizeLine=16777216:=sizeLine_eq
    refine ⟨_,rfl,ad,ns,0,rfl,hS,hl,by decide,_,_,rfl,rfl,(by show (0 : Int) < 6; decide),_,_,rfl,rfl,?_⟩
    obtain ⟨pl,hpl⟩ : ∃ pl : Nat,1 + yT ns 0 % 6=(pl : Int):=⟨(1 + yT ns 0 % 6).toNat,by omega⟩
    have hpl1 : 1≤pl:=by omega
    have hpl6 : pl≤6:=by omega
    rw [show (fun i j : Int=>V.int (i + j)) 1 (yT ns 0 % 6)=V.int (pl : Nat) from congrArg V.int hpl]
    refine ⟨by first | decide | (simp only [List.length_cons,List.length_nil,List.length_append,List.length_map]; decide),fun pw hpw=>?_⟩
    have s1:=Same.zp (o := .lst []) hpw
    refine ⟨_,rfl,_,rfl,by omega,by omega,?_⟩
    rw [Int.toNat_natCast]
    refine for_range (fun i σ H'=>(∃ v1 v2,σ=[some (.ref ad),some (.int most),some (.int (pl : Nat)),some (.ref pw),v1,v2,none,none,none,none,none])∧Same H H'∧∃ ws : List Nat,ws.length=i∧(∀ w∈ws,w≤60)∧(∀ (k w : Nat),ws[k]?=some w→1≤k→w≤3)∧H' pw=some (.lst (nV ws))) ⟨⟨_,_,rfl⟩,s1,[],rfl,(fun _ h=>nomatch h),(fun _ _ h=>nomatch h),upd_same⟩ ?_ ?_
    · rintro i σ H' hi ⟨⟨v1,v2,rfl⟩,sx,ws,lw,bw,tw,ew⟩
      rw [show (0 : Int) + (i : Nat)=(i : Nat) by omega]
      refine ⟨_,rfl,ad,ns,1,rfl,sx.seq hS,hl,by decide,_,rfl,_,_,rfl,by omega,by omega,_,_,rfl,rfl,⟨by decide,by decide⟩,?_⟩
      obtain ⟨sm,hsm⟩ : ∃ sm : Nat,wL (yT ns 1) i / 3=(sm : Int):=⟨(wL (yT ns 1) i / 3).toNat,by have:=zb8 (yT ns 1) i; omega⟩
      rw [show (fun i j : Int=>V.int (i / j)) (wL (yT ns 1) i) 3=V.int (sm : Nat) from congrArg V.int hsm]
      obtain ⟨r4,hr4⟩ : ∃ r : Nat,(sm : Int) % 4=(r : Int):=⟨((sm : Int) % 4).toNat,by omega⟩
      refine ⟨_,rfl,.inl ⟨rfl,_,SqL.of ew⟩,_,rfl,_,_,rfl,rfl,(by show (0 : Int) < 4; decide),pw,_,_,rfl,rfl,ew,(by unfold nV; rw [List.length_map]; omega),?_⟩
      rw [show (fun i j : Int=>V.int (i % j)) (sm : Nat) 4=V.int (r4 : Nat) from congrArg V.int hr4,show nV ws ++ [V.int (r4 : Nat)]=nV (ws ++ [r4]) by unfold nV; rw [List.map_append]; rfl]
      have sx2 : Same H (upd H' pw (.lst (nV (ws ++ [r4])))):=zT sx hpw
      have done : ∃ ws' : List Nat,ws'.length=i + 1∧(∀ w∈ws',w≤60)∧(∀ (k w : Nat),ws'[k]?=some w→1≤k→w≤3)∧upd H' pw (.lst (nV (ws ++ [r4]))) pw=some (.lst (nV ws')) :=
        ⟨ws ++ [r4],by rw [List.length_append,lw]; rfl,fun x hx=>by
          rcases List.mem_append.mp hx with h | h
          · exact bw x h
          · rw [List.mem_singleton.mp h]; omega,fun k x hk h1=>by
          by_cases hkl : k < ws.length
          · rw [List.getElem?_append_left hkl] at hk
            exact tw k x hk h1
          · rw [List.getElem?_append_right (by omega)] at hk
            have hlt:=(List.getElem?_eq_some_iff.mp hk).1
            rw [List.length_singleton] at hlt
            rw [show k - ws.length=0 by omega] at hk
            obtain rfl:=Option.some.inj hk
            omega,upd_same⟩
      refine ⟨_,rfl,rfl,_,rfl,ite2 (fun h0=>?_) (fun h0=>⟨⟨_,_,rfl⟩,sx2,done⟩)⟩
      refine ⟨_,rfl,_,_,rfl,rfl,⟨by decide,by decide⟩,_,_,rfl,rfl,(by show (0 : Int) < 9; decide),rfl,_,rfl,ite2 (fun h1=>?_) (fun h1=>⟨⟨_,_,rfl⟩,sx2,done⟩)⟩
      have h0':=V.int.inj (of_decide_eq_true h0)
      obtain rfl : i=0:=by omega
      obtain rfl : ws=[]:=List.eq_nil_of_length_eq_zero lw
      obtain ⟨r5,hr5⟩ : ∃ r : Nat,(sm : Int) / 36 % 61=(r : Int):=⟨((sm : Int) / 36 % 61).toNat,by omega⟩
      refine ⟨_,rfl,_,_,rfl,rfl,⟨by decide,by decide⟩,_,_,rfl,rfl,(by show (0 : Int) < 61; decide),_,rfl,_,rfl,pw,_,_,0,rfl,rfl,upd_same,rfl,⟨_,_,rfl⟩,zT sx2 hpw,[r5],rfl,(fun x hx=>by rw [List.mem_singleton.mp hx]; omega),(fun k x hk h1=>by cases k with | zero=>omega | succ k=>cases hk),?_⟩
      rw [upd_same,show (fun i j : Int=>V.int (i % j)) ((sm : Int) / 36) 61=V.int (r5 : Nat) from congrArg V.int hr5]
      rfl
    rintro σ H1 ⟨⟨v1,v2,rfl⟩,sH1,ws,lw,bw,tw,ew⟩
    refine ⟨by first | decide | (simp only [List.length_cons,List.length_nil,List.length_append,List.length_map]; decide),fun po hpo=>?_⟩
    have s2:=Same.zp (o := .lst []) hpo
    have ew2:=s2 _ _ ew
    have eo2 : upd H1 po (.lst []) po=some (.lst []):=upd_same
    have sH2:=sH1.trans s2
    have npo:=sH1.free hpo
    generalize upd H1 po (.lst [])=H2 at s2 ew2 eo2 sH2 ⊢
    refine ⟨by first | decide | (simp only [List.length_cons,List.length_nil,List.length_append,List.length_map]; decide),fun pz hpz=>⟨_,rfl,pz,_,_,rfl,rfl,upd_same,by omega,by omega,?_,fun pm hpm=>?_⟩⟩
    · rw [Int.toNat_natCast]
      show 1 * pl≤sizeLine
      omega
    rw [Int.toNat_natCast,Zp]
    have s3:=(Same.zp (o := .lst [.int 0]) hpz).trans (Same.zp (o := .lst (nV (List.replicate pl 0))) hpm)
    have WO : H2 pm=none:=(Same.zp (o := .lst [.int 0]) hpz).free hpm
    have em3 : upd (upd H2 pz (.lst [.int 0])) pm (.lst (nV (List.replicate pl 0))) pm=some (.lst (nV (List.replicate pl 0))):=upd_same
    have ew3:=s3 _ _ ew2
    have eo3:=s3 _ _ eo2
    have sH3:=sH2.trans s3
    have npm:=sH2.free WO
    have nom : po≠pm:=ne_of_none eo2 WO
    have nwm : pw≠pm:=ne_of_none ew2 WO
    have nwo : pw≠po:=ne_of_none ew hpo
    generalize upd (upd H2 pz (.lst [.int 0])) pm (.lst (nV (List.replicate pl 0)))=H3 at s3 em3 ew3 eo3 sH3 ⊢
    clear hpz s3 s2 eo2 ew2 sH2 sH1 WO s1 hpm
    refine ⟨_,rfl,_,rfl,_,rfl,_,_,rfl,rfl,_,rfl,ad,_,rfl,sH3.seq hS,fun p2 hp2=>⟨p2,rfl,⟨_,SqL.of upd_same⟩,?_⟩⟩
    obtain ⟨zs,hzs⟩ : ∃ zs,zs=(ns.drop 3).take most:=⟨_,rfl⟩
    have lzs : zs.length≤most:=by rw [hzs,List.length_take]; omega
    have ec : cutV (ns.map V.int) (some 3) (some (3 + (most : Nat)))=zs.map V.int:=by
      have:=VQ (xs:=ns.map V.int) 3 (3 + most)
      rw [show ((3 + most : Nat) : Int)=3 + (most : Nat) by omega,show 3 + most - 3=most by omega] at this
      rw [hzs,List.map_take,List.map_drop]
      exact this
    rw [ec]
    have sH4:=sH3.trans (Same.zp (o := .lst (zs.map V.int)) hp2)
    have ew4:=Same.zp (o := .lst (zs.map V.int)) hp2 _ _ ew3
    have eo4:=Same.zp (o := .lst (zs.map V.int)) hp2 _ _ eo3
    have em4:=Same.zp (o := .lst (zs.map V.int)) hp2 _ _ em3
    have e24 : upd H3 p2 (.lst (zs.map V.int)) p2=some (.lst (zs.map V.int)):=upd_same
    have n2o : p2≠po:=(ne_of_none eo3 hp2).symm
    have n2m : p2≠pm:=(ne_of_none em3 hp2).symm
    generalize upd H3 p2 (.lst (zs.map V.int))=H4 at sH4 ew4 eo4 em4 e24 ⊢
    clear sH3 ew3 eo3 em3 hp2 ec
    refine for_list (xs:=zs.map V.int) (fun i σ H'=>(∃ u1 u2 u3 u4 u5,σ=[some (.ref ad),some (.int most),some (.int (pl : Nat)),some (.ref pw),u1,u2,some (.ref po),some (.ref pm),u3,u4,u5])∧Same H H'∧H' pw=some (.lst (nV ws))∧H' p2=some (.lst (zs.map V.int))∧∃ os ms : List Nat,os.length=i∧ms.length=pl∧(∀ o∈os,1≤o∧o≤9)∧(∀ m∈ms,m < 2 ^ os.length)∧H' po=some (.lst (nV os))∧H' pm=some (.lst (nV ms))) ⟨⟨_,_,_,_,_,rfl⟩,sH4,ew4,e24,[],List.replicate pl 0,rfl,List.length_replicate,(fun _ h=>nomatch h),(fun m hm=>by rw [List.eq_of_mem_replicate hm]; decide),eo4,em4⟩ ?_ ?_ ?_
    · rintro i σ H' _ ⟨_,_,_,e,_⟩
      exact SqL.of e
    · rintro i x σ H5 hx ⟨⟨u1,u2,u3,u4,u5,rfl⟩,sH5,ew5,e25,os,ms,lo,lm,bo,bm,eo5,em5⟩
      rw [List.getElem?_map] at hx
      obtain ⟨z,hz,rfl⟩:=Option.map_eq_some_iff.mp hx
      have hi : i < zs.length:=(List.getElem?_eq_some_iff.mp hz).1
      refine ⟨_,rfl,.ref po,os.length,rfl,.inl ⟨_,SqL.of eo5,by unfold nV; rw [List.length_map]⟩,_,_,rfl,rfl,⟨by omega,by omega,by decide⟩,?_⟩
      rw [show (fun i j : Int=>V.int (i * 2 ^ j.toNat)) 1 (os.length : Nat)=V.int ((2 ^ os.length : Nat) : Int) by show V.int (1 * 2 ^ ((os.length : Nat) : Int).toNat)=_; rw [Int.one_mul,Int.toNat_natCast,CB.wo]]
      obtain ⟨o1,ho1⟩ : ∃ o : Nat,1 + wL z 2 / 5 % 3=(o : Int):=⟨(1 + wL z 2 / 5 % 3).toNat,by omega⟩
      refine ⟨_,rfl,.inl ⟨rfl,_,SqL.of eo5⟩,_,rfl,z,2,rfl,by decide,by decide,_,_,rfl,rfl,⟨by decide,by decide⟩,_,_,rfl,rfl,(by show (0 : Int) < 3; decide),_,_,rfl,rfl,po,_,_,rfl,rfl,eo5,(by rw [zD]; omega),?_⟩
      rw [show (fun i j : Int=>V.int (i + j)) 1 (wL z 2 / 5 % 3)=V.int (o1 : Nat) from congrArg V.int ho1,X8]
      have bo1 : ∀ o∈os ++ [o1],1≤o∧o≤9:=fun x hx=>by
        rcases List.mem_append.mp hx with h | h
        · exact bo x h
        · rw [List.mem_singleton.mp h]; omega
      have sH6 : Same H (upd H5 po (.lst (nV (os ++ [o1])))):=zT sH5 npo
      have ew6 : upd H5 po (.lst (nV (os ++ [o1]))) pw=some (.lst (nV ws)):=(upd_ne nwo).trans ew5
      have e26 : upd H5 po (.lst (nV (os ++ [o1]))) p2=some (.lst (zs.map V.int)):=(upd_ne n2o).trans e25
      have em6 : upd H5 po (.lst (nV (os ++ [o1]))) pm=some (.lst (nV ms)):=(upd_ne nom.symm).trans em5
      have eo6 : upd H5 po (.lst (nV (os ++ [o1]))) po=some (.lst (nV (os ++ [o1]))):=upd_same
      generalize upd H5 po (.lst (nV (os ++ [o1])))=H6 at sH6 ew6 e26 em6 eo6 ⊢
      refine ⟨fun σ' H'=>(∃ u5,σ'=[some (.ref ad),some (.int most),some (.int (pl : Nat)),some (.ref pw),u1,u2,some (.ref po),some (.ref pm),some (.int z),some (.int ((2 ^ os.length : Nat) : Int)),u5])∧Same H H'∧H' pw=some (.lst (nV ws))∧H' p2=some (.lst (zs.map V.int))∧H' pm=some (.lst (nV ms))∧∃ os' : List Nat,os'.length=os.length + 1∧(∀ o∈os',1≤o∧o≤9)∧H' po=some (.lst (nV os')),?_,?_⟩
      · refine ⟨_,rfl,z,3,rfl,by decide,by decide,_,_,rfl,rfl,⟨by decide,by decide⟩,_,_,rfl,rfl,(by show (0 : Int) < 8; decide),rfl,_,rfl,ite2 (fun h1=>?_) (fun h1=>⟨⟨_,rfl⟩,sH6,ew6,e26,em6,os ++ [o1],by rw [List.length_append]; rfl,bo1,eo6⟩)⟩
        obtain ⟨o2,ho2⟩ : ∃ o : Nat,1 + wL z 4 / 5 % 9=(o : Int):=⟨(1 + wL z 4 / 5 % 9).toNat,by omega⟩
        refine ⟨_,rfl,z,4,rfl,by decide,by decide,_,_,rfl,rfl,⟨by decide,by decide⟩,_,_,rfl,rfl,(by show (0 : Int) < 9; decide),_,_,rfl,rfl,_,rfl,_,rfl,po,_,_,os.length,rfl,rfl,eo6,by rw [zD,List.length_append]; exact V6 _,?_⟩
        rw [show (fun i j : Int=>V.int (i + j)) 1 (wL z 4 / 5 % 9)=V.int (o2 : Nat) from congrArg V.int ho2,xR]
        refine ⟨⟨_,rfl⟩,zT sH6 npo,(upd_ne nwo).trans ew6,(upd_ne n2o).trans e26,(upd_ne nom.symm).trans em6,_,by rw [List.length_set,List.length_append]; rfl,fun x hx=>?_,upd_same⟩
        rcases List.mem_or_eq_of_mem_set hx with h | h
        · exact bo1 x h
        · rw [h]; omega
      rintro σ' H7 ⟨⟨u6,rfl⟩,sH7,ew7,e27,em7,os',lo',bo',eo7⟩
      refine ⟨_,rfl,z,1,rfl,by decide,by decide,_,_,rfl,rfl,⟨by decide,by decide⟩,?_⟩
      refine ⟨_,rfl,_,rfl,by omega,by omega,?_⟩
      rw [Int.toNat_natCast]
      refine for_range (fun j σ H'=>(∃ v1 l,σ=[some (.ref ad),some (.int most),some (.int (pl : Nat)),some (.ref pw),v1,u2,some (.ref po),some (.ref pm),some (.int z),some (.int ((2 ^ os.length : Nat) : Int)),some (.int l)])∧Same H H'∧H' pw=some (.lst (nV ws))∧H' p2=some (.lst (zs.map V.int))∧H' po=some (.lst (nV os'))∧∃ ms' : List Nat,ms'.length=pl∧(∀ m∈ms',m < 2 ^ (os.length + 1))∧(∀ k m,ms'[k]?=some m→j≤k→m < 2 ^ os.length)∧H' pm=some (.lst (nV ms'))) ⟨⟨_,_,rfl⟩,sH7,ew7,e27,eo7,ms,lm,?_,?_,em7⟩ ?_ ?_
      · exact fun m hm=>Nat.lt_of_lt_of_le (bm m hm) (Nat.pow_le_pow_right (by decide) (Nat.le_succ _))
      · exact fun k m e _=>bm m (List.mem_of_getElem? e)
      · rintro j σ H8 hj ⟨⟨v1,l,rfl⟩,sH8,ew8,e28,eo8,ms',lm',bm1,bm2,em8⟩
        rw [show (0 : Int) + (j : Nat)=(j : Nat) by omega]
        have hj' : j < ms'.length:=by omega
        obtain ⟨r,hr⟩ : ∃ r : Nat,l % 2=(r : Int):=⟨(l % 2).toNat,by omega⟩
        have hr2 : r < 2:=by omega
        refine ⟨_,rfl,_,rfl,pm,_,_,_,rfl,rfl,SqL.of em8,yf hj',_,rfl,_,rfl,_,_,rfl,rfl,(by show (0 : Int) < 2; decide),_,_,rfl,rfl,.inr ⟨?_,?_⟩,_,_,rfl,rfl,_,rfl,_,rfl,pm,_,_,j,rfl,rfl,em8,by rw [zD]; exact xG hj',?_⟩
        · show (-(2 ^ 64) : Int) < l % 2
          omega
        · show l % 2 < (2 ^ 64 : Int)
          omega
        rw [show (fun i j : Int=>V.int (i + j)) (ms'.getD j 0 : Nat) (((2 ^ os.length : Nat) : Int) * (l % 2))=V.int ((ms'.getD j 0 + 2 ^ os.length * r : Nat) : Int) by show V.int ((ms'.getD j 0 : Nat) + ((2 ^ os.length : Nat) : Int) * (l % 2))=_; rw [hr,Int.natCast_add,Int.natCast_mul],xR]
        have hm0:=getD_at hj'
        refine ⟨_,rfl,_,_,rfl,rfl,⟨by decide,by decide⟩,⟨_,_,rfl⟩,zT sH8 npm,(upd_ne nwm).trans ew8,(upd_ne n2m).trans e28,(upd_ne nom).trans eo8,_,by rw [List.length_set]; exact lm',fun m hm=>?_,fun k m e hk=>?_,upd_same⟩
        · rcases List.mem_or_eq_of_mem_set hm with h | h
          · exact bm1 m h
          · rw [h]
            exact CG.VS (bm2 j _ hm0 (Nat.le_refl _)) hr2
        · rcases CG.take_set hm0 k m e with ⟨h,_⟩ | ⟨_,h⟩
          · omega
          · exact bm2 k m h (by omega)
      rintro σ H8 ⟨⟨v1,l,rfl⟩,sH8,ew8,e28,eo8,ms',lm',bm1,bm2,em8⟩
      exact ⟨⟨_,_,_,_,_,rfl⟩,sH8,ew8,e28,os',ms',by omega,lm',bo',by rw [lo']; exact bm1,eo8,em8⟩
    rintro σ H5 ⟨⟨u1,u2,u3,u4,u5,rfl⟩,sH5,ew5,e25,os,ms,lo,lm,bo,bm,eo5,em5⟩
    rw [List.length_map] at lo
    refine ⟨_,rfl,_,rfl,_,rfl,by first | decide | (simp only [List.length_cons,List.length_nil,List.length_append,List.length_map]; decide),fun t ht=>?_⟩
    have s6:=Same.zp (o := .tup [.ref pw,.ref po,.ref pm]) ht
    exact q ws os ms _ t pw po pm (sH5.trans s6) ⟨by rw [lw,lm],by omega,by omega,by omega,bw,tw,bo,bm⟩ upd_same (s6 _ _ ew5) (s6 _ _ eo5) (s6 _ _ em5)
noncomputable def VD (K : PySem.W.Frag) : Sp:=fun vs H Q _=>∃ (pp pw po pm : Addr) (xs : List V) (ps : List CP.Pr) (ws os ms : List Nat),vs=[.ref pp,.ref pw,.ref po,.ref pm]∧H pp=some (.lst xs)∧zd K H xs (ps.map CP.pairD)∧SqL K H pw (nV ws)∧SqL K H po (nV os)∧SqL K H pm (nV ms)∧ws.length=ms.length∧os.length≤1000∧ws.length≤1000∧∀ H',Same H H'→Q (.bl (CP.yz ps ws os ms)) H'
theorem XA {B C : Prop} (h : B) (k : B→C) : C:=k h
theorem WQ {ps : List CP.Pr} {ws os ms : List Nat} {i : Nat} (hi : i + 1 < ps.length) (h : CP.ya (CP.at' ps i) (CP.at' ps (i + 1))=false) : CP.yz ps ws os ms=false:=by
  unfold CP.yz
  have : CP.yo ps=false:=Bool.eq_false_iff.mpr fun z=>by
    have:=CP.yZ.mp z i hi
    rw [h] at this
    cases this
  rw [this,Bool.false_and]
theorem jF {ps : List CP.Pr} {ws os ms : List Nat} {q : CP.Pr} (hq : q∈ps) (h : CP.xH os ms q.1 q.2=false) : CP.yz ps ws os ms=false:=by
  unfold CP.yz
  have : CP.Zy ps os ms=false:=Bool.eq_false_iff.mpr fun z=>by
    have:=CP.Zf.mp z q hq
    rw [h] at this
    cases this
  rw [this,Bool.false_and,Bool.and_false]
structure xu (ps : List CP.Pr) (os ms : List Nat) (ws : List Nat) (i : Nat) (wc pc : List Nat) : Prop where
  rise : ∀ j,j + 1 < i→CP.ya (CP.at' ps j) (CP.at' ps (j + 1))=true
  fit : ∀ j,j < i→CP.xH os ms (CP.at' ps j).1 (CP.at' ps j).2=true
  lw : wc.length=os.length
  lp : pc.length=ws.length
  cw : ∀ k,k < os.length→wc.getD k 0=((ps.take i).map Prod.fst).count ((k : Nat) : Int)
  cp : ∀ k,k < ws.length→pc.getD k 0=((ps.take i).map Prod.snd).count ((k : Nat) : Int)
theorem xu.zero (ps : List CP.Pr) (os ms ws : List Nat) : xu ps os ms ws 0 (List.replicate os.length 0) (List.replicate ws.length 0) :=
  ⟨fun j h=>absurd h (Nat.not_lt_zero _),fun j h=>absurd h (Nat.not_lt_zero _),List.length_replicate,List.length_replicate,fun k hk=>by rw [List.getD_eq_getElem?_getD,List.getElem?_replicate,if_pos hk]; rfl,fun k hk=>by rw [List.getD_eq_getElem?_getD,List.getElem?_replicate,if_pos hk]; rfl⟩
theorem xu.step {ps : List CP.Pr} {os ms ws : List Nat} {i : Nat} {wc pc : List Nat} (h : xu ps os ms ws i wc pc) {p : CP.Pr} (hp : ps[i]?=some p) {a b : Nat} (ea : p.1=(a : Int)) (eb : p.2=(b : Int)) (ha : a < os.length) (hb : b < ws.length) (hr : 0 < i→CP.ya (CP.at' ps (i - 1)) p=true) (hf : CP.xH os ms p.1 p.2=true) :
    xu ps os ms ws (i + 1) (wc.set a (wc.getD a 0 + 1)) (pc.set b (pc.getD b 0 + 1)):=by
  have hpa:=CP.at_of hp
  refine ⟨fun j hj=>?_,fun j hj=>?_,by rw [List.length_set]; exact h.lw,by rw [List.length_set]; exact h.lp,fun k hk=>?_,fun k hk=>?_⟩
  · by_cases e : j + 1 < i
    · exact h.rise j e
    · have e' : j + 1=i:=by omega
      have:=hr (by omega)
      rw [show i - 1=j by omega] at this
      rw [e',hpa]
      exact this
  · by_cases e : j < i
    · exact h.fit j e
    · obtain rfl : j=i:=by omega
      rw [hpa]
      exact hf
  · rw [CP.yK _ _ _ _ (by rw [h.lw]; exact ha),CP.wU hp Prod.fst,← h.cw k hk,ea]
    by_cases e : k=a
    · subst e; rw [if_pos rfl,if_pos rfl]
    · rw [if_neg e,if_neg (by omega)]; rfl
  · rw [CP.yK _ _ _ _ (by rw [h.lp]; exact hb),CP.wU hp Prod.snd,← h.cp k hk,eb]
    by_cases e : k=b
    · subst e; rw [if_pos rfl,if_pos rfl]
    · rw [if_neg e,if_neg (by omega)]; rfl
theorem xu.all {ps : List CP.Pr} {os ms ws : List Nat} {wc pc : List Nat} (h : xu ps os ms ws ps.length wc pc) : CP.yz ps ws os ms=(CP.yR (ps.map Prod.fst) os && CP.yR (ps.map Prod.snd) ws):=by
  unfold CP.yz
  have h1 : CP.yo ps=true:=CP.yZ.mpr h.rise
  have h2 : CP.Zy ps os ms=true:=CP.Zf.mpr fun q hq=>by
    obtain ⟨j,hj,rfl⟩:=List.getElem_of_mem hq
    have:=h.fit j hj
    rw [CP.at_of (List.getElem?_eq_getElem hj)] at this
    exact this
  rw [h1,h2,Bool.true_and,Bool.true_and]
theorem zaS {f : Addr} {fd wM : FuncData} (F : Fun K "_law_dealing" "_law_dealing" zh f fd) (T : Txt K mg a)
    (jZ : FnOk P w K mg base CX0 1 a.vD wM ["_law_masks","_law_work","_law_place"] (Xx K)) (vc : Fun K "_law_fit" "_law_fit" xq a.vD wM) (j0 : Binds K wM ["_law_masks","_law_work","_law_place"] []) : FnOk P w K mg base CX0 2 f fd ["_law_pairs","_law_wants","_law_oftens","_law_masks"] (VD K):=by
  refine F.ok zaD (fun vs H Q E h=>?_) (fun cdv A outer s H vs Q E hr h=>?_)
  · obtain ⟨pp,pw,po,pm,xs,ps,ws,os,ms,rfl,_⟩:=h
    rfl
  · obtain ⟨pp,pw,po,pm,xs,ps,ws,os,ms,rfl,ep,hA,hw,ho,hm,hlen,l2,l3,q⟩:=h
    refine ⟨_,(pss_cons (ps_if (pt_not (pt_val (zo (sc:=defScope zh) yr rfl (by decide +kernel) T.zG zS (pa_cons (pvA 0 (defScope zh) zB rfl rfl) (pa_cons (yF (v:=V.ty "list") (sc:=defScope zh) rfl (by decide +kernel) T.yq yG rfl) pa_nil))))) (pss_one (ps_ret pe_bl)) pss_nil)
      (pss_cons (psN (i:=4) (sc:=defScope zh) (M:=zB) rfl rfl (by decide +kernel) (pe_op op_rep (pe_lst (pa_cons pe_int pa_nil)) (zo (sc:=defScope zh) call_len rfl (by decide +kernel) T.z7 z8 (pa_cons (pvA 2 (defScope zh) zB rfl rfl) pa_nil))))
      (pss_cons (psC (i:=5) (sc:=defScope zh) (M:=zB) rfl rfl rfl (by decide +kernel) (pe_op op_rep (pe_lst (pa_cons pe_int pa_nil)) (zo (sc:=defScope zh) call_len rfl (by decide +kernel) T.z7 z8 (pa_cons (pvA 1 (defScope zh) zB rfl rfl) pa_nil))))
      (pss_cons (psN (i:=6) (sc:=defScope zh) (M:=zB) rfl rfl (by decide +kernel) pe_non)
      (pss_cons (ps_for PassesOwn.never rfl (pi_list (pvA 0 (defScope zh) zB rfl rfl)) (pgN (i:=7) (sc:=defScope zh) (M:=zB) rfl rfl (by decide +kernel)) (pss_cons (ps_if (PW.pt (pw_or (pt_not (pt_val (zo (sc:=defScope zh) yr rfl (by decide +kernel) T.zG zS (pa_cons (pvA 7 (defScope zh) zB rfl rfl) (pa_cons (yF (v:=V.ty "tuple") (sc:=defScope zh) rfl (by decide +kernel) T.wg YO rfl) pa_nil))))) (pw_or1 (pt_cmpR op_ne (zo (sc:=defScope zh) call_len rfl (by decide +kernel) T.z7 z8 (pa_cons (pvA 7 (defScope zh) zB rfl rfl) pa_nil)) pe_int (nomark _))))) (pss_one (ps_ret pe_bl)) pss_nil)
      (pss_cons (ps_for PassesOwn.never rfl (pi_tup (pvA 7 (defScope zh) zB rfl rfl)) (pgN (i:=8) (sc:=defScope zh) (M:=zB) rfl rfl (by decide +kernel)) (pss_one (ps_if (PW.pt (pw_or (pt_not (pt_val (zo (sc:=defScope zh) yr rfl (by decide +kernel) T.zG zS (pa_cons (pvA 8 (defScope zh) zB rfl rfl) (pa_cons (yF (v:=V.ty "int") (sc:=defScope zh) rfl (by decide +kernel) T.wZ Zu rfl) pa_nil))))) (pw_or1 (pt_val (zo (sc:=defScope zh) yr rfl (by decide +kernel) T.zG zS (pa_cons (pvA 8 (defScope zh) zB rfl rfl) (pa_cons (yF (v:=V.ty "bool") (sc:=defScope zh) rfl (by decide +kernel) T.wG ZS rfl) pa_nil))))))) (pss_one (ps_ret pe_bl)) pss_nil)))
      (pss_cons (ps_if (PW.pt (pw_and (pt_cmpR op_notN (pvA 6 (defScope zh) zB rfl rfl) pe_non (nomark _)) (pw_and1 (pt_not (pt_cmpR (op_ltT (L12.hu0 hr)) (pvA 6 (defScope zh) zB rfl rfl) (pvA 7 (defScope zh) zB rfl rfl) (nomark _)))))) (pss_one (ps_ret pe_bl)) pss_nil)
      (pss_cons (psN (i:=6) (sc:=defScope zh) (M:=zB) rfl rfl (by decide +kernel) (pvA 7 (defScope zh) zB rfl rfl))
      (pss_cons (ps_if (PW.pt (pw_or (pt_not (pt_chain op_le op_lt pe_int (pe_ix ix_tup (pvA 7 (defScope zh) zB rfl rfl) pe_int (fun _ _=>rfl)) (zo (sc:=defScope zh) call_len rfl (by decide +kernel) T.z7 z8 (pa_cons (pvA 4 (defScope zh) zB rfl rfl) pa_nil)))) (pw_or1 (pt_not (pt_chain op_le op_lt pe_int (pe_ix ix_tup (pvA 7 (defScope zh) zB rfl rfl) pe_int (fun _ _=>rfl)) (zo (sc:=defScope zh) call_len rfl (by decide +kernel) T.z7 z8 (pa_cons (pvA 5 (defScope zh) zB rfl rfl) pa_nil))))))) (pss_one (ps_ret pe_bl)) pss_nil)
      (pss_cons (ps_if (pt_not (pt_val (zq (sc:=defScope zh) jZ (hr.mono (by decide)) rfl (by decide +kernel) T.Jz vc.kp j0 .nil pass0 (pa_cons (pvA 3 (defScope zh) zB rfl rfl) (pa_cons (pe_ix ix_tup (pvA 7 (defScope zh) zB rfl rfl) pe_int (fun _ _=>rfl)) (pa_cons (pe_ix ix_tup (pvA 7 (defScope zh) zB rfl rfl) pe_int (fun _ _=>rfl)) pa_nil)))))) (pss_one (ps_ret pe_bl)) pss_nil)
      (pss_cons (ps_asg (pe_op op_add (pe_ix ix_list (pvA 4 (defScope zh) zB rfl rfl) (pe_ix ix_tup (pvA 7 (defScope zh) zB rfl rfl) pe_int (fun _ _=>rfl)) (fun _ _=>rfl)) pe_int) (pg_sub (pvA 4 (defScope zh) zB rfl rfl) (pe_ix ix_tup (pvA 7 (defScope zh) zB rfl rfl) pe_int (fun _ _=>rfl)) set_list))
      (pss_one (ps_asg (pe_op op_add (pe_ix ix_list (pvA 5 (defScope zh) zB rfl rfl) (pe_ix ix_tup (pvA 7 (defScope zh) zB rfl rfl) pe_int (fun _ _=>rfl)) (fun _ _=>rfl)) pe_int) (pg_sub (pvA 5 (defScope zh) zB rfl rfl) (pe_ix ix_tup (pvA 7 (defScope zh) zB rfl rfl) pe_int (fun _ _=>rfl)) set_list)))))))))))
      (pss_cons (ps_for PassesOwn.never rfl (pi_range1 (glR (sc:=defScope zh) rfl (by decide +kernel)) T.yx (pa_cons (zo (sc:=defScope zh) call_len rfl (by decide +kernel) T.z7 z8 (pa_cons (pvA 4 (defScope zh) zB rfl rfl) pa_nil)) pa_nil)) (pgN (i:=9) (sc:=defScope zh) (M:=zB) rfl rfl (by decide +kernel)) (pss_one (ps_if (pt_cmpR op_gt (pe_ix ix_list (pvA 4 (defScope zh) zB rfl rfl) (pvA 9 (defScope zh) zB rfl rfl) (fun _ _=>rfl)) (pe_ix ix_list (pvA 2 (defScope zh) zB rfl rfl) (pvA 9 (defScope zh) zB rfl rfl) (fun _ _=>rfl)) (nomark _)) (pss_one (ps_ret pe_bl)) pss_nil)))
      (pss_one (ps_ret (pe_cmpR (Zt (n:=60) (YS hr)) (vq rfl (N:=["_law_k","_law_places","_law_wants"]) (own:=1) (js:=[5,1]) (X:=(cxOf CX0 P w K mg base zB "_law_dealing" (defScope zh) f cdv A outer s H E).nox) (vp (defScope zh) zB rfl rfl (by decide +kernel)) (pi_range1 (glR (sc:=defScope zh) rfl (by decide +kernel)) T.yx (pa_cons (zo (sc:=defScope zh) call_len rfl (by decide +kernel) T.z7 z8 (pa_cons (pvA 5 (defScope zh) zB rfl rfl) pa_nil)) pa_nil)) (fun fp0 sx0 Hx0=>(pgN (i:=0) (sc:=zC _ (defScope zh)) (M:=["_law_k","_law_places","_law_wants"]) rfl rfl (by decide +kernel))) (fun fp0 sx0 Hx0=>(vF (pt_cmpR op_gt (pe_ix (kIx (r:=rIxL) (K:=K) rfl ix_list) (pvN (i:=1) (sc:=zC _ (defScope zh)) (M:=["_law_k","_law_places","_law_wants"]) rfl rfl (by decide +kernel)) (pvN (i:=0) (sc:=zC _ (defScope zh)) (M:=["_law_k","_law_places","_law_wants"]) rfl rfl (by decide +kernel)) (fun _ _=>rfl)) (pe_ix (kIx (r:=rIxL) (K:=K) rfl ix_list) (pvN (i:=2) (sc:=zC _ (defScope zh)) (M:=["_law_k","_law_places","_law_wants"]) rfl rfl (by decide +kernel)) (pvN (i:=0) (sc:=zC _ (defScope zh)) (M:=["_law_k","_law_places","_law_wants"]) rfl rfl (by decide +kernel)) (fun _ _=>rfl)) (nomark _)))) (fun fp0 sx0 Hx0=>(pvN (i:=0) (sc:=zC _ (defScope zh)) (M:=["_law_k","_law_places","_law_wants"]) rfl rfl (by decide +kernel)))) (pe_lst pa_nil) (nomark _)))))))))),?_⟩
    have hs : sizeLine=16777216:=sizeLine_eq
    have lx:=zd.length hA
    rw [List.length_map] at lx
    refine ⟨_,rfl,_,"list","list",true,rfl,.inl ⟨rfl,.inl ⟨_,ep⟩⟩,jd _,_,rfl,iteF ?_⟩
    refine ⟨by first | decide | (simp only [List.length_cons,List.length_nil,List.length_append,List.length_map]; decide),fun p1 hp1=>⟨_,rfl,.ref po,os.length,rfl,.inl ⟨_,(Same.zp hp1).seq ho,by rw [zD]⟩,p1,_,_,rfl,rfl,upd_same,by omega,by omega,by rw [Int.toNat_natCast]; show 1 * os.length≤sizeLine; omega,fun p2 hp2=>?_⟩⟩
    rw [Int.toNat_natCast,Zp]
    have s2:=(Same.zp (o := .lst [.int 0]) hp1).trans (Same.zp (o := .lst (nV (List.replicate os.length 0))) hp2)
    have e2 : upd (upd H p1 (.lst [.int 0])) p2 (.lst (nV (List.replicate os.length 0))) p2=some (.lst (nV (List.replicate os.length 0))):=upd_same
    have n2 : H p2=none:=(Same.zp (o := .lst [.int 0]) hp1).free hp2
    generalize upd (upd H p1 (.lst [.int 0])) p2 (.lst (nV (List.replicate os.length 0)))=H2 at s2 e2 ⊢
    refine ⟨by first | decide | (simp only [List.length_cons,List.length_nil,List.length_append,List.length_map]; decide),fun p3 hp3=>⟨_,rfl,.ref pw,ws.length,rfl,.inl ⟨_,(s2.trans (Same.zp hp3)).seq hw,by rw [zD]⟩,p3,_,_,rfl,rfl,upd_same,by omega,by omega,by rw [Int.toNat_natCast]; show 1 * ws.length≤sizeLine; omega,fun p4 hp4=>?_⟩⟩
    rw [Int.toNat_natCast,Zp]
    have t4:=(Same.zp (o := .lst [.int 0]) hp3).trans (Same.zp (o := .lst (nV (List.replicate ws.length 0))) hp4)
    have s4:=s2.trans t4
    have e4 : upd (upd H2 p3 (.lst [.int 0])) p4 (.lst (nV (List.replicate ws.length 0))) p4=some (.lst (nV (List.replicate ws.length 0))):=upd_same
    have e24:=t4 _ _ e2
    have n4' : H2 p4=none:=(Same.zp (o := .lst [.int 0]) hp3).free hp4
    have n4 : H p4=none:=s2.free n4'
    have n24 : p2≠p4:=ne_of_none e2 n4'
    generalize upd (upd H2 p3 (.lst [.int 0])) p4 (.lst (nV (List.replicate ws.length 0)))=H4 at t4 s4 e4 e24 ⊢
    clear hp1 hp2 hp3 hp4 t4 s2 e2 n4'
    refine ⟨_,rfl,pp,rfl,⟨_,SqL.of (s4 _ _ ep)⟩,?_⟩
    refine for_list (xs:=xs) (fun i σ H'=>(∃ bf v1 v2 v3,σ=[some (.ref pp),some (.ref pw),some (.ref po),some (.ref pm),some (.ref p2),some (.ref p4),some bf,v1,v2,v3]∧(i=0∧bf = .non∨0 < i∧∃ t,bf = .ref t∧xs[i - 1]?=some (.ref t)))∧Same H H'∧∃ wc pc,xu ps os ms ws i wc pc∧H' p2=some (.lst (nV wc))∧H' p4=some (.lst (nV pc))) ⟨⟨_,_,_,_,rfl,.inl ⟨rfl,rfl⟩⟩,s4,_,_,xu.zero ps os ms ws,e24,e4⟩ ?_ ?_ ?_
    · rintro i σ H' _ ⟨_,s,_⟩
      exact SqL.of (s _ _ ep)
    · rintro i x σ H5 hx ⟨⟨bf,v1,v2,v3,rfl,hbf⟩,s5,wc,pc,hD,e25,e45⟩
      obtain ⟨p,t,hp,rfl,et⟩:=CP.pairs_at hA hx
      have hi : i < ps.length:=(List.getElem?_eq_some_iff.mp hp).1
      have et5:=s5 _ _ et
      have hmem : p∈ps:=List.mem_of_getElem? hp
      refine ⟨_,rfl,_,"tuple","tuple",true,rfl,.inr (.inl ⟨rfl,_,et5⟩),wN _,_,rfl,iteF ⟨_,rfl,.ref t,2,rfl,.inr ⟨_,SqT.of et5,rfl⟩,rfl,_,rfl,iteNS rfl ?_⟩⟩
      refine ⟨_,rfl,t,rfl,⟨_,SqT.of et5⟩,?_⟩
      refine for_tup (xs:=[.int p.1,.int p.2]) (fun j σ H'=>(∃ v2,σ=[some (.ref pp),some (.ref pw),some (.ref po),some (.ref pm),some (.ref p2),some (.ref p4),some bf,some (.ref t),v2,v3])∧H'=H5) ⟨⟨_,rfl⟩,rfl⟩ ?_ ?_ ?_
      · rintro j σ H' _ ⟨_,rfl⟩
        exact SqT.of et5
      · rintro j x σ H' hx' ⟨⟨v2',rfl⟩,rfl⟩
        obtain ⟨z,rfl⟩ : ∃ z : Int,x = .int z:=by
          match j,hx' with
          | 0,h=>exact ⟨_,(Option.some.inj h).symm⟩
          | 1,h=>exact ⟨_,(Option.some.inj h).symm⟩
        exact ⟨_,rfl,_,"int","int",true,rfl,rfl,vd _,_,rfl,iteF ⟨_,rfl,_,"int","bool",false,rfl,rfl,wm _,_,rfl,iteF ⟨⟨_,rfl⟩,rfl⟩⟩⟩
      rintro σ H' ⟨⟨v2',rfl⟩,rfl⟩
      have bad : ∀ {b : Bool},CP.yz ps ws os ms=b→Q (.bl b) H':=fun e=>by have:=q H' s5; rw [e] at this; exact this
      refine XA (B:=(0 < i→CP.ya (CP.at' ps (i - 1)) p=true)→?R) ?main fun hM=>?use
      case use =>
        refine ⟨_,rfl,rfl,_,rfl,?_⟩
        rcases hbf with ⟨h0,rfl⟩ | ⟨h0,t0,rfl,ht0⟩
        · refine iteF ?_
          exact hM fun z=>absurd z (by omega)
        · obtain ⟨p0,t0',hp0,e0',et0⟩:=CP.pairs_at hA ht0
          cases e0'
          refine iteT ⟨_,rfl,_,rfl,t0,t,[p0.1,p0.2],[p.1,p.2],rfl,rfl,SqT.of (s5 _ _ et0),SqT.of et5,_,rfl,ite2 (fun h1=>?_) (fun h1=>?_)⟩
          · refine bad (WQ (i:=i - 1) (by omega) ?_)
            rw [show i - 1 + 1=i by omega,CP.at_of hp0,CP.at_of hp]
            show HT.lexLt _ _=false
            simpa using h1
          · refine hM fun _=>?_
            rw [CP.at_of hp0]
            show HT.lexLt _ _=true
            simpa using h1
      case main =>
        intro hri
        refine ⟨_,rfl,?_⟩
        refine XA (B:=(∃ a b : Nat,p.1=(a : Int)∧p.2=(b : Int)∧a < os.length∧b < ws.length)→?R2) ?zbJ fun hM=>?zb9
        case zb9 =>
          have no1 : ¬ (0≤p.1∧p.1 < (os.length : Nat))→CP.yz ps ws os ms=false:=fun h=>jF hmem (by
            unfold CP.xH
            by_cases h1 : 0≤p.1
            · rw [decide_eq_true h1,decide_eq_false (fun z=>h ⟨h1,z⟩)]; rfl
            · rw [decide_eq_false h1]; rfl)
          have no2 : ¬ (0≤p.2∧p.2 < (ws.length : Nat))→CP.yz ps ws os ms=false:=fun h=>jF hmem (by
            unfold CP.xH
            rw [← hlen]
            by_cases h1 : 0≤p.2
            · rw [decide_eq_true h1,decide_eq_false (fun z=>h ⟨h1,z⟩),Bool.and_false,Bool.and_false]; rfl
            · rw [decide_eq_false h1,Bool.false_and,Bool.and_false]; rfl)
          refine ⟨_,rfl,t,_,_,_,rfl,rfl,SqT.of et5,rfl,_,_,rfl,rfl,_,rfl,ite2 (fun h1=>?_) (fun h1=>?_)⟩
          · have h1' : 0≤p.1:=of_decide_eq_true h1
            refine ⟨_,rfl,.ref p2,wc.length,rfl,.inl ⟨_,SqL.of e25,by rw [zD]⟩,_,_,rfl,rfl,_,rfl,ite2 (fun h2=>?_) (fun h2=>?_)⟩
            · exact bad (no1 fun z=>by have hz:=z.2; rw [← hD.lw] at hz; rw [decide_eq_true hz] at h2; cases h2)
            · have h2' : p.1 < (wc.length : Nat):=by
                by_cases z : p.1 < (wc.length : Nat)
                · exact z
                · rw [decide_eq_false z] at h2; exact absurd rfl h2
              rw [hD.lw] at h2'
              refine ⟨_,rfl,t,_,_,_,rfl,rfl,SqT.of et5,rfl,_,_,rfl,rfl,_,rfl,ite2 (fun h3=>?_) (fun h3=>?_)⟩
              · have h3' : 0≤p.2:=of_decide_eq_true h3
                refine ⟨_,rfl,.ref p4,pc.length,rfl,.inl ⟨_,SqL.of e45,by rw [zD]⟩,_,_,rfl,rfl,_,rfl,ite2 (fun h4=>?_) (fun h4=>?_)⟩
                · exact bad (no2 fun z=>by have hz:=z.2; rw [← hD.lp] at hz; rw [decide_eq_true hz] at h4; cases h4)
                · have h4' : p.2 < (pc.length : Nat):=by
                    by_cases z : p.2 < (pc.length : Nat)
                    · exact z
                    · rw [decide_eq_false z] at h4; exact absurd rfl h4
                  rw [hD.lp] at h4'
                  exact hM ⟨p.1.toNat,p.2.toNat,by omega,by omega,by omega,by omega⟩
              · exact ⟨_,rfl,iteT (bad (no2 fun z=>h3 (decide_eq_true z.1)))⟩
          · exact ⟨_,rfl,iteT (bad (no1 fun z=>h1 (decide_eq_true z.1)))⟩
        case zbJ =>
          rintro ⟨a,b,ea,eb,ha,hb⟩
          have hbm : b < ms.length:=by omega
          have hfit : CP.xH os ms p.1 p.2=(ms.getD b 0).testBit a:=by
            unfold CP.xH
            rw [ea,eb,decide_eq_true (show (0 : Int)≤(a : Nat) by omega),decide_eq_true (show ((a : Nat) : Int) < (os.length : Nat) by omega),decide_eq_true (show (0 : Int)≤(b : Nat) by omega),decide_eq_true (show ((b : Nat) : Int) < (ms.length : Nat) by omega),Int.toNat_natCast,Int.toNat_natCast]
            rfl
          rw [ea,eb] at et5
          refine ⟨_,rfl,_,rfl,t,_,_,_,rfl,rfl,SqT.of et5,rfl,_,rfl,t,_,_,_,rfl,rfl,SqT.of et5,rfl,pm,ms,a,b,_,rfl,s5.seq hm,getD_at hbm,_,rfl,ite2 (fun h1=>?_) (fun h1=>?_)⟩
          · refine bad (jF hmem ?_)
            rw [hfit]
            simpa using h1
          have hf1 : (ms.getD b 0).testBit a=true:=by simpa using h1
          have ha' : a < wc.length:=by rw [hD.lw]; exact ha
          have hb' : b < pc.length:=by rw [hD.lp]; exact hb
          refine ⟨_,rfl,_,rfl,t,_,_,_,rfl,rfl,SqT.of et5,rfl,p2,_,_,_,rfl,rfl,SqL.of e25,yf ha',_,_,rfl,rfl,_,rfl,_,rfl,t,_,_,_,rfl,rfl,SqT.of et5,rfl,p2,_,_,a,rfl,rfl,e25,by rw [zD]; exact xG ha',?_⟩
          rw [show (fun i j : Int=>V.int (i + j)) ((wc.getD a 0 : Nat) : Int) 1=V.int ((wc.getD a 0 + 1 : Nat) : Int) from rfl,xR]
          have s6:=zT (o := .lst (nV (wc.set a (wc.getD a 0 + 1)))) s5 n2
          have e26 : upd H' p2 (.lst (nV (wc.set a (wc.getD a 0 + 1)))) p2=some (.lst (nV (wc.set a (wc.getD a 0 + 1)))):=upd_same
          have e46 : upd H' p2 (.lst (nV (wc.set a (wc.getD a 0 + 1)))) p4=some (.lst (nV pc)):=(upd_ne n24.symm).trans e45
          have et6 : upd H' p2 (.lst (nV (wc.set a (wc.getD a 0 + 1)))) t=some (.tup [.int (a : Nat),.int (b : Nat)]):=by
            rw [upd_ne (ne_of_none et n2)]
            exact et5
          generalize upd H' p2 (.lst (nV (wc.set a (wc.getD a 0 + 1))))=H6 at s6 e26 e46 et6 ⊢
          refine ⟨_,rfl,_,rfl,t,_,_,_,rfl,rfl,SqT.of et6,rfl,p4,_,_,_,rfl,rfl,SqL.of e46,yf hb',_,_,rfl,rfl,_,rfl,_,rfl,t,_,_,_,rfl,rfl,SqT.of et6,rfl,p4,_,_,b,rfl,rfl,e46,by rw [zD]; exact xG hb',?_⟩
          rw [show (fun i j : Int=>V.int (i + j)) ((pc.getD b 0 : Nat) : Int) 1=V.int ((pc.getD b 0 + 1 : Nat) : Int) from rfl,xR]
          exact ⟨⟨_,_,_,_,rfl,.inr ⟨Nat.succ_pos _,t,rfl,by rw [Nat.add_sub_cancel]; exact hx⟩⟩,zT s6 n4,_,_,hD.step hp ea eb ha hb hri (hfit.trans hf1),(upd_ne n24).trans e26,upd_same⟩
    rintro σ H5 ⟨⟨bf,v1,v2,v3,rfl,hbf⟩,s5,wc,pc,hD,e25,e45⟩
    rw [lx] at hD
    have hall:=hD.all
    rw [hall] at q
    refine ⟨_,rfl,.ref p2,wc.length,rfl,.inl ⟨_,SqL.of e25,by rw [zD]⟩,_,rfl,by rw [hD.lw]; omega,by rw [hD.lw]; omega,?_⟩
    refine for_range (fun k σ H'=>(∃ v3,σ=[some (.ref pp),some (.ref pw),some (.ref po),some (.ref pm),some (.ref p2),some (.ref p4),some bf,v1,v2,v3])∧H'=H5∧∀ j,j < k→(ps.map Prod.fst).count ((j : Nat) : Int)≤os.getD j 0) ⟨⟨_,rfl⟩,rfl,fun j h=>absurd h (Nat.not_lt_zero _)⟩ ?_ ?_
    · rintro k σ H' hk ⟨⟨v3',rfl⟩,rfl,hle⟩
      rw [show (0 : Int) + (k : Nat)=(k : Nat) by omega]
      have hk' : k < wc.length:=hk
      have hko : k < os.length:=by rw [← hD.lw]; exact hk
      have ecw:=hD.cw k hko
      rw [List.take_length] at ecw
      refine ⟨_,rfl,_,rfl,p2,_,_,_,rfl,rfl,SqL.of e25,yf hk',_,rfl,_,rfl,po,_,_,_,rfl,rfl,s5.seq ho,yf hko,_,_,rfl,rfl,_,rfl,ite2 (fun h1=>?_) (fun h1=>?_)⟩
      · have h1' : ((os.getD k 0 : Nat) : Int) < (wc.getD k 0 : Nat):=of_decide_eq_true h1
        have hf : CP.yR (ps.map Prod.fst) os=false:=Bool.eq_false_iff.mpr fun z=>by
          have:=CP.xO.mp z k hko
          omega
        have:=q H' s5
        rw [hf,Bool.false_and] at this
        exact this
      · have h1' : ¬ ((os.getD k 0 : Nat) : Int) < (wc.getD k 0 : Nat):=fun z=>h1 (decide_eq_true z)
        refine ⟨⟨_,rfl⟩,rfl,fun j hj=>?_⟩
        by_cases e : j < k
        · exact hle j e
        · obtain rfl : j=k:=by omega
          omega
    rintro σ H' ⟨⟨v3',rfl⟩,rfl,hle⟩
    have ha1 : CP.yR (ps.map Prod.fst) os=true:=CP.xO.mpr fun j hj=>hle j (by rw [hD.lw]; exact hj)
    rw [ha1,Bool.true_and] at q
    refine ⟨_,rfl,.ref p4,pc.length,rfl,.inl ⟨_,SqL.of e45,by rw [zD]⟩,_,rfl,by rw [hD.lp]; omega,by rw [hD.lp]; omega,fun c hc=>?_⟩
    refine jl hc (jk (P:=fun _=>True)) (fun σ=>∃ v,σ=[v,some (.ref p4),some (.ref pw)]) (fun x=>match x with | .int z=>if (ws.getD z.toNat 0) < (pc.getD z.toNat 0) then some (.int z) else none | _=>none) ⟨_,rfl⟩ (fun _ _=>trivial) (by rw [List.length_map,List.length_range,Int.toNat_natCast,hD.lp]; omega) ?_ ?_
    · rintro x ys σ H6 R1 R0 hx ⟨v,rfl⟩ s6 k1 k0
      obtain ⟨j,hj,rfl⟩:=List.mem_map.mp hx
      have hj' : j < pc.length:=by have:=List.mem_range.mp hj; rw [Int.toNat_natCast] at this; exact this
      rw [show (0 : Int) + (j : Nat)=(j : Nat) by omega] at k1 k0 ⊢
      have hjw : j < ws.length:=by rw [← hD.lp]; exact hj'
      refine ⟨_,rfl,_,rfl,p4,_,_,_,rfl,rfl,SqL.of (s6 _ _ e45),yf hj',_,rfl,_,rfl,pw,_,_,_,rfl,rfl,(s5.trans s6).seq hw,yf hjw,_,_,rfl,rfl,_,rfl,ite2 (fun h1=>?_) (fun h1=>?_)⟩
      · have h1' : ((ws.getD j 0 : Nat) : Int) < (pc.getD j 0 : Nat):=of_decide_eq_true h1
        exact ⟨_,rfl,k1 _ _ _ ⟨_,rfl⟩ (if_pos (by rw [Int.toNat_natCast]; omega)) (Same.refl _)⟩
      · have h1' : ¬ ((ws.getD j 0 : Nat) : Int) < (pc.getD j 0 : Nat):=fun z=>h1 (decide_eq_true z)
        exact k0 _ _ ⟨_,rfl⟩ (if_neg (by rw [Int.toNat_natCast]; omega)) (Same.refl _)
    intro H6 s6 e6
    obtain ⟨zs,hzs⟩ : ∃ zs : List Nat,zs=(List.range pc.length).filter fun j=>decide (ws.getD j 0 < pc.getD j 0):=⟨_,rfl⟩
    have e6' : ((List.range ((pc.length : Nat) : Int).toNat).map fun j : Nat=>V.int (0 + (j : Nat))).filterMap (fun x=>match x with | .int z=>if (ws.getD z.toNat 0) < (pc.getD z.toNat 0) then some (.int z) else none | _=>none)=nV zs:=by
      rw [hzs,Int.toNat_natCast,List.filterMap_map]
      unfold nV
      generalize List.range pc.length=l
      induction l with
      | nil=>rfl
      | cons j r ih =>
        rw [List.filterMap_cons,List.filter_cons]
        have ez : (0 : Int) + (j : Nat)=(j : Nat):=by omega
        by_cases h1 : ws.getD j 0 < pc.getD j 0
        · have : ((fun x=>match x with | V.int z=>if (ws.getD z.toNat 0) < (pc.getD z.toNat 0) then some (V.int z) else none | _=>none) ∘ fun j : Nat=>V.int (0 + (j : Nat))) j=some (V.int (j : Nat)):=by
            show (if (ws.getD ((0 : Int) + (j : Nat)).toNat 0) < (pc.getD ((0 : Int) + (j : Nat)).toNat 0) then some (V.int (0 + (j : Nat))) else none)=_
            rw [ez,Int.toNat_natCast,if_pos h1]
          rw [this,if_pos (decide_eq_true h1),List.map_cons]
          exact congrArg (_ :: ·) ih
        · have : ((fun x=>match x with | V.int z=>if (ws.getD z.toNat 0) < (pc.getD z.toNat 0) then some (V.int z) else none | _=>none) ∘ fun j : Nat=>V.int (0 + (j : Nat))) j=none:=by
            show (if (ws.getD ((0 : Int) + (j : Nat)).toNat 0) < (pc.getD ((0 : Int) + (j : Nat)).toNat 0) then some (V.int (0 + (j : Nat))) else none)=_
            rw [ez,Int.toNat_natCast,if_neg h1]
          rw [this,if_neg (by rw [decide_eq_false h1]; decide)]
          exact ih
    rw [e6'] at e6
    have hz : zs=[]↔CP.yR (ps.map Prod.snd) ws=true:=by
      rw [hzs,List.filter_eq_nil_iff,CP.xO]
      constructor
      · intro h j hj
        have ecp:=hD.cp j hj
        rw [List.take_length] at ecp
        have:=h j (List.mem_range.mpr (by rw [hD.lp]; exact hj))
        rw [decide_eq_true_eq] at this
        omega
      · intro h j hj
        have hj' : j < ws.length:=by rw [← hD.lp]; exact List.mem_range.mp hj
        have ecp:=hD.cp j hj'
        rw [List.take_length] at ecp
        have:=h j hj'
        rw [decide_eq_true_eq]
        omega
    refine ⟨by first | decide | (simp only [List.length_cons,List.length_nil,List.length_append,List.length_map]; decide),fun p9 hp9=>?_⟩
    have s9:=Same.zp (o := .lst []) hp9
    refine ⟨.list (nD zs),.list [],yj (s9 _ _ e6),zf.mkL (D:=upd H6 p9 (.lst [])) zd.nil upd_same (Same.refl _),vG zs,rfl,Z9 _ _,?_⟩
    have q9:=q _ (s5.trans (s6.trans s9))
    cases zs with
    | nil =>
      rw [hz.mp rfl] at q9
      exact q9
    | cons z r =>
      rw [show CP.yR (ps.map Prod.snd) ws=false from Bool.eq_false_iff.mpr fun e=>by have:=hz.mpr e; cases this] at q9
      exact q9
noncomputable def VE (K : PySem.W.Frag) : Sp:=fun vs H Q _=>∃ (pp pw po pm : Addr) (ze ws os ms : List Nat),vs=[.ref pp,.ref pw,.ref po,.ref pm]∧SqL K H pp (nV ze)∧SqL K H pw (nV ws)∧SqL K H po (nV os)∧SqL K H pm (nV ms)∧(∀ p∈ze,p < ws.length)∧ws.length=ms.length∧os.length≤1000∧Q (.int (CG.yQ ze ws os ms)) H
theorem zaT {f : Addr} {fd wM : FuncData} (F : Fun K "_law_shown" "_law_shown" zF f fd) (T : Txt K mg a)
    (jZ : FnOk P w K mg base CX0 1 a.vD wM ["_law_masks","_law_work","_law_place"] (Xx K)) (vc : Fun K "_law_fit" "_law_fit" xq a.vD wM) (j0 : Binds K wM ["_law_masks","_law_work","_law_place"] []) : FnOk P w K mg base CX0 2 f fd ["_law_paper_here","_law_wants","_law_oftens","_law_masks"] (VE K):=by
  refine F.ok zaE (fun vs H Q E h=>?_) (fun cdv A outer s H vs Q E hr h=>?_)
  · obtain ⟨pp,pw,po,pm,ze,ws,os,ms,rfl,_⟩:=h
    rfl
  · obtain ⟨pp,pw,po,pm,ze,ws,os,ms,rfl,hp,hw,ho,hm,hb,hlen,hlo,q⟩:=h
    refine ⟨_,(pss_cons (psN (i:=4) (sc:=defScope zF) (M:=zX) rfl rfl (by decide +kernel) pe_int)
      (pss_cons (ps_for PassesOwn.never rfl (pi_list (pvA 0 (defScope zF) zX rfl rfl)) (pgN (i:=5) (sc:=defScope zF) (M:=zX) rfl rfl (by decide +kernel)) (pss_one (psN (i:=4) (sc:=defScope zF) (M:=zX) rfl rfl (by decide +kernel) (pe_op op_add (pvA 4 (defScope zF) zX rfl rfl) (pe_ix ix_list (pvA 1 (defScope zF) zX rfl rfl) (pvA 5 (defScope zF) zX rfl rfl) (fun _ _=>rfl))))))
      (pss_cons (ps_for PassesOwn.never rfl (pi_range1 (glR (sc:=defScope zF) rfl (by decide +kernel)) T.yx (pa_cons (zo (sc:=defScope zF) call_len rfl (by decide +kernel) T.z7 z8 (pa_cons (pvA 2 (defScope zF) zX rfl rfl) pa_nil)) pa_nil)) (pgN (i:=6) (sc:=defScope zF) (M:=zX) rfl rfl (by decide +kernel)) (pss_cons (psN (i:=7) (sc:=defScope zF) (M:=zX) rfl rfl (by decide +kernel) pe_int)
      (pss_cons (ps_for PassesOwn.never rfl (pi_list (pvA 0 (defScope zF) zX rfl rfl)) (pgN (i:=5) (sc:=defScope zF) (M:=zX) rfl rfl (by decide +kernel)) (pss_one (psN (i:=7) (sc:=defScope zF) (M:=zX) rfl rfl (by decide +kernel) (pe_op op_add (pvA 7 (defScope zF) zX rfl rfl) (yh (sc:=defScope zF) Vi rfl (by decide +kernel) T.wZ Zu (pa_cons (zq (sc:=defScope zF) jZ (hr.mono (by decide)) rfl (by decide +kernel) T.Jz vc.kp j0 .nil pass0 (pa_cons (pvA 3 (defScope zF) zX rfl rfl) (pa_cons (pvA 6 (defScope zF) zX rfl rfl) (pa_cons (pvA 5 (defScope zF) zX rfl rfl) pa_nil)))) pa_nil))))))
      (pss_one (psN (i:=4) (sc:=defScope zF) (M:=zX) rfl rfl (by decide +kernel) (pe_op op_sub (pvA 4 (defScope zF) zX rfl rfl) (zo (sc:=defScope zF) (call_min2 rfl) rfl (by decide +kernel) T.ZL zad (pa_cons (pe_ix ix_list (pvA 2 (defScope zF) zX rfl rfl) (pvA 6 (defScope zF) zX rfl rfl) (fun _ _=>rfl)) (pa_cons (pvA 7 (defScope zF) zX rfl rfl) pa_nil)))))))))
      (pss_one (ps_ret (pvA 4 (defScope zF) zX rfl rfl)))))),?_⟩
    have hs : sizeLine=16777216:=sizeLine_eq
    refine ⟨_,rfl,pp,rfl,⟨_,hp⟩,for_list (xs:=nV ze) (fun i σ H'=>(∃ v,σ=[some (.ref pp),some (.ref pw),some (.ref po),some (.ref pm),some (.int (CG.wO (ze.take i) ws)),v,none,none])∧H'=H) ⟨⟨_,rfl⟩,rfl⟩ ?_ ?_ ?_⟩
    · rintro i σ H' _ ⟨_,rfl⟩
      exact hp
    · rintro i x σ H' hx ⟨⟨v,rfl⟩,rfl⟩
      unfold nV at hx
      rw [List.getElem?_map] at hx
      obtain ⟨p,hp',rfl⟩:=Option.map_eq_some_iff.mp hx
      refine ⟨_,rfl,_,rfl,_,rfl,pw,_,_,_,rfl,rfl,hw,yf (hb p (List.mem_of_getElem? hp')),_,_,rfl,rfl,⟨some (.int (p : Nat)),?_⟩,rfl⟩
      rw [CG.take_succ hp',CG.Wd]
      rfl
    rintro σ H1 ⟨⟨v,rfl⟩,rfl⟩
    rw [show (nV ze).length=ze.length by unfold nV; rw [List.length_map],List.take_length]
    refine ⟨_,rfl,.ref po,os.length,rfl,.inl ⟨_,ho,by unfold nV; rw [List.length_map]⟩,_,rfl,by omega,by omega,?_⟩
    refine for_range (fun i σ H'=>(∃ v1 v2 v3,σ=[some (.ref pp),some (.ref pw),some (.ref po),some (.ref pm),some (.int (CG.wO ze ws - CG.wQ ze os ms i)),v1,v2,v3])∧H'=H1) ⟨⟨v,none,none,?_⟩,rfl⟩ ?_ ?_
    · rw [show CG.wQ ze os ms 0=0 from rfl,Int.sub_zero]
    · rintro i σ H' hi ⟨⟨v1,v2,v3,rfl⟩,rfl⟩
      rw [show (0 : Int) + (i : Nat)=(i : Nat) by omega]
      refine ⟨_,rfl,pp,rfl,⟨_,hp⟩,?_⟩
      refine for_list (xs:=nV ze) (fun j σ H1=>(∃ v,σ=[some (.ref pp),some (.ref pw),some (.ref po),some (.ref pm),some (.int (CG.wO ze ws - CG.wQ ze os ms i)),v,some (.int (i : Nat)),some (.int (CG.yY (ze.take j) ms i : Nat))])∧H1=H') ⟨⟨_,rfl⟩,rfl⟩ ?_ ?_ ?_
      · rintro j σ H1 _ ⟨_,rfl⟩
        exact hp
      · rintro j x σ H1 hx ⟨⟨v,rfl⟩,rfl⟩
        unfold nV at hx
        rw [List.getElem?_map] at hx
        obtain ⟨p,hp',rfl⟩:=Option.map_eq_some_iff.mp hx
        have hb':=hb p (List.mem_of_getElem? hp')
        refine ⟨_,rfl,_,rfl,_,rfl,_,rfl,pm,ms,i,p,_,rfl,hm,getD_at (by omega),_,rfl,_,_,rfl,rfl,⟨some (.int (p : Nat)),?_⟩,rfl⟩
        rw [CG.take_succ hp',CG.Vj]
        cases (ms.getD p 0).testBit i <;> rfl
      · rintro σ H1 ⟨⟨v,rfl⟩,rfl⟩
        rw [show (nV ze).length=ze.length by unfold nV; rw [List.length_map],List.take_length]
        refine ⟨_,rfl,_,rfl,_,rfl,po,_,_,_,rfl,rfl,ho,yf (by omega),_,rfl,_,_,rfl,_,_,rfl,rfl,⟨v,some (.int (i : Nat)),some (.int (CG.yY ze ms i : Nat)),?_⟩,rfl⟩
        rw [CG.Wc]
        have : (if ((CG.yY ze ms i : Nat) : Int) < ((os.getD i 0 : Nat) : Int) then ((CG.yY ze ms i : Nat) : Int) else ((os.getD i 0 : Nat) : Int))=((min (os.getD i 0) (CG.yY ze ms i) : Nat) : Int):=by split <;> omega
        rw [← this,← Int.sub_sub]
        rfl
    · rintro σ H' ⟨⟨v1,v2,v3,rfl⟩,rfl⟩
      exact ⟨_,rfl,q⟩
noncomputable def VF (K : PySem.W.Frag) : Sp:=fun vs H Q _=>∃ (pp : Addr) (ze : List Nat) (n : Nat),vs=[.ref pp,.int (n : Nat)]∧H pp=some (.lst (nV ze))∧ze.length≤1000∧ze.Pairwise (· < ·)∧(∀ p∈ze,p < n)∧Q (.bl true) H
theorem zaU {f : Addr} {fd : FuncData} (F : Fun K "_law_paper" "_law_paper" zN f fd) (T : Txt K mg a) : FnOk P w K mg base CX0 1 f fd ["_law_paper_here","_law_places"] (VF K):=by
  refine F.ok zaF (fun vs H Q E h=>?_) (fun cdv A outer s H vs Q E hr h=>?_)
  · obtain ⟨pp,ze,n,rfl,_⟩:=h
    rfl
  · obtain ⟨pp,ze,n,rfl,ep,lp,up,bp,q⟩:=h
    refine ⟨_,(pss_cons (ps_if (pt_not (pt_val (zo (sc:=defScope zN) yr rfl (by decide +kernel) T.zG zS (pa_cons (pvA 0 (defScope zN) yv rfl rfl) (pa_cons (yF (v:=V.ty "list") (sc:=defScope zN) rfl (by decide +kernel) T.yq yG rfl) pa_nil))))) (pss_one (ps_ret pe_bl)) pss_nil)
      (pss_cons (ps_for PassesOwn.never rfl (pi_range1 (glR (sc:=defScope zN) rfl (by decide +kernel)) T.yx (pa_cons (zo (sc:=defScope zN) call_len rfl (by decide +kernel) T.z7 z8 (pa_cons (pvA 0 (defScope zN) yv rfl rfl) pa_nil)) pa_nil)) (pgN (i:=2) (sc:=defScope zN) (M:=yv) rfl rfl (by decide +kernel)) (pss_cons (ps_if (PW.pt (pw_or (pt_not (pt_val (zo (sc:=defScope zN) yr rfl (by decide +kernel) T.zG zS (pa_cons (pe_ix ix_list (pvA 0 (defScope zN) yv rfl rfl) (pvA 2 (defScope zN) yv rfl rfl) (fun _ _=>rfl)) (pa_cons (yF (v:=V.ty "int") (sc:=defScope zN) rfl (by decide +kernel) T.wZ Zu rfl) pa_nil))))) (pw_or (pt_val (zo (sc:=defScope zN) yr rfl (by decide +kernel) T.zG zS (pa_cons (pe_ix ix_list (pvA 0 (defScope zN) yv rfl rfl) (pvA 2 (defScope zN) yv rfl rfl) (fun _ _=>rfl)) (pa_cons (yF (v:=V.ty "bool") (sc:=defScope zN) rfl (by decide +kernel) T.wG ZS rfl) pa_nil)))) (pw_or1 (pt_not (pt_chain op_le op_lt pe_int (pe_ix ix_list (pvA 0 (defScope zN) yv rfl rfl) (pvA 2 (defScope zN) yv rfl rfl) (fun _ _=>rfl)) (pvA 1 (defScope zN) yv rfl rfl))))))) (pss_one (ps_ret pe_bl)) pss_nil)
      (pss_one (ps_if (PW.pt (pw_and (pt_cmpR op_gt (pvA 2 (defScope zN) yv rfl rfl) pe_int (nomark _)) (pw_and1 (pt_cmpR op_ge (pe_ix ix_list (pvA 0 (defScope zN) yv rfl rfl) (pe_op op_sub (pvA 2 (defScope zN) yv rfl rfl) pe_int) (fun _ _=>rfl)) (pe_ix ix_list (pvA 0 (defScope zN) yv rfl rfl) (pvA 2 (defScope zN) yv rfl rfl) (fun _ _=>rfl)) (nomark _))))) (pss_one (ps_ret pe_bl)) pss_nil))))
      (pss_one (ps_ret pe_bl)))),?_⟩
    have hs' : sizeLine=16777216:=sizeLine_eq
    refine ⟨_,rfl,_,"list","list",true,rfl,.inl ⟨rfl,.inl ⟨_,ep⟩⟩,jd _,_,rfl,iteF ?_⟩
    refine ⟨_,rfl,.ref pp,ze.length,rfl,.inl ⟨_,SqL.of ep,by rw [zD]⟩,_,rfl,by omega,by omega,?_⟩
    rw [Int.toNat_natCast]
    refine for_range (fun i σ H'=>(∃ v,σ=[some (.ref pp),some (.int (n : Nat)),v])∧H'=H) ⟨⟨_,rfl⟩,rfl⟩ ?_ ?_
    · rintro i σ H' hi ⟨⟨v,rfl⟩,rfl⟩
      rw [show (0 : Int) + (i : Nat)=(i : Nat) by omega]
      have hb : ze.getD i 0 < n:=bp _ (List.mem_of_getElem? (getD_at hi))
      refine ⟨_,rfl,_,rfl,pp,_,_,_,rfl,rfl,SqL.of ep,yf hi,_,"int","int",true,rfl,rfl,vd _,_,rfl,iteF ⟨_,rfl,_,rfl,pp,_,_,_,rfl,rfl,SqL.of ep,yf hi,_,"int","bool",false,rfl,rfl,wm _,_,rfl,iteF ?_⟩⟩
      refine ⟨_,rfl,_,rfl,pp,_,_,_,rfl,rfl,SqL.of ep,yf hi,_,_,rfl,rfl,_,rfl,ite2 (fun h1=>?_) (fun h1=>absurd (decide_eq_true (by omega)) h1)⟩
      refine ⟨_,rfl,_,_,rfl,rfl,_,rfl,ite2 (fun h2=>?_) (fun h2=>?_)⟩
      · rw [decide_eq_true (show ((ze.getD i 0 : Nat) : Int) < (n : Nat) by omega)] at h2
        cases h2
      refine ⟨_,rfl,_,_,rfl,rfl,_,rfl,ite2 (fun h3=>?_) (fun h3=>⟨⟨_,rfl⟩,rfl⟩)⟩
      have h3' : (0 : Int) < (i : Nat):=of_decide_eq_true h3
      have hat : atI (nV ze) (((i : Nat) : Int) - 1)=some (.int (ze.getD (i - 1) 0 : Nat)):=by
        rw [show ((i : Nat) : Int) - 1=((i - 1 : Nat) : Int) by omega]
        exact yf (by omega)
      have hr : ze.getD (i - 1) 0 < ze.getD i 0:=by
        have:=List.pairwise_iff_getElem.mp up (i - 1) i (by omega) hi (by omega)
        rw [List.getD_eq_getElem?_getD,List.getElem?_eq_getElem (by omega : i - 1 < ze.length),List.getD_eq_getElem?_getD,List.getElem?_eq_getElem hi]
        exact this
      refine ⟨_,rfl,_,rfl,_,_,rfl,rfl,pp,_,_,_,rfl,rfl,SqL.of ep,hat,_,rfl,_,rfl,pp,_,_,_,rfl,rfl,SqL.of ep,yf hi,_,_,rfl,rfl,_,rfl,?_⟩
      rw [show decide (((ze.getD i 0 : Nat) : Int)≤((ze.getD (i - 1) 0 : Nat) : Int))=false from decide_eq_false (by omega)]
      exact iteF ⟨⟨_,rfl⟩,rfl⟩
    · rintro σ H' ⟨⟨v,rfl⟩,rfl⟩
      exact q
theorem X9 : ∀ l : List Nat,(∀ x∈l,x≤3)→CD.zk l≤3 * l.length
  | [],_=>Nat.le_refl _
  | x :: r,h=>by
    have h1:=X9 r fun y hy=>h y (List.mem_cons_of_mem _ hy)
    have h2:=h x List.mem_cons_self
    show x + CD.zk r≤3 * (r.length + 1)
    omega
theorem zbK {ws os ms : List Nat} (G : CG.Good 60 ws os ms) : CD.zk (ws.map fun n=>min n os.length) < 128:=by
  have g2:=G.one
  have g3:=G.six
  match ws,g2,g3,G.wl,G.wt with
  | x :: r,_,g3,wl,wt =>
    have h1:=wl x List.mem_cons_self
    have h2:=X9 (r.map fun n=>min n os.length) fun y hy=>by
      obtain ⟨n,hn,rfl⟩:=List.mem_map.mp hy
      obtain ⟨i,hi⟩:=List.mem_iff_getElem?.mp hn
      have:=wt (i + 1) n hi (by omega)
      omega
    rw [List.length_map] at h2
    rw [List.length_cons] at g3
    show min x os.length + CD.zk (r.map fun n=>min n os.length) < 128
    omega
theorem x6 {K : PySem.W.Frag} {H H' : Hp} (h : ∀ t xs,H t=some (.tup xs)→H' t=some (.tup xs)) : ∀ {qs : List CP.Pr} {zs : List V},zd K H zs (qs.map CP.pairD)→zd K H' zs (qs.map CP.pairD)
  | [],zs,d=>by
    rw [zd.none d]
    exact zd.nil
  | q :: qs,zs,d=>by
    obtain ⟨y,ys,rfl,d1,d2⟩:=zd.YR d
    obtain ⟨t,rfl,e⟩:=CP.YZ d1
    exact zd.cons (CP.XX (h _ _ e)) (x6 h d2)
theorem VG (qs : List CP.Pr) (z : Nat) (ze : List Nat) : (PyData.tuple [.list (qs.map CP.pairD),.int (z : Nat),.list (nD ze)]).canLay0=true∧min (PyData.tuple [.list (qs.map CP.pairD),.int (z : Nat),.list (nD ze)]).depth (PyData.tuple [.list (qs.map CP.pairD),.int (z : Nat),.list (nD ze)]).depth≤60:=by
  have h1:=CP.Yc qs
  have h2:=xx ze
  refine ⟨?_,?_⟩
  · show (PyData.canLayAll0 (qs.map CP.pairD) && (true && (PyData.canLayAll0 (nD ze) && true)))=true
    rw [h1.1,h2.1]
    rfl
  · rw [Nat.min_self]
    show max (PyData.depthAll (qs.map CP.pairD) + 1) (max 0 (max (PyData.depthAll (nD ze) + 1) 0)) + 1≤60
    rw [h2.2]
    have:=h1.2
    omega
theorem WR (qs : List CP.Pr) : (PyData.list (qs.map CP.pairD)).canLay0=true∧min (PyData.list (qs.map CP.pairD)).depth (PyData.list (qs.map CP.pairD)).depth≤60:=by
  have h1:=CP.Yc qs
  refine ⟨h1.1,?_⟩
  rw [Nat.min_self]
  show PyData.depthAll (qs.map CP.pairD) + 1≤60
  have:=h1.2
  omega
theorem VH (a b c : List Nat) : (PyData.list [.list (nD a),.list (nD b),.list (nD c)]).canLay0=true∧min (PyData.list [.list (nD a),.list (nD b),.list (nD c)]).depth (PyData.list [.list (nD a),.list (nD b),.list (nD c)]).depth≤60:=by
  have h1:=xx a
  have h2:=xx b
  have h3:=xx c
  refine ⟨?_,?_⟩
  · show (PyData.canLayAll0 (nD a) && (PyData.canLayAll0 (nD b) && (PyData.canLayAll0 (nD c) && true)))=true
    rw [h1.1,h2.1,h3.1]
    rfl
  · rw [Nat.min_self]
    show max (PyData.depthAll (nD a) + 1) (max (PyData.depthAll (nD b) + 1) (max (PyData.depthAll (nD c) + 1) 0)) + 1≤60
    rw [h1.2,h2.2,h3.2]
    decide
noncomputable def Yy (K : PySem.W.Frag) : Sp:=fun vs H Q _=>∃ (a : Addr) (ns : List Int),vs=[.ref a]∧SqL K H a (ns.map V.int)∧ns.length≤63∧∀ H',Q (.bl true) H'
theorem zbL {f : Addr} {fd XC XD XE XF WS : FuncData} (F : Fun K "law" "law" zj f fd) (T : Txt K mg a)
    (WT : FnOk P w K mg base CX0 2 a.vn XC ["_law_pairs","_law_wants","_law_oftens","_law_masks"] (VD K)) (ZO : Fun K "_law_dealing" "_law_dealing" zh a.vn XC) (WU : Binds K XC ["_law_pairs","_law_wants","_law_oftens","_law_masks"] [])
    (WV : FnOk P w K mg base CX0 2 a.vU XD ["_law_script","_law_most"] (VC K)) (ZP : Fun K "_law_ground" "_law_ground" zm a.vU XD) (WW : Binds K XD ["_law_script","_law_most"] [])
    (WX : FnOk P w K mg base CX0 1 a.jC XE ["_law_paper_here","_law_places"] (VF K)) (ZQ : Fun K "_law_paper" "_law_paper" zN a.jC XE) (WY : Binds K XE ["_law_paper_here","_law_places"] [])
    (WZ : FnOk P w K mg base CX0 2 a.jB XF ["_law_paper_here","_law_wants","_law_oftens","_law_masks"] (VE K)) (ZR : Fun K "_law_shown" "_law_shown" zF a.jB XF) (W0 : Binds K XF ["_law_paper_here","_law_wants","_law_oftens","_law_masks"] [])
    (XG : FnOk P w K mg base CX0 8 a.Xe WS ["wants","oftens","masks"] (JJ K)) (Zq : Fun K "deal" "deal" yD a.Xe WS) (XH : Binds K WS ["wants","oftens","masks"] []) : FnOk P w K mg base CX0 9 f fd ["_law_script"] (Yy K):=by
  refine F.ok zbt (fun vs H Q E h=>?_) (fun cdv A outer s H vs Q E hr h=>?_)
  · obtain ⟨ad,ns,rfl,_⟩:=h
    rfl
  · obtain ⟨ad,ns,rfl,hS,hl,q⟩:=h
    refine ⟨_,(pss_cons (ps_asg (zq (sc:=defScope zj) WV (hr.mono (by decide)) rfl (by decide +kernel) T.zbw ZP.kp WW .nil pass0 (pa_cons (pvA 0 (defScope zj) zu rfl rfl) (pa_cons pe_int pa_nil))) (pg_tup (n:=3) (by rfl) (pgs_cons (pgN (i:=1) (sc:=defScope zj) (M:=zu) rfl rfl (by decide +kernel)) (pgs_cons (pgN (i:=2) (sc:=defScope zj) (M:=zu) rfl rfl (by decide +kernel)) (pgs_cons (pgN (i:=3) (sc:=defScope zj) (M:=zu) rfl rfl (by decide +kernel)) pgs_nil)))))
      (pss_cons (psN (i:=4) (sc:=defScope zj) (M:=zu) rfl rfl (by decide +kernel) (pe_lst (pa_cons (yh (sc:=defScope zj) call_list_of rfl (by decide +kernel) T.yq yG (pa_cons (pvA 1 (defScope zj) zu rfl rfl) pa_nil)) (pa_cons (yh (sc:=defScope zj) call_list_of rfl (by decide +kernel) T.yq yG (pa_cons (pvA 2 (defScope zj) zu rfl rfl) pa_nil)) (pa_cons (yh (sc:=defScope zj) call_list_of rfl (by decide +kernel) T.yq yG (pa_cons (pvA 3 (defScope zj) zu rfl rfl) pa_nil)) pa_nil)))))
      (pss_cons (psN (i:=5) (sc:=defScope zj) (M:=zu) rfl rfl (by decide +kernel) (zq (sc:=defScope zj) XG (hr.mono (by decide)) rfl (by decide +kernel) T.V5 Zq.kp XH .nil pass0 (pa_cons (pe_ix ix_list (pvA 4 (defScope zj) zu rfl rfl) pe_int (fun _ _=>rfl)) (pa_cons (pe_ix ix_list (pvA 4 (defScope zj) zu rfl rfl) pe_int (fun _ _=>rfl)) (pa_cons (pe_ix ix_list (pvA 4 (defScope zj) zu rfl rfl) pe_int (fun _ _=>rfl)) pa_nil)))))
      (pss_cons (ps_if (PW.pt (pw_or (pt_cmpR (zac (n:=60) (YS hr)) (pvA 4 (defScope zj) zu rfl rfl) (pe_lst (pa_cons (pvA 1 (defScope zj) zu rfl rfl) (pa_cons (pvA 2 (defScope zj) zu rfl rfl) (pa_cons (pvA 3 (defScope zj) zu rfl rfl) pa_nil)))) (nomark _)) (pw_or (pt_not (pt_val (zo (sc:=defScope zj) yr rfl (by decide +kernel) T.zG zS (pa_cons (pvA 5 (defScope zj) zu rfl rfl) (pa_cons (yF (v:=V.ty "tuple") (sc:=defScope zj) rfl (by decide +kernel) T.wg YO rfl) pa_nil))))) (pw_or1 (pt_cmpR op_ne (zo (sc:=defScope zj) call_len rfl (by decide +kernel) T.z7 z8 (pa_cons (pvA 5 (defScope zj) zu rfl rfl) pa_nil)) pe_int (nomark _)))))) (pss_one (ps_ret pe_bl)) pss_nil)
      (pss_cons (ps_asg (pvA 5 (defScope zj) zu rfl rfl) (pg_tup (n:=3) (by rfl) (pgs_cons (pgN (i:=6) (sc:=defScope zj) (M:=zu) rfl rfl (by decide +kernel)) (pgs_cons (pgN (i:=7) (sc:=defScope zj) (M:=zu) rfl rfl (by decide +kernel)) (pgs_cons (pgN (i:=8) (sc:=defScope zj) (M:=zu) rfl rfl (by decide +kernel)) pgs_nil)))))
      (pss_cons (ps_if (PW.pt (pw_or (pt_not (pt_val (zq (sc:=defScope zj) WT (hr.mono (by decide)) rfl (by decide +kernel) T.zbx ZO.kp WU .nil pass0 (pa_cons (pvA 6 (defScope zj) zu rfl rfl) (pa_cons (pvA 1 (defScope zj) zu rfl rfl) (pa_cons (pvA 2 (defScope zj) zu rfl rfl) (pa_cons (pvA 3 (defScope zj) zu rfl rfl) pa_nil))))))) (pw_or1 (pt_not (pt_val (zq (sc:=defScope zj) WX (hr.mono (by decide)) rfl (by decide +kernel) T.zbz ZQ.kp WY .nil pass0 (pa_cons (pvA 8 (defScope zj) zu rfl rfl) (pa_cons (zo (sc:=defScope zj) call_len rfl (by decide +kernel) T.z7 z8 (pa_cons (pvA 1 (defScope zj) zu rfl rfl) pa_nil)) pa_nil)))))))) (pss_one (ps_ret pe_bl)) pss_nil)
      (pss_cons (ps_if (PW.pt (pw_or (pt_not (pt_val (zo (sc:=defScope zj) yr rfl (by decide +kernel) T.zG zS (pa_cons (pvA 7 (defScope zj) zu rfl rfl) (pa_cons (yF (v:=V.ty "int") (sc:=defScope zj) rfl (by decide +kernel) T.wZ Zu rfl) pa_nil))))) (pw_or (pt_val (zo (sc:=defScope zj) yr rfl (by decide +kernel) T.zG zS (pa_cons (pvA 7 (defScope zj) zu rfl rfl) (pa_cons (yF (v:=V.ty "bool") (sc:=defScope zj) rfl (by decide +kernel) T.wG ZS rfl) pa_nil)))) (pw_or1 (pt_cmpR op_ne (pvA 7 (defScope zj) zu rfl rfl) (pe_op op_sub (zo (sc:=defScope zj) (Yb rfl) rfl (by decide +kernel) T.jT Vc (pa_cons (pvA 1 (defScope zj) zu rfl rfl) pa_nil)) (zo (sc:=defScope zj) call_len rfl (by decide +kernel) T.z7 z8 (pa_cons (pvA 6 (defScope zj) zu rfl rfl) pa_nil))) (nomark _)))))) (pss_one (ps_ret pe_bl)) pss_nil)
      (pss_cons (ps_if (pt_cmpR op_ne (zq (sc:=defScope zj) WZ (hr.mono (by decide)) rfl (by decide +kernel) T.zby ZR.kp W0 .nil pass0 (pa_cons (pvA 8 (defScope zj) zu rfl rfl) (pa_cons (pvA 1 (defScope zj) zu rfl rfl) (pa_cons (pvA 2 (defScope zj) zu rfl rfl) (pa_cons (pvA 3 (defScope zj) zu rfl rfl) pa_nil))))) (pvA 7 (defScope zj) zu rfl rfl) (nomark _)) (pss_one (ps_ret pe_bl)) pss_nil)
      (pss_cons (psN (i:=9) (sc:=defScope zj) (M:=zu) rfl rfl (by decide +kernel) (pe_tup (pa_cons (yh (sc:=defScope zj) call_list_of rfl (by decide +kernel) T.yq yG (pa_cons (pvA 6 (defScope zj) zu rfl rfl) pa_nil)) (pa_cons (pvA 7 (defScope zj) zu rfl rfl) (pa_cons (yh (sc:=defScope zj) call_list_of rfl (by decide +kernel) T.yq yG (pa_cons (pvA 8 (defScope zj) zu rfl rfl) pa_nil)) pa_nil)))))
      (pss_cons (ps_expr (pe_bm0 PySem.F.plainAttrs_list PySem.F.slot_list_clear PySem.F.type_list_clear mt_clear (pe_ix ix_list (pvA 4 (defScope zj) zu rfl rfl) pe_int (fun _ _=>rfl))))
      (pss_cons (ps_expr (pe_bm0 PySem.F.plainAttrs_list PySem.F.slot_list_clear PySem.F.type_list_clear mt_clear (pe_ix ix_list (pvA 4 (defScope zj) zu rfl rfl) pe_int (fun _ _=>rfl))))
      (pss_cons (ps_expr (zq (sc:=defScope zj) XG (hr.mono (by decide)) rfl (by decide +kernel) T.V5 Zq.kp XH .nil pass0 (pa_cons (pe_lst (pa_cons pe_int (pa_cons pe_int pa_nil))) (pa_cons (pe_lst (pa_cons pe_int pa_nil)) (pa_cons (pe_lst (pa_cons pe_int (pa_cons pe_int pa_nil))) pa_nil)))))
      (pss_cons (psN (i:=10) (sc:=defScope zj) (M:=zu) rfl rfl (by decide +kernel) (zq (sc:=defScope zj) XG (hr.mono (by decide)) rfl (by decide +kernel) T.V5 Zq.kp XH .nil pass0 (pa_cons (pvA 1 (defScope zj) zu rfl rfl) (pa_cons (pvA 2 (defScope zj) zu rfl rfl) (pa_cons (pvA 3 (defScope zj) zu rfl rfl) pa_nil)))))
      (pss_cons (ps_expr (pe_bm PySem.F.plainAttrs_list PySem.F.slot_list_append PySem.F.type_list_append mt_append (pe_ix ix_tup (pvA 10 (defScope zj) zu rfl rfl) pe_int (fun _ _=>rfl)) (pa_cons (pe_tup (pa_cons pe_int (pa_cons pe_int pa_nil))) pa_nil)))
      (pss_cons (ps_expr (pe_bm PySem.F.plainAttrs_list PySem.F.slot_list_append PySem.F.type_list_append mt_append (pe_ix ix_tup (pvA 10 (defScope zj) zu rfl rfl) pe_int (fun _ _=>rfl)) (pa_cons pe_int pa_nil)))
      (pss_one (ps_ret (pe_and (pe_cmpR (Zt (n:=60) (YS hr)) (pvA 5 (defScope zj) zu rfl rfl) (pvA 9 (defScope zj) zu rfl rfl) (nomark _)) (pe_and (pe_cmpR (Zt (n:=60) (YS hr)) (pe_slice sl_list (pe_ix ix_tup (pvA 10 (defScope zj) zu rfl rfl) pe_int (fun _ _=>rfl)) po_none (po_some (zo (sc:=defScope zj) call_len rfl (by decide +kernel) T.z7 z8 (pa_cons (pvA 6 (defScope zj) zu rfl rfl) pa_nil)))) (pvA 6 (defScope zj) zu rfl rfl) (nomark _)) (pe_one (pe_cmpR (Zt (n:=60) (YS hr)) (pe_slice sl_list (pe_ix ix_tup (pvA 10 (defScope zj) zu rfl rfl) pe_int (fun _ _=>rfl)) po_none (po_some (zo (sc:=defScope zj) call_len rfl (by decide +kernel) T.z7 z8 (pa_cons (pvA 8 (defScope zj) zu rfl rfl) pa_nil)))) (pvA 8 (defScope zj) zu rfl rfl) (nomark _)))))))))))))))))))))),?_⟩
    have hs' : sizeLine=16777216:=sizeLine_eq
    refine ⟨_,rfl,ad,ns,60,rfl,hS,hl,by decide,fun ws os ms H1 t pw po pm s1 G et ew eo em=>?_⟩
    have g1:=G.len
    have g2:=G.one
    have g3:=G.six
    have g4:=G.many
    have few:=zbK G
    have sb:=CD.ZE G.wl
    have sb6 : 60 * ws.length≤360:=by omega
    refine ⟨t,_,rfl,SqT.of et,rfl,_,_,rfl,_,_,rfl,_,_,rfl,rfl,?_⟩
    refine ⟨_,rfl,pw,_,rfl,.inl (SqL.of ew),fun r1 hr1=>?_⟩
    have u1:=Same.zp (o := .lst (nV ws)) hr1
    have f1 : upd H1 r1 (.lst (nV ws)) r1=some (.lst (nV ws)):=upd_same
    have nw1 : pw≠r1:=ne_of_none ew hr1
    have nm1 : pm≠r1:=ne_of_none em hr1
    have no1 : po≠r1:=ne_of_none eo hr1
    generalize upd H1 r1 (.lst (nV ws))=H2 at u1 f1 ⊢
    refine ⟨_,rfl,po,_,rfl,.inl (SqL.of (u1 _ _ eo)),fun r2 hr2=>?_⟩
    have u2:=Same.zp (o := .lst (nV os)) hr2
    have f2 : upd H2 r2 (.lst (nV os)) r2=some (.lst (nV os)):=upd_same
    generalize upd H2 r2 (.lst (nV os))=H3 at u2 f2 ⊢
    have u12:=u1.trans u2
    refine ⟨_,rfl,pm,_,rfl,.inl (SqL.of (u12 _ _ em)),fun r3 hr3=>?_⟩
    have u3:=Same.zp (o := .lst (nV ms)) hr3
    have f3 : upd H3 r3 (.lst (nV ms)) r3=some (.lst (nV ms)):=upd_same
    have nw3 : pw≠r3:=ne_of_none (u12 _ _ ew) hr3
    have nm3 : pm≠r3:=ne_of_none (u12 _ _ em) hr3
    have no3 : po≠r3:=ne_of_none (u12 _ _ eo) hr3
    have n13 : r1≠r3:=ne_of_none (u2 _ _ f1) hr3
    generalize upd H3 r3 (.lst (nV ms))=H4 at u3 f3 ⊢
    refine ⟨by first | decide | (simp only [List.length_cons,List.length_nil,List.length_append,List.length_map]; decide),fun lh hlh=>?_⟩
    have u4:=Same.zp (o := .lst [.ref r1,.ref r2,.ref r3]) hlh
    have f4 : upd H4 lh (.lst [.ref r1,.ref r2,.ref r3]) lh=some (.lst [.ref r1,.ref r2,.ref r3]):=upd_same
    have nh1 : lh≠r1:=(ne_of_none (u3 _ _ (u2 _ _ f1)) hlh).symm
    have nh3 : lh≠r3:=(ne_of_none f3 hlh).symm
    generalize upd H4 lh (.lst [.ref r1,.ref r2,.ref r3])=H5 at u4 f4 ⊢
    have s5:=(u12.trans u3).trans u4
    have d1:=u4 _ _ (u3 _ _ (u2 _ _ f1))
    have d2:=u4 _ _ (u3 _ _ f2)
    have d3:=u4 _ _ f3
    have cw:=s5 _ _ ew
    have co:=s5 _ _ eo
    have cm:=s5 _ _ em
    clear u12 u1 u2 u3 u4 f1 f2 f3 s5 hr1 hr2 hr3 hlh et ew eo em s1 hS
    refine ⟨_,rfl,lh,_,_,_,rfl,rfl,SqL.of f4,rfl,_,rfl,lh,_,_,_,rfl,rfl,SqL.of f4,rfl,_,rfl,lh,_,_,_,rfl,rfl,SqL.of f4,rfl,?_⟩
    refine ⟨r1,r2,r3,ws,os,ms,rfl,d1,d2,d3,g1,by omega,by omega,G.ml,few,fun H6 t6 l1 l3 zs qs ze z told hl1 hl3 ht6 _ s6 et6 el1 hA dB lq el3 pap shz op=>?_⟩
    have lz : zs.length=qs.length:=by have:=zd.length hA; rwa [List.length_map] at this
    have pl:=CO.ju pap
    have rl1 : l1≠r1∧l1≠r3∧l3≠r1∧l3≠r3∧t6≠r1∧t6≠r3:=⟨(ne_of_none d1 hl1).symm,(ne_of_none d3 hl1).symm,(ne_of_none d1 hl3).symm,(ne_of_none d3 hl3).symm,(ne_of_none d1 ht6).symm,(ne_of_none d3 ht6).symm⟩
    have up3 : ze.Pairwise (· < ·):=by
      obtain ⟨_,_,_,_,_,_,_,_,_,so⟩:=told
      have nd:=pap.1
      exact (List.Pairwise.and so nd).imp fun h=>Nat.lt_of_le_of_ne h.1 h.2
    have c1:=s6 _ _ d1
    have c2:=s6 _ _ d2
    have c3:=s6 _ _ d3
    have c4:=s6 _ _ f4
    have bw:=s6 _ _ cw
    have bo:=s6 _ _ co
    have bm:=s6 _ _ cm
    clear d1 d2 d3 f4 cw co cm s6 hl1 hl3 ht6
    refine ⟨_,rfl,_,rfl,_,rfl,_,rfl,by first | decide | (simp only [List.length_cons,List.length_nil,List.length_append,List.length_map]; decide),fun p7 hp7=>?_⟩
    have u7:=Same.zp (o := .lst [.ref pw,.ref po,.ref pm]) hp7
    have f7 : upd H6 p7 (.lst [.ref pw,.ref po,.ref pm]) p7=some (.lst [.ref pw,.ref po,.ref pm]):=upd_same
    generalize upd H6 p7 (.lst [.ref pw,.ref po,.ref pm])=H7 at u7 f7 ⊢
    have da : zf K H7 (.ref lh) (.list [.list (nD ws),.list (nD os),.list (nD ms)]):=zf.mkL (D:=H7) (zd.cons (yj (u7 _ _ c1)) (zd.cons (yj (u7 _ _ c2)) (zd.cons (yj (u7 _ _ c3)) zd.nil))) (u7 _ _ c4) (Same.refl _)
    have db : zf K H7 (.ref p7) (.list [.list (nD ws),.list (nD os),.list (nD ms)]):=zf.mkL (D:=H7) (zd.cons (yj (u7 _ _ bw)) (zd.cons (yj (u7 _ _ bo)) (zd.cons (yj (u7 _ _ bm)) zd.nil))) f7 (Same.refl _)
    have hlay:=VH ws os ms
    refine ⟨_,_,da,db,hlay.1,hlay.1,hlay.2,_,rfl,?_⟩
    rw [SeqAt.eqv_refl _ hlay.1]
    have et7:=u7 _ _ et6
    have Jk:=u7 _ _ el1
    have zaV:=u7 _ _ el3
    have hA7:=zd.same u7 _ hA
    have c17:=u7 _ _ c1
    have c37:=u7 _ _ c3
    have c47:=u7 _ _ c4
    have bw7:=u7 _ _ bw
    have bo7:=u7 _ _ bo
    have bm7:=u7 _ _ bm
    clear da db hlay c1 c2 c3 c4 bw bo bm et6 el1 el3 hA u7 f7 hp7
    refine iteF ⟨_,rfl,_,"tuple","tuple",true,rfl,.inr (.inl ⟨rfl,_,et7⟩),wN _,_,rfl,iteF ?_⟩
    refine ⟨_,rfl,.ref t6,3,rfl,.inr ⟨_,SqT.of et7,rfl⟩,rfl,_,rfl,iteNS rfl ?_⟩
    refine ⟨_,rfl,t6,_,rfl,SqT.of et7,rfl,_,_,rfl,_,_,rfl,_,_,rfl,rfl,?_⟩
    refine ⟨_,rfl,_,rfl,_,rfl,_,rfl,l1,pw,po,pm,zs,qs,ws,os,ms,rfl,Jk,hA7,SqL.of bw7,SqL.of bo7,SqL.of bm7,g1,by omega,by omega,fun H8 s8=>?_⟩
    rw [dB]
    have et8:=s8 _ _ et7
    have W2:=s8 _ _ Jk
    have XI:=s8 _ _ zaV
    have hA8:=zd.same s8 _ hA7
    have c18:=s8 _ _ c17
    have c38:=s8 _ _ c37
    have c48:=s8 _ _ c47
    have bw8:=s8 _ _ bw7
    have bo8:=s8 _ _ bo7
    have bm8:=s8 _ _ bm7
    clear et7 Jk zaV hA7 c17 c37 c47 bw7 bo7 bm7 s8
    refine ⟨_,rfl,iteF ⟨_,rfl,_,rfl,.ref pw,ws.length,rfl,.inl ⟨_,SqL.of bw8,by rw [zD]⟩,l3,ze,ws.length,rfl,XI,by omega,up3,fun p hp=>pap.2 p hp,_,rfl,iteF ?_⟩⟩
    refine ⟨_,rfl,_,"int","int",true,rfl,rfl,vd _,_,rfl,iteF ⟨_,rfl,_,"int","bool",false,rfl,rfl,wm _,_,rfl,iteF ?_⟩⟩
    refine ⟨_,rfl,_,rfl,pw,ws.map (fun n : Nat=>(n : Int)),rfl,SqL.of (by rw [← zai]; exact bw8),?_⟩
    rw [CO.sum_nat]
    refine ⟨_,rfl,.ref l1,zs.length,rfl,.inl ⟨_,SqL.of W2,rfl⟩,_,_,rfl,rfl,rfl,_,rfl,iteNS (congrArg V.int (by omega)) ?_⟩
    refine ⟨_,rfl,_,rfl,_,rfl,_,rfl,l3,pw,po,pm,ze,ws,os,ms,rfl,SqL.of XI,SqL.of bw8,SqL.of bo8,SqL.of bm8,fun p hp=>pap.2 p hp,g1,by omega,_,rfl,rfl,_,rfl,iteNS (congrArg V.int shz) ?_⟩
    refine ⟨_,rfl,l1,_,rfl,.inl (SqL.of W2),fun k1 hk1=>?_⟩
    have v1:=Same.zp (o := .lst zs) hk1
    have e1 : upd H8 k1 (.lst zs) k1=some (.lst zs):=upd_same
    have a1 : k1≠r1∧k1≠r3:=⟨(ne_of_none c18 hk1).symm,(ne_of_none c38 hk1).symm⟩
    generalize upd H8 k1 (.lst zs)=H9 at v1 e1 ⊢
    refine ⟨_,rfl,_,rfl,l3,_,rfl,.inl (SqL.of (v1 _ _ XI)),fun k3 hk3=>?_⟩
    have v2:=Same.zp (o := .lst (nV ze)) hk3
    have e3 : upd H9 k3 (.lst (nV ze)) k3=some (.lst (nV ze)):=upd_same
    have a3 : k3≠r1∧k3≠r3:=⟨(ne_of_none (v1 _ _ c18) hk3).symm,(ne_of_none (v1 _ _ c38) hk3).symm⟩
    generalize upd H9 k3 (.lst (nV ze))=H10 at v2 e3 ⊢
    have v12:=v1.trans v2
    refine ⟨by first | decide | (simp only [List.length_cons,List.length_nil,List.length_append,List.length_map]; decide),fun k9 hk9=>?_⟩
    have v3:=Same.zp (o := .tup [.ref k1,.int (z : Nat),.ref k3]) hk9
    have e9 : upd H10 k9 (.tup [.ref k1,.int (z : Nat),.ref k3]) k9=some (.tup [.ref k1,.int (z : Nat),.ref k3]):=upd_same
    have a9 : k9≠r1∧k9≠r3:=⟨(ne_of_none (v12 _ _ c18) hk9).symm,(ne_of_none (v12 _ _ c38) hk9).symm⟩
    generalize upd H10 k9 (.tup [.ref k1,.int (z : Nat),.ref k3])=H11 at v3 e9 ⊢
    have v13:=v12.trans v3
    have e1':=v3 _ _ (v2 _ _ e1)
    have e3':=v3 _ _ e3
    have et:=v13 _ _ et8
    have el1:=v13 _ _ W2
    have el3:=v13 _ _ XI
    have hA:=zd.same v13 _ hA8
    have c1:=v13 _ _ c18
    have c3:=v13 _ _ c38
    have c4:=v13 _ _ c48
    have bw:=v13 _ _ bw8
    have bo:=v13 _ _ bo8
    have bm:=v13 _ _ bm8
    clear et8 W2 XI hA8 c18 c38 c48 bw8 bo8 bm8 v1 v2 v3 v12 v13 e1 e3 hk1 hk3 hk9
    refine ⟨_,rfl,lh,_,_,_,rfl,rfl,SqL.of c4,rfl,.inl ⟨rfl,_,SqL.of c1⟩,r1,_,rfl,rfl,c1,?_⟩
    have c4' : upd H11 r1 (.lst []) lh=some (.lst [.ref r1,.ref r2,.ref r3]):=by rw [upd_ne nh1]; exact c4
    have c3' : upd H11 r1 (.lst []) r3=some (.lst (nV ms)):=by rw [upd_ne n13.symm]; exact c3
    refine ⟨_,rfl,lh,_,_,_,rfl,rfl,SqL.of c4',rfl,.inl ⟨rfl,_,SqL.of c3'⟩,r3,_,rfl,rfl,c3',?_⟩
    have kp : ∀ b u,b≠r1→b≠r3→H11 b=some u→upd (upd H11 r1 (.lst [])) r3 (.lst []) b=some u:=fun b u h1 h3 e=>by rw [upd_ne h3,upd_ne h1]; exact e
    have x9:=kp _ _ a9.1 a9.2 e9
    have x1:=kp _ _ a1.1 a1.2 e1'
    have x3:=kp _ _ a3.1 a3.2 e3'
    have xt:=kp _ _ rl1.2.2.2.2.1 rl1.2.2.2.2.2 et
    have xl1:=kp _ _ rl1.1 rl1.2.1 el1
    have xl3:=kp _ _ rl1.2.2.1 rl1.2.2.2.1 el3
    have xw:=kp _ _ nw1 nw3 bw
    have xo:=kp _ _ no1 no3 bo
    have xm:=kp _ _ nm1 nm3 bm
    have xA : zd K (upd (upd H11 r1 (.lst [])) r3 (.lst [])) zs (qs.map CP.pairD):=x6 (fun t xs e=>kp _ _ (fun z=>by rw [z,c1] at e; cases e) (fun z=>by rw [z,c3] at e; cases e) e) hA
    generalize upd (upd H11 r1 (.lst [])) r3 (.lst [])=H12 at x9 x1 x3 xt xl1 xl3 xw xo xm xA ⊢
    clear kp c4' c3' e9 e1' e3' et el1 el3 bw bo bm hA c1 c3 c4 nh1 nh3 n13 nw1 nw3 no1 no3 nm1 nm3 a1 a3 a9 rl1
    refine ⟨by first | decide | (simp only [List.length_cons,List.length_nil,List.length_append,List.length_map]; decide),fun i1 hi1=>?_⟩
    have w1:=Same.zp (o := .lst (nV [1,2])) hi1
    have j1 : upd H12 i1 (.lst (nV [1,2])) i1=some (.lst (nV [1,2])):=upd_same
    have jj : (HO.lst [V.int 1,V.int 2]) = .lst (nV [1,2]):=rfl
    rw [jj]
    generalize upd H12 i1 (.lst (nV [1,2]))=H13 at w1 j1 ⊢
    refine ⟨by first | decide | (simp only [List.length_cons,List.length_nil,List.length_append,List.length_map]; decide),fun i2 hi2=>?_⟩
    have w2:=Same.zp (o := .lst (nV [1])) hi2
    have j2 : upd H13 i2 (.lst (nV [1])) i2=some (.lst (nV [1])):=upd_same
    have jj : (HO.lst [V.int 1]) = .lst (nV [1]):=rfl
    rw [jj]
    generalize upd H13 i2 (.lst (nV [1]))=H14 at w2 j2 ⊢
    refine ⟨by first | decide | (simp only [List.length_cons,List.length_nil,List.length_append,List.length_map]; decide),fun i3 hi3=>?_⟩
    have w3:=Same.zp (o := .lst (nV [1,1])) hi3
    have j3 : upd H14 i3 (.lst (nV [1,1])) i3=some (.lst (nV [1,1])):=upd_same
    have jj : (HO.lst [V.int 1,V.int 1]) = .lst (nV [1,1]):=rfl
    rw [jj]
    generalize upd H14 i3 (.lst (nV [1,1]))=H15 at w3 j3 ⊢
    refine ⟨i1,i2,i3,[1,2],[1],[1,1],rfl,w3 _ _ (w2 _ _ j1),w3 _ _ j2,j3,rfl,by decide,by decide,by decide,by decide,fun H16 t16 l116 l316 zs16 qs16 paper16 z16 _ _ _ _ _ w4 _ _ _ _ _ _ _ _ _=>?_⟩
    have w14:=((w1.trans w2).trans w3).trans w4
    clear w1 w2 w3 w4 j1 j2 j3 jj hi1 hi2 hi3
    refine ⟨_,rfl,_,rfl,_,rfl,pw,po,pm,ws,os,ms,rfl,w14 _ _ xw,w14 _ _ xo,w14 _ _ xm,g1,by omega,by omega,G.ml,few,fun H17 t17 m1 m3 zs' qs' yc z' zbM hm1 hm3 zca Yz s17 Z6 em1 hA' dB' lq' em3 pap' shz' op'=>?_⟩
    obtain ⟨rfl,rfl,rfl⟩:=zbM.uniq told
    have lz' : zs'.length=qs'.length:=by have:=zd.length hA'; rwa [List.length_map] at this
    have y1:=w14 _ _ x1
    have y3:=w14 _ _ x3
    have y9:=w14 _ _ x9
    have yt:=w14 _ _ xt
    have yl1:=w14 _ _ xl1
    have yl3:=w14 _ _ xl3
    have yA:=zd.same w14 _ xA
    clear x1 x3 x9 xt xl1 xl3 xw xo xm xA w14
    have o1 : l1≠m1∧l3≠m1∧t6≠m1∧k1≠m1∧k3≠m1∧k9≠m1:=⟨ne_of_none yl1 hm1,ne_of_none yl3 hm1,ne_of_none yt hm1,ne_of_none y1 hm1,ne_of_none y3 hm1,ne_of_none y9 hm1⟩
    have o3 : l1≠m3∧l3≠m3∧t6≠m3∧k1≠m3∧k3≠m3∧k9≠m3:=⟨ne_of_none yl1 hm3,ne_of_none yl3 hm3,ne_of_none yt hm3,ne_of_none y1 hm3,ne_of_none y3 hm3,ne_of_none y9 hm3⟩
    have ot1 : t17≠m1:=CO.ne_of Z6 em1 (fun z=>nomatch z)
    have ot3 : t17≠m3:=CO.ne_of Z6 em3 (fun z=>nomatch z)
    have zaW:=zd.same s17 _ yA
    replace y1:=s17 _ _ y1
    replace y3:=s17 _ _ y3
    replace y9:=s17 _ _ y9
    replace yt:=s17 _ _ yt
    replace yl1:=s17 _ _ yl1
    replace yl3:=s17 _ _ yl3
    clear yA s17 hm1 hm3 zca
    refine ⟨_,rfl,t17,_,_,_,rfl,rfl,SqT.of Z6,rfl,.inl ⟨rfl,_,SqL.of em1⟩,by first | decide | (simp only [List.length_cons,List.length_nil,List.length_append,List.length_map]; decide),fun tt htt=>?_⟩
    have q1:=Same.zp (o := .tup [.int 0,.int 0]) htt
    generalize upd H17 tt (.tup [.int 0,.int 0])=H18 at q1 ⊢
    refine ⟨m1,_,_,rfl,rfl,q1 _ _ em1,by omega,?_⟩
    have kp1 : ∀ b u,b≠m1→H17 b=some u→upd H18 m1 (.lst (zs' ++ [.ref tt])) b=some u:=fun b u h1 e=>by rw [upd_ne h1]; exact q1 _ _ e
    have Jl : upd H18 m1 (.lst (zs' ++ [.ref tt])) m1=some (.lst (zs' ++ [.ref tt])):=upd_same
    generalize upd H18 m1 (.lst (zs' ++ [.ref tt]))=H19 at kp1 Jl ⊢
    refine ⟨_,rfl,t17,_,_,_,rfl,rfl,SqT.of (kp1 _ _ ot1 Z6),rfl,.inl ⟨rfl,_,SqL.of (kp1 _ _ Yz.symm em3)⟩,m3,_,_,rfl,rfl,kp1 _ _ Yz.symm em3,by rw [zD]; omega,?_⟩
    have kp : ∀ b u,b≠m1→b≠m3→H17 b=some u→upd H19 m3 (.lst (nV yc ++ [.int 0])) b=some u:=fun b u h1 h3 e=>by rw [upd_ne h3]; exact kp1 _ _ h1 e
    have zaX : upd H19 m3 (.lst (nV yc ++ [.int 0])) m3=some (.lst (nV yc ++ [.int 0])):=upd_same
    have JK : upd H19 m3 (.lst (nV yc ++ [.int 0])) m1=some (.lst (zs' ++ [.ref tt])):=by rw [upd_ne Yz]; exact Jl
    generalize upd H19 m3 (.lst (nV yc ++ [.int 0]))=H20 at kp zaX JK ⊢
    have mv : ∀ t xs,H17 t=some (.tup xs)→H20 t=some (.tup xs):=fun t xs e=>kp _ _ (CO.ne_of e em1 (fun z=>nomatch z)) (CO.ne_of e em3 (fun z=>nomatch z)) e
    have Jm:=x6 mv zaW
    have zcb:=x6 mv hA'
    have z1:=kp _ _ o1.2.2.2.1 o3.2.2.2.1 y1
    have z3:=kp _ _ o1.2.2.2.2.1 o3.2.2.2.2.1 y3
    have z9:=kp _ _ o1.2.2.2.2.2 o3.2.2.2.2.2 y9
    have zt:=kp _ _ o1.2.2.1 o3.2.2.1 yt
    have zl1:=kp _ _ o1.1 o3.1 yl1
    have zl3:=kp _ _ o1.2.1 o3.2.1 yl3
    have z17:=kp _ _ ot1 ot3 Z6
    clear kp kp1 mv zaW hA' y1 y3 y9 yt yl1 yl3 Z6 em1 em3 Jl q1 htt o1 o3 ot1 ot3 Yz
    have fl:=VG qs' z' yc
    have dF : zf K H20 (.ref t6) (.tuple [.list (qs'.map CP.pairD),.int (z' : Nat),.list (nD yc)]):=zf.mkT (D:=H20) (zd.cons (zf.mkL (D:=H20) Jm zl1 (Same.refl _)) (zd.cons zf.ofInt (zd.cons (yj zl3) zd.nil))) zt (Same.refl _)
    have dK : zf K H20 (.ref k9) (.tuple [.list (qs'.map CP.pairD),.int (z' : Nat),.list (nD yc)]):=zf.mkT (D:=H20) (zd.cons (zf.mkL (D:=H20) Jm z1 (Same.refl _)) (zd.cons zf.ofInt (zd.cons (yj z3) zd.nil))) z9 (Same.refl _)
    refine ⟨_,rfl,_,rfl,_,_,dF,dK,fl.1,fl.1,fl.2,_,rfl,?_⟩
    rw [SeqAt.eqv_refl _ fl.1,if_pos rfl]
    refine ⟨_,rfl,t17,_,_,_,rfl,rfl,SqT.of z17,rfl,?_⟩
    have lzz : zs.length=zs'.length:=by omega
    refine ⟨_,rfl,.ref l1,zs'.length,rfl,.inl ⟨_,SqL.of zl1,lzz.symm⟩,_,rfl,m1,_,rfl,SqL.of JK,fun p21 zcc=>?_⟩
    rw [show cutV (zs' ++ [V.ref tt]) none (some ((zs'.length : Nat) : Int))=zs' from by rw [Vg,List.take_left]]
    have u21:=Same.zp (o := .lst zs') zcc
    have f21 : upd H20 p21 (.lst zs') p21=some (.lst zs'):=upd_same
    generalize upd H20 p21 (.lst zs')=H21 at u21 f21 ⊢
    have pL:=WR qs'
    refine ⟨_,rfl,_,_,zf.mkL (D:=H21) (zd.same u21 _ zcb) f21 (Same.refl _),zf.mkL (D:=H21) (zd.same u21 _ Jm) (u21 _ _ zl1) (Same.refl _),pL.1,pL.1,pL.2,_,rfl,?_⟩
    rw [SeqAt.eqv_refl _ pL.1,if_pos rfl]
    refine ⟨_,rfl,t17,_,_,_,rfl,rfl,SqT.of (u21 _ _ z17),rfl,?_⟩
    refine ⟨_,rfl,.ref l3,yc.length,rfl,.inl ⟨_,SqL.of (u21 _ _ zl3),by rw [zD]⟩,_,rfl,m3,_,rfl,SqL.of (u21 _ _ zaX),fun p22 zcd=>?_⟩
    rw [show cutV (nV yc ++ [V.int 0]) none (some ((yc.length : Nat) : Int))=nV yc from by rw [Vg,← zD yc,List.take_left]]
    have u22:=Same.zp (o := .lst (nV yc)) zcd
    have f22 : upd H21 p22 (.lst (nV yc)) p22=some (.lst (nV yc)):=upd_same
    generalize upd H21 p22 (.lst (nV yc))=H22 at u22 f22 ⊢
    refine ⟨_,rfl,_,_,yj f22,yj (u22 _ _ (u21 _ _ zl3)),vG _,vG _,Z9 _ _,?_⟩
    rw [SeqAt.eqv_refl _ (vG _)]
    exact q _
end
theorem all_mk {l : PySem.W.OpenLaw} {w : World} {K : PySem.W.Frag} {h : Heap} {mg : Str→Option Value} {fa : Addr} (X : K.In h) (G : h.Ns mainGlobals mg) (hfa : mg "law"=some (.ref fa))
    {zg : Addr}
    {YA : Addr} {od1 an1 : Option Addr} {sl1 : Array (Option Value)} {oc1 kV1 dc1 pm1 cd1 ct1 : Value}
    {YB : Addr} {od2 an2 : Option Addr} {sl2 : Array (Option Value)} {oc2 kV2 dc2 pm2 cd2 ct2 : Value}
    {W3 : Addr} {od3 an3 : Option Addr} {sl3 : Array (Option Value)} {oc3 kV3 dc3 pm3 cd3 ct3 : Value}
    {W4 : Addr} {od4 an4 : Option Addr} {sl4 : Array (Option Value)} {oc4 kV4 dc4 pm4 cd4 ct4 : Value}
    {YC : Addr} {od5 an5 : Option Addr} {sl5 : Array (Option Value)} {oc5 kV5 dc5 pm5 cd5 ct5 : Value}
    {W5 : Addr} {od6 an6 : Option Addr} {sl6 : Array (Option Value)} {oc6 kV6 dc6 pm6 cd6 ct6 : Value}
    {YD : Addr} {od7 an7 : Option Addr} {sl7 : Array (Option Value)} {oc7 kV7 dc7 pm7 cd7 ct7 : Value}
    {XJ : Addr} {od8 an8 : Option Addr} {sl8 : Array (Option Value)} {oc8 kV8 dc8 pm8 cd8 ct8 : Value}
    {XM : Addr} {od9 an9 : Option Addr} {sl9 : Array (Option Value)} {oc9 kV9 dc9 pm9 cd9 ct9 : Value}
    {XN : Addr} {zce zcf : Option Addr} {zcg : Array (Option Value)} {zch zci zcj zck zaY zcl : Value}
    {XO : Addr} {zcm zcn : Option Addr} {zco : Array (Option Value)} {zcp zcq zcr zcs zaZ zct : Value}
    {XQ : Addr} {zcu zcv : Option Addr} {zcw : Array (Option Value)} {zcx zcy zcz zcA za0 zcB : Value}
    {YE : Addr} {zcC zcD : Option Addr} {zcE : Array (Option Value)} {zcF zcG zcH zcI za1 zcJ : Value}
    {W6 : Addr} {zcK zcL : Option Addr} {zcM : Array (Option Value)} {zcN zcO zcP zcQ za2 zcR : Value}
    {YF : Addr} {zcS zcT : Option Addr} {zcU : Array (Option Value)} {zcV zcW zcX zcY za3 zcZ : Value}
    {YG : Addr} {zc0 zc1 : Option Addr} {zc2 : Array (Option Value)} {zc3 zc4 zc5 zc6 za4 zc7 : Value}
    {YH : Addr} {zc8 zc9 : Option Addr} {zda : Array (Option Value)} {zdb zdc zdd zde za5 zdf : Value}
    {YI : Addr} {zdg zdh : Option Addr} {zdi : Array (Option Value)} {zdj zdk zdl zdm za6 zdn : Value}
    {YJ : Addr} {zdo zdp : Option Addr} {zdq : Array (Option Value)} {zdr zds zdu zdv za7 zdw : Value}
    {YK : Addr} {zdx zdy : Option Addr} {zdz : Array (Option Value)} {zdA zdB zdC zdD za8 zdE : Value}
    {YL : Addr} {zdF zdG : Option Addr} {zdH : Array (Option Value)} {zdI zdJ zdK zdL za9 zdM : Value}
    {Jo : Addr} {zdN zba : Option Addr} {zdO : Array (Option Value)} {zdP zbb zbc zbd Jp zbe : Value}
    (wF : PySem.W.nsIn K mainGlobals "Dealer"=some (some (.ref zg)))
    (a1 : PySem.W.nsIn K mainGlobals "mask_of"=some (some (.ref YA))) (l1 : K.lookup YA=some ⟨oc1,od1,.func (PySem.W.fnOf "mask_of" "mask_of" (defArgs yC) (defBody yC) (defScope yC) .none kV1 dc1 pm1 an1 cd1 ct1),sl1⟩) (c1 : PySem.W.codeIn K cd1 "mask_of"=true) (k1 : PySem.W.keepIn K (.ref YA)=true)
    (a2 : PySem.W.nsIn K mainGlobals "members"=some (some (.ref YB))) (l2 : K.lookup YB=some ⟨oc2,od2,.func (PySem.W.fnOf "members" "members" (defArgs yu) (defBody yu) (defScope yu) .none kV2 dc2 pm2 an2 cd2 ct2),sl2⟩) (c2 : PySem.W.codeIn K cd2 "members"=true) (k2 : PySem.W.keepIn K (.ref YB)=true)
    (a3 : PySem.W.nsIn K mainGlobals "has"=some (some (.ref W3))) (l3 : K.lookup W3=some ⟨oc3,od3,.func (PySem.W.fnOf "has" "has" (defArgs vh) (defBody vh) (defScope vh) .none kV3 dc3 pm3 an3 cd3 ct3),sl3⟩) (c3 : PySem.W.codeIn K cd3 "has"=true) (k3 : PySem.W.keepIn K (.ref W3)=true)
    (a4 : PySem.W.nsIn K mainGlobals "first_of"=some (some (.ref W4))) (l4 : K.lookup W4=some ⟨oc4,od4,.func (PySem.W.fnOf "first_of" "first_of" (defArgs wC) (defBody wC) (defScope wC) .none kV4 dc4 pm4 an4 cd4 ct4),sl4⟩) (c4 : PySem.W.codeIn K cd4 "first_of"=true) (k4 : PySem.W.keepIn K (.ref W4)=true)
    (a5 : PySem.W.nsIn K mainGlobals "shared"=some (some (.ref YC))) (l5 : K.lookup YC=some ⟨oc5,od5,.func (PySem.W.fnOf "shared" "shared" (defArgs xJ) (defBody xJ) (defScope xJ) .none kV5 dc5 pm5 an5 cd5 ct5),sl5⟩) (c5 : PySem.W.codeIn K cd5 "shared"=true) (k5 : PySem.W.keepIn K (.ref YC)=true)
    (a6 : PySem.W.nsIn K mainGlobals "either"=some (some (.ref W5))) (l6 : K.lookup W5=some ⟨oc6,od6,.func (PySem.W.fnOf "either" "either" (defArgs vQ) (defBody vQ) (defScope vQ) .none kV6 dc6 pm6 an6 cd6 ct6),sl6⟩) (c6 : PySem.W.codeIn K cd6 "either"=true) (k6 : PySem.W.keepIn K (.ref W5)=true)
    (a7 : PySem.W.nsIn K mainGlobals "less"=some (some (.ref YD))) (l7 : K.lookup YD=some ⟨oc7,od7,.func (PySem.W.fnOf "less" "less" (defArgs xK) (defBody xK) (defScope xK) .none kV7 dc7 pm7 an7 cd7 ct7),sl7⟩) (c7 : PySem.W.codeIn K cd7 "less"=true) (k7 : PySem.W.keepIn K (.ref YD)=true)
    (a8 : PySem.W.findIn K (.ref zg) "__init__"=some (some (.ref XJ))) (l8 : K.lookup XJ=some ⟨oc8,od8,.func (PySem.W.fnOf "__init__" "Dealer.__init__" (defArgs yl) (defBody yl) (defScope yl) .none kV8 dc8 pm8 an8 cd8 ct8),sl8⟩) (c8 : PySem.W.codeIn K cd8 "Dealer.__init__"=true) (k8 : PySem.W.keepIn K (.ref XJ)=true)
    (a9 : PySem.W.findIn K (.ref zg) "search"=some (some (.ref XM))) (l9 : K.lookup XM=some ⟨oc9,od9,.func (PySem.W.fnOf "search" "Dealer.search" (defArgs zw) (defBody zw) (defScope zw) .none kV9 dc9 pm9 an9 cd9 ct9),sl9⟩) (c9 : PySem.W.codeIn K cd9 "Dealer.search"=true) (k9 : PySem.W.keepIn K (.ref XM)=true)
    (a10 : PySem.W.findIn K (.ref zg) "go_on_from"=some (some (.ref XN))) (l10 : K.lookup XN=some ⟨zch,zce,.func (PySem.W.fnOf "go_on_from" "Dealer.go_on_from" (defArgs z6) (defBody z6) (defScope z6) .none zci zcj zck zcf zaY zcl),zcg⟩) (c10 : PySem.W.codeIn K zaY "Dealer.go_on_from"=true) (k10 : PySem.W.keepIn K (.ref XN)=true)
    (a11 : PySem.W.findIn K (.ref zg) "change"=some (some (.ref XO))) (l11 : K.lookup XO=some ⟨zcp,zcm,.func (PySem.W.fnOf "change" "Dealer.change" (defArgs zR) (defBody zR) (defScope zR) .none zcq zcr zcs zcn zaZ zct),zco⟩) (c11 : PySem.W.codeIn K zaZ "Dealer.change"=true) (k11 : PySem.W.keepIn K (.ref XO)=true)
    (a12 : PySem.W.findIn K (.ref zg) "grow"=some (some (.ref XQ))) (l12 : K.lookup XQ=some ⟨zcx,zcu,.func (PySem.W.fnOf "grow" "Dealer.grow" (defArgs xj) (defBody xj) (defScope xj) .none zcy zcz zcA zcv za0 zcB),zcw⟩) (c12 : PySem.W.codeIn K za0 "Dealer.grow"=true) (k12 : PySem.W.keepIn K (.ref XQ)=true)
    (a13 : PySem.W.nsIn K mainGlobals "pairs_of"=some (some (.ref YE))) (l13 : K.lookup YE=some ⟨zcF,zcC,.func (PySem.W.fnOf "pairs_of" "pairs_of" (defArgs zY) (defBody zY) (defScope zY) .none zcG zcH zcI zcD za1 zcJ),zcE⟩) (c13 : PySem.W.codeIn K za1 "pairs_of"=true) (k13 : PySem.W.keepIn K (.ref YE)=true)
    (a14 : PySem.W.nsIn K mainGlobals "deal"=some (some (.ref W6))) (l14 : K.lookup W6=some ⟨zcN,zcK,.func (PySem.W.fnOf "deal" "deal" (defArgs yD) (defBody yD) (defScope yD) .none zcO zcP zcQ zcL za2 zcR),zcM⟩) (c14 : PySem.W.codeIn K za2 "deal"=true) (k14 : PySem.W.keepIn K (.ref W6)=true)
    (a15 : PySem.W.nsIn K mainGlobals "_law_cell_at"=some (some (.ref YF))) (l15 : K.lookup YF=some ⟨zcV,zcS,.func (PySem.W.fnOf "_law_cell_at" "_law_cell_at" (defArgs yS) (defBody yS) (defScope yS) .none zcW zcX zcY zcT za3 zcZ),zcU⟩) (c15 : PySem.W.codeIn K za3 "_law_cell_at"=true) (k15 : PySem.W.keepIn K (.ref YF)=true)
    (a16 : PySem.W.nsIn K mainGlobals "_law_mixed"=some (some (.ref YG))) (l16 : K.lookup YG=some ⟨zc3,zc0,.func (PySem.W.fnOf "_law_mixed" "_law_mixed" (defArgs yO) (defBody yO) (defScope yO) .none zc4 zc5 zc6 zc1 za4 zc7),zc2⟩) (c16 : PySem.W.codeIn K za4 "_law_mixed"=true) (k16 : PySem.W.keepIn K (.ref YG)=true)
    (a17 : PySem.W.nsIn K mainGlobals "_law_ground"=some (some (.ref YH))) (l17 : K.lookup YH=some ⟨zdb,zc8,.func (PySem.W.fnOf "_law_ground" "_law_ground" (defArgs zm) (defBody zm) (defScope zm) .none zdc zdd zde zc9 za5 zdf),zda⟩) (c17 : PySem.W.codeIn K za5 "_law_ground"=true) (k17 : PySem.W.keepIn K (.ref YH)=true)
    (a18 : PySem.W.nsIn K mainGlobals "_law_fit"=some (some (.ref YI))) (l18 : K.lookup YI=some ⟨zdj,zdg,.func (PySem.W.fnOf "_law_fit" "_law_fit" (defArgs xq) (defBody xq) (defScope xq) .none zdk zdl zdm zdh za6 zdn),zdi⟩) (c18 : PySem.W.codeIn K za6 "_law_fit"=true) (k18 : PySem.W.keepIn K (.ref YI)=true)
    (a19 : PySem.W.nsIn K mainGlobals "_law_dealing"=some (some (.ref YJ))) (l19 : K.lookup YJ=some ⟨zdr,zdo,.func (PySem.W.fnOf "_law_dealing" "_law_dealing" (defArgs zh) (defBody zh) (defScope zh) .none zds zdu zdv zdp za7 zdw),zdq⟩) (c19 : PySem.W.codeIn K za7 "_law_dealing"=true) (k19 : PySem.W.keepIn K (.ref YJ)=true)
    (a20 : PySem.W.nsIn K mainGlobals "_law_shown"=some (some (.ref YK))) (l20 : K.lookup YK=some ⟨zdA,zdx,.func (PySem.W.fnOf "_law_shown" "_law_shown" (defArgs zF) (defBody zF) (defScope zF) .none zdB zdC zdD zdy za8 zdE),zdz⟩) (c20 : PySem.W.codeIn K za8 "_law_shown"=true) (k20 : PySem.W.keepIn K (.ref YK)=true)
    (a21 : PySem.W.nsIn K mainGlobals "_law_paper"=some (some (.ref YL))) (l21 : K.lookup YL=some ⟨zdI,zdF,.func (PySem.W.fnOf "_law_paper" "_law_paper" (defArgs zN) (defBody zN) (defScope zN) .none zdJ zdK zdL zdG za9 zdM),zdH⟩) (c21 : PySem.W.codeIn K za9 "_law_paper"=true) (k21 : PySem.W.keepIn K (.ref YL)=true)
    (a22 : PySem.W.nsIn K mainGlobals "law"=some (some (.ref Jo))) (l22 : K.lookup Jo=some ⟨zdP,zdN,.func (PySem.W.fnOf "law" "law" (defArgs zj) (defBody zj) (defScope zj) .none zbb zbc zbd zba Jp zbe),zdO⟩) (c22 : PySem.W.codeIn K Jp "law"=true) (k22 : PySem.W.keepIn K (.ref Jo)=true)
    (jG : PySem.W.plainGet K zg Str.empty=true) (jH : PySem.W.hasDictIn K zg=true) (jI : PySem.W.plainOver K zg=true) (jJ : PySem.W.findIn K (.ref zg) "__setattr__"=some (some (.builtin "object.__setattr__")))
    (v8 : PySem.W.makesIn K zg=true) (W7 : PySem.W.isFn K (.ref XJ)=true) (jK : PySem.W.keepIn K (.ref zg)=true)
    (W8 : PySem.W.isFn K (.ref XM)=true)
    (W9 : PySem.W.isFn K (.ref XN)=true)
    (Va : PySem.W.isFn K (.ref XO)=true)
    (Vb : PySem.W.isFn K (.ref XQ)=true)
    (ye : PySem.W.findIn K (.ref zg) "masks"=some none)
    (zE : PySem.W.findIn K (.ref zg) "held"=some none)
    (zQ : PySem.W.findIn K (.ref zg) "still"=some none)
    (zW : PySem.W.findIn K (.ref zg) "left"=some none)
    (zJ : PySem.W.findIn K (.ref zg) "came"=some none)
    (wG : PySem.W.nsIn K mainGlobals "bool"=some none)
    (yi : PySem.W.nsIn K mainGlobals "enumerate"=some none)
    (wZ : PySem.W.nsIn K mainGlobals "int"=some none)
    (zG : PySem.W.nsIn K mainGlobals "isinstance"=some none)
    (z7 : PySem.W.nsIn K mainGlobals "len"=some none)
    (yq : PySem.W.nsIn K mainGlobals "list"=some none)
    (ZL : PySem.W.nsIn K mainGlobals "min"=some none)
    (yx : PySem.W.nsIn K mainGlobals "range"=some none)
    (xF : PySem.W.nsIn K mainGlobals "sorted"=some none)
    (jT : PySem.W.nsIn K mainGlobals "sum"=some none)
    (wg : PySem.W.nsIn K mainGlobals "tuple"=some none) :
    ∃ fd : FuncData,(∀ (s : Shared) (v : Value),BindsTo s fd ⟨[v],[]⟩ [("_law_script",v)])∧∀ base : Heap,K.In base→base.Ns mainGlobals mg→FnOk l.prog w K mg base CX0 9 fa fd ["_law_script"] (Yy K):=by
  have e:=hfa.symm.trans (PySem.W.mg_of X G a22)
  cases e
  have T : Txt K mg ⟨YA,YB,W3,W4,YC,W5,YD,XJ,XM,XN,XO,XQ,YE,W6,YF,YG,YH,YI,YJ,YK,YL,zg⟩:=⟨PySem.W.mg_of X G a1,PySem.W.mg_of X G a2,PySem.W.mg_of X G a3,PySem.W.mg_of X G a4,PySem.W.mg_of X G a5,PySem.W.mg_of X G a6,PySem.W.mg_of X G a7,PySem.W.mg_of X G a13,PySem.W.mg_of X G a14,PySem.W.mg_of X G a15,PySem.W.mg_of X G a16,PySem.W.mg_of X G a17,PySem.W.mg_of X G a18,PySem.W.mg_of X G a19,PySem.W.mg_of X G a20,PySem.W.mg_of X G a21,PySem.W.mg_of X G wF,⟨jG,jH,jI,jJ⟩,⟨v8,a8,W7,jK⟩,⟨a9,W8,k9⟩,⟨a10,W9,k10⟩,⟨a11,Va,k11⟩,⟨a12,Vb,k12⟩,ye,zE,zQ,zW,zJ,PySem.W.mg_none_of X G wG,PySem.W.mg_none_of X G yi,PySem.W.mg_none_of X G wZ,PySem.W.mg_none_of X G zG,PySem.W.mg_none_of X G z7,PySem.W.mg_none_of X G yq,PySem.W.mg_none_of X G ZL,PySem.W.mg_none_of X G yx,PySem.W.mg_none_of X G xF,PySem.W.mg_none_of X G jT,PySem.W.mg_none_of X G wg⟩
  have xY:=fun_mk (st:=yC) l1 c1 k1
  have vX:=xY.binds (ps:=["numbers"]) fun _ _ _ _ _ _ us hl=>match us,hl with | [_],_=>rfl
  have ZM:=fun_mk (st:=yu) l2 c2 k2
  have WG:=ZM.binds (ps:=["mask"]) fun _ _ _ _ _ _ us hl=>match us,hl with | [_],_=>rfl
  have Xp:=fun_mk (st:=vh) l3 c3 k3
  have V8:=Xp.binds (ps:=["mask","number"]) fun _ _ _ _ _ _ us hl=>match us,hl with | [_,_],_=>rfl
  have jE:=fun_mk (st:=wC) l4 c4 k4
  have Z5:=jE.binds (ps:=["mask"]) fun _ _ _ _ _ _ us hl=>match us,hl with | [_],_=>rfl
  have w6:=fun_mk (st:=xJ) l5 c5 k5
  have jV:=w6.binds (ps:=["one","other"]) fun _ _ _ _ _ _ us hl=>match us,hl with | [_,_],_=>rfl
  have Xu:=fun_mk (st:=vQ) l6 c6 k6
  have Jd:=Xu.binds (ps:=["one","other"]) fun _ _ _ _ _ _ us hl=>match us,hl with | [_,_],_=>rfl
  have w9:=fun_mk (st:=xK) l7 c7 k7
  have jX:=w9.binds (ps:=["one","other"]) fun _ _ _ _ _ _ us hl=>match us,hl with | [_,_],_=>rfl
  have WJ:=fun_mk (st:=yl) l8 c8 k8
  have Jh:=WJ.binds (ps:=["self","wants","oftens","masks"]) fun _ _ _ _ _ _ us hl=>match us,hl with | [_,_,_,_],_=>rfl
  have WC:=fun_mk (st:=zw) l9 c9 k9
  have WD:=WC.binds (ps:=["self"]) fun _ _ _ _ _ _ us hl=>match us,hl with | [_],_=>rfl
  have Ww:=fun_mk (st:=z6) l10 c10 k10
  have Ja:=Ww.binds (ps:=["self","place","works"]) fun _ _ _ _ _ _ us hl=>match us,hl with | [_,_,_],_=>rfl
  have WA:=fun_mk (st:=zR) l11 c11 k11
  have Jf:=WA.binds (ps:=["self","pair"]) fun _ _ _ _ _ _ us hl=>match us,hl with | [_,_],_=>rfl
  have WL:=fun_mk (st:=xj) l12 c12 k12
  have Jj:=WL.binds (ps:=["self"]) fun _ _ _ _ _ _ us hl=>match us,hl with | [_],_=>rfl
  have ZN:=fun_mk (st:=zY) l13 c13 k13
  have WN:=ZN.binds (ps:=["held"]) fun _ _ _ _ _ _ us hl=>match us,hl with | [_],_=>rfl
  have Zq:=fun_mk (st:=yD) l14 c14 k14
  have XH:=Zq.binds (ps:=["wants","oftens","masks"]) fun _ _ _ _ _ _ us hl=>match us,hl with | [_,_,_],_=>rfl
  have jY:=fun_mk (st:=yS) l15 c15 k15
  have Yx:=jY.binds (ps:=["_law_script","_law_k"]) fun _ _ _ _ _ _ us hl=>match us,hl with | [_,_],_=>rfl
  have xZ:=fun_mk (st:=yO) l16 c16 k16
  have v7:=xZ.binds (ps:=["_law_cell","_law_k"]) fun _ _ _ _ _ _ us hl=>match us,hl with | [_,_],_=>rfl
  have ZP:=fun_mk (st:=zm) l17 c17 k17
  have WW:=ZP.binds (ps:=["_law_script","_law_most"]) fun _ _ _ _ _ _ us hl=>match us,hl with | [_,_],_=>rfl
  have vc:=fun_mk (st:=xq) l18 c18 k18
  have j0:=vc.binds (ps:=["_law_masks","_law_work","_law_place"]) fun _ _ _ _ _ _ us hl=>match us,hl with | [_,_,_],_=>rfl
  have ZO:=fun_mk (st:=zh) l19 c19 k19
  have WU:=ZO.binds (ps:=["_law_pairs","_law_wants","_law_oftens","_law_masks"]) fun _ _ _ _ _ _ us hl=>match us,hl with | [_,_,_,_],_=>rfl
  have ZR:=fun_mk (st:=zF) l20 c20 k20
  have W0:=ZR.binds (ps:=["_law_paper_here","_law_wants","_law_oftens","_law_masks"]) fun _ _ _ _ _ _ us hl=>match us,hl with | [_,_,_,_],_=>rfl
  have ZQ:=fun_mk (st:=zN) l21 c21 k21
  have WY:=ZQ.binds (ps:=["_law_paper_here","_law_places"]) fun _ _ _ _ _ _ us hl=>match us,hl with | [_,_],_=>rfl
  have zdQ:=fun_mk (st:=zj) l22 c22 k22
  refine ⟨PySem.W.fnOf "law" "law" (defArgs zj) (defBody zj) (defScope zj) .none zbb zbc zbd zba Jp zbe,fun s v => .of_eq rfl,fun base _ _=>?_⟩
  have vW:=zaI (P:=l.prog) (w:=w) (base:=base) xY T
  have V7:=zbA (P:=l.prog) (w:=w) (base:=base) Xp T
  have WE:=zaJ (P:=l.prog) (w:=w) (base:=base) ZM T V7 Xp V8
  have Z4:=zbB (P:=l.prog) (w:=w) (base:=base) jE T
  have jU:=zaK (P:=l.prog) (w:=w) (base:=base) w6 T
  have Jc:=zbC (P:=l.prog) (w:=w) (base:=base) Xu T
  have jW:=zaL (P:=l.prog) (w:=w) (base:=base) w9 T
  have Jg:=zbH (P:=l.prog) (w:=w) (base:=base) WJ T
  have V9:=zbD (P:=l.prog) (w:=w) (base:=base) Ww T Z4 jE Z5 jU w6 jV
  have WB:=zbE (P:=l.prog) (w:=w) (base:=base) WC T V9 Ww Ja Z4 jE Z5 jW w9 jX vW xY vX jU w6 jV
  have Je:=zbF (P:=l.prog) (w:=w) (base:=base) WA T Jc Xu Jd jW w9 jX vW xY vX
  have Ji:=zbG (P:=l.prog) (w:=w) (base:=base) WL T Je WA Jf WB WC WD
  have WM:=zaO (P:=l.prog) (w:=w) (base:=base) ZN T WE ZM WG
  have XG:=zbI (P:=l.prog) (w:=w) (base:=base) Zq T Jg WJ Jh Ji WL Jj WM ZN WN
  have Yw:=zaH (P:=l.prog) (w:=w) (base:=base) jY T
  have vZ:=zaP (P:=l.prog) (w:=w) (base:=base) xZ T
  have WV:=zaR (P:=l.prog) (w:=w) (base:=base) ZP T Yw jY Yx vZ xZ v7
  have jZ:=zaQ (P:=l.prog) (w:=w) (base:=base) vc T
  have WT:=zaS (P:=l.prog) (w:=w) (base:=base) ZO T jZ vc j0
  have WZ:=zaT (P:=l.prog) (w:=w) (base:=base) ZR T jZ vc j0
  have WX:=zaU (P:=l.prog) (w:=w) (base:=base) ZQ T
  exact zbL zdQ T WT ZO WU WV ZP WW WX ZQ WY WZ ZR W0 XG Zq XH
theorem walk {l : PySem.W.OpenLaw} {q : Program} {loose : List Str} {XP : (Str→Option Value)→Heap→Prop} {YP : World→Heap→Prop} {d : DefRec} {K : Params→PySem.W.Frag} (hn : l.most=some 63) (hdf : d.params.defaults=[])
    (hY : ∀ (w : World) (h : Heap),YP w h→(K w.params).In h)
    (F : ∀ (w : World) (mg : Str→Option Value) (fa : Addr) (h : Heap),(K w.params).In h→h.Ns mainGlobals mg→mg d.name=some (.ref fa) →
      ∃ fd : FuncData,(∀ (s : Shared) (u : Value),BindsTo s fd ⟨[u],[]⟩ [("_law_script",u)])∧∀ base : Heap,(K w.params).In base→base.Ns mainGlobals mg→FnOk l.prog w (K w.params) mg base CX0 9 fa fd ["_law_script"] (Yy (K w.params))) :
    PySem.W.WalkO q loose XP YP l.row.toRowW d [] (fun f vs=>PySem.call f vs) :=
  L2.walk_of (n:=63) (k:=9) (x:="_law_script") (CX:=fun _=>CX0) (sp:=fun w=>Yy (K w.params)) hn (by decide) hdf ⟨rfl,by decide,by decide⟩ hY F (fun _ _ a ns hl _ hS=>⟨a,ns,rfl,hS,hl,fun _=>rfl⟩) fun _ _ _ _ _ z=>z
end K53
open PySem PySem.W PyProof.Rows
set_option maxRecDepth 100000 in
set_option maxHeartbeats 0 in
theorem PySem.Challenge.cw_court_k53_whole_dealt_and_shown_holds : PySem.Challenge.rw_court_k53_whole_dealt_and_shown.Holds := by
  w_on; o_law; k_head; (case hw => w_witness2)
  k_fill
  refine K53.walk (l:=PySem.Challenge.rw_court_k53_whole_dealt_and_shown) rfl rfl (fun w h Y=>PySem.W.kIn_of Y) ?F
  case F =>
    intro w mg fa h KX G hmg
    refine' K53.all_mk KX G hmg ?wF ?a1 ?l1 ?c1 ?k1 ?a2 ?l2 ?c2 ?k2 ?a3 ?l3 ?c3 ?k3 ?a4 ?l4 ?c4 ?k4 ?a5 ?l5 ?c5 ?k5 ?a6 ?l6 ?c6 ?k6 ?a7 ?l7 ?c7 ?k7 ?a8 ?l8 ?c8 ?k8 ?a9 ?l9 ?c9 ?k9 ?a10 ?l10 ?c10 ?k10 ?a11 ?l11 ?c11 ?k11 ?a12 ?l12 ?c12 ?k12 ?a13 ?l13 ?c13 ?k13 ?a14 ?l14 ?c14 ?k14 ?a15 ?l15 ?c15 ?k15 ?a16 ?l16 ?c16 ?k16 ?a17 ?l17 ?c17 ?k17 ?a18 ?l18 ?c18 ?k18 ?a19 ?l19 ?c19 ?k19 ?a20 ?l20 ?c20 ?k20 ?a21 ?l21 ?c21 ?k21 ?a22 ?l22 ?c22 ?k22 ?jG ?jH ?jI ?jJ ?v8 ?W7 ?jK ?W8 ?W9 ?Va ?Vb ?ye ?zE ?zQ ?zW ?zJ ?wG ?yi ?wZ ?zG ?z7 ?yq ?ZL ?yx ?xF ?jT ?wg
    (case wF=>k_is)
    (case a1=>k_is)
    (case l1=>k_is)
    (case c1=>k_is)
    (case k1=>k_is)
    (case a2=>k_is)
    (case l2=>k_is)
    (case c2=>k_is)
    (case k2=>k_is)
    (case a3=>k_is)
    (case l3=>k_is)
    (case c3=>k_is)
    (case k3=>k_is)
    (case a4=>k_is)
    (case l4=>k_is)
    (case c4=>k_is)
    (case k4=>k_is)
    (case a5=>k_is)
    (case l5=>k_is)
    (case c5=>k_is)
    (case k5=>k_is)
    (case a6=>k_is)
    (case l6=>k_is)
    (case c6=>k_is)
    (case k6=>k_is)
    (case a7=>k_is)
    (case l7=>k_is)
    (case c7=>k_is)
    (case k7=>k_is)
    (case a8=>k_is)
    (case l8=>k_is)
    (case c8=>k_is)
    (case k8=>k_is)
    (case a9=>k_is)
    (case l9=>k_is)
    (case c9=>k_is)
    (case k9=>k_is)
    (case a10=>k_is)
    (case l10=>k_is)
    (case c10=>k_is)
    (case k10=>k_is)
    (case a11=>k_is)
    (case l11=>k_is)
    (case c11=>k_is)
    (case k11=>k_is)
    (case a12=>k_is)
    (case l12=>k_is)
    (case c12=>k_is)
    (case k12=>k_is)
    (case a13=>k_is)
    (case l13=>k_is)
    (case c13=>k_is)
    (case k13=>k_is)
    (case a14=>k_is)
    (case l14=>k_is)
    (case c14=>k_is)
    (case k14=>k_is)
    (case a15=>k_is)
    (case l15=>k_is)
    (case c15=>k_is)
    (case k15=>k_is)
    (case a16=>k_is)
    (case l16=>k_is)
    (case c16=>k_is)
    (case k16=>k_is)
    (case a17=>k_is)
    (case l17=>k_is)
    (case c17=>k_is)
    (case k17=>k_is)
    (case a18=>k_is)
    (case l18=>k_is)
    (case c18=>k_is)
    (case k18=>k_is)
    (case a19=>k_is)
    (case l19=>k_is)
    (case c19=>k_is)
    (case k19=>k_is)
    (case a20=>k_is)
    (case l20=>k_is)
    (case c20=>k_is)
    (case k20=>k_is)
    (case a21=>k_is)
    (case l21=>k_is)
    (case c21=>k_is)
    (case k21=>k_is)
    (case a22=>k_is)
    (case l22=>k_is)
    (case c22=>k_is)
    (case k22=>k_is)
    (case wG=>k_is)
    (case yi=>k_is)
    (case wZ=>k_is)
    (case zG=>k_is)
    (case z7=>k_is)
    (case yq=>k_is)
    (case ZL=>k_is)
    (case yx=>k_is)
    (case xF=>k_is)
    (case jT=>k_is)
    (case wg=>k_is)
    (case jG=>first | k_is | kernel_rfl)
    (case jH=>first | k_is | kernel_rfl)
    (case jI=>first | k_is | kernel_rfl)
    (case jJ=>first | k_is | kernel_rfl)
    (case v8=>first | k_is | kernel_rfl)
    (case W7=>first | k_is | kernel_rfl)
    (case jK=>first | k_is | kernel_rfl)
    (case W8=>first | k_is | kernel_rfl)
    (case W9=>first | k_is | kernel_rfl)
    (case Va=>first | k_is | kernel_rfl)
    (case Vb=>first | k_is | kernel_rfl)
    (case ye=>first | k_is | kernel_rfl)
    (case zE=>first | k_is | kernel_rfl)
    (case zQ=>first | k_is | kernel_rfl)
    (case zW=>first | k_is | kernel_rfl)
    (case zJ=>first | k_is | kernel_rfl)
#print axioms PySem.Challenge.cw_court_k53_whole_dealt_and_shown_holds
