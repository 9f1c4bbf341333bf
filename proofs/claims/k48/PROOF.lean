import PyProof.Rows.All
import Wide.All
import OpenK.AllK
import Wide.FinOn
import Lean
import PyProof.EqAt
import PyProof.EqKinds
import PyProof.TupleCall
import PyProof.NeKinds
import PySem.Challenge.RW_spareplank_k48_an_asking_step_by_step
set_option Elab.async false
set_option linter.all false
set_option maxRecDepth 100000
set_option maxHeartbeats 1000000
namespace L2
open PySem PySem.Spec PyProof.Rows
abbrev Key := Sum Int Str
def qh9_ : Key -> Value -> Bool
 | .inl k,v => Value.isInt k v
 | .inr x,v => Value.isStrOf x v
def keyH (w : World) : Key -> Int
 | .inl k => hashInt k
 | .inr x => hashStr w x
theorem jc_ : ∀ {k : Key} {v : Value},qh9_ k v = true -> (∃ i t,k = Sum.inl i /\ v = Value.int i t) \/ (∃ x t,k = Sum.inr x /\ v = Value.str x t)
 | .inl i,v,h => by
  obtain ⟨t,e⟩ := Value.isInt_shape (k := i) (v := v) h
  exact .inl ⟨i,t,rfl,e⟩
 | .inr x,v,h => by
  obtain ⟨t,e⟩ := Value.isStrOf_shape (x := x) (v := v) h
  exact .inr ⟨x,t,rfl,e⟩
theorem qj1_ (a b : Int) : decide ((Sum.inl a : Key) = Sum.inl b) = (a == b) := by
 by_cases e : a = b
 ·subst e; simp
 ·have h : ¬ (Sum.inl a : Key) = Sum.inl b := fun q => e (Sum.inl.inj q)
  rw [decide_eq_false h]
  exact (beq_eq_false_iff_ne.mpr e).symm
theorem qj2_ (a b : Str) : decide ((Sum.inr a : Key) = Sum.inr b) = decide (a = b) := by
 by_cases e : a = b
 ·subst e; simp
 ·have h : ¬ (Sum.inr a : Key) = Sum.inr b := fun q => e (Sum.inr.inj q)
  rw [decide_eq_false h,decide_eq_false e]
theorem qj3_ (a : Int) (b : Str) : decide ((Sum.inl a : Key) = Sum.inr b) = false := decide_eq_false (fun q => nomatch q)
theorem qj4_ (a : Str) (b : Int) : decide ((Sum.inr a : Key) = Sum.inl b) = false := decide_eq_false (fun q => nomatch q)
def qca_ (prog : Program) (w : World) : PySem.KeyKind prog w Key where
 is := qh9_
 hash := keyH w
 inj := fun v a b ha hb => by
  rcases jc_ ha with ⟨i,t,rfl,rfl⟩ | ⟨x,t,rfl,rfl⟩
  ·rcases jc_ hb with ⟨j,u,rfl,e⟩ | ⟨y,u,rfl,e⟩
   ·injection e with e1 _; rw [e1]
   ·exact nomatch e
  ·rcases jc_ hb with ⟨j,u,rfl,e⟩ | ⟨y,u,rfl,e⟩
   ·exact nomatch e
   ·injection e with e1 _; rw [e1]
 byValue := fun k v h => by
  rcases jc_ h with ⟨i,t,rfl,rfl⟩ | ⟨x,t,rfl,rfl⟩ <;> rfl
 pyHash := fun hv h => by
  rcases jc_ hv with ⟨i,t,rfl,rfl⟩ | ⟨x,t,rfl,rfl⟩
  ·exact wpAny_pyHash_int h
  ·exact wpAny_pyHash_str h
 eqBool := fun hu hv h => by
  rcases jc_ hu with ⟨i,t,rfl,rfl⟩ | ⟨x,t,rfl,rfl⟩
  ·rcases jc_ hv with ⟨j,u,rfl,rfl⟩ | ⟨y,u,rfl,rfl⟩
   ·rw [qj1_] at h; exact wpAny_eqBool_int h
   ·rw [qj3_] at h; exact SeqAt.EqAt.int_str i t y u _ _ _ _ h
  ·rcases jc_ hv with ⟨j,u,rfl,rfl⟩ | ⟨y,u,rfl,rfl⟩
   ·rw [qj4_] at h; exact SeqAt.EqAt.str_int x t j u _ _ _ _ h
   ·rw [qj2_] at h; exact wpAny_eqBool_str h
 «strs» := fun k x t v h => by
  rcases jc_ h with ⟨i,u,rfl,e⟩ | ⟨y,u,rfl,e⟩
  ·exact nomatch e
  ·injection e with e1 _
   subst e1
   cases v <;> rfl
inductive V where
 | non | bl (b : Bool) | int (i : Int) | str (x : Str) | byt (b : Array UInt8) | flt (b : UInt64) | ref (a : Addr) | ty (n : String)
 deriving DecidableEq
def RelV : V -> Value -> Prop
 | .non,u => u = Value.none
 | .bl b,u => u = Value.bool b
 | .int i,u => ∃ t,u = Value.int i t
 | .str x,u => ∃ t,u = Value.str x t
 | .byt b,u => ∃ t,u = Value.bytes b t
 | .flt b,u => ∃ t,u = Value.float b t
 | .ref a,u => u = Value.ref a
 | .ty n,u => u = Value.type n
abbrev Vals : List V -> List Value -> Prop := Paired RelV
theorem Vals.length {xs : List V} {us : List Value} (r : Vals xs us) : xs.length = us.length := Paired.length r
theorem Vals.get : ∀ {xs : List V} {us : List Value} {i : Nat} {x : V},Vals xs us -> xs[i]? = some x -> ∃ u,us[i]? = some u /\ RelV x u
 | _,_,_,_,.nil,e => by simp at e
 | _,_,0,_,.cons r _,e => by simp at e; subst e; exact ⟨_,rfl,r⟩
 | _,_,i + 1,x,.cons _ t,e => by
  obtain ⟨u,h1,h2⟩ := Vals.get (i := i) (x := x) t (by simpa using e)
  exact ⟨u,by simpa using h1,h2⟩
theorem Vals.set {x : V} {u : Value} (r : RelV x u) : ∀ {xs : List V} {us : List Value} (i : Nat),Vals xs us -> Vals (xs.set i x) (us.set i u)
 | _,_,_,.nil => .nil
 | _,_,0,.cons _ t => .cons r t
 | _,_,i + 1,.cons q t => .cons q (Vals.set r i t)
theorem Vals.append : ∀ {xs ys : List V} {us ws : List Value},Vals xs us -> Vals ys ws -> Vals (xs ++ ys) (us ++ ws)
 | _,_,_,_,.nil,s => s
 | _,_,_,_,.cons r t,s => .cons r (Vals.append t s)
theorem Vals.take : ∀ {xs : List V} {us : List Value} (n : Nat),Vals xs us -> Vals (xs.take n) (us.take n)
 | _,_,0,_ => .nil
 | _,_,_ + 1,.nil => .nil
 | _,_,n + 1,.cons r t => .cons r (Vals.take n t)
theorem Vals.drop : ∀ {xs : List V} {us : List Value} (n : Nat),Vals xs us -> Vals (xs.drop n) (us.drop n)
 | _,_,0,r => r
 | _,_,_ + 1,.nil => .nil
 | _,_,n + 1,.cons _ t => Vals.drop n t
def RelO : Option V -> Option Value -> Prop
 | some v,some u => RelV v u
 | none,none => True
 | _,_ => False
def KV {κ : Type} : List (κ × V) -> List (κ × Value) -> Prop := Paired fun (p : κ × V) (q : κ × Value) => p.1 = q.1 /\ RelV p.2 q.2
def kV : Key -> V
 | .inl i => .int i
 | .inr x => .str x
inductive HO where
 | lst (xs : List V)
 | tup (xs : List V)
 | dK (kvs : List (Key × V)) | dT (kvs : List (List Key × V))
 | set (S : Int -> Bool) (n : Nat)
 | ins (C dx : Addr) (fs : List (Str × V))
 | own (x : Addr)
 | xd (fs : List (Str × V))
 | met (f x : Addr)
 | rng (lo hi : Int)
 | frz (o : Obj) (u : HO)
 | tbl (ps : Array Value)
 | ext (φ : Heap -> Prop)
abbrev Hp := Addr -> Option HO
def upd (H : Hp) (a : Addr) (o : HO) : Hp := fun b => if b = a then some o else H b
theorem qd_ {H : Hp} {a : Addr} {o : HO} : upd H a o a = some o := by unfold upd; rw [if_pos rfl]
theorem qe_ {H : Hp} {a b : Addr} {o : HO} (h : b ≠ a) : upd H a o b = H b := by unfold upd; rw [if_neg h]
theorem q9_ {H : Hp} {a : Addr} {o u : HO} : upd (upd H a o) a u = upd H a u := by
 funext b; unfold upd; split <;> rfl
theorem yu_ {H : Hp} {a b : Addr} {o u : HO} (h : H a = some o) (h' : H b = some u) (d : o ≠ u) : a ≠ b := by
 intro e; subst e; rw [h] at h'; exact d (Option.some.inj h')
theorem ql_ {H : Hp} {a b : Addr} {o : HO} (h : H a = some o) (h' : H b = none) : a ≠ b := by
 intro e; subst e; rw [h] at h'; cases h'
section
variable (P : Program) (w : World)
def ObjOk (H : Hp) (h : Heap) (a : Addr) : HO -> Prop
 | .lst xs => xs.length ≤ sizeLine ∧ ∃ (its : List Value) (n : Nat),Vals xs its ∧ h.get? a = some { cls := .type "list",data := .seq its.toArray n }
 | .tup xs => xs.length <= sizeLine /\ ∃ its : List Value,Vals xs its /\ IsTup h a its.toArray
 | .dK kvs => kvs.length <= sizeLine /\ (a == sysModules) = false /\ ∃ vs,KV kvs vs /\ h.DictOf (qca_ P w) a vs
 | .dT kvs => kvs.length <= sizeLine /\ (a == sysModules) = false /\ ∃ xs : List (List Key × Addr × Value),
   Paired (fun (p : List Key × V) (q : List Key × Addr × Value) => p.1 = q.1 /\ H q.2.1 = some (.tup (p.1.map kV)) /\ RelV p.2 q.2.2) kvs xs ∧
   ∃ o es ep,h.get? a = some o /\ o.ExactDict /\ o.data = .dict es ep /\ es.toList = xs.map (entryOfKey (tupleKind (qca_ P w))) /\ (xs.map (·.1)).Nodup
 | .set S n => h.SetOf (intKind P w) a S n
 | .ins C dx fs => H dx = some (.own a) /\ fs.length <= 1000 /\ dx ≠ a /\ h.get? a = some (PySem.W.instObj C dx) ∧
   ∃ mA,h.Ns1 dx mA /\ (∀ f,RelO (fs.lookup f) (mA f)) /\ PySem.Within mA (fs.map (·.1))
 | .own _ => ∃ o,h.get? a = some o
 | .xd fs => ∃ mA,h.Ns1 a mA /\ ∀ f,RelO (fs.lookup f) (mA f)
 | .rng lo hi => ∃ t u v,h.get? a = some { cls := .type "range",data := .fields #[.int lo t,.int hi u,.int 1 v] }
 | .frz o u => h.get? a = some o /\ ObjOk H h a u
 | .tbl ps => h.get? a = some { cls := .none,data := .fields ps }
 | .met f x => h.get? a = some (PySem.W.methodObj (.ref f) (.ref x))
 | .ext φ => φ h /\ (∃ o,h.get? a = some o) /\ ∀ h1 h2 : Heap,φ h1 -> (∀ o,h1.get? a = some o -> h2.get? a = some o) -> φ h2
def HOk (H : Hp) (h : Heap) : Prop := ∀ a o,H a = some o -> ObjOk P w H h a o
end
section
variable {P : Program} {w : World} {H H' : Hp} {h h' : Heap} {a : Addr} {o : HO}
theorem ObjOk.lt (x : ObjOk P w H h a o) : a < h.objs.size := by
 cases o with
 | lst xs => obtain ⟨_,_,_,_,e⟩ := x; exact Heap.lt_size e
 | tup xs => obtain ⟨_,_,_,p⟩ := x; exact p.lt
 | dK kvs => obtain ⟨_,_,_,_,o,_,_,e,_⟩ := x; exact Heap.lt_size e
 | dT kvs => obtain ⟨_,_,_,_,o,_,_,e,_⟩ := x; exact Heap.lt_size e
 | set S n => obtain ⟨o,_,_,_,e,_⟩ := x; exact Heap.lt_size e
 | ins C dx fs => obtain ⟨_,_,_,e,_⟩ := x; exact Heap.lt_size e
 | own y => obtain ⟨_,e⟩ := x; exact Heap.lt_size e
 | xd fs => obtain ⟨_,⟨_,_,_,e,_⟩,_⟩ := x; exact Heap.lt_size e
 | rng lo hi => obtain ⟨_,_,_,e⟩ := x; exact Heap.lt_size e
 | frz ob u => obtain ⟨e,_⟩ := x; exact Heap.lt_size e
 | tbl ps => exact Heap.lt_size (show h.get? a = some _ from x)
 | met f y => exact Heap.lt_size (show h.get? a = some _ from x)
 | ext φ => obtain ⟨_,⟨_,e⟩,_⟩ := x; exact Heap.lt_size e
theorem Paired.mapP {α β : Type} {F G : α -> β -> Prop} : ∀ {l₁ : List α} {l₂ : List β},Paired F l₁ l₂ -> (∀ a b,F a b -> G a b) -> Paired G l₁ l₂
 | _,_,.nil,_ => .nil
 | _,_,.cons r t,f => .cons (f _ _ r) (Paired.mapP t f)
theorem ObjOk.stay (x : ObjOk P w H h a o) (k : ∀ b u,(b = a \/ H b = some (.own a)) -> h.get? b = some u -> h'.get? b = some u)
  (ho : ∀ b,H b = some (.own a) -> H' b = some (.own a)) (ht : ∀ b xs,H b = some (.tup xs) -> H' b = some (.tup xs)) : ObjOk P w H' h' a o := by
 induction o with
 | lst xs => obtain ⟨z,its,n,r,e⟩ := x; exact ⟨z,its,n,r,k _ _ (.inl rfl) e⟩
 | tup xs => obtain ⟨z,its,r,ob,e,c⟩ := x; exact ⟨z,its,r,ob,k _ _ (.inl rfl) e,c⟩
 | dK kvs => obtain ⟨z,y,vs,r,ob,es,ep,e,c⟩ := x; exact ⟨z,y,vs,r,ob,es,ep,k _ _ (.inl rfl) e,c⟩
 | dT kvs =>
  obtain ⟨z,y,xs,r,ob,es,ep,e,c⟩ := x
  exact ⟨z,y,xs,Paired.mapP r fun p q z => ⟨z.1,ht _ _ z.2.1,z.2.2⟩,ob,es,ep,k _ _ (.inl rfl) e,c⟩
 | set S n => obtain ⟨ob,es,ep,t,e,c⟩ := x; exact ⟨ob,es,ep,t,k _ _ (.inl rfl) e,c⟩
 | ins C dx fs =>
  obtain ⟨d,z,ne,e,mA,⟨od,es,ep,e2,c⟩,r⟩ := x
  exact ⟨ho _ d,z,ne,k _ _ (.inl rfl) e,mA,⟨od,es,ep,k _ _ (.inr d) e2,c⟩,r⟩
 | own y => obtain ⟨ob,e⟩ := x; exact ⟨ob,k _ _ (.inl rfl) e⟩
 | xd fs => obtain ⟨mA,⟨od,es,ep,e,c⟩,r⟩ := x; exact ⟨mA,⟨od,es,ep,k _ _ (.inl rfl) e,c⟩,r⟩
 | rng lo hi => obtain ⟨t,u,v,e⟩ := x; exact ⟨t,u,v,k _ _ (.inl rfl) e⟩
 | frz ob u ih => obtain ⟨e,q⟩ := x; exact ⟨k _ _ (.inl rfl) e,ih q⟩
 | tbl ps =>
  have e : h.get? a = some { cls := .none,data := .fields ps } := x
  show h'.get? a = some { cls := .none,data := .fields ps }
  exact k a _ (.inl rfl) e
 | met f y =>
  have e : h.get? a = some (PySem.W.methodObj (.ref f) (.ref y)) := x
  show h'.get? a = some (PySem.W.methodObj (.ref f) (.ref y))
  exact k a _ (.inl rfl) e
 | ext φ => obtain ⟨p,⟨o,e⟩,st⟩ := x; exact ⟨st _ _ p fun o q => k _ _ (.inl rfl) q,⟨o,k _ _ (.inl rfl) e⟩,st⟩
theorem HOk.lt (x : HOk P w H h) (e : H a = some o) : a < h.objs.size := (x a o e).lt
theorem HOk.fresh (x : HOk P w H h) (e : h.objs.size <= a) : H a = none := by
 cases q : H a with
 | none => rfl
 | some u => exact absurd (Nat.lt_of_lt_of_le (x.lt q) e) (Nat.lt_irrefl _)
theorem HOk.kept (x : HOk P w H h) (k : ∀ b u,h.get? b = some u -> h'.get? b = some u) : HOk P w H h' := fun a o e =>
 (x a o e).stay (fun b u _ q => k b u q) (fun _ q => q) fun _ _ q => q
theorem HOk.laid (x : HOk P w H h) (k : ∀ b u,h.get? b = some u -> h'.get? b = some u) (hp : h.objs.size <= a) (new : ObjOk P w (upd H a o) h' a o) : HOk P w (upd H a o) h' := fun b u e => by
 have hn := x.fresh hp
 by_cases hb : b = a
 ·subst hb; rw [qd_] at e; cases e; exact new
 ·rw [qe_ hb] at e
  exact (x b u e).stay (fun c v _ q => k c v q) (fun c q => by rw [qe_ (ql_ q hn)]; exact q) fun c xs q => by rw [qe_ (ql_ q hn)]; exact q
end
def Rd (H : Hp) (a : Addr) (u : HO) : Prop := H a = some u \/ ∃ o,H a = some (.frz o u)
theorem Rd.ok {P : Program} {w : World} {H : Hp} {h : Heap} {a : Addr} {u : HO} (r : Rd H a u) (x : HOk P w H h) : ObjOk P w H h a u := by
 rcases r with r | ⟨o,r⟩
 ·exact x a u r
 ·obtain ⟨_,q⟩ := x a _ r
  exact q
def Mut : Option HO -> Prop
 | some (.lst _) => True
 | some (.dK _) => True
 | some (.dT _) => True
 | some (.set _ _) => True
 | some (.ins _ _ _) => True
 | some (.ext _) => True
 | _ => False
section
variable {P : Program} {w : World} {H : Hp} {h h' : Heap} {x e : Addr} {o' : HO}
theorem HOk.write (ok : HOk P w H h) (mu : Mut (H x)) (he : e = x \/ H e = some (.own x)) (k : ∀ b u,b ≠ e -> h.get? b = some u -> h'.get? b = some u) (heo : ∃ u,h'.get? e = some u)
  (new : ObjOk P w (upd H x o') h' x o') : HOk P w (upd H x o') h' := fun b u q => by
 have nown : ∀ c y,H c = some (.own y) -> c ≠ x := fun c y r z => by subst z; rw [r] at mu; exact mu
 have ntup : ∀ c xs,H c = some (.tup xs) -> c ≠ x := fun c xs r z => by subst z; rw [r] at mu; exact mu
 by_cases hb : b = x
 ·subst hb; rw [qd_] at q; cases q; exact new
 ·rw [qe_ hb] at q
  by_cases hbe : b = e
  ·have q' : H b = some (.own x) := by
    rcases he with z | z
    ·exact absurd (hbe.trans z) hb
    ·rw [hbe]; exact z
   rw [q] at q'; cases q'
   obtain ⟨v,hv⟩ := heo
   exact ⟨v,by rw [hbe]; exact hv⟩
  ·refine (ok b u q).stay (fun c v hc r => k c v ?_ r) (fun c r => by rw [qe_ (nown c b r)]; exact r) fun c xs r => by rw [qe_ (ntup c xs r)]; exact r
   rcases hc with rfl | hc
   ·exact hbe
   ·rintro rfl
    rcases he with z | z
    ·exact nown c b hc z
    ·rw [hc] at z; cases z; exact hb rfl
end
structure Un (fs ex : List Addr) (H H' : Hp) (h h' : Heap) : Prop where
 keep : ∀ b o,h.get? b = some o -> H b = none -> b ∉ fs -> b ∉ ex -> h'.get? b = some o
 slot : ∀ b o,h.get? b = some o -> H b = none -> b ∈ fs -> b ∉ ex -> ∃ sl,h'.get? b = some { o with slots := sl }
 free : ∀ b o,h.get? b = some o -> H b = none -> b ∉ ex -> H' b = none
 there : ∀ b o,h.get? b = some o -> b ∉ ex -> ∃ o',h'.get? b = some o'
 tups : ∀ b xs,H b = some (.tup xs) -> H' b = some (.tup xs)
 frzs : ∀ b o u,H b = some (.frz o u) -> H' b = some (.frz o u)
 tbls : ∀ b ps,H b = some (.tbl ps) -> ∃ more,H' b = some (.tbl (ps ++ more))
section
variable {fs fs' ex ex' : List Addr} {H H1 H2 : Hp} {h h1 h2 h' : Heap} {a x e : Addr} {o : HO}
theorem Un.any (u : Un fs ex H H1 h h1) {b : Addr} {ob : Obj} (q : h.get? b = some ob) (n : H b = none) (hx : b ∉ ex) : ∃ sl,h1.get? b = some { ob with slots := sl } := by
 by_cases hb : b ∈ fs
 ·exact u.slot b ob q n hb hx
 ·exact ⟨ob.slots,u.keep b ob q n hb hx⟩
theorem Un.trans (a : Un fs ex H H1 h h1) (b : Un fs ex H1 H2 h1 h2) : Un fs ex H H2 h h2 where
 keep := fun c ob q n hc hx => b.keep c ob (a.keep c ob q n hc hx) (a.free c ob q n hx) hc hx
 slot := fun c ob q n hc hx => by
  obtain ⟨sl,e1⟩ := a.slot c ob q n hc hx
  obtain ⟨sl',e2⟩ := b.slot c _ e1 (a.free c ob q n hx) hc hx
  exact ⟨sl',e2⟩
 free := fun c ob q n hx => by
  obtain ⟨o',e1⟩ := a.there c ob q hx
  exact b.free c o' e1 (a.free c ob q n hx) hx
 there := fun c ob q hx => by
  obtain ⟨o',e1⟩ := a.there c ob q hx
  exact b.there c o' e1 hx
 tups := fun c xs q => b.tups c xs (a.tups c xs q)
 frzs := fun c ob xs q => b.frzs c ob xs (a.frzs c ob xs q)
 tbls := fun c ps q => by
  obtain ⟨m1,e1⟩ := a.tbls c ps q
  obtain ⟨m2,e2⟩ := b.tbls c _ e1
  exact ⟨m1 ++ m2,by rw [e2,Array.append_assoc]⟩
theorem Un.kept (k : ∀ b u,h.get? b = some u -> h'.get? b = some u) : Un fs ex H H h h' :=
 ⟨fun b ob q _ _ _ => k b ob q,fun b ob q _ _ _ => ⟨ob.slots,k b ob q⟩,fun _ _ _ n _ => n,fun b ob q _ => ⟨ob,k b ob q⟩,fun _ _ q => q,fun _ _ _ q => q,fun _ ps q => ⟨#[],by rw [q]; simp⟩⟩
theorem Un.refl : Un fs ex H H h h := Un.kept fun _ _ q => q
theorem Un.laid (k : ∀ b u,h.get? b = some u -> h'.get? b = some u) (hp : h.objs.size <= a) (hn : H a = none) : Un fs ex H (upd H a o) h h' where
 keep := fun b u q _ _ _ => k b u q
 slot := fun b u q _ _ _ => ⟨u.slots,k b u q⟩
 free := fun b u q n _ => by rw [qe_ (Nat.ne_of_lt (Nat.lt_of_lt_of_le (Heap.lt_size q) hp))]; exact n
 there := fun b u q _ => ⟨u,k b u q⟩
 tups := fun b xs q => by rw [qe_ (ql_ q hn)]; exact q
 frzs := fun b u xs q => by rw [qe_ (ql_ q hn)]; exact q
 tbls := fun b ps q => ⟨#[],by rw [qe_ (ql_ q hn),q]; simp⟩
theorem Un.write (mu : Mut (H x)) (he : e = x \/ H e = some (.own x)) (k : ∀ b u,b ≠ e -> h.get? b = some u -> h'.get? b = some u) (heo : ∃ u,h'.get? e = some u) : Un fs ex H (upd H x o) h h' := by
 have hx : ∀ b,H b = none -> b ≠ x := fun b n z => by subst z; rw [n] at mu; exact mu
 have hb : ∀ b,H b = none -> b ≠ e := fun b n z => by
  subst z
  rcases he with r | r
  ·exact hx b n r
  ·rw [n] at r; cases r
 have hm : ∀ b u,H b = some u -> ¬ Mut (some u) -> b ≠ x := fun b u q nm z => by subst z; rw [q] at mu; exact nm mu
 refine ⟨fun b u q n _ _ => k b u (hb b n) q,fun b u q n _ _ => ⟨u.slots,k b u (hb b n) q⟩,fun b u q n _ => by rw [qe_ (hx b n)]; exact n,fun b u q _ => ?_,
  fun b xs q => by rw [qe_ (hm b _ q fun z => z)]; exact q,fun b u xs q => by rw [qe_ (hm b _ q fun z => z)]; exact q,fun b ps q => ⟨#[],by rw [qe_ (hm b _ q fun z => z),q]; simp⟩⟩
 by_cases hbe : b = e
 ·subst hbe; exact heo
 ·exact ⟨u,k b u hbe q⟩
end
def trk (h : Heap) (H : Hp) : List Addr := (List.range h.objs.size).filter fun a => (H a).isSome
def hidT (h : Heap) (H : Hp) : Heap := PySem.W.hideAll h (trk h H)
theorem qeb_ (h : Heap) (H : Hp) : (hidT h H).objs.size = h.objs.size := PySem.W.hideAll_size _ _
theorem qgl_ {h : Heap} {H : Hp} {b : Addr} {o : Obj} (e : h.get? b = some o) (n : H b = none) : (hidT h H).get? b = some o :=
 PySem.W.hideAll_get _ e fun hm => by
  have q : (H b).isSome = true := (List.mem_filter.mp hm).2
  rw [n] at q; simp at q
theorem qij_ {h : Heap} {H : Hp} {b : Addr} {o : Obj} (e : (hidT h H).get? b = some o) : h.get? b = some o /\ H b = none := by
 have e' : h.get? b = some o := PySem.W.of_hideAll (trk h H) e
 refine ⟨e',?_⟩
 cases q : H b with
 | none => rfl
 | some x =>
  have hm : b ∈ trk h H := List.mem_filter.mpr ⟨List.mem_range.mpr (Heap.lt_size e'),by simp [q]⟩
  have z : (hidT h H).get? b = none := PySem.W.hideAll_none (trk h H) hm
  rw [z] at e; cases e
def qik_ (g h : Heap) (L : Addr) : List (Addr × Obj) := (List.range h.objs.size).filterMap fun a => if a = L \/ (g.get? a).isSome = true then none else (h.get? a).map fun o => (a,o)
def rest (g h : Heap) (L d : Addr) : List (Addr × Obj) := (qik_ g h L).filter fun p => decide (p.1 ≠ d)
structure Mod (K : PySem.W.Frag) (mg : Str -> Option Value) (base : Heap) : Prop where
 kin : K.In base
 glob : base.Ns mainGlobals mg
 blt : ∃ mb,base.Ns builtinsNs mb ∧ ∀ x : Str,x ≠ "__name__" → mb x = bootBuiltins x
 nolimit : base.NoLimit
structure Cx where
 prog : Program
 w : World
 K : PySem.W.Frag
 mg : Str -> Option Value
 base : Heap
 A : Around
 N : List Str
 s₀ : Shared
 H₀ : Hp
 env : Env
 outer : List Env
 stack : List Env
 ex : List Addr
 fn : Str -> Bool
 calm : Bool
 pn : List (Addr × Obj)
 xe : Value -> Shared -> Prop
def frs (l : List Env) : List Addr := l.filterMap (·.frame)
abbrev Cx.fs (X : Cx) : List Addr := frs X.outer
def Vis (sc : Scope) (x : Str) : Prop := sc.names.lookup x = some .local \/ sc.names.lookup x = some .cell \/ sc.names.lookup x = some .free
def Loc (sc : Scope) (x : Str) : Prop := sc.names.lookup x = some .local \/ sc.names.lookup x = some .cell
def Look (env : Env) (h : Heap) (m : Str -> Option Value) (x : Str) (u : Value) : Prop :=
 (env.kindOf x = some .local /\ m x = some u) \/ ((env.kindOf x = some .cell \/ env.kindOf x = some .free) /\ ∃ c,env.cells.lookup x = some c /\ h.IsCell c (some u))
structure Cx.Ok (X : Cx) : Prop where
 mod : Mod X.K X.mg X.base
 kind : X.env.scope.kind = .function
 glob : X.env.globals = mainGlobals
 blt : X.env.builtins = builtinsNs
 above : X.s₀.heap.objs.size <= X.env.locals
 inj : ∀ x y c,X.env.cells.lookup x = some c -> X.env.cells.lookup y = some c -> x = y
 has : ∀ x,(X.env.kindOf x = some .cell \/ X.env.kindOf x = some .free) -> ∃ c,X.env.cells.lookup x = some c
 cab : ∀ x c,X.fn x = true -> X.env.cells.lookup x = some c -> X.s₀.heap.objs.size <= c
 hd : X.calm = true -> X.A.handled = none
 frames : X.A.frames = some X.stack
 stk : X.stack = X.outer \/ (X.stack = X.env :: X.outer /\ X.env.frame = some X.env.locals)
 exf : ∀ b ∈ X.ex,b ≠ X.env.locals /\ ∀ x c,X.env.cells.lookup x = some c -> c ≠ b
 bs : ∀ b o,X.base.get? b = some o -> X.s₀.heap.get? b = some o /\ X.H₀ b = none
 bsz : X.base.objs.size <= X.s₀.heap.objs.size
 noex : ∀ b o,X.base.get? b = some o -> b ∉ X.ex
 exfs : ∀ b ∈ X.ex,b ∉ X.fs
 funs : X.s₀.heap.FunFrames X.base X.outer
 frf : ∀ b ∈ X.fs,X.H₀ b = none
structure Inv (X : Cx) (pins : List (Addr × Obj)) (σ : List (Option V)) (H : Hp) (s : Shared) : Prop where
 ok : X.Ok
 os : s.os = X.s₀.os
 bare : AllBare s.gens
 base : Un X.fs X.ex X.H₀ H X.s₀.heap s.heap
 loc : ∃ m,s.heap.Ns X.env.locals m /\ ∀ (i : Nat) (x : Str) (v : V),X.N[i]? = some x -> σ[i]? = some (some v) -> Vis X.env.scope x -> ∃ u,RelV v u /\ Look X.env s.heap m x u
 cell : ∀ x c,X.env.cells.lookup x = some c -> ∃ v,s.heap.IsCell c v
 free : H X.env.locals = none
 freeC : ∀ x c,X.env.cells.lookup x = some c -> H c = none
 pin : ∀ p ∈ X.pn ++ pins,s.heap.get? p.1 = some p.2 /\ H p.1 = none /\ p.1 ≠ X.env.locals /\ p.1 ∉ X.fs /\ ∀ v,p.2.data ≠ .cell v
 hok : HOk X.prog X.w H s.heap
 len : σ.length = X.N.length
section
variable {X : Cx} {pins : List (Addr × Obj)} {σ : List (Option V)} {H H' : Hp} {s : Shared} {h' : Heap}
theorem Cx.Ok.nofr (ok : X.Ok) {b : Addr} {o : Obj} (e : X.base.get? b = some o) : b ∉ X.fs := fun hb => by
 have := (ok.funs.mem hb).1
 rw [e] at this; cases this
theorem Inv.bs (I : Inv X pins σ H s) : ∀ b o,X.base.get? b = some o -> s.heap.get? b = some o /\ H b = none := fun b o e =>
 ⟨I.base.keep b o (I.ok.bs b o e).1 (I.ok.bs b o e).2 (I.ok.nofr e) (I.ok.noex b o e),I.base.free b o (I.ok.bs b o e).1 (I.ok.bs b o e).2 (I.ok.noex b o e)⟩
theorem Inv.bk (I : Inv X pins σ H s) : ∀ b o,X.base.get? b = some o -> s.heap.get? b = some o := fun b o e => (I.bs b o e).1
theorem Inv.mod (I : Inv X pins σ H s) : Mod X.K X.mg X.base := I.ok.mod
theorem Inv.kIn (I : Inv X pins σ H s) : X.K.In s.heap := I.ok.mod.kin.keeps I.bk
theorem Inv.lt (I : Inv X pins σ H s) : X.env.locals < s.heap.objs.size := let ⟨_,hn,_⟩ := I.loc; hn.lt
theorem Inv.sz (I : Inv X pins σ H s) : X.s₀.heap.objs.size <= s.heap.objs.size := Nat.le_trans I.ok.above (Nat.le_of_lt I.lt)
theorem Inv.nofs (I : Inv X pins σ H s) {a : Addr} (h : s.heap.objs.size <= a) : a ∉ X.fs := fun hb => by
 obtain ⟨_,o,ho,_⟩ := I.ok.funs.mem hb
 exact absurd (Nat.lt_of_lt_of_le (Heap.lt_size ho) (Nat.le_trans I.sz h)) (Nat.lt_irrefl _)
theorem Inv.cne (I : Inv X pins σ H s) : ∀ x c,X.env.cells.lookup x = some c -> c ≠ X.env.locals := fun x c e z => by
 obtain ⟨v,o,ho,hd⟩ := I.cell x c e
 obtain ⟨m,⟨o',es,ep,ho',hd',_⟩,_⟩ := I.loc
 rw [z,ho'] at ho; cases ho; rw [hd'] at hd; cases hd
theorem Inv.funs (I : Inv X pins σ H s) : s.heap.FunFrames X.base X.outer := by
 have all : ∀ (l : List Env),(∀ b ∈ frs l,b ∈ X.fs) -> X.s₀.heap.FunFrames X.base l -> s.heap.FunFrames X.base l := by
  intro l
  induction l with
  | nil => intro _ _; trivial
  | cons env r ih =>
   intro hs hl
   obtain ⟨hk,⟨L,o,hf,hn,ho,hd⟩,hr⟩ := hl
   have hL : L ∈ X.fs := hs L (by unfold frs; rw [List.filterMap_cons,hf]; exact List.mem_cons_self)
   obtain ⟨sl,e⟩ := I.base.slot L o ho (I.ok.frf L hL) hL fun z => I.ok.exfs L z hL
   exact ⟨hk,⟨L,_,hf,hn,e,hd⟩,ih (fun b hb => hs b (by unfold frs; rw [List.filterMap_cons,hf]; exact List.mem_cons_of_mem _ hb)) hr⟩
 exact all X.outer (fun _ hb => hb) I.ok.funs
theorem Inv.stack (I : Inv X pins σ H s) : s.heap.FunFrames X.base X.stack := by
 rcases I.ok.stk with e | ⟨e,hf⟩
 ·rw [e]; exact I.funs
 ·rw [e]
  obtain ⟨m,hn,_⟩ := I.loc
  refine .cons (by rw [I.ok.kind]; decide) hf hn ?_ I.funs
  exact Heap.get?_none_of_le (Nat.le_trans I.ok.bsz I.ok.above)
theorem Inv.stkSub (I : Inv X pins σ H s) : ∀ b ∈ frs X.stack,b ∈ X.env.locals :: X.fs := fun b hb => by
 rcases I.ok.stk with e | ⟨e,hf⟩
 ·rw [e] at hb; exact List.mem_cons_of_mem _ hb
 ·rw [e] at hb
  unfold frs at hb
  rw [List.filterMap_cons,hf] at hb
  exact hb
theorem Inv.stkFree (I : Inv X pins σ H s) : ∀ b ∈ frs X.stack,H b = none := fun b hb => by
 rcases List.mem_cons.mp (I.stkSub b hb) with e | hb
 ·rw [e]; exact I.free
 ·obtain ⟨_,o,ho,_⟩ := I.ok.funs.mem hb
  exact I.base.free b o ho (I.ok.frf b hb) fun z => I.ok.exfs b z hb
theorem Inv.step {g' : Array GenState} {t' : Nat} {d' : Drawn} {ch : List Addr} (I : Inv X pins σ H s)
  (hch : ∀ b ∈ ch,(b ∈ X.ex \/ X.s₀.heap.objs.size <= b) /\ b ≠ X.env.locals /\ (∀ x c,X.env.cells.lookup x = some c -> c ≠ b) /\ ∀ p ∈ X.pn ++ pins,p.1 ≠ b)
  (keep : ∀ b o,b ≠ X.env.locals -> b ∉ X.fs -> b ∉ ch -> s.heap.get? b = some o -> H b = none -> h'.get? b = some o)
  (slot : ∀ b o,b ≠ X.env.locals -> b ∈ X.fs -> b ∉ ch -> s.heap.get? b = some o -> H b = none -> ∃ sl,h'.get? b = some { o with slots := sl }) (free : ∀ b o,b ∉ ch -> s.heap.get? b = some o -> H b = none -> H' b = none)
  (there : ∀ b o,b ∉ ch -> s.heap.get? b = some o -> ∃ o',h'.get? b = some o')
  (tups : ∀ b xs,H b = some (.tup xs) -> H' b = some (.tup xs)) (frzs : ∀ b o u,H b = some (.frz o u) -> H' b = some (.frz o u)) (tbls : ∀ b ps,H b = some (.tbl ps) -> ∃ more,H' b = some (.tbl (ps ++ more)))
  (ns : ∀ m,s.heap.Ns X.env.locals m -> h'.Ns X.env.locals m) (hok : HOk X.prog X.w H' h') (hg : AllBare g') :
  Inv X pins σ H' { s with heap := h',gens := g',drawn := d',toks := t' } := by
 have neL : ∀ b o,X.s₀.heap.get? b = some o -> b ≠ X.env.locals := fun b o e => Nat.ne_of_lt (Nat.lt_of_lt_of_le (Heap.lt_size e) I.ok.above)
 have neC : ∀ b o,X.s₀.heap.get? b = some o -> b ∉ X.ex -> b ∉ ch := fun b o e hx hb => by
  rcases (hch b hb).1 with z | z
  ·exact hx z
  ·exact absurd (Nat.lt_of_lt_of_le (Heap.lt_size e) z) (Nat.lt_irrefl _)
 have cellK : ∀ x c,X.env.cells.lookup x = some c -> ∀ v,s.heap.IsCell c v -> h'.IsCell c v := fun x c e v ⟨o,ho,hd⟩ => by
  have nch : c ∉ ch := fun z => (hch c z).2.2.1 x c e rfl
  by_cases hc : c ∈ X.fs
  ·obtain ⟨sl,q⟩ := slot c o (I.cne x c e) hc nch ho (I.freeC x c e)
   exact ⟨_,q,hd⟩
  ·exact ⟨o,keep c o (I.cne x c e) hc nch ho (I.freeC x c e),hd⟩
 refine ⟨I.ok,I.os,hg,⟨fun b o e n hb hx => ?_,fun b o e n hb hx => ?_,fun b o e n hx => ?_,fun b o e hx => ?_,fun b xs e => tups b xs (I.base.tups b xs e),fun b o xs e => frzs b o xs (I.base.frzs b o xs e),fun b ps e => ?_⟩,?_,fun x c e => ?_,?_,fun x c e => ?_,fun p hp => ?_,hok,I.len⟩
 ·exact keep b o (neL b o e) hb (neC b o e hx) (I.base.keep b o e n hb hx) (I.base.free b o e n hx)
 ·obtain ⟨sl,e1⟩ := I.base.slot b o e n hb hx
  obtain ⟨sl',e2⟩ := slot b _ (neL b o e) hb (neC b o e hx) e1 (I.base.free b o e n hx)
  exact ⟨sl',e2⟩
 ·obtain ⟨o',e1⟩ := I.base.there b o e hx
  exact free b o' (neC b o e hx) e1 (I.base.free b o e n hx)
 ·obtain ⟨o',e1⟩ := I.base.there b o e hx
  exact there b o' (neC b o e hx) e1
 ·obtain ⟨m1,e1⟩ := I.base.tbls b ps e
  obtain ⟨m2,e2⟩ := tbls b _ e1
  exact ⟨m1 ++ m2,by rw [e2,Array.append_assoc]⟩
 ·obtain ⟨m,hn,hl⟩ := I.loc
  refine ⟨m,ns m hn,fun i x v e1 e2 e3 => ?_⟩
  obtain ⟨u,r,l⟩ := hl i x v e1 e2 e3
  refine ⟨u,r,?_⟩
  rcases l with l | ⟨k,c,e,z⟩
  ·exact .inl l
  ·exact .inr ⟨k,c,e,cellK x c e _ z⟩
 ·obtain ⟨v,z⟩ := I.cell x c e
  exact ⟨v,cellK x c e v z⟩
 ·obtain ⟨m,⟨o,_,_,ho,_⟩,_⟩ := I.loc
  exact free _ o (fun z => (hch _ z).2.1 rfl) ho I.free
 ·obtain ⟨v,o,ho,hd⟩ := I.cell x c e
  exact free c o (fun z => (hch c z).2.2.1 x c e rfl) ho (I.freeC x c e)
 ·obtain ⟨e,n,ne,nf,d⟩ := I.pin p hp
  have nch : p.1 ∉ ch := fun z => (hch p.1 z).2.2.2 p hp rfl
  exact ⟨keep p.1 p.2 ne nf nch e n,free p.1 p.2 nch e n,ne,nf,d⟩
theorem Inv.un {t' : Nat} (I : Inv X pins σ H s) (u : Un X.fs [] H H' s.heap h') (hok : HOk X.prog X.w H' h') : Inv X pins σ H' { s with heap := h',toks := t' } := by
 obtain ⟨m,⟨o,es,ep,ho,r⟩,_⟩ := id I.loc
 obtain ⟨sl,hL⟩ := u.any ho I.free (by simp)
 exact I.step (g' := s.gens) (d' := s.drawn) (ch := []) (fun _ z => nomatch z) (fun b o _ hb _ e n => u.keep b o e n hb (by simp)) (fun b o _ hb _ e n => u.slot b o e n hb (by simp)) (fun b o _ e n => u.free b o e n (by simp)) (fun b o _ e => u.there b o e (by simp)) u.tups u.frzs u.tbls (fun m' hm => by
  obtain ⟨o',es',ep',ho',r'⟩ := hm
  rw [ho] at ho'; cases ho'
  exact ⟨_,es',ep',hL,r'⟩) hok I.bare
theorem Inv.call {g' : Array GenState} {t' : Nat} {d' : Drawn} {ch : List Addr} (I : Inv X pins σ H s) (u : Un (frs X.stack) ch H H' s.heap h') (hok : HOk X.prog X.w H' h') (hg : AllBare g')
  (hch : ∀ b ∈ ch,(b ∈ X.ex \/ X.s₀.heap.objs.size <= b) /\ b ≠ X.env.locals /\ (∀ x c,X.env.cells.lookup x = some c -> c ≠ b) /\ ∀ p ∈ X.pn ++ pins,p.1 ≠ b) :
  Inv X pins σ H' { s with heap := h',gens := g',drawn := d',toks := t' } := by
 obtain ⟨m,⟨o,es,ep,ho,r⟩,_⟩ := id I.loc
 obtain ⟨sl,hL⟩ := u.any ho I.free fun z => (hch _ z).2.1 rfl
 exact I.step (ch := ch) hch (fun b o hL hb hc e n => u.keep b o e n (fun z => (List.mem_cons.mp (I.stkSub b z)).elim hL hb) hc) (fun b o _ _ hc e n => u.any e n hc) (fun b o hc e n => u.free b o e n hc) (fun b o hc e => u.there b o e hc) u.tups u.frzs u.tbls (fun m' hm => by
  obtain ⟨o',es',ep',ho',r'⟩ := hm
  rw [ho] at ho'; cases ho'
  exact ⟨_,es',ep',hL,r'⟩) hok hg
theorem Inv.turned {t' : Nat} {it : Addr} (I : Inv X pins σ H s) (k : ∀ b o,b ≠ it -> s.heap.get? b = some o -> h'.get? b = some o) (hn : H it = none) (hL : it ≠ X.env.locals)
  (h1 : it ∈ X.ex \/ X.s₀.heap.objs.size <= it) (h2 : ∀ x c,X.env.cells.lookup x = some c -> c ≠ it) (h3 : ∀ p ∈ X.pn ++ pins,p.1 ≠ it) : Inv X pins σ H { s with heap := h',toks := t' } := by
 have nit : ∀ b u,H b = some u -> b ≠ it := fun b u e z => by rw [z,hn] at e; cases e
 refine I.step (g' := s.gens) (d' := s.drawn) (ch := [it]) (fun b hb => ?_) (fun b o _ _ hc e _ => k b o (fun z => hc (by simp [z])) e) (fun b o _ _ hc e _ => ⟨o.slots,k b o (fun z => hc (by simp [z])) e⟩) (fun _ _ _ _ n => n)
  (fun b o hc e => ⟨o,k b o (fun z => hc (by simp [z])) e⟩) (fun _ _ e => e) (fun _ _ _ e => e) (fun b ps e => ⟨#[],by rw [e]; simp⟩) (fun m hm => ?_) (fun b u e => ?_) I.bare
 ·have e : b = it := by simpa using hb
  subst e
  exact ⟨h1,hL,h2,h3⟩
 ·obtain ⟨o,es,ep,ho,r⟩ := hm
  exact ⟨o,es,ep,k _ o (Ne.symm hL) ho,r⟩
 ·refine (I.hok b u e).stay (fun c v hc q => k c v ?_ q) (fun _ q => q) fun _ _ q => q
  rcases hc with z | z
  ·rw [z]; exact nit b u e
  ·exact nit c _ z
theorem Inv.tok (I : Inv X pins σ H s) (t : Nat) : Inv X pins σ H { s with toks := t } := I.un (h' := s.heap) (t' := t) Un.refl I.hok
theorem Inv.kept {t' : Nat} (I : Inv X pins σ H s) (k : ∀ b u,s.heap.get? b = some u -> h'.get? b = some u) : Inv X pins σ H { s with heap := h',toks := t' } := I.un (Un.kept k) (I.hok.kept k)
theorem Inv.laid {a : Addr} {o : HO} {t' : Nat} (I : Inv X pins σ H s) (k : ∀ b u,s.heap.get? b = some u -> h'.get? b = some u) (hp : s.heap.objs.size <= a) (new : ObjOk X.prog X.w (upd H a o) h' a o) :
  Inv X pins σ (upd H a o) { s with heap := h',toks := t' } := I.un (Un.laid k hp (I.hok.fresh hp)) (I.hok.laid k hp new)
theorem Inv.write {x e : Addr} {o : HO} {t' : Nat} (I : Inv X pins σ H s) (mu : Mut (H x)) (he : e = x \/ H e = some (.own x)) (k : ∀ b u,b ≠ e -> s.heap.get? b = some u -> h'.get? b = some u) (heo : ∃ u,h'.get? e = some u)
  (new : ObjOk X.prog X.w (upd H x o) h' x o) : Inv X pins σ (upd H x o) { s with heap := h',toks := t' } := I.un (Un.write mu he k heo) (I.hok.write mu he k heo new)
theorem Inv.pins_of {pins' : List (Addr × Obj)} (I : Inv X pins σ H s) (h : ∀ p ∈ pins',s.heap.get? p.1 = some p.2 /\ H p.1 = none /\ p.1 ≠ X.env.locals /\ p.1 ∉ X.fs /\ ∀ v,p.2.data ≠ .cell v) : Inv X pins' σ H s :=
 ⟨I.ok,I.os,I.bare,I.base,I.loc,I.cell,I.free,I.freeC,fun p hp => (List.mem_append.mp hp).elim (fun z => I.pin p (List.mem_append_left _ z)) (h p),I.hok,I.len⟩
theorem vE_ {N : List Str} (hN : N.Nodup) {i j : Nat} {x : Str} (a : N[i]? = some x) (b : N[j]? = some x) : i = j := by
 obtain ⟨h1,e1⟩ := List.getElem?_eq_some_iff.mp a
 obtain ⟨h2,e2⟩ := List.getElem?_eq_some_iff.mp b
 exact (List.getElem_inj hN).mp (e1.trans e2.symm)
theorem uH_ {M : Model} {A : Around} {E : Value -> Shared -> Prop} {i : Nat} {x : Str} {v : V} {u : Value} {Q : Unit -> Shared -> Prop} (I : Inv X pins σ H s) (hN : X.N.Nodup) (hi : X.N[i]? = some x) (hx : Loc X.env.scope x) (r : RelV v u)
  (h : ∀ s',Inv X pins (σ.set i (some v)) H s' -> (∃ a,Heap.SameBut a s.heap s'.heap /\ (a = X.env.locals \/ X.env.cells.lookup x = some a)) -> Q () s') (hf : X.fn x = true \/ X.env.scope.names.lookup x = some .local := by first | exact .inl rfl | exact .inr rfl | assumption) : wpAny M A (storeName X.env x u) Q E s := by
 obtain ⟨m,hn,hl⟩ := id I.loc
 have hcls : (X.env.scope.kind == .class || (X.env.scope.kind == .module && X.env.locals != X.env.globals)) = false := by rw [I.ok.kind]; rfl
 have hiσ : i < σ.length := by rw [I.len]; exact (List.getElem?_eq_some_iff.mp hi).1
 have cne := I.cne
 have tracked : ∀ {a : Addr} {h' : Heap},(∃ o,s.heap.get? a = some o /\ H a = none) -> Heap.SameBut a s.heap h' -> HOk X.prog X.w H h' := fun {a h'} ha hs b ob e => by
  obtain ⟨_,_,hfree⟩ := ha
  refine (I.hok b ob e).stay (fun c w' hc q => (hs.2 c ?_).trans q) (fun _ q => q) fun _ _ q => q
  rintro rfl
  rcases hc with rfl | hc
  ·rw [hfree] at e; cases e
  ·rw [hfree] at hc; cases hc
 rcases hx with hk | hk
 ·refine wpAny_storeName_local hk hn (fun h' hn' hs => ?_) hcls
  obtain ⟨oL,_,_,hoL,_⟩ := id hn
  refine h _ ⟨I.ok,I.os,I.bare,⟨fun b o e n hb hx => ?_,fun b o e n hb hx => ?_,I.base.free,fun b o e hx => ?_,I.base.tups,I.base.frzs,I.base.tbls⟩,⟨_,hn',fun j y v' e1 e2 e3 => ?_⟩,fun y c e => ?_,I.free,I.freeC,fun p hp => ?_,tracked ⟨oL,hoL,I.free⟩ hs,by simpa using I.len⟩ ⟨_,hs,.inl rfl⟩
  ·exact (hs.2 b (Nat.ne_of_lt (Nat.lt_of_lt_of_le (Heap.lt_size e) I.ok.above))).trans (I.base.keep b o e n hb hx)
  ·obtain ⟨sl,e1⟩ := I.base.slot b o e n hb hx
   exact ⟨sl,(hs.2 b (Nat.ne_of_lt (Nat.lt_of_lt_of_le (Heap.lt_size e) I.ok.above))).trans e1⟩
  ·obtain ⟨o',e1⟩ := I.base.there b o e hx
   exact ⟨o',(hs.2 b (Nat.ne_of_lt (Nat.lt_of_lt_of_le (Heap.lt_size e) I.ok.above))).trans e1⟩
  ·by_cases hj : j = i
   ·subst hj
    rw [hi] at e1; cases e1
    rw [List.getElem?_set_self hiσ] at e2
    cases e2
    exact ⟨u,r,.inl ⟨hk,by simp⟩⟩
   ·rw [List.getElem?_set_ne (Ne.symm hj)] at e2
    obtain ⟨u',r',q⟩ := hl j y v' e1 e2 e3
    refine ⟨u',r',?_⟩
    rcases q with ⟨k,e⟩ | ⟨k,c,e,z⟩
    ·refine .inl ⟨k,?_⟩
     have : y ≠ x := fun e => hj (vE_ hN e1 (e ▸ hi))
     simp [this,e]
    ·exact .inr ⟨k,c,e,z.sameBut hs (cne y c e)⟩
  ·obtain ⟨w',z⟩ := I.cell y c e
   exact ⟨w',z.sameBut hs (cne y c e)⟩
  ·obtain ⟨e,n,ne,nf,d⟩ := I.pin p hp
   exact ⟨(hs.2 p.1 ne).trans e,n,ne,nf,d⟩
 ·have hfn : X.fn x = true := by
   rcases hf with z | z
   ·exact z
   ·rw [z] at hk; cases hk
  obtain ⟨c,hc⟩ := I.ok.has x (.inl hk)
  obtain ⟨w',z⟩ := I.cell x c hc
  refine wpAny_storeName_cell I.ok.kind hk hc z (fun h' hc' hs => ?_)
  obtain ⟨oc,hoc,hocd⟩ := id z
  refine h { s with heap := h' } ⟨I.ok,I.os,I.bare,⟨fun b o e n hb hx => ?_,fun b o e n hb hx => ?_,I.base.free,fun b o e hx => ?_,I.base.tups,I.base.frzs,I.base.tbls⟩,⟨m,hn.sameBut hs (Ne.symm (cne x c hc)),fun j y v' e1 e2 e3 => ?_⟩,fun y c' e => ?_,I.free,I.freeC,fun p hp => ?_,tracked ⟨oc,hoc,I.freeC x c hc⟩ hs,by simpa using I.len⟩ ⟨c,hs,.inr hc⟩
  ·exact (hs.2 b (Nat.ne_of_lt (Nat.lt_of_lt_of_le (Heap.lt_size e) (I.ok.cab x c hfn hc)))).trans (I.base.keep b o e n hb hx)
  ·obtain ⟨sl,e1⟩ := I.base.slot b o e n hb hx
   exact ⟨sl,(hs.2 b (Nat.ne_of_lt (Nat.lt_of_lt_of_le (Heap.lt_size e) (I.ok.cab x c hfn hc)))).trans e1⟩
  ·obtain ⟨o',e1⟩ := I.base.there b o e hx
   exact ⟨o',(hs.2 b (Nat.ne_of_lt (Nat.lt_of_lt_of_le (Heap.lt_size e) (I.ok.cab x c hfn hc)))).trans e1⟩
  ·by_cases hj : j = i
   ·subst hj
    rw [hi] at e1; cases e1
    rw [List.getElem?_set_self hiσ] at e2
    cases e2
    exact ⟨u,r,.inr ⟨.inl hk,c,hc,hc'⟩⟩
   ·rw [List.getElem?_set_ne (Ne.symm hj)] at e2
    obtain ⟨u',r',q⟩ := hl j y v' e1 e2 e3
    refine ⟨u',r',?_⟩
    rcases q with q | ⟨k,c',e,z'⟩
    ·exact .inl q
    ·refine .inr ⟨k,c',e,z'.sameBut hs ?_⟩
     rintro rfl
     exact hj (vE_ hN e1 (I.ok.inj _ _ _ e hc ▸ hi))
  ·by_cases hcc : c' = c
   ·subst hcc; exact ⟨_,hc'⟩
   ·obtain ⟨w2,z2⟩ := I.cell y c' e
    exact ⟨w2,z2.sameBut hs hcc⟩
  ·obtain ⟨e,n,ne,nf,d⟩ := I.pin p hp
   refine ⟨(hs.2 p.1 ?_).trans e,n,ne,nf,d⟩
   intro q
   rw [q,hoc] at e
   have q' : oc = p.2 := Option.some.inj e
   exact d w' (by rw [<- q']; exact hocd)
theorem zp_ {M : Model} {A : Around} {E : Value -> Shared -> Prop} {i : Nat} {x : Str} {v : V} {u : Value} {Q : Unit -> Shared -> Prop} (I : Inv X pins σ H s) (hN : X.N.Nodup) (hi : X.N[i]? = some x) (hx : Loc X.env.scope x) (r : RelV v u)
  (h : ∀ s',Inv X pins (σ.set i (some v)) H s' -> Q () s') (hf : X.fn x = true \/ X.env.scope.names.lookup x = some .local := by first | exact .inl rfl | exact .inr rfl | assumption) : wpAny M A (storeName X.env x u) Q E s :=
 uH_ I hN hi hx r (fun s' I' _ => h s' I') hf
theorem Inv.call' {s' : Shared} {ch : List Addr} (I : Inv X pins σ H s) (ho : s'.os = s.os) (u : Un (frs X.stack) ch H H' s.heap s'.heap) (hok : HOk X.prog X.w H' s'.heap) (hg : AllBare s'.gens)
  (hch : ∀ b ∈ ch,(b ∈ X.ex \/ X.s₀.heap.objs.size <= b) /\ b ≠ X.env.locals /\ (∀ x c,X.env.cells.lookup x = some c -> c ≠ b) /\ ∀ p ∈ X.pn ++ pins,p.1 ≠ b) : Inv X pins σ H' s' := by
 obtain ⟨h',g',d',t',o'⟩ := s'
 have e : o' = s.os := ho
 subst e
 exact I.call (g' := g') (t' := t') (d' := d') u hok hg hch
end
abbrev XK := Value -> Option Addr -> Hp -> Prop
abbrev St := List (Option V)
abbrev VK := V -> Hp -> Prop
abbrev TE := St -> Hp -> VK -> Prop
abbrev TT := St -> Hp -> (Bool -> Hp -> Prop) -> Prop
abbrev TA := St -> Hp -> (List V -> Hp -> Prop) -> Prop
structure Ends where
 nx : St -> Hp -> Prop
 rt : VK
 bk : St -> Hp -> Prop := fun _ _ => False
 ct : St -> Hp -> Prop := fun _ _ => False
abbrev TS := Ends -> St -> Hp -> Prop
def EP (X : Cx) (pins : List (Addr × Obj)) (σ : St) (Q : VK) (u : Value) (s' : Shared) : Prop := ∃ v H',Inv X pins σ H' s' /\ RelV v u /\ Q v H'
def TP (X : Cx) (pins : List (Addr × Obj)) (σ : St) (Q : Bool -> Hp -> Prop) (b : Bool) (s' : Shared) : Prop := ∃ H',Inv X pins σ H' s' /\ Q b H'
def AP (X : Cx) (pins : List (Addr × Obj)) (σ : St) (Q : List V -> Hp -> Prop) (us : List Value) (s' : Shared) : Prop := ∃ vs H',Inv X pins σ H' s' /\ Vals vs us /\ Q vs H'
def SP (X : Cx) (pins : List (Addr × Obj)) (D : Ends) (f : Flow) (s' : Shared) : Prop :=
 match f with
 | .next => ∃ σ' H',Inv X pins σ' H' s' /\ D.nx σ' H'
 | .brk => ∃ σ' H',Inv X pins σ' H' s' /\ D.bk σ' H'
 | .cont => ∃ σ' H',Inv X pins σ' H' s' /\ D.ct σ' H'
 | .ret u => ∃ v σ' H',Inv X pins σ' H' s' /\ RelV v u /\ D.rt v H'
def PE (X : Cx) (e : Expr) (t : TE) : Prop :=
 ∀ (pins : List (Addr × Obj)) (s : Shared) (σ : St) (H : Hp) (Q : VK),Inv X pins σ H s -> t σ H Q -> wpAny (model X.prog X.w) X.A (eval e X.env) (EP X pins σ Q) X.xe s
def PT (X : Cx) (e : Expr) (t : TT) : Prop :=
 ∀ (pins : List (Addr × Obj)) (s : Shared) (σ : St) (H : Hp) (Q : Bool -> Hp -> Prop),Inv X pins σ H s -> t σ H Q -> wpAny (model X.prog X.w) X.A (isTrue e X.env (eval e X.env)) (TP X pins σ Q) X.xe s
def PW (X : Cx) (e : Expr) (t : TT) : Prop :=
 ∀ (whole : Sem Value) (pins : List (Addr × Obj)) (s : Shared) (σ : St) (H : Hp) (Q : Bool -> Hp -> Prop),Inv X pins σ H s -> t σ H Q -> wpAny (model X.prog X.w) X.A (isTrue e X.env whole) (TP X pins σ Q) X.xe s
theorem PW.pt {X : Cx} {e : Expr} {t : TT} (h : PW X e t) : PT X e t := h _
def PA (X : Cx) (es : List Expr) (t : TA) : Prop :=
 ∀ (pos : Pos) (pins : List (Addr × Obj)) (s : Shared) (σ : St) (H : Hp) (Q : List V -> Hp -> Prop),Inv X pins σ H s -> t σ H Q -> wpAny (model X.prog X.w) X.A (spliced (backTo pos (starEach es X.env))) (AP X pins σ Q) X.xe s
def PS (X : Cx) (st : Stmt) (t : TS) : Prop :=
 ∀ (pins : List (Addr × Obj)) (s : Shared) (σ : St) (H : Hp) (D : Ends),Inv X pins σ H s -> t D σ H -> wpAny (model X.prog X.w) X.A (exec st X.env) (SP X pins D) X.xe s
def PSs (X : Cx) (st : List Stmt) (t : TS) : Prop :=
 ∀ (pins : List (Addr × Obj)) (s : Shared) (σ : St) (H : Hp) (D : Ends),Inv X pins σ H s -> t D σ H -> wpAny (model X.prog X.w) X.A (execs st X.env) (SP X pins D) X.xe s
theorem thn {α : Type} {t : Sem α} {Q Q' : α -> Shared -> Prop} {M : Model} {A : Around} {E : Value -> Shared -> Prop} {s : Shared} (h : wpAny M A t Q E s) (hQ : ∀ a s,Q a s -> Q' a s) : wpAny M A t Q' E s := wpAny_mono h hQ fun _ _ x => x
section
variable {X : Cx}
def tVar (i : Nat) : TE := fun σ H Q => ∃ v,σ[i]? = some (some v) /\ Q v H
def tC (v : V) : TE := fun _ H Q => Q v H
theorem qj5_ {i : Nat} {x : Str} {pos : Pos} (hN : X.N[i]? = some x) (hv : Vis X.env.scope x) (hd : (x == ("__debug__" : Str)) = false := by decide) (hcd : (x == ("__classdict__" : Str)) = false := by decide) : PE X (.Name x pos) (tVar i) := by
 intro pins s σ H Q I h
 obtain ⟨v,e,h⟩ := h
 obtain ⟨m,hn,hl⟩ := I.loc
 obtain ⟨u,r,l⟩ := hl i x v hN e hv
 have fin : EP X pins σ Q u s := ⟨v,H,I,r,h⟩
 rcases l with ⟨hk,hm⟩ | ⟨hk,c,hc,hcell⟩
 ·exact wpAny_Name (wpAny_loadName_local I.ok.kind hk hn hm fin) hd
 ·rcases hk with hk | hk
  ·exact wpAny_Name (wpAny_loadName_cell I.ok.kind hk hc hcell fin) hd
  ·exact wpAny_Name (wpAny_loadName_free I.ok.kind hk hc hcell fin hcd) hd
theorem qg_ {i j pos} : PE X (.Constant (.int i) j pos) (tC (.int i)) := fun _ _ _ H _ I h => wpAny_Constant_int ⟨.int i,H,I.tok _,⟨_,rfl⟩,h⟩
theorem jI_ {b j pos} : PE X (.Constant (.bool b) j pos) (tC (.bl b)) := fun _ _ _ H _ I h => Constant_bool ⟨.bl b,H,I,rfl,h⟩
theorem qK_ {j pos} : PE X (.Constant .none j pos) (tC .non) := fun _ _ _ H _ I h => Constant_none ⟨.non,H,I,rfl,h⟩
theorem vX_ {x j pos} : PE X (.Constant (.str x) j pos) (tC (.str x)) := fun _ _ _ H _ I h => Calls.Constant_str ⟨.str x,H,I.tok _,⟨_,rfl⟩,h⟩
def Gl (X : Cx) (x : Str) : Prop := X.env.kindOf x = some .globalImplicit
theorem un_ {E : Value -> Shared -> Prop} {pins : List (Addr × Obj)} {s : Shared} {σ : St} {H : Hp} {x : Str} {u : Value} {pos : Pos} {Q : Value -> Shared -> Prop} (I : Inv X pins σ H s) (hg : Gl X x) (hm : X.mg x = some u) (h : Q u s)
  (hd : (x == ("__debug__" : Str)) = false := by decide) : wpAny (model X.prog X.w) X.A (eval (.Name x pos) X.env) Q E s :=
 Calls.Name_function_global I.ok.kind hg (Calls.loadGlobal_global (by rw [I.ok.glob]; exact I.mod.glob.keeps I.bk) hm h) hd
theorem jY_ {E : Value -> Shared -> Prop} {pins : List (Addr × Obj)} {s : Shared} {σ : St} {H : Hp} {x : Str} {u : Value} {pos : Pos} {Q : Value -> Shared -> Prop} (I : Inv X pins σ H s) (hg : Gl X x) (hm : X.mg x = none) (hv : bootBuiltins x = some u) (h : Q u s)
  (hn : x ≠ "__name__" := by decide) (hd : (x == ("__debug__" : Str)) = false := by decide) : wpAny (model X.prog X.w) X.A (eval (.Name x pos) X.env) Q E s := by
 obtain ⟨mb,h1,h2⟩ := I.mod.blt
 exact Calls.Name_function_global I.ok.kind hg (Calls.loadGlobal_builtin (by rw [I.ok.glob]; exact I.mod.glob.keeps I.bk) hm (by rw [I.ok.blt]; exact h1.keeps I.bk) ((h2 x hn).trans hv) h) hd
theorem y9_ {x : Str} {v : V} {u : Value} {pos : Pos} (hg : Gl X x) (hm : X.mg x = some u) (r : RelV v u) (hd : (x == ("__debug__" : Str)) = false := by decide) : PE X (.Name x pos) (tC v) :=
 fun _ _ _ H _ I h => un_ I hg hm ⟨v,H,I,r,h⟩ hd
theorem za_ {x : Str} {v : V} {u : Value} {pos : Pos} (hg : Gl X x) (hm : X.mg x = none) (hv : bootBuiltins x = some u) (r : RelV v u) (hn : x ≠ "__name__" := by decide) (hd : (x == ("__debug__" : Str)) = false := by decide) : PE X (.Name x pos) (tC v) :=
 fun _ _ _ H _ I h => jY_ I hg hm hv ⟨v,H,I,r,h⟩ hn hd
variable {a b : Expr} {ta tb : TE} {pos : Pos}
def tB (t : TE) : TT := fun σ H Q => t σ H fun x H1 => ∃ c,x = .bl c /\ Q c H1
theorem qZ_ {e : Expr} {t : TE} (h : PE X e t) (he : ∀ whole,isTrue e X.env whole = (do let v ← whole; standAt e.pos; holding [v] (truthy v)) := by intro _; rfl) : PT X e (tB t) := by
 intro pins s σ H Q I hw
 refine isTrue_plain (thn (h pins s σ H _ I hw) fun v s1 ⟨x,H1,I1,r1,q1⟩ => ?_) (he _)
 obtain ⟨d,rfl,q⟩ := q1
 cases r1
 exact wpAny_truthy_bool ⟨H1,I1,q⟩
variable {tA tB' : TT} {rest : List Expr}
def tAnd (t u : TT) : TT := fun σ H Q => t σ H fun c H1 => if c = true then u σ H1 Q else Q false H1
def tOr (t u : TT) : TT := fun σ H Q => t σ H fun c H1 => if c = true then Q true H1 else u σ H1 Q
def tNot (t : TT) : TT := fun σ H Q => t σ H fun c H1 => Q (!c) H1
theorem uo_ (ha : PT X a tA) : PW X (.BoolOp .And [a] pos) tA := by
 intro wh pins s σ H Q I h
 refine isTrue_and (thn (ha pins s σ H Q I h) fun c s1 e => ?_)
 cases c with
 | true => exact isTrue_and_nil e
 | false => exact e
theorem jp_ (ha : PT X a tA) : PW X (.BoolOp .Or [a] pos) tA := by
 intro wh pins s σ H Q I h
 refine isTrue_or (thn (ha pins s σ H Q I h) fun c s1 e => ?_)
 cases c with
 | false => exact isTrue_or_nil e
 | true => exact e
theorem qar_ (ha : PT X a tA) (hb : PW X (.BoolOp .And (b :: rest) pos) tB') : PW X (.BoolOp .And (a :: b :: rest) pos) (tAnd tA tB') := by
 intro wh pins s σ H Q I h
 refine isTrue_and (thn (ha pins s σ H _ I h) fun c s1 ⟨H1,I1,q1⟩ => ?_)
 cases c with
 | true => exact hb wh pins s1 σ H1 Q I1 q1
 | false => exact ⟨H1,I1,q1⟩
theorem jv_ (ha : PT X a tA) (hb : PW X (.BoolOp .Or (b :: rest) pos) tB') : PW X (.BoolOp .Or (a :: b :: rest) pos) (tOr tA tB') := by
 intro wh pins s σ H Q I h
 refine isTrue_or (thn (ha pins s σ H _ I h) fun c s1 ⟨H1,I1,q1⟩ => ?_)
 cases c with
 | true => exact ⟨H1,I1,q1⟩
 | false => exact hb wh pins s1 σ H1 Q I1 q1
theorem jk_ (ha : PT X a tA) : PT X (.UnaryOp .Not a pos) (tNot tA) := by
 intro pins s σ H Q I h
 exact isTrue_not (ha pins s σ H (fun c H1 => Q (!c) H1) I h)
def qk0_ (ta tb : TE) : TE := fun σ H Q => ta σ H fun x H1 => ∃ c,x = .bl c /\ if c = true then tb σ H1 Q else Q (.bl false) H1
def tOrV (ta tb : TE) : TE := fun σ H Q => ta σ H fun x H1 => ∃ c,x = .bl c /\ if c = true then Q (.bl true) H1 else tb σ H1 Q
def qk1_ (ta : TE) : TE := fun σ H Q => ta σ H fun x H1 => ∃ c,x = .bl c /\ Q (.bl (!c)) H1
theorem yB_ {op} {t : TE} (h : PE X a t) : PE X (.BoolOp op [a] pos) t := fun pins s σ H Q I hw => BoolOp_one (h pins s σ H Q I hw)
theorem zO_ (ha : PE X a ta) (hb : PE X (.BoolOp .And (b :: rest) pos) tb) : PE X (.BoolOp .And (a :: b :: rest) pos) (qk0_ ta tb) := by
 intro pins s σ H Q I h
 refine BoolOp_and (thn (ha pins s σ H _ I h) fun v s1 ⟨x,H1,I1,r1,q1⟩ => ?_)
 obtain ⟨c,rfl,q1⟩ := q1
 cases r1
 refine wpAny_truthy_bool ?_
 cases c with
 | true => exact hb pins s1 σ H1 Q I1 q1
 | false => exact ⟨.bl false,H1,I1,rfl,q1⟩
theorem qia_ (ha : PE X a ta) (hb : PE X (.BoolOp .Or (b :: rest) pos) tb) : PE X (.BoolOp .Or (a :: b :: rest) pos) (tOrV ta tb) := by
 intro pins s σ H Q I h
 refine BoolOp_or (thn (ha pins s σ H _ I h) fun v s1 ⟨x,H1,I1,r1,q1⟩ => ?_)
 obtain ⟨c,rfl,q1⟩ := q1
 cases r1
 refine wpAny_truthy_bool ?_
 cases c with
 | false => exact hb pins s1 σ H1 Q I1 q1
 | true => exact ⟨.bl true,H1,I1,rfl,q1⟩
theorem qec_ (ha : PE X a ta) : PE X (.UnaryOp .Not a pos) (qk1_ ta) := by
 intro pins s σ H Q I h
 refine UnaryOp_ (thn (ha pins s σ H _ I h) fun v s1 ⟨x,H1,I1,r1,q1⟩ => ?_)
 obtain ⟨c,rfl,q1⟩ := q1
 cases r1
 exact not_of (wpAny_truthy_bool ⟨.bl (!c),H1,I1,rfl,q1⟩)
def tIf (t : TT) (ta tb : TE) : TE := fun σ H Q => t σ H fun c H1 => if c = true then ta σ H1 Q else tb σ H1 Q
theorem qgm_ {c : Expr} (hc : PT X c tA) (ha : PE X a ta) (hb : PE X b tb) : PE X (.IfExp c a b pos) (tIf tA ta tb) := by
 intro pins s σ H Q I h
 refine wpAny_IfExp (thn (hc pins s σ H _ I h) fun d s1 ⟨H1,I1,q1⟩ => ?_)
 cases d with
 | true => exact ha pins s1 σ H1 Q I1 q1
 | false => exact hb pins s1 σ H1 Q I1 q1
end
def SqL (K : PySem.W.Frag) (H : Hp) (a : Addr) (xs : List V) : Prop :=
 Rd H a (.lst xs) ∨
  ∃ (o : Obj) (its : Array Value) (n : Nat),K.lookup a = some o ∧ o.cls = .type "list" ∧ o.dict = none ∧ o.data = .seq its n ∧ its.size ≤ sizeLine ∧ Vals xs its.toList
def SqT (K : PySem.W.Frag) (H : Hp) (a : Addr) (xs : List V) : Prop :=
 Rd H a (.tup xs) ∨
  ∃ (o : Obj) (its : Array Value) (n : Nat),K.lookup a = some o ∧ o.cls = .type "tuple" ∧ o.data = .seq its n ∧ its.size ≤ sizeLine ∧ Vals xs its.toList
def absV : Value -> Option V
 | .none => some .non
 | .bool b => some (.bl b)
 | .int i _ => some (.int i)
 | .str x _ => some (.str x)
 | .bytes b _ => some (.byt b)
 | .float b _ => some (.flt b)
 | .ref a => some (.ref a)
 | .type n => some (.ty n)
 | _ => none
theorem RelV.abs {x : V} {u : Value} (r : RelV x u) : absV u = some x := by
 cases x with
 | non => cases r; rfl
 | bl _ => cases r; rfl
 | int _ => obtain ⟨t,rfl⟩ := r; rfl
 | str _ => obtain ⟨t,rfl⟩ := r; rfl
 | byt _ => obtain ⟨t,rfl⟩ := r; rfl
 | flt _ => obtain ⟨t,rfl⟩ := r; rfl
 | ref _ => cases r; rfl
 | ty _ => cases r; rfl
theorem RelV.inj {x y : V} {u : Value} (r : RelV x u) (q : RelV y u) : x = y := Option.some.inj (r.abs.symm.trans q.abs)
theorem Vals.inj : ∀ {xs ys : List V} {us : List Value},Vals xs us -> Vals ys us -> xs = ys
 | _,_,_,.nil,.nil => rfl
 | _,_,_,.cons r t,.cons r' t' => by rw [r.inj r',Vals.inj t t']
section
variable {X : Cx} {pins : List (Addr × Obj)} {σ : St} {H : Hp} {s : Shared} {a : Addr} {xs ys : List V}
theorem SqL.of {K : PySem.W.Frag} (h : H a = some (.lst xs)) : SqL K H a xs := .inl (.inl h)
theorem SqT.of {K : PySem.W.Frag} (h : H a = some (.tup xs)) : SqT K H a xs := .inl (.inl h)
theorem Inv.list (I : Inv X pins σ H s) (h : SqL X.K H a xs) : ∃ its : List Value,Vals xs its /\ PlainL s.heap a its.toArray /\ xs.length <= sizeLine := by
 rcases h with h | ⟨o,its,n,hk,hc,hd,hs,hz,r⟩
 ·obtain ⟨z,its,n,r,e⟩ := h.ok I.hok
  exact ⟨its,r,⟨_,n,e,rfl,rfl,rfl⟩,z⟩
 ·refine ⟨its.toList,r,⟨o,n,I.kIn a o hk,hc,hd,by simpa using hs⟩,?_⟩
  have e := r.length
  simp only [Array.length_toList] at e
  omega
theorem Inv.tuple (I : Inv X pins σ H s) (h : SqT X.K H a xs) : ∃ its : List Value,Vals xs its /\ IsTup s.heap a its.toArray /\ xs.length <= sizeLine := by
 rcases h with h | ⟨o,its,n,hk,hc,hs,hz,r⟩
 ·obtain ⟨z,its,r,p⟩ := h.ok I.hok
  exact ⟨its,r,p,z⟩
 ·refine ⟨its.toList,r,⟨o,I.kIn a o hk,hc,n,by simpa using hs⟩,?_⟩
  have e := r.length
  simp only [Array.length_toList] at e
  omega
theorem Inv.list_inj (I : Inv X pins σ H s) (h : SqL X.K H a xs) (h' : SqL X.K H a ys) : xs = ys := by
 obtain ⟨its,r,⟨o,n,e,_,_,d⟩,_⟩ := I.list h
 obtain ⟨its',r',⟨o',n',e',_,_,d'⟩,_⟩ := I.list h'
 rw [e] at e'; cases e'
 rw [d] at d'
 injection d' with d1 _
 have : its = its' := by simpa using congrArg Array.toList d1
 subst this
 exact r.inj r'
theorem Inv.tuple_inj (I : Inv X pins σ H s) (h : SqT X.K H a xs) (h' : SqT X.K H a ys) : xs = ys := by
 obtain ⟨its,r,⟨o,e,_,n,d⟩,_⟩ := I.tuple h
 obtain ⟨its',r',⟨o',e',_,n',d'⟩,_⟩ := I.tuple h'
 rw [e] at e'; cases e'
 rw [d] at d'
 injection d' with d1 _
 have : its = its' := by simpa using congrArg Array.toList d1
 subst this
 exact r.inj r'
end
abbrev Cx.wish (X : Cx) (E : Value -> Shared -> Prop) : Cx := { X with xe := E }
abbrev Cx.nox (X : Cx) : Cx := X.wish fun _ _ => False
theorem Cx.Ok.wish {X : Cx} (ok : X.Ok) (E : Value -> Shared -> Prop) : (X.wish E).Ok :=
 ⟨ok.mod,ok.kind,ok.glob,ok.blt,ok.above,ok.inj,ok.has,ok.cab,ok.hd,ok.frames,ok.stk,ok.exf,ok.bs,ok.bsz,ok.noex,ok.exfs,ok.funs,ok.frf⟩
theorem Cx.Ok.unwish {X : Cx} {E : Value -> Shared -> Prop} (ok : (X.wish E).Ok) : X.Ok :=
 ⟨ok.mod,ok.kind,ok.glob,ok.blt,ok.above,ok.inj,ok.has,ok.cab,ok.hd,ok.frames,ok.stk,ok.exf,ok.bs,ok.bsz,ok.noex,ok.exfs,ok.funs,ok.frf⟩
section
variable {X : Cx} {pins : List (Addr × Obj)} {σ : St} {H : Hp} {s : Shared} {E : Value -> Shared -> Prop}
theorem Inv.wish (I : Inv X pins σ H s) (E : Value -> Shared -> Prop) : Inv (X.wish E) pins σ H s := ⟨I.ok.wish E,I.os,I.bare,I.base,I.loc,I.cell,I.free,I.freeC,I.pin,I.hok,I.len⟩
theorem Inv.unwish (I : Inv (X.wish E) pins σ H s) : Inv X pins σ H s := ⟨I.ok.unwish,I.os,I.bare,I.base,I.loc,I.cell,I.free,I.freeC,I.pin,I.hok,I.len⟩
theorem SP.unwish {D : Ends} {f : Flow} {s' : Shared} (h : SP (X.wish E) pins D f s') : SP X pins D f s' := by
 cases f with
 | next => obtain ⟨σ',H',I,q⟩ := h; exact ⟨σ',H',I.unwish,q⟩
 | brk => obtain ⟨σ',H',I,q⟩ := h; exact ⟨σ',H',I.unwish,q⟩
 | cont => obtain ⟨σ',H',I,q⟩ := h; exact ⟨σ',H',I.unwish,q⟩
 | ret u => obtain ⟨v,σ',H',I,r,q⟩ := h; exact ⟨v,σ',H',I.unwish,r,q⟩
theorem PSs.nox {st : List Stmt} {t : TS} (h : PSs X.nox st t) : PSs X st t := fun pins s σ H D I hw =>
 wpAny_mono (h pins s σ H D (I.wish _) hw) (fun _ _ q => q.unwish) fun _ _ z => False.elim z
end
section
variable {X : Cx} {st : Stmt} {rest : List Stmt} {t u : TS} {e : Expr} {te : TE} {pos : Pos}
def qib_ : TS := fun D σ H => D.nx σ H
def tSeq (t u : TS) : TS := fun D σ H => t { D with nx := u D } σ H
theorem qv_ : PSs X [] qib_ := fun _ _ σ H _ I h => wpAny_execs_nil ⟨σ,H,I,h⟩
theorem qb_ (h1 : PS X st t) (h2 : PSs X rest u) : PSs X (st :: rest) (tSeq t u) := by
 intro pins s σ H D I h
 refine wpAny_execs_cons (thn (h1 pins s σ H { D with nx := u D } I h) fun f s1 q => ?_)
 cases f with
 | next =>
  obtain ⟨σ',H',I',q⟩ := q
  exact h2 pins s1 σ' H' D I' q
 | ret v => exact q
 | brk => exact q
 | cont => exact q
theorem qf_ (h1 : PS X st t) : PSs X [st] t := by
 intro pins s σ H D I h
 refine wpAny_execs_cons (thn (h1 pins s σ H D I h) fun f s1 q => ?_)
 cases f with
 | next => exact wpAny_execs_nil q
 | ret v => exact q
 | brk => exact q
 | cont => exact q
def qk2_ : TS := fun D σ H => D.ct σ H
theorem qbu_ : PS X (.Continue pos) qk2_ := fun _ _ σ H _ I h => wpAny_Continue ⟨σ,H,I,h⟩
theorem Inv.quiet {pins : List (Addr × Obj)} {σ : St} {H : Hp} {s : Shared} (I : Inv X pins σ H s) : interactive X.env = false := by simp [interactive,I.ok.kind]
def qk3_ (te : TE) : TS := fun D σ H => te σ H fun _ H1 => D.nx σ H1
theorem qN_ (he : PE X e te) (hs : swapsWith e none pos.line X.env = pure false := by rfl) : PS X (.Expr e pos) (qk3_ te) := by
 intro pins s σ H D I h
 exact wpAny_Expr_any (thn (he pins s σ H _ I h) fun v s1 ⟨x,H1,I1,r1,q1⟩ => ⟨σ,H1,I1,q1⟩) I.quiet hs
def tRet (te : TE) : TS := fun D σ H => te σ H D.rt
theorem qo_ (he : PE X e te) : PS X (.Return (some e) pos) (tRet te) := by
 intro pins s σ H D I h
 exact wpAny_Return_some (thn (he pins s σ H _ I h) fun v s1 ⟨x,H1,I1,r1,q1⟩ => ⟨x,σ,H1,I1,r1,q1⟩)
def tIfS (c : TT) (t u : TS) : TS := fun D σ H => c σ H fun b H1 => if b = true then t D σ H1 else u D σ H1
theorem qz_ {c : Expr} {a b : List Stmt} {tc : TT} (hc : PT X c tc) (ha : PSs X a t) (hb : PSs X b u) : PS X (.If c a b pos) (tIfS tc t u) := by
 intro pins s σ H D I h
 refine wpAny_If (thn (hc pins s σ H _ I h) fun d s1 ⟨H1,I1,q1⟩ => ?_)
 cases d with
 | true => exact ha pins s1 σ H1 D I1 q1
 | false => exact hb pins s1 σ H1 D I1 q1
def qj6_ : TS := fun _ _ _ => False
theorem jj_ : PS X st qj6_ := fun _ _ _ _ _ _ h => h.elim
end
abbrev TG := V -> St -> Hp -> (St -> Hp -> Prop) -> Prop
abbrev TGs := List V -> St -> Hp -> (St -> Hp -> Prop) -> Prop
def PG (X : Cx) (target : Expr) (t : TG) : Prop :=
 ∀ (pins : List (Addr × Obj)) (s : Shared) (σ : St) (H : Hp) (v : V) (u : Value) (Q : St -> Hp -> Prop),Inv X pins σ H s -> RelV v u -> t v σ H Q →
  wpAny (model X.prog X.w) X.A (assign target X.env u) (fun _ s' => ∃ σ' H',Inv X pins σ' H' s' /\ Q σ' H') X.xe s
def PGs (X : Cx) (ts : List Expr) (t : TGs) : Prop :=
 ∀ (pins : List (Addr × Obj)) (s : Shared) (σ : St) (H : Hp) (vs : List V) (us : List Value) (Q : St -> Hp -> Prop),Inv X pins σ H s -> Vals vs us -> t vs σ H Q →
  wpAny (model X.prog X.w) X.A (assignInOrder ((assignEach ts X.env).map (·.2)) us) (fun _ s' => ∃ σ' H',Inv X pins σ' H' s' /\ Q σ' H') X.xe s
abbrev TSet := V -> V -> V -> Hp -> (Hp -> Prop) -> Prop
def PSet (X : Cx) (t : TSet) : Prop :=
 ∀ (pins : List (Addr × Obj)) (s : Shared) (σ : St) (H : Hp) (o i v : V) (ov iv u : Value) (Q : Hp -> Prop),Inv X pins σ H s -> RelV o ov -> RelV i iv -> RelV v u -> t o i v H Q →
  wpAny (model X.prog X.w) X.A (setItem ov iv u) (fun _ s' => ∃ H',Inv X pins σ H' s' /\ Q H') X.xe s
abbrev TIp := V -> V -> Hp -> VK -> Prop
def PIp (X : Cx) (op : Operator) (t : TIp) : Prop :=
 ∀ (pins : List (Addr × Obj)) (s : Shared) (σ : St) (H : Hp) (x y : V) (v u : Value) (Q : VK),Inv X pins σ H s -> RelV x v -> RelV y u -> t x y H Q →
  wpAny (model X.prog X.w) X.A (inplaceOp op v u) (EP X pins σ Q) X.xe s
section
variable {X : Cx} {pos : Pos}
def qT_ (i : Nat) : TG := fun v σ H Q => Q (σ.set i (some v)) H
theorem qm_ {i : Nat} {x : Str} (hN : X.N.Nodup) (hi : X.N[i]? = some x) (hx : Loc X.env.scope x) (hf : X.fn x = true \/ X.env.scope.names.lookup x = some .local := by first | exact .inl rfl | exact .inr rfl | assumption) : PG X (.Name x pos) (qT_ i) := by
 intro pins s σ H v u Q I r h
 exact wpAny_assign_Name (zp_ I hN hi hx r (fun s' I' => ⟨_,H,I',h⟩) hf)
def gNil : TGs := fun vs σ H Q => vs = [] /\ Q σ H
def jZ_ (t : TG) (u : TGs) : TGs := fun vs σ H Q => ∃ v r,vs = v :: r /\ t v σ H fun σ' H' => u r σ' H' Q
theorem jw_ : PGs X [] gNil := by
 intro pins s σ H vs us Q I r h
 obtain ⟨e,h⟩ := h
 subst e
 cases r
 exact assignInOrder_nil ⟨σ,H,I,h⟩
theorem qM_ {e : Expr} {es : List Expr} {t : TG} {u : TGs} (h1 : PG X e t) (h2 : PGs X es u)
  (hs : (assignEach (e :: es) X.env).map (·.2) = assign e X.env :: (assignEach es X.env).map (·.2) := by rfl) : PGs X (e :: es) (jZ_ t u) := by
 intro pins s σ H vs us Q I r h
 obtain ⟨v,vr,e1,h⟩ := h
 subst e1
 cases r with
 | cons r rr =>
  rw [hs]
  refine assignInOrder_cons (thn (h1 pins s σ H _ _ _ I r h) fun _ s1 ⟨σ1,H1,I1,q1⟩ => ?_)
  exact h2 pins s1 σ1 H1 _ _ Q I1 rr q1
def gTup (K : PySem.W.Frag) (n : Nat) (t : TGs) : TG := fun v σ H Q => ∃ a xs,v = .ref a /\ SqT K H a xs /\ xs.length = n /\ t xs σ H Q
theorem yh_ {es : List Expr} {k : Nat} {t : TGs} {n : Nat} (hc : X.calm = true) (h : PGs X es t)
  (hn : (assignEach es X.env).length = n := by rfl) (hst : (assignEach es X.env).findIdx? (·.1) = none := by rfl) : PG X (.Tuple es k pos) (gTup X.K n t) := by
 intro pins s σ H v u Q I r hw
 obtain ⟨a,xs,e1,hq,hl,hw⟩ := hw
 subst e1
 cases r
 obtain ⟨its,rv,ht,hz⟩ := I.tuple hq
 refine assign_Tuple_tuple (I.ok.hd hc) ht (by simp [hn,← hl,rv.length]) hst fun h' hx => ?_
 have I1 : Inv X pins σ H { s with heap := h' } := I.kept (t' := s.toks) fun b o e => hx b o (Nat.ne_of_lt (Heap.lt_size e)) e
 exact h pins _ σ H xs _ Q I1 (by simpa using rv) hw
def gSub (to ti : TE) (t : TSet) : TG := fun v σ H Q => to σ H fun o H1 => ti σ H1 fun i H2 => t o i v H2 fun H3 => Q σ H3
theorem jO_ {o i : Expr} {to ti : TE} {t : TSet} (ho : PE X o to) (hi : PE X i ti) (hs : PSet X t)
  (ha : ∀ v,assign (.Subscript o i pos) X.env v = (do
   let ov ← holding [v] (eval o X.env)
   let iv ← holding [v,ov] (eval i X.env)
   standAt pos
   holding [v,ov,iv] (setItem ov iv v)
   release [v,ov,iv] []) := by intro _; rfl) : PG X (.Subscript o i pos) (gSub to ti t) := by
 intro pins s σ H v u Q I r h
 rw [ha]
 refine wpAny_bind (wpAny_holding (thn (ho pins s σ H _ I h) fun ov s1 ⟨x,H1,I1,r1,q1⟩ => ?_))
 refine wpAny_bind (wpAny_holding (thn (hi pins s1 σ H1 _ I1 q1) fun iv s2 ⟨y,H2,I2,r2,q2⟩ => ?_))
 refine wpAny_bind (wpAny_standAt (wpAny_bind (wpAny_holding (thn (hs pins s2 σ H2 x y v ov iv u _ I2 r1 r2 r q2) fun _ s3 ⟨H3,I3,q3⟩ => ?_))))
 exact wpAny_release ⟨σ,H3,I3,q3⟩
def tAsg (te : TE) (g : TG) : TS := fun D σ H => te σ H fun x H1 => g x σ H1 D.nx
theorem jF_ {tg e : Expr} {te : TE} {g : TG} (he : PE X e te) (hg : PG X tg g) (hs : swapsWithSole [tg] e pos.line X.env = pure false := by rfl) (hw : swappedStores [tg] e X.env = pure none := by rfl)
  (h1 : (assignEach [tg] X.env).map (·.2) = [assign tg X.env] := by rfl) : PS X (.Assign [tg] e pos) (tAsg te g) := by
 intro pins s σ H D I h
 refine wpAny_Assign_stores (thn (he pins s σ H _ I h) fun v s1 ⟨x,H1,I1,r1,q1⟩ => ?_) hs hw
 rw [h1]
 exact thn (hg pins s1 σ H1 x v _ I1 r1 q1) fun _ s2 q => q
theorem qj_ {i : Nat} {x : Str} {e : Expr} {te : TE} {pos' : Pos} (hN : X.N.Nodup) (hi : X.N[i]? = some x) (hx : Loc X.env.scope x) (he : PE X e te) (hs : swapsWith e (some (.Name x pos')) pos.line X.env = pure false := by rfl) (hf : X.fn x = true \/ X.env.scope.names.lookup x = some .local := by first | exact .inl rfl | exact .inr rfl | assumption) :
  PS X (.Assign [.Name x pos'] e pos) (tAsg te (qT_ i)) := by
 intro pins s σ H D I h
 refine wpAny_Assign_Name (thn (he pins s σ H _ I h) fun v s1 ⟨y,H1,I1,r1,q1⟩ => ?_) hs
 exact zp_ I1 hN hi hx r1 (fun s2 I2 => ⟨_,H1,I2,q1⟩) hf
def tAug (i : Nat) (te : TE) (ti : TIp) : TS := fun D σ H => ∃ x,σ[i]? = some (some x) /\ te σ H fun y H1 => ti x y H1 fun z H2 => D.nx (σ.set i (some z)) H2
theorem qj7_ {i : Nat} {x : Str} {e : Expr} {te : TE} {op : Operator} {ti : TIp} {pos' : Pos} (hN : X.N.Nodup) (hi : X.N[i]? = some x) (hx : Loc X.env.scope x) (he : PE X e te) (ho : PIp X op ti) (hf : X.fn x = true \/ X.env.scope.names.lookup x = some .local := by first | exact .inl rfl | exact .inr rfl | assumption) :
  PS X (.AugAssign (.Name x pos') op e pos) (tAug i te ti) := by
 intro pins s σ H D I h
 obtain ⟨v,e1,h⟩ := h
 obtain ⟨m,hn,hl⟩ := I.loc
 have vis : Vis X.env.scope x := by rcases hx with k | k; exact .inl k; exact .inr (.inl k)
 obtain ⟨u,r,l⟩ := hl i x v hi e1 vis
 refine wpAny_AugAssign_Name ?_
 have go : wpAny (model X.prog X.w) X.A (eval e X.env) (fun w s₂ => wpAny (model X.prog X.w) X.A (inplaceOp op u w) (fun r s₃ => wpAny (model X.prog X.w) X.A (storeName X.env x r) (fun _ => SP X pins D .next) X.xe s₃) X.xe s₂) X.xe s := by
  refine thn (he pins s σ H _ I h) fun w s1 ⟨y,H1,I1,r1,q1⟩ => ?_
  refine thn (ho pins s1 σ H1 v y u w _ I1 r r1 q1) fun z s2 ⟨zv,H2,I2,r2,q2⟩ => ?_
  exact zp_ I2 hN hi hx r2 (fun s3 I3 => ⟨_,H2,I3,q2⟩) hf
 rcases l with ⟨hk,hm⟩ | ⟨hk,c,hc,hcell⟩
 ·exact wpAny_loadName_local I.ok.kind hk hn hm go
 ·rcases hk with hk | hk
  ·exact wpAny_loadName_cell I.ok.kind hk hc hcell go
  ·rcases hx with k | k
   ·have : X.env.scope.names.lookup x = some .free := hk
    rw [k] at this; cases this
   ·have : X.env.scope.names.lookup x = some .free := hk
    rw [k] at this; cases this
def ipI (f : Int -> Int -> Int) : TIp := fun x y H Q => ∃ i j,x = .int i /\ y = .int j /\ Q (.int (f i j)) H
theorem qj8_ : PIp X .Add (ipI fun i j => i + j) := by
 intro pins s σ H x y v u Q I r1 r2 h
 obtain ⟨i,j,e1,e2,q⟩ := h
 subst e1; subst e2
 obtain ⟨t,rfl⟩ := r1
 obtain ⟨t',rfl⟩ := r2
 exact iadd_int ⟨.int _,H,I.tok _,⟨_,rfl⟩,q⟩
end
section
variable {X : Cx} {pos : Pos}
def qj9_ (c : TT) (tb : TS) : TS := fun D σ H => ∃ W : Nat -> St -> Hp -> Prop,(∃ m,W m σ H) /\ ∀ m σ H,W m σ H →
 c σ H fun b H1 => if b = true then ∃ N : St -> Hp -> Prop,(∀ σ' H',N σ' H' -> ∃ m',m' < m /\ W m' σ' H') /\ tb { D with nx := N,ct := N,bk := D.nx } σ H1 else D.nx σ H1
theorem j7_ {c : Expr} {body : List Stmt} {tc : TT} {tb : TS} (hp : PassesOwn (model X.prog X.w) X.A X.env X.xe) (hc : PT X c tc) (hb : PSs X body tb) : PS X (.While c body [] pos) (qj9_ tc tb) := by
 intro pins s σ H D I h
 obtain ⟨W,⟨m0,w0⟩,turn⟩ := h
 refine wpAny_While (codeAny_whileLoop (fun n s' => ∃ σ' H',Inv X pins σ' H' s' /\ W n σ' H') ?_ m0 ⟨σ,H,I,w0⟩)
 rintro n s1 ⟨σ1,H1,I1,w1⟩
 refine wpAny_passesOwn hp (thn (hc pins s1 σ1 H1 _ I1 (turn n σ1 H1 w1)) fun b s2 ⟨H2,I2,q2⟩ => ?_)
 cases b with
 | true =>
  obtain ⟨N,hN,q2⟩ := q2
  rw [if_pos rfl]
  refine wpAny_passesOwn hp (thn (hb pins s2 σ1 H2 _ I2 q2) fun f s3 q3 => ?_)
  cases f with
  | next =>
   obtain ⟨σ3,H3,I3,n3⟩ := q3
   obtain ⟨m',hm,w3⟩ := hN σ3 H3 n3
   exact ⟨m',hm,σ3,H3,I3,w3⟩
  | cont =>
   obtain ⟨σ3,H3,I3,n3⟩ := q3
   obtain ⟨m',hm,w3⟩ := hN σ3 H3 n3
   exact ⟨m',hm,σ3,H3,I3,w3⟩
  | brk => exact q3
  | ret v => exact q3
 | false =>
  rw [if_neg Bool.false_ne_true]
  exact wpAny_execs_nil ⟨σ1,H2,I2,q2⟩
end
structure It where
 go : Nat -> Hp -> Prop
 yld : Nat -> Hp -> V -> Hp -> Prop
 stop : Nat -> Hp -> Prop
def FpOk (X : Cx) (pins : List (Addr × Obj)) (H : Hp) (b : Addr) : Prop :=
 H b = none /\ b ≠ X.env.locals /\ b ∉ X.fs /\ (b ∈ X.ex \/ X.s₀.heap.objs.size <= b) /\ (∀ x c,X.env.cells.lookup x = some c -> c ≠ b) /\ ∀ p ∈ X.pn ++ pins,p.1 ≠ b
theorem Inv.fpOk {X : Cx} {pins : List (Addr × Obj)} {σ : St} {H H' : Hp} {s : Shared} {b : Addr} (I : Inv X pins σ H s) (hb : s.heap.objs.size <= b) (hn : H' b = none) : FpOk X pins H' b := by
 refine ⟨hn,Nat.ne_of_gt (Nat.lt_of_lt_of_le I.lt hb),I.nofs hb,.inr (Nat.le_trans I.sz hb),fun x c e z => ?_,fun p hp z => ?_⟩
 ·obtain ⟨v,q⟩ := I.cell x c e
  exact absurd (Nat.lt_of_lt_of_le q.lt (by rw [z]; exact hb)) (Nat.lt_irrefl _)
 ·exact absurd (Nat.lt_of_lt_of_le (Heap.lt_size (I.pin p hp).1) (by rw [z]; exact hb)) (Nat.lt_irrefl _)
structure Turn (P : Program) (w : World) (K : PySem.W.Frag) (tg : Expr) (J : It) (fp : List Addr) (it : Addr) (tn : Nat -> Heap -> Prop) : Prop where
 mem : it ∈ fp
 obj : ∀ i h,tn i h -> ∀ b ∈ fp,∃ o,h.get? b = some o /\ ∀ v,o.data ≠ .cell v
 keep : ∀ i h h',tn i h -> (∀ b ∈ fp,∀ o,h.get? b = some o -> h'.get? b = some o) -> tn i h'
 item : ∀ (X : Cx),X.prog = P -> X.w = w -> X.K = K -> X.calm = true -> ∀ (i : Nat) (pins : List (Addr × Obj)) (s : Shared) (σ : St) (H : Hp) (E : Value -> Shared -> Prop),Inv X pins σ H s -> (∀ b ∈ fp,FpOk X pins H b) -> tn i s.heap -> J.go i H →
  wpAny (model P w) X.A (pyNext (.ref it)) (fun r s1 => ∃ u,r = some u ∧
   wpAny (model P w) X.A (letOwnedTupleGo tg (.ref it) u) (fun _ s2 => ∃ x H',Inv X pins σ H' s2 /\ RelV x u /\ J.yld i H x H' /\ tn (i + 1) s2.heap /\ ∀ b ∈ fp,H' b = none) E s1) E s
 done : ∀ (X : Cx),X.prog = P -> X.w = w -> X.K = K -> X.calm = true -> ∀ (i : Nat) (pins : List (Addr × Obj)) (s : Shared) (σ : St) (H : Hp) (E : Value -> Shared -> Prop),Inv X pins σ H s -> (∀ b ∈ fp,FpOk X pins H b) -> tn i s.heap -> J.stop i H →
  wpAny (model P w) X.A (pyNext (.ref it)) (fun r s1 => r = none /\ Inv X pins σ H s1) E s
 self : ∀ (A : Around) (i : Nat) (s : Shared) (Q : Value -> Shared -> Prop) (E : Value -> Shared -> Prop),tn i s.heap -> Q (.ref it) s -> wpAny (model P w) A (pyIter (.ref it)) Q E s
abbrev TI := St -> Hp -> (It -> Hp -> Prop) -> Prop
def PIE (X : Cx) (pins : List (Addr × Obj)) (σ : St) (tg : Expr) (R : It -> Hp -> Prop) (itv : Value) (s2 : Shared) : Prop :=
 ∃ (it : Addr) (fp : List Addr) (tn : Nat -> Heap -> Prop) (J : It) (H' : Hp),itv = .ref it /\ Inv X pins σ H' s2 /\ Turn X.prog X.w X.K tg J fp it tn /\ tn 0 s2.heap /\ (∀ b ∈ fp,FpOk X pins H' b) /\ R J H'
def PI (X : Cx) (tg iter : Expr) (wi : TI) : Prop :=
 ∀ (pins : List (Addr × Obj)) (s : Shared) (σ : St) (H : Hp) (R : It -> Hp -> Prop),Inv X pins σ H s -> wi σ H R →
  wpAny (model X.prog X.w) X.A (eval iter X.env) (fun v s1 => wpAny (model X.prog X.w) X.A (pyIter v) (PIE X pins σ tg R) X.xe s1) X.xe s
theorem qdc_ {M : Model} {A : Around} {E : Value -> Shared -> Prop} {s : Shared} {tg : Expr} {it : Addr} {u : Value} {o : Obj} {n : String} {vs : Array Value} {Q : Unit -> Shared -> Prop} (ho : s.heap.get? it = some o) (hc : o.cls = .type n) (hd : o.data = .fields vs)
  (hn : ["enumerate", "zip", "dict_itemiterator", "dict_reverseitemiterator", "odict_iterator", "itertools.zip_longest", "itertools.pairwise"].contains n = false) (hQ : Q () s) : wpAny M A (letOwnedTupleGo tg (.ref it) u) Q E s := by
 unfold letOwnedTupleGo
 cases tg <;> first
  | exact wpAny_pure hQ
  | (cases u <;> first
    | exact wpAny_pure hQ
    | (refine wpAny_bind (wpAny_load ho ?_)
       rw [hc,hd]
       show wpAny M A (if (["enumerate", "zip", "dict_itemiterator", "dict_reverseitemiterator", "odict_iterator", "itertools.zip_longest", "itertools.pairwise"].contains n && vs[0]? == some (rawInt _)) = true then _ else _) Q E s
       rw [if_neg (by intro h; rw [hn,Bool.false_and] at h; cases h)]
       exact wpAny_pure hQ))
def Itl (K : PySem.W.Frag) (a : Addr) : It :=
 ⟨fun i H => ∃ xs x,SqL K H a xs /\ xs[i]? = some x,fun i H x H' => H' = H /\ ∀ xs,SqL K H a xs -> xs[i]? = some x,fun i H => ∃ xs,SqL K H a xs /\ xs.length <= i⟩
def Itr (lo : Int) (n : Nat) : It := ⟨fun i _ => i < n,fun i H x H' => H' = H /\ x = .int (lo + i),fun i _ => n <= i⟩
theorem qed_ {P : Program} {w : World} {K : PySem.W.Frag} {tg : Expr} (a it : Addr) : Turn P w K tg (Itl K a) [it] it (fun i h => h.IsListIter it a i) where
 mem := by simp
 obj := fun i h st b hb => by
  have e : b = it := by simpa using hb
  subst e
  obtain ⟨o,e,c,d⟩ := st
  exact ⟨o,e,fun v z => by rw [d] at z; cases z⟩
 keep := fun i h h' st k => st.at fun o e => k it (by simp) o e
 item := by
  intro X hP hw hK hc i pins s σ H E I hf st hg
  subst hP hw hK
  obtain ⟨xs,x,hq,hx⟩ := hg
  obtain ⟨its,rv,p,hz⟩ := I.list hq
  obtain ⟨u,hu,ru⟩ := rv.get hx
  obtain ⟨f0,f1,f2,f3,f4,f5⟩ := hf it (by simp)
  refine wpAny_pyNext_list_item st p.isList (x := u) (by simpa using hu) fun h' st' sb => ?_
  have I1 : Inv X pins σ H { s with heap := h' } := I.turned (t' := s.toks) (fun b o hb e => (sb.2 b hb).trans e) f0 f1 f3 f4 f5
  obtain ⟨o,e,c,d⟩ := id st'
  exact ⟨u,rfl,qdc_ (s := { s with heap := h' }) e c d (by decide) ⟨x,H,I1,ru,⟨rfl,fun ys hy => by rw [I.list_inj hy hq]; exact hx⟩,st',fun b hb => (hf b hb).1⟩⟩
 done := by
  intro X hP hw hK hc i pins s σ H E I hf st hg
  subst hP hw hK
  obtain ⟨xs,hq,hx⟩ := hg
  obtain ⟨its,rv,p,hz⟩ := I.list hq
  obtain ⟨f0,f1,f2,f3,f4,f5⟩ := hf it (by simp)
  have hl := rv.length
  exact wpAny_pyNext_list_end (I.ok.hd hc) st p.isList (by simp; omega) fun h' eb => ⟨rfl,I.turned (t' := s.toks) (fun b o hb e => eb b o hb e) f0 f1 f3 f4 f5⟩
 self := fun _ _ _ _ _ st h => wpAny_pyIter_listiter st h
theorem qdd_ {P : Program} {w : World} {K : PySem.W.Frag} {tg : Expr} (it : Addr) (lo : Int) (n : Nat) : Turn P w K tg (Itr lo n) [it] it (fun i h => IsRangeIter h it (lo + (i : Nat) * 1) ((n : Int) - (i : Nat)) 1) where
 mem := by simp
 obj := fun i h st b hb => by
  have e : b = it := by simpa using hb
  subst e
  exact ⟨_,st,fun v z => by
   have z' : Data.fields _ = Data.cell v := z
   cases z'⟩
 keep := fun i h h' st k => k it (by simp) _ st
 item := by
  intro X hP hw hK hc i pins s σ H E I hf st hg
  subst hP hw hK
  obtain ⟨f0,f1,f2,f3,f4,f5⟩ := hf it (by simp)
  have W := Walks.range (prog := X.prog) (w := X.w) (I.ok.hd hc) it lo 1 n
  refine W.item i s _ _ hg st fun v h' tk hv st' kk => ?_
  obtain ⟨t,rfl⟩ := hv
  have I1 : Inv X pins σ H { s with heap := h',toks := tk } := I.turned (fun b o hb e => kk b o (by simpa using hb) e) f0 f1 f3 f4 f5
  refine ⟨_,rfl,qdc_ (s := { s with heap := h',toks := tk }) (n := "range_iterator") st' rfl rfl (by decide) ⟨.int (lo + i),H,I1,⟨t,?_⟩,⟨rfl,rfl⟩,st',fun b hb => (hf b hb).1⟩⟩
  rw [Int.mul_one]
 done := by
  intro X hP hw hK hc i pins s σ H E I hf st hg
  subst hP hw hK
  obtain ⟨f0,f1,f2,f3,f4,f5⟩ := hf it (by simp)
  exact wpAny_pyNext_range_end (I.ok.hd hc) st (by have : n <= i := hg; omega) fun h' eb => ⟨rfl,I.turned (t' := s.toks) (fun b o hb e => eb b o hb e) f0 f1 f3 f4 f5⟩
 self := fun _ _ _ _ _ st h => wpAny_pyIter_rangeiter st h
section
variable {X : Cx} {tg : Expr}
def qk4_ (K : PySem.W.Frag) (tl : TE) : TI := fun σ H R => tl σ H fun x H1 => ∃ a,x = .ref a /\ (∃ xs,SqL K H1 a xs) /\ R (Itl K a) H1
theorem qH_ {l : Expr} {tl : TE} (hl : PE X l tl) : PI X tg l (qk4_ X.K tl) := by
 intro pins s σ H R I h
 refine thn (hl pins s σ H _ I h) fun v s1 ⟨x,H1,I1,r1,q1⟩ => ?_
 obtain ⟨a,e,⟨xs,hq⟩,q⟩ := q1
 subst e
 cases r1
 obtain ⟨its,rv,p,hz⟩ := I1.list hq
 refine wpAny_pyIter_list p.isList ?_
 refine ⟨s1.heap.objs.size,[s1.heap.objs.size],_,_,H1,rfl,I1.kept (t' := s1.toks) fun b o e => Heap.get?_push_of_some _ e,qed_ a _,⟨_,Heap.get?_push_size _ rfl,rfl,rfl⟩,fun b hb => ?_,q⟩
 have e : b = s1.heap.objs.size := by simpa using hb
 subst e
 exact I1.fpOk (Nat.le_refl _) (I1.hok.fresh (Nat.le_refl _))
theorem qas_ {pins : List (Addr × Obj)} {σ : St} {H : Hp} {s : Shared} {R : It -> Hp -> Prop} {E : Value -> Shared -> Prop} {lo hi : Int} {t u v : Tok} {tk : Nat} (I : Inv X pins σ H s) (h1 : -(2 ^ 62) <= lo) (h2 : lo < 2 ^ 62) (h3 : -(2 ^ 62) <= hi) (h4 : hi < 2 ^ 62)
  (q : R (Itr lo (hi - lo).toNat) H) : wpAny (model X.prog X.w) X.A (pyIter (.ref s.heap.objs.size)) (PIE X pins σ tg R) E { s with heap := s.heap.push { cls := .type "range",data := .fields #[.int lo t,.int hi u,.int 1 v] },toks := tk } := by
 refine wpAny_pyIter_range (IsRange.new ..) (small_one h1 h2 h3 h4) ?_
 have I1 : Inv X pins σ H { s with heap := s.heap.push { cls := .type "range",data := .fields #[.int lo t,.int hi u,.int 1 v] },toks := tk } := I.kept fun b o e => Heap.get?_push_of_some _ e
 refine ⟨(s.heap.push { cls := .type "range",data := .fields #[.int lo t,.int hi u,.int 1 v] }).objs.size,[(s.heap.push { cls := .type "range",data := .fields #[.int lo t,.int hi u,.int 1 v] }).objs.size],_,_,H,rfl,
  I1.kept (t' := tk) fun b o e => Heap.get?_push_of_some _ e,qdd_ _ lo (hi - lo).toNat,?_,fun b hb => ?_,q⟩
 ·have e1 : lo + ((0 : Nat) : Int) * 1 = lo := by simp
  have e2 : (((hi - lo).toNat : Nat) : Int) - ((0 : Nat) : Int) = Builtin.Range.rangeSize lo hi 1 := by rw [rangeSize_one]; split <;> omega
  show IsRangeIter _ _ (lo + ((0 : Nat) : Int) * 1) ((((hi - lo).toNat : Nat) : Int) - ((0 : Nat) : Int)) 1
  rw [e1,e2]
  exact Heap.get?_push_size _ rfl
 ·have e : b = (s.heap.push { cls := .type "range",data := .fields #[.int lo t,.int hi u,.int 1 v] }).objs.size := by simpa using hb
  subst e
  exact I1.fpOk (Nat.le_refl _) (I1.hok.fresh (Nat.le_refl _))
def qk5_ (ta : TA) : TI := fun σ H R => ta σ H fun vs H1 => ∃ j : Int,vs = [.int j] /\ -(2 ^ 62) <= j /\ j < 2 ^ 62 /\ R (Itr 0 j.toNat) H1
def qk6_ (ta : TA) : TI := fun σ H R => ta σ H fun vs H1 => ∃ i j : Int,vs = [.int i,.int j] /\ (-(2 ^ 62) <= i /\ i < 2 ^ 62 /\ -(2 ^ 62) <= j /\ j < 2 ^ 62) /\ R (Itr i (j - i).toNat) H1
theorem qF_ {a : Expr} {ta : TA} {p pos : Pos} (hg : Gl X "range") (hm : X.mg "range" = none) (ha : PA X [a] ta) (hs : starEach [a] X.env = [(false,eval a X.env)] := by rfl) : PI X tg (.Call (.Name "range" p) [a] [] pos) (qk5_ ta) := by
 intro pins s σ H R I h
 refine Call_ (jY_ I hg hm boot_range (PyProof.Rows.callWith_type1 (thn (ha pos pins s σ H _ I h) fun us s1 ⟨vs,H1,I1,r1,q1⟩ => ?_) hs rfl))
 obtain ⟨j,e,q1,q2,q⟩ := q1
 subst e
 cases r1 with
 | cons r rr =>
  cases rr
  obtain ⟨t,rfl⟩ := r
  exact call_range_1 (qas_ I1 (by omega) (by omega) q1 q2 (by simpa using q))
theorem uI_ {a b : Expr} {ta : TA} {p pos : Pos} (hg : Gl X "range") (hm : X.mg "range" = none) (ha : PA X [a,b] ta) (hs : starEach [a,b] X.env = [(false,eval a X.env),(false,eval b X.env)] := by rfl) (hs2 : starEach [b] X.env = [(false,eval b X.env)] := by rfl) :
  PI X tg (.Call (.Name "range" p) [a,b] [] pos) (qk6_ ta) := by
 intro pins s σ H R I h
 refine Call_ (jY_ I hg hm boot_range (PyProof.Rows.callWith_type1 (thn (ha pos pins s σ H _ I h) fun us s1 ⟨vs,H1,I1,r1,q1⟩ => ?_) (by rw [hs,hs2]) (by rw [hs2]; rfl)))
 obtain ⟨i,j,e,⟨q1,q2,q3,q4⟩,q⟩ := q1
 subst e
 cases r1 with
 | cons r rr =>
  cases rr with
  | cons r' rr =>
   cases rr
   obtain ⟨t,rfl⟩ := r
   obtain ⟨t',rfl⟩ := r'
   exact call_range_2 (qas_ I1 q1 q2 q3 q4 q)
def tFor (wi : TI) (g : TG) (tb : TS) : TS := fun D σ H => wi σ H fun J H1 => ∃ W : Nat -> Nat -> St -> Hp -> Prop,(∃ m,W 0 m σ H1) /\ ∀ i m σ H,W i m σ H →
 (J.stop i H /\ D.nx σ H) \/ (J.go i H /\ ∃ N : St -> Hp -> Prop,(∀ σ' H',N σ' H' -> ∃ m',m' < m /\ W (i + 1) m' σ' H') /\ ∀ x H',J.yld i H x H' -> g x σ H' fun σ2 H2 => tb { D with nx := N,ct := N,bk := D.nx } σ2 H2)
def zb_ (fp : List Addr) (h : Heap) : List (Addr × Obj) := fp.filterMap fun b => (h.get? b).map fun o => (b,o)
theorem yv_ {fp : List Addr} {h : Heap} {b : Addr} {o : Obj} (hb : b ∈ fp) (e : h.get? b = some o) : (b,o) ∈ zb_ fp h := List.mem_filterMap.mpr ⟨b,hb,by rw [e]; rfl⟩
theorem qee_ {fp : List Addr} {h : Heap} {p : Addr × Obj} (hp : p ∈ zb_ fp h) : p.1 ∈ fp /\ h.get? p.1 = some p.2 := by
 obtain ⟨b,hb,e⟩ := List.mem_filterMap.mp hp
 cases q : h.get? b with
 | none => rw [q] at e; cases e
 | some o =>
  rw [q] at e
  have e' : (b,o) = p := Option.some.inj e
  subst e'
  exact ⟨hb,q⟩
theorem Inv.pinned {pins : List (Addr × Obj)} {σ : St} {H : Hp} {s : Shared} {fp : List Addr} (I : Inv X pins σ H s) (hf : ∀ b ∈ fp,FpOk X pins H b) (ho : ∀ b ∈ fp,∃ o,s.heap.get? b = some o /\ ∀ v,o.data ≠ .cell v) : Inv X (pins ++ zb_ fp s.heap) σ H s :=
 I.pins_of fun p hp => (List.mem_append.mp hp).elim (fun z => I.pin p (List.mem_append_right _ z)) fun z => by
  obtain ⟨hb,e⟩ := qee_ z
  obtain ⟨f0,f1,f2,_⟩ := hf p.1 hb
  obtain ⟨o,e',d⟩ := ho p.1 hb
  rw [e] at e'; cases e'
  exact ⟨e,f0,f1,f2,d⟩
theorem Inv.unpinned {pins pl : List (Addr × Obj)} {σ : St} {H : Hp} {s : Shared} (I : Inv X (pins ++ pl) σ H s) : Inv X pins σ H s := I.pins_of fun p hp => I.pin p (List.mem_append_right _ (List.mem_append_left _ hp))
theorem qD_ {iter : Expr} {body : List Stmt} {wi : TI} {g : TG} {tb : TS} {pos : Pos} (hp : PassesOwn (model X.prog X.w) X.A X.env X.xe) (hc : X.calm = true) (hi : PI X tg iter wi) (hg : PG X tg g) (hb : PSs X body tb)
  (hs : ∀ x,foldedSetIterable iter X.env x = pure x := by intro _; rfl) : PS X (.For tg iter body [] pos) (tFor wi g tb) := by
 intro pins s σ H D I h
 refine wpAny_For (thn (hi pins s σ H _ I h) fun v s1 h1 => thn h1 fun itv s2 h2 => ?_) hs
 obtain ⟨it,fp,tn,J,H2,e,I2,T,st2,f2,W,⟨m0,w0⟩,turn⟩ := h2
 subst e
 have stat : ∀ {H' : Hp},(∀ b ∈ fp,H' b = none) -> ∀ b ∈ fp,FpOk X pins H' b := fun hn b hb => ⟨hn b hb,(f2 b hb).2⟩
 refine codeAny_forLoop_any (fun n s' => ∃ i σ' H',Inv X pins σ' H' s' /\ tn i s'.heap /\ (∀ b ∈ fp,H' b = none) /\ W i n σ' H') ?_ m0 ⟨0,σ,H2,I2,st2,fun b hb => (f2 b hb).1,w0⟩
 rintro n s3 ⟨i,σ3,H3,I3,st3,fr3,w3⟩
 rcases turn i n σ3 H3 w3 with ⟨stop,qn⟩ | ⟨go,N,hN,step⟩
 ·refine wpAny_passesOwn hp (thn (T.done X rfl rfl rfl hc i pins s3 σ3 H3 X.xe I3 (stat fr3) st3 stop) fun r s4 ⟨hr,I4⟩ => ?_)
  subst hr
  exact wpAny_execs_nil ⟨σ3,H3,I4,qn⟩
 ·refine wpAny_passesOwn hp (thn (T.item X rfl rfl rfl hc i pins s3 σ3 H3 X.xe I3 (stat fr3) st3 go) fun r s4 ⟨u,hr,h4⟩ => ?_)
  subst hr
  refine wpAny_passesOwn hp (thn h4 fun _ s5 ⟨x,H5,I5,r5,y5,st5,fr5⟩ => ?_)
  have I5' := I5.pinned (stat fr5) (T.obj _ _ st5)
  refine wpAny_passesOwn hp (thn (hg _ s5 σ3 H5 x u _ I5' r5 (step x H5 y5)) fun _ s6 ⟨σ6,H6,I6,q6⟩ => ?_)
  refine wpAny_passesOwn hp (thn (hb _ s6 σ6 H6 _ I6 q6) fun f s7 q7 => ?_)
  have again : ∀ {σ7 : St} {H7 : Hp},Inv X (pins ++ zb_ fp s5.heap) σ7 H7 s7 -> N σ7 H7 -> ∃ m,m < n /\ ∃ i σ' H',Inv X pins σ' H' s7 /\ tn i s7.heap /\ (∀ b ∈ fp,H' b = none) /\ W i m σ' H' := fun {σ7 H7} I7 n7 => by
   obtain ⟨m',hm,w7⟩ := hN σ7 H7 n7
   refine ⟨m',hm,i + 1,σ7,H7,I7.unpinned,T.keep _ _ _ st5 fun b hb o e => (I7.pin (b,o) (List.mem_append_right _ (List.mem_append_right _ (yv_ hb e)))).1,fun b hb => ?_,w7⟩
   obtain ⟨o,e,d⟩ := T.obj _ _ st5 b hb
   exact (I7.pin (b,o) (List.mem_append_right _ (List.mem_append_right _ (yv_ hb e)))).2.1
  cases f with
  | next => obtain ⟨σ7,H7,I7,n7⟩ := q7; exact again I7 n7
  | cont => obtain ⟨σ7,H7,I7,n7⟩ := q7; exact again I7 n7
  | brk => obtain ⟨σ7,H7,I7,q7⟩ := q7; exact ⟨σ7,H7,I7.unpinned,q7⟩
  | ret v => obtain ⟨x7,σ7,H7,I7,r7,q7⟩ := q7; exact ⟨x7,σ7,H7,I7.unpinned,r7,q7⟩
end
theorem js_ {K : PySem.W.Frag} {a : Addr} {xs : List V} {g : TG} {tb : TS} {D : Ends} {σ : St} {H : Hp} (Pv : Nat -> St -> Hp -> Prop) (h0 : Pv 0 σ H) (hl : ∀ i σ H,i <= xs.length -> Pv i σ H -> SqL K H a xs)
  (hs : ∀ i x σ H,xs[i]? = some x -> Pv i σ H -> g x σ H fun σ2 H2 => tb { D with nx := Pv (i + 1),ct := Pv (i + 1),bk := D.nx } σ2 H2) (hd : ∀ σ H,Pv xs.length σ H -> D.nx σ H) :
  ∃ W : Nat -> Nat -> St -> Hp -> Prop,(∃ m,W 0 m σ H) /\ ∀ i m σ H,W i m σ H →
   ((Itl K a).stop i H /\ D.nx σ H) \/ ((Itl K a).go i H /\ ∃ N : St -> Hp -> Prop,(∀ σ' H',N σ' H' -> ∃ m',m' < m /\ W (i + 1) m' σ' H') /\ ∀ x H',(Itl K a).yld i H x H' -> g x σ H' fun σ2 H2 => tb { D with nx := N,ct := N,bk := D.nx } σ2 H2) := by
 refine ⟨fun i m σ H => m = xs.length - i /\ i <= xs.length /\ Pv i σ H,⟨xs.length,by simp,Nat.zero_le _,h0⟩,?_⟩
 rintro i m σ H ⟨rfl,hi,p⟩
 have q := hl i σ H hi p
 by_cases hlt : i < xs.length
 ·refine .inr ⟨⟨xs,xs[i],q,by simp [hlt]⟩,Pv (i + 1),fun σ' H' p' => ⟨xs.length - (i + 1),by omega,rfl,hlt,p'⟩,fun x H' y => ?_⟩
  obtain ⟨e,y⟩ := y
  subst e
  exact hs i x σ _ (y xs q) p
 ·have e : i = xs.length := by omega
  subst e
  exact .inl ⟨⟨xs,q,Nat.le_refl _⟩,hd σ H p⟩
theorem qQ_ {lo : Int} {n : Nat} {g : TG} {tb : TS} {D : Ends} {σ : St} {H : Hp} (Pv : Nat -> St -> Hp -> Prop) (h0 : Pv 0 σ H)
  (hs : ∀ i σ H,i < n -> Pv i σ H -> g (.int (lo + i)) σ H fun σ2 H2 => tb { D with nx := Pv (i + 1),ct := Pv (i + 1),bk := D.nx } σ2 H2) (hd : ∀ σ H,Pv n σ H -> D.nx σ H) :
  ∃ W : Nat -> Nat -> St -> Hp -> Prop,(∃ m,W 0 m σ H) /\ ∀ i m σ H,W i m σ H →
   ((Itr lo n).stop i H /\ D.nx σ H) \/ ((Itr lo n).go i H /\ ∃ N : St -> Hp -> Prop,(∀ σ' H',N σ' H' -> ∃ m',m' < m /\ W (i + 1) m' σ' H') /\ ∀ x H',(Itr lo n).yld i H x H' -> g x σ H' fun σ2 H2 => tb { D with nx := N,ct := N,bk := D.nx } σ2 H2) := by
 refine ⟨fun i m σ H => m = n - i /\ i <= n /\ Pv i σ H,⟨n,by simp,Nat.zero_le _,h0⟩,?_⟩
 rintro i m σ H ⟨rfl,hi,p⟩
 by_cases hlt : i < n
 ·refine .inr ⟨hlt,Pv (i + 1),fun σ' H' p' => ⟨n - (i + 1),by omega,rfl,hlt,p'⟩,fun x H' y => ?_⟩
  obtain ⟨e,y⟩ := y
  subst e y
  exact hs i σ _ hlt p
 ·have e : i = n := by omega
  subst e
  exact .inl ⟨Nat.le_refl _,hd σ H p⟩
abbrev R2 := V -> V -> Hp -> VK -> Prop
def OpR (X : Cx) (f : Value -> Value -> Sem Value) (r : R2) : Prop :=
 ∀ (pins : List (Addr × Obj)) (s : Shared) (σ : St) (H : Hp) (x y : V) (v u : Value) (Q : VK),Inv X pins σ H s -> RelV x v -> RelV y u -> r x y H Q →
  wpAny (model X.prog X.w) X.A (f v u) (EP X pins σ Q) X.xe s
def UnR (X : Cx) (f : Value -> Sem Value) (r : V -> Hp -> VK -> Prop) : Prop :=
 ∀ (pins : List (Addr × Obj)) (s : Shared) (σ : St) (H : Hp) (x : V) (v : Value) (Q : VK),Inv X pins σ H s -> RelV x v -> r x H Q →
  wpAny (model X.prog X.w) X.A (f v) (EP X pins σ Q) X.xe s
def jz_ (X : Cx) (f : Value) (r : List V -> Hp -> VK -> Prop) : Prop :=
 ∀ (pins : List (Addr × Obj)) (s : Shared) (σ : St) (H : Hp) (xs : List V) (us : List Value) (Q : VK),Inv X pins σ H s -> Vals xs us -> r xs H Q →
  wpAny (model X.prog X.w) X.A (call f us) (EP X pins σ Q) X.xe s
def tOp (r : R2) (ta tb : TE) : TE := fun σ H Q => ta σ H fun x H1 => tb σ H1 fun y H2 => r x y H2 Q
def tUn (r : V -> Hp -> VK -> Prop) (ta : TE) : TE := fun σ H Q => ta σ H fun x H1 => r x H1 Q
def rI (C : Int -> Int -> Prop) (g : Int -> Int -> V) : R2 := fun x y H Q => ∃ i j,x = .int i /\ y = .int j /\ C i j /\ Q (g i j) H
def rI0 (g : Int -> Int -> V) : R2 := fun x y H Q => ∃ i j,x = .int i /\ y = .int j /\ Q (g i j) H
def rU (g : Int -> V) : V -> Hp -> VK -> Prop := fun x H Q => ∃ i,x = .int i /\ Q (g i) H
section
variable {X : Cx} {a b c : Expr} {ta tb tc : TE} {pos : Pos}
theorem binT (ha : PE X a ta) (hb : PE X b tb) {pins : List (Addr × Obj)} {s : Shared} {σ : St} {H : Hp} {R : V -> V -> Hp -> Prop} (I : Inv X pins σ H s)
  (h : ta σ H fun x H1 => tb σ H1 fun y H2 => R x y H2) {Q : Value -> Shared -> Prop} {f : Value -> Value -> Sem Value}
  (hf : ∀ v u s2 x y H2,Inv X pins σ H2 s2 -> RelV x v -> RelV y u -> R x y H2 -> wpAny (model X.prog X.w) X.A (f v u) Q X.xe s2) :
  wpAny (model X.prog X.w) X.A (eval a X.env) (fun v s₁ => wpAny (model X.prog X.w) X.A (eval b X.env) (fun u s₂ => wpAny (model X.prog X.w) X.A (f v u) Q X.xe s₂) X.xe s₁) X.xe s := by
 refine thn (ha pins s σ H _ I h) fun v s1 ⟨x,H1,I1,r1,q1⟩ => ?_
 refine thn (hb pins s1 σ H1 _ I1 q1) fun u s2 ⟨y,H2,I2,r2,q2⟩ => ?_
 exact hf v u s2 x y H2 I2 r1 r2 q2
theorem qk_ {op : Operator} {r : R2} (ho : OpR X (binaryOp op) r) (ha : PE X a ta) (hb : PE X b tb) : PE X (.BinOp a op b pos) (tOp r ta tb) := by
 intro pins s σ H Q I h
 exact wpAny_BinOp (binT ha hb I h fun v u s2 x y H2 I2 rx ry q => ho pins s2 σ H2 x y v u Q I2 rx ry q)
theorem qic_ {op : UnaryOp} {r : V -> Hp -> VK -> Prop} (ho : UnR X (unaryOp op) r) (ha : PE X a ta) : PE X (.UnaryOp op a pos) (tUn r ta) := by
 intro pins s σ H Q I h
 exact UnaryOp_ (thn (ha pins s σ H _ I h) fun v s1 ⟨x,H1,I1,r1,q1⟩ => ho pins s1 σ H1 x v Q I1 r1 q1)
theorem opI {f : Value -> Value -> Sem Value} {C : Int -> Int -> Prop} {g : Int -> Int -> Int}
  (rule : ∀ (i j : Int) (t u : Tok) (s : Shared) (Q : Value -> Shared -> Prop) (E : Value -> Shared -> Prop),C i j -> Q (.int (g i j) s.toks) { s with toks := s.toks + 1 } -> wpAny (model X.prog X.w) X.A (f (.int i t) (.int j u)) Q E s) :
  OpR X f (rI C fun i j => .int (g i j)) := by
 intro pins s σ H x y v u Q I rx ry h
 obtain ⟨i,j,rfl,rfl,hc,q⟩ := h
 obtain ⟨t,rfl⟩ := rx
 obtain ⟨t',rfl⟩ := ry
 exact rule i j t t' s _ _ hc ⟨.int (g i j),H,I.tok _,⟨_,rfl⟩,q⟩
theorem opI0 {f : Value -> Value -> Sem Value} {g : Int -> Int -> Int}
  (rule : ∀ (i j : Int) (t u : Tok) (s : Shared) (Q : Value -> Shared -> Prop) (E : Value -> Shared -> Prop),Q (.int (g i j) s.toks) { s with toks := s.toks + 1 } -> wpAny (model X.prog X.w) X.A (f (.int i t) (.int j u)) Q E s) :
  OpR X f (rI0 fun i j => .int (g i j)) := by
 intro pins s σ H x y v u Q I rx ry h
 obtain ⟨i,j,rfl,rfl,q⟩ := h
 obtain ⟨t,rfl⟩ := rx
 obtain ⟨t',rfl⟩ := ry
 exact rule i j t t' s _ _ ⟨.int (g i j),H,I.tok _,⟨_,rfl⟩,q⟩
theorem opB0 {f : Value -> Value -> Sem Value} {g : Int -> Int -> Bool}
  (rule : ∀ (i j : Int) (t u : Tok) (s : Shared) (Q : Value -> Shared -> Prop) (E : Value -> Shared -> Prop),Q (.bool (g i j)) s -> wpAny (model X.prog X.w) X.A (f (.int i t) (.int j u)) Q E s) :
  OpR X f (rI0 fun i j => .bl (g i j)) := by
 intro pins s σ H x y v u Q I rx ry h
 obtain ⟨i,j,rfl,rfl,q⟩ := h
 obtain ⟨t,rfl⟩ := rx
 obtain ⟨t',rfl⟩ := ry
 exact rule i j t t' s _ _ ⟨.bl (g i j),H,I,rfl,q⟩
def CDiv (i j : Int) : Prop := 0 < j /\ j < 1073741824
def CPow (i j : Int) : Prop := 0 <= j /\ j <= 1000000 /\ i.natAbs < 2 ^ 64
def CMul (i j : Int) : Prop := (-(2 ^ 64) < i /\ i < 2 ^ 64) \/ (-(2 ^ 64) < j /\ j < 2 ^ 64)
theorem CMul.ok {i j : Int} (h : CMul i j) : IntMulOk i j := by
 rcases h with ⟨h1,h2⟩ | ⟨h1,h2⟩
 ·exact .of_left (intBits_le_64 h1 h2)
 ·exact .of_right (intBits_le_64 h1 h2)
theorem qO_ : OpR X (binaryOp .Add) (rI0 fun i j => .int (i + j)) := opI0 fun _ _ _ _ _ _ _ q => add_int q
theorem yC_ : OpR X (binaryOp .Sub) (rI0 fun i j => .int (i - j)) := opI0 fun _ _ _ _ _ _ _ q => sub_int q
theorem jl_ : OpR X (binaryOp .Mult) (rI CMul fun i j => .int (i * j)) := opI fun _ _ _ _ _ _ _ hc q => mul_int q hc.ok
theorem jo_ : OpR X (binaryOp .FloorDiv) (rI CDiv fun i j => .int (i / j)) := opI fun i j _ _ _ _ _ hc q => by
 have h1 : (0 : Int) < j := hc.1
 have h2 : j < 1073741824 := hc.2
 exact floordiv_int (by omega) (by rw [Int.fdiv_eq_ediv_of_nonneg i (by omega)]; exact q) (.inl (PyProof.noPylong_small (by omega)))
theorem qL_ : OpR X (binaryOp .Mod) (rI (fun _ j => 0 < j) fun i j => .int (i % j)) := opI fun i j _ _ _ _ _ hc q => by
 have h1 : (0 : Int) < j := hc
 exact mod_int' (by omega) (by rw [Int.fmod_eq_emod_of_nonneg i (by omega)]; exact q)
theorem qka_ : OpR X (binaryOp .Pow) (rI CPow fun i j => .int (i ^ j.toNat)) := opI fun _ _ _ _ _ _ _ hc q => pow_int_small hc.1 hc.2.1 hc.2.2 q
theorem zc_ : OpR X (binaryOp .LShift) (rI CPow fun i j => .int (i * 2 ^ j.toNat)) := opI fun _ _ _ _ _ _ _ hc q => lshift_int_small hc.1 hc.2.1 hc.2.2 q
theorem yD_ : OpR X (binaryOp .BitXor) (rI0 fun i j => .int (Builtin.bitXor i j)) := opI0 fun _ _ _ _ _ _ _ q => xor_int q
theorem unI {f : Value -> Sem Value} {g : Int -> Int}
  (rule : ∀ (i : Int) (t : Tok) (s : Shared) (Q : Value -> Shared -> Prop) (E : Value -> Shared -> Prop),Q (.int (g i) s.toks) { s with toks := s.toks + 1 } -> wpAny (model X.prog X.w) X.A (f (.int i t)) Q E s) :
  UnR X f (rU fun i => .int (g i)) := by
 intro pins s σ H x v Q I rx h
 obtain ⟨i,rfl,q⟩ := h
 obtain ⟨t,rfl⟩ := rx
 exact rule i t s _ _ ⟨.int (g i),H,I.tok _,⟨_,rfl⟩,q⟩
theorem qef_ : UnR X (unaryOp .USub) (rU fun i => .int (-i)) := unI fun _ _ _ _ _ q => neg_int q
end
def scal : V -> V -> Bool
 | .non,.non => true | .non,.int _ => true | .int _,.non => true | .non,.bl _ => true | .bl _,.non => true | .non,.str _ => true | .str _,.non => true
 | .int _,.int _ => true | .bl _,.bl _ => true | .str _,.str _ => true | .byt _,.byt _ => true
 | .int _,.str _ => true | .str _,.int _ => true | .bl _,.str _ => true | .str _,.bl _ => true
 | _,_ => false
def rEq : R2 := fun x y H Q => scal x y = true /\ Q (.bl (decide (x = y))) H
def rNe : R2 := fun x y H Q => scal x y = true /\ Q (.bl (!decide (x = y))) H
theorem qcb_ {i j : Int} : decide (V.int i = V.int j) = (i == j) := by
 rw [Bool.eq_iff_iff]
 simp
theorem qeg_ {i j : Bool} : decide (V.bl i = V.bl j) = (i == j) := by
 rw [Bool.eq_iff_iff]
 simp
theorem qcc_ {i j : Str} : decide (V.str i = V.str j) = (i == j) := by
 rw [Bool.eq_iff_iff]
 simp
theorem qcd_ {i j : Array UInt8} : decide (V.byt i = V.byt j) = (i.toList == j.toList) := by
 rw [Bool.eq_iff_iff]
 cases i
 cases j
 simp
section
variable {X : Cx} {a b c : Expr} {ta tb tc : TE} {pos : Pos}
theorem qG_ {pins : List (Addr × Obj)} {σ : St} {H : Hp} {s : Shared} {Q : VK} {k k' : Bool} (I : Inv X pins σ H s) (q : Q (.bl k) H) (e : k = k') : EP X pins σ Q (.bool k') s := by
 subst e
 exact ⟨.bl k,H,I,rfl,q⟩
theorem q6_ : OpR X (compareOp .Eq) rEq := by
 intro pins s σ H x y v u Q I rx ry h
 obtain ⟨hs,q⟩ := h
 cases x with
 | non =>
  cases rx
  cases y with
  | non => cases ry; exact PySem.EqNone.eq_none_none (qG_ I q (by simp))
  | bl j => cases ry; exact PySem.EqNone.eq_none_bool (qG_ I q (by simp))
  | int j => obtain ⟨t',rfl⟩ := ry; exact PySem.EqNone.eq_none_int (qG_ I q (by simp))
  | str j => obtain ⟨t',rfl⟩ := ry; exact PySem.EqNone.eq_none_str (qG_ I q (by simp))
  | _ => exact absurd (show false = true from hs) Bool.false_ne_true
 | bl i =>
  cases rx
  cases y with
  | non => cases ry; exact PySem.EqNone.eq_bool_none (qG_ I q (by simp))
  | bl j => cases ry; exact eq_bool (qG_ I q qeg_)
  | str j => obtain ⟨t',rfl⟩ := ry; exact PySem.EqMixed.eq_bool_str (qG_ I q (by simp))
  | _ => exact absurd (show false = true from hs) Bool.false_ne_true
 | int i =>
  obtain ⟨t,rfl⟩ := rx
  cases y with
  | non => cases ry; exact PySem.EqNone.eq_int_none (qG_ I q (by simp))
  | int j => obtain ⟨t',rfl⟩ := ry; exact eq_int (qG_ I q qcb_)
  | str j => obtain ⟨t',rfl⟩ := ry; exact PySem.EqMixed.eq_int_str (qG_ I q (by simp))
  | _ => exact absurd (show false = true from hs) Bool.false_ne_true
 | str i =>
  obtain ⟨t,rfl⟩ := rx
  cases y with
  | non => cases ry; exact PySem.EqNone.eq_str_none (qG_ I q (by simp))
  | bl j => cases ry; exact PySem.EqMixed.eq_str_bool (qG_ I q (by simp))
  | int j => obtain ⟨t',rfl⟩ := ry; exact PySem.EqMixed.eq_str_int (qG_ I q (by simp))
  | str j => obtain ⟨t',rfl⟩ := ry; exact eq_str (qG_ I q qcc_)
  | _ => exact absurd (show false = true from hs) Bool.false_ne_true
 | byt i =>
  obtain ⟨t,rfl⟩ := rx
  cases y with
  | byt j => obtain ⟨t',rfl⟩ := ry; exact PySem.W.eq_bytes (qG_ I q qcd_)
  | _ => exact absurd (show false = true from hs) Bool.false_ne_true
 | _ => cases y <;> exact absurd (show false = true from hs) Bool.false_ne_true
theorem zq_ : OpR X (compareOp .NotEq) rNe := by
 intro pins s σ H x y v u Q I rx ry h
 obtain ⟨hs,q⟩ := h
 cases x with
 | non =>
  cases rx
  cases y with
  | non => cases ry; exact PySem.EqNone.ne_none_none (qG_ I q (by simp))
  | bl j => cases ry; exact PySem.EqNone.ne_none_bool (qG_ I q (by simp))
  | int j => obtain ⟨t',rfl⟩ := ry; exact PySem.EqNone.ne_none_int (qG_ I q (by simp))
  | str j => obtain ⟨t',rfl⟩ := ry; exact PySem.EqNone.ne_none_str (qG_ I q (by simp))
  | _ => exact absurd (show false = true from hs) Bool.false_ne_true
 | bl i =>
  cases rx
  cases y with
  | non => cases ry; exact PySem.EqNone.ne_bool_none (qG_ I q (by simp))
  | bl j => cases ry; exact ne_bool (qG_ I q (congrArg not qeg_))
  | str j => obtain ⟨t',rfl⟩ := ry; exact PySem.EqMixed.ne_bool_str (qG_ I q (by simp))
  | _ => exact absurd (show false = true from hs) Bool.false_ne_true
 | int i =>
  obtain ⟨t,rfl⟩ := rx
  cases y with
  | non => cases ry; exact PySem.EqNone.ne_int_none (qG_ I q (by simp))
  | int j => obtain ⟨t',rfl⟩ := ry; exact ne_int (qG_ I q (congrArg not qcb_))
  | str j => obtain ⟨t',rfl⟩ := ry; exact PySem.EqMixed.ne_int_str (qG_ I q (by simp))
  | _ => exact absurd (show false = true from hs) Bool.false_ne_true
 | str i =>
  obtain ⟨t,rfl⟩ := rx
  cases y with
  | non => cases ry; exact PySem.EqNone.ne_str_none (qG_ I q (by simp))
  | bl j => cases ry; exact PySem.EqMixed.ne_str_bool (qG_ I q (by simp))
  | int j => obtain ⟨t',rfl⟩ := ry; exact PySem.EqMixed.ne_str_int (qG_ I q (by simp))
  | str j => obtain ⟨t',rfl⟩ := ry; exact ne_str (qG_ I q (congrArg not qcc_))
  | _ => exact absurd (show false = true from hs) Bool.false_ne_true
 | byt i =>
  obtain ⟨t,rfl⟩ := rx
  cases y with
  | byt j => obtain ⟨t',rfl⟩ := ry; exact PySem.W.ne_bytes (qG_ I q (congrArg not qcd_))
  | _ => exact absurd (show false = true from hs) Bool.false_ne_true
 | _ => cases y <;> exact absurd (show false = true from hs) Bool.false_ne_true
theorem yW_ : OpR X (compareOp .Lt) (rI0 fun i j => .bl (decide (i < j))) := opB0 fun _ _ _ _ _ _ _ q => lt_int q
theorem j0_ : OpR X (compareOp .Gt) (rI0 fun i j => .bl (decide (j < i))) := opB0 fun _ _ _ _ _ _ _ q => gt_int q
theorem qid_ : OpR X (compareOp .GtE) (rI0 fun i j => .bl (decide (j <= i))) := opB0 fun _ _ _ _ _ _ _ q => ge_int q
theorem yi_ : OpR X (compareOp .Is) (fun x y H Q => y = .non /\ Q (.bl (decide (x = .non))) H) := by
 intro pins s σ H x y v u Q I rx ry h
 obtain ⟨rfl,q⟩ := h
 cases ry
 refine is_none_gen (qG_ I q ?_)
 cases x <;> first
  | (cases rx; rfl)
  | (obtain ⟨t,rfl⟩ := rx; rfl)
theorem jx_ : OpR X (compareOp .IsNot) (fun x y H Q => y = .non /\ Q (.bl (!decide (x = .non))) H) := by
 intro pins s σ H x y v u Q I rx ry h
 obtain ⟨rfl,q⟩ := h
 cases ry
 refine isnot_none_gen (qG_ I q ?_)
 cases x <;> first
  | (cases rx; rfl)
  | (obtain ⟨t,rfl⟩ := rx; rfl)
theorem qr_ (b : Expr) {op : CmpOp} (h : op ≠ .In := by decide) (h2 : op ≠ .NotIn := by decide) : behindInMarks op b = false := by
 have e1 : (op == CmpOp.In) = false := by cases op <;> first | rfl | exact absurd rfl h
 have e2 : (op == CmpOp.NotIn) = false := by cases op <;> first | rfl | exact absurd rfl h2
 cases b <;> simp [behindInMarks,e1,e2]
theorem q2_ {op : CmpOp} {r : R2} (ho : OpR X (compareOp op) r) (ha : PE X a ta) (hb : PE X b tb) (hm : behindInMarks op b = false) : PE X (.Compare a [op] [b] pos) (tOp r ta tb) := by
 intro pins s σ H Q I h
 exact wpAny_Compare1 (binT ha hb I h fun v u s2 x y H2 I2 rx ry q => ho pins s2 σ H2 x y v u Q I2 rx ry q) hm
def qk7_ (t : TE) : TT := fun σ H Q => t σ H fun x H' => ∃ k,x = .bl k /\ Q k H'
theorem qp_ {op : CmpOp} {r : R2} (ho : OpR X (compareOp op) r) (ha : PE X a ta) (hb : PE X b tb) (hm : behindInMarks op b = false) : PT X (.Compare a [op] [b] pos) (qk7_ (tOp r ta tb)) := by
 intro pins s σ H Q I h
 refine wpAny_isTrue_Compare1 (thn (ha pins s σ H _ I h) fun v s1 ⟨x,H1,I1,r1,q1⟩ => thn (hb pins s1 σ H1 _ I1 q1) fun u s2 ⟨y,H2,I2,r2,q2⟩ =>
  thn (ho pins s2 σ H2 x y v u _ I2 r1 r2 q2) fun c s3 ⟨z,H3,I3,r3,k,e,q3⟩ => ?_) hm
 subst e
 cases r3
 exact wpAny_truthy_bool ⟨H3,I3,q3⟩
theorem vY_ : (sizeLine : Nat) < 2 ^ 63 := by rw [sizeLine_eq]; decide
theorem jJ_ {x : V} {us : List Value} (r : Vals [x] us) : ∃ u,us = [u] /\ RelV x u := by
 cases r with
 | cons r1 r2 => cases r2; exact ⟨_,rfl,r1⟩
theorem zr_ {x y : V} {us : List Value} (r : Vals [x,y] us) : ∃ u w',us = [u,w'] /\ RelV x u /\ RelV y w' := by
 cases r with
 | cons r1 r2 =>
  cases r2 with
  | cons r3 r4 => cases r4; exact ⟨_,_,rfl,r1,r3⟩
theorem qeh_ (hc : X.calm = true) : jz_ X (.builtin "max") (fun xs H Q => ∃ i j,xs = [.int i,.int j] ∧ Q (.int (if j > i then j else i)) H) := by
 intro pins s σ H xs us Q I r h
 obtain ⟨i,j,rfl,q⟩ := h
 obtain ⟨u,w',rfl,⟨t,rfl⟩,⟨t',rfl⟩⟩ := zr_ r
 refine max_two_ints (I.ok.hd hc) fun h' tk k => ⟨_,H,I.kept k,?_,q⟩
 by_cases hj : j > i
 ·rw [if_pos hj,if_pos hj]; exact ⟨_,rfl⟩
 ·rw [if_neg hj,if_neg hj]; exact ⟨_,rfl⟩
theorem qei_ (hc : X.calm = true) : jz_ X (.builtin "min") (fun xs H Q => ∃ i j,xs = [.int i,.int j] ∧ Q (.int (if j < i then j else i)) H) := by
 intro pins s σ H xs us Q I r h
 obtain ⟨i,j,rfl,q⟩ := h
 obtain ⟨u,w',rfl,⟨t,rfl⟩,⟨t',rfl⟩⟩ := zr_ r
 refine min_two_ints (I.ok.hd hc) fun h' tk k => ⟨_,H,I.kept k,?_,q⟩
 by_cases hj : j < i
 ·rw [if_pos hj,if_pos hj]; exact ⟨_,rfl⟩
 ·rw [if_neg hj,if_neg hj]; exact ⟨_,rfl⟩
theorem qej_ : jz_ X (.type "int") (fun xs H Q => (∃ i,xs = [.int i] ∧ Q (.int i) H) ∨ ∃ k,xs = [.bl k] ∧ Q (.int (if k then 1 else 0)) H) := by
 intro pins s σ H xs us Q I r h
 rcases h with ⟨i,rfl,q⟩ | ⟨k,rfl,q⟩
 ·obtain ⟨u,rfl,t,rfl⟩ := jJ_ r
  exact call_int_int ⟨.int i,H,I,⟨_,rfl⟩,q⟩
 ·obtain ⟨u,rfl,r1⟩ := jJ_ r
  cases r1
  exact call_int_bool ⟨.int (if k then 1 else 0),H,I.tok _,⟨_,rfl⟩,q⟩
end
structure ObjM (h : Heap) (x dx C : Addr) (mA : Str -> Option Value) : Prop where
 obj : h.get? x = some (PySem.W.instObj C dx)
 ns : h.Ns1 dx mA
 ne : dx ≠ x
theorem qek_ {h : Heap} {dx : Addr} {mA : Str -> Option Value} (n : h.Ns1 dx mA) : ∃ od,h.get? dx = some od /\ ∀ name,PySem.W.lookIn name od = some (mA name) := by
 obtain ⟨o,es,ep,ho,hd,hk,_,hm⟩ := n
 refine ⟨o,ho,fun name => ?_⟩
 have e := hm name
 unfold nsFind findBy at e
 rw [<- Array.find?_toList] at e
 unfold PySem.W.lookIn
 rw [hd]
 dsimp only
 split
 ·rename_i y q
  rw [q] at e
  exact congrArg some e
 ·rename_i q
  rw [q] at e
  have a : es.toList.any (·.refKey) = false := by
   rw [List.any_eq_false]
   intro y hy
   obtain ⟨z,t,hkey⟩ := hk y (Array.mem_toList_iff.mp hy)
   simp [DictEntry.refKey,hkey]
  have a' : ¬ es.toList.any (·.refKey) = true := by rw [a]; exact Bool.false_ne_true
  rw [if_neg a']
  exact congrArg some e
theorem ObjM.look {h : Heap} {x dx C : Addr} {mA : Str -> Option Value} (I : ObjM h x dx C mA) : ∃ od,PySem.W.InstAt h x (PySem.W.instObj C dx) C (some od) /\ ∀ name,PySem.W.lookIn name od = some (mA name) :=
 let ⟨od,ho,hl⟩ := qek_ I.ns
 ⟨od,⟨I.obj,rfl,rfl,ho⟩,hl⟩
section
variable {prog : Program} {w : World} {A : Around} {E : Value -> Shared -> Prop} {s : Shared} {K : PySem.W.Frag} {x dx C f : Addr} {mA : Str -> Option Value} {name : Str} {v : Value}
theorem qil_ {expr : Bool} {Q : Value -> Shared -> Prop} (X : K.In s.heap) (I : ObjM s.heap x dx C mA) (hg : PySem.W.plainGet K C name = true) (hh : PySem.W.hasDictIn K C = true)
  (ha : PySem.W.findIn K (.ref C) name = some none) (hv : mA name = some v) (hv' : PySem.W.handedIn v = true) (h : Q v { s with toks := s.toks + 1 }) :
  wpAny (model prog w) A (getAttr (.ref x) name expr) Q E s := by
 obtain ⟨od,J,hl⟩ := I.look
 exact PySem.W.get_value X J (PySem.W.plainGet_of hg).1 (PySem.W.findObj_own hh ha rfl (by rw [hl,hv])) hv' h
theorem qgn_ {pl : Sem Bool} {Q : Value × List Value -> Shared -> Prop} (X : K.In s.heap) (I : ObjM s.heap x dx C mA) (hg : PySem.W.plainGet K C name = true)
  (hf : PySem.W.findIn K (.ref C) name = some (some (.ref f))) (ht : PySem.W.isFn K (.ref f) = true) (hv : mA name = none) (h : Q (.ref f,[.ref x]) s) :
  wpAny (model prog w) A (getMethod (.ref x) name pl) Q E s := by
 obtain ⟨od,J,hl⟩ := I.look
 exact PySem.W.method_fn X J (PySem.W.plainGet_of hg).1 (PySem.W.plainGet_of hg).2 hf (beq_iff_eq.mp ht) (by show (PySem.W.lookIn name od).map (·.isSome) = some false; rw [hl,hv]; rfl) h
theorem qim_ {ns : List Str} {Q : Unit -> Shared -> Prop} (X : K.In s.heap) (I : ObjM s.heap x dx C mA)
  (hs : PySem.W.findIn K (.ref C) "__setattr__" = some (some (.builtin "object.__setattr__"))) (hp : PySem.W.plainOver K C = true) (ht : PySem.W.takerIn K C name = some none) (hh : PySem.W.hasDictIn K C = true)
  (hw : PySem.Within mA ns) (hsz : ns.length <= sizeLine)
  (h : ∀ h',ObjM h' x dx C (fun y => if y = name then some v else mA y) -> Heap.SameBut dx s.heap h' -> Q () { s with heap := h',toks := s.toks + 2 }) :
  wpAny (model prog w) A (setAttr (.ref x) name v) Q E s := by
 obtain ⟨od,J,hl⟩ := I.look
 refine PySem.W.set_plain X J hs (PySem.W.osa_open (s := { s with toks := s.toks + 1 }) (r := none) X J hp ht fun b => ?_)
 obtain ⟨cd,hc,hd'⟩ := PySem.W.any_some hh
 have hx : s.heap.get? x = some ⟨.ref C,some dx,.plain,#[]⟩ := I.obj
 refine wpAny_bind (wpAny_pure (wpAny_bind (wpAny_bind (wpAny_loadPart hx (wpAny_bind (PySem.W.Looks.here (s := { s with toks := s.toks + 1 }) (PySem.W.looks_clsIn X hc) ?_))))))
 rw [hd']
 refine wpAny_pure (a := some dx) (wpAny_bind (wpAny_pure (wpAny_bind ?_)))
 refine wpAny_nsSet1 (s := { s with toks := s.toks + 1 }) I.ns fun h' hn2 hs2 => ?_
 obtain ⟨oD,esD,epD,hoD,hdD,hcD⟩ := hn2.count (PySem.Within.cons name v hw)
 refine wpAny_bind (wpAny_lookBehind hoD (by rw [hdD]; exact pastItsLine_dict (Nat.le_trans hcD (by rw [List.length_cons]; omega))) ?_)
 exact wpAny_pure (h _ ⟨(hs2.2 _ (Ne.symm I.ne)).trans I.obj,hn2,I.ne⟩ hs2)
theorem qgo_ {R : Result -> Shared -> Prop} {vs : List Value} {kw : List (Str × Value)} (X : K.In s.heap) (hm : PySem.W.makesIn K C = true)
  (hi : PySem.W.findIn K (.ref C) "__init__" = some (some (.ref f))) (hf : PySem.W.typeIn K (.ref f) = some (.type "function"))
  (h : codeAny (model prog w) (A.under (.builtin "type.__call__" ⟨.ref C :: vs,kw⟩)) (.call (.ref f) ⟨.ref (s.heap.objs.size + 1) :: vs,kw⟩) (PySem.W.InitBack (s.heap.objs.size + 1) R)
   { s with heap := (s.heap.push PySem.W.emptyDict).push (PySem.W.instObj C s.heap.objs.size) }) :
  codeAny (model prog w) A (.call (.ref C) ⟨vs,kw⟩) R s := by
 obtain ⟨hh,g,d,t,os⟩ := s
 exact PySem.W.make_core (PySem.W.makes_of X hm) (PySem.W.looks_findIn X hi) (fun self => PySem.W.bind_fn X self hf) (.inl rfl) h
end
def putF (f : Str) (v : V) : List (Str × V) -> List (Str × V)
 | [] => [(f,v)]
 | (g,x) :: r => if g = f then (g,v) :: r else (g,x) :: putF f v r
theorem vt_ (f g : Str) (v : V) : ∀ fs : List (Str × V),(putF f v fs).lookup g = if g = f then some v else fs.lookup g
 | [] => by
  show List.lookup g [(f,v)] = _
  by_cases h : g = f
  ·have hb : (g == f) = true := beq_iff_eq.mpr h
   simp only [List.lookup,hb,if_pos h]
  ·have hb : (g == f) = false := beq_eq_false_iff_ne.mpr h
   simp only [List.lookup,hb,if_neg h]
 | (k,x) :: r => by
  have ih := vt_ f g v r
  rw [show putF f v ((k,x) :: r) = (if k = f then (k,v) :: r else (k,x) :: putF f v r) from rfl]
  by_cases hk : k = f
  ·rw [if_pos hk]
   by_cases h : g = k
   ·have hb : (g == k) = true := beq_iff_eq.mpr h
    simp only [List.lookup,hb,if_pos (h.trans hk)]
   ·have hb : (g == k) = false := beq_eq_false_iff_ne.mpr h
    simp only [List.lookup,hb,if_neg (fun e : g = f => h (e.trans hk.symm))]
  ·rw [if_neg hk]
   by_cases h : g = k
   ·have hb : (g == k) = true := beq_iff_eq.mpr h
    simp only [List.lookup,hb,if_neg (fun e : g = f => hk (h.symm.trans e))]
   ·have hb : (g == k) = false := beq_eq_false_iff_ne.mpr h
    simp only [List.lookup,hb]
    exact ih
theorem zP_ (f : Str) (v : V) : ∀ fs : List (Str × V),f ∈ (putF f v fs).map (·.1) /\ ∀ g,g ∈ fs.map (·.1) -> g ∈ (putF f v fs).map (·.1)
 | [] => ⟨by simp [putF],fun g h => by simp at h⟩
 | (k,x) :: r => by
  obtain ⟨i1,i2⟩ := zP_ f v r
  rw [show putF f v ((k,x) :: r) = (if k = f then (k,v) :: r else (k,x) :: putF f v r) from rfl]
  by_cases hk : k = f
  ·rw [if_pos hk]
   subst hk
   exact ⟨by simp,fun g h => by simpa using h⟩
  ·rw [if_neg hk]
   refine ⟨?_,fun g h => ?_⟩
   ·rw [List.map_cons]
    exact List.mem_cons_of_mem _ i1
   ·rw [List.map_cons] at h ⊢
    rcases List.mem_cons.mp h with e | e
    ·exact List.mem_cons.mpr (.inl e)
    ·exact List.mem_cons_of_mem _ (i2 g e)
theorem vu_ (f : Str) (v : V) : ∀ fs : List (Str × V),(putF f v fs).length <= fs.length + 1
 | [] => by simp [putF]
 | (k,x) :: r => by
  have ih := vu_ f v r
  rw [show putF f v ((k,x) :: r) = (if k = f then (k,v) :: r else (k,x) :: putF f v r) from rfl]
  by_cases hk : k = f
  ·rw [if_pos hk,List.length_cons,List.length_cons]; omega
  ·rw [if_neg hk,List.length_cons,List.length_cons]; omega
theorem RelO.some_of {v : V} {o : Option Value} (r : RelO (some v) o) : ∃ u,o = some u /\ RelV v u := by
 cases o with
 | none => exact (show False from r).elim
 | some u => exact ⟨u,rfl,r⟩
theorem RelO.none_of {o : Option Value} (r : RelO none o) : o = none := by
 cases o with
 | none => rfl
 | some u => exact (show False from r).elim
theorem qel_ {v : V} {u : Value} (r : RelV v u) : PySem.W.handedIn u = true := by
 cases v with
 | non => cases (show u = Value.none from r); rfl
 | bl b => cases (show u = Value.bool b from r); rfl
 | int i => obtain ⟨t,e⟩ := (show ∃ t,u = Value.int i t from r); cases e; rfl
 | str x => obtain ⟨t,e⟩ := (show ∃ t,u = Value.str x t from r); cases e; rfl
 | byt b => obtain ⟨t,e⟩ := (show ∃ t,u = Value.bytes b t from r); cases e; rfl
 | flt b => obtain ⟨t,e⟩ := (show ∃ t,u = Value.float b t from r); cases e; rfl
 | ref a => cases (show u = Value.ref a from r); rfl
 | ty n => cases (show u = Value.type n from r); rfl
section
variable {P : Program} {w : World} {H H' : Hp} {h h' : Heap} {a C dx : Addr} {fs fs' : List (Str × V)}
theorem zd_ (hok : HOk P w H h) (e : H a = some (.ins C dx fs)) : ∃ mA,ObjM h a dx C mA /\ (∀ f,RelO (fs.lookup f) (mA f)) /\ PySem.Within mA (fs.map (·.1)) /\ fs.length <= 1000 /\ H dx = some (.own a) := by
 obtain ⟨d,z,ne,ob,mA,n,r,q⟩ := (show ObjOk P w H h a (.ins C dx fs) from hok a _ e)
 exact ⟨mA,⟨ob,n,ne⟩,r,q,z,d⟩
end
structure Cls (K : PySem.W.Frag) (C : Addr) : Prop where
 pg : PySem.W.plainGet K C Str.empty = true
 hd : PySem.W.hasDictIn K C = true
 po : PySem.W.plainOver K C = true
 sa : PySem.W.findIn K (.ref C) "__setattr__" = some (some (.builtin "object.__setattr__"))
theorem Cls.get {K : PySem.W.Frag} {C : Addr} (c : Cls K C) (f : Str) : PySem.W.plainGet K C f = true := c.pg
def NoAttr (K : PySem.W.Frag) (C : Addr) (f : Str) : Prop := PySem.W.findIn K (.ref C) f = some none
theorem NoAttr.taker {K : PySem.W.Frag} {C : Addr} {f : Str} (n : NoAttr K C f) : PySem.W.takerIn K C f = some none := by
 unfold PySem.W.takerIn
 rw [show PySem.W.findIn K (.ref C) f = some none from n]
 rfl
structure Con (K : PySem.W.Frag) (C : Addr) (f : Str) (v : V) (u : Value) : Prop where
 at_ : PySem.W.findIn K (.ref C) f = some (some u)
 rel : RelV v u
 get : PySem.W.specialIn K u "__get__" = some none
 cp : PySem.W.copiedNames.contains f = false
structure Meth (K : PySem.W.Frag) (C : Addr) (m : Str) (f : Addr) : Prop where
 at_ : PySem.W.findIn K (.ref C) m = some (some (.ref f))
 fn : PySem.W.isFn K (.ref f) = true
 kp : PySem.W.keepIn K (.ref f) = true
section
variable {X : Cx} {pins : List (Addr × Obj)} {σ : St} {H : Hp} {s : Shared} {a C dx : Addr} {fs : List (Str × V)} {f : Str} {v : V} {A : Around} {E : Value -> Shared -> Prop}
theorem vZ_ {b : Bool} {Q : Value -> Shared -> Prop} (I : Inv X pins σ H s) (e : H a = some (.ins C dx fs)) (c : Cls X.K C) (n : NoAttr X.K C f) (l : fs.lookup f = some v)
  (h : ∀ u s',Inv X pins σ H s' -> RelV v u -> Q u s') : wpAny (model X.prog X.w) A (getAttr (.ref a) f b) Q E s := by
 obtain ⟨mA,O,r,_,_,_⟩ := zd_ I.hok e
 obtain ⟨u,hu,ru⟩ := RelO.some_of (v := v) (o := mA f) (by rw [<- l]; exact r f)
 exact qil_ I.kIn O (c.get f) c.hd n hu (qel_ ru) (h u _ (I.tok _) ru)
theorem v0_ {m : Str} {g : Addr} {pl : Sem Bool} {Q : Value × List Value -> Shared -> Prop} (I : Inv X pins σ H s) (e : H a = some (.ins C dx fs)) (c : Cls X.K C) (k : Meth X.K C m g) (l : fs.lookup m = none)
  (h : Q (.ref g,[.ref a]) s) : wpAny (model X.prog X.w) A (getMethod (.ref a) m pl) Q E s := by
 obtain ⟨mA,O,r,_,_,_⟩ := zd_ I.hok e
 have hn : mA m = none := RelO.none_of (by rw [<- l]; exact r m)
 exact qgn_ I.kIn O (c.get m) k.at_ k.fn hn h
theorem qde_ {y : V} {u : Value} {Q : Unit -> Shared -> Prop} (I : Inv X pins σ H s) (e : H a = some (.ins C dx fs)) (c : Cls X.K C) (n : NoAttr X.K C f) (hl : fs.length < 1000) (ry : RelV y u)
  (h : ∀ s',Inv X pins σ (upd H a (.ins C dx (putF f y fs))) s' -> Q () s') : wpAny (model X.prog X.w) A (setAttr (.ref a) f u) Q E s := by
 obtain ⟨mA,O,r,wi,_,ho⟩ := zd_ I.hok e
 have hz : (fs.map (·.1)).length <= sizeLine := by rw [List.length_map,sizeLine_eq]; omega
 refine qim_ I.kIn O c.sa c.po n.taker c.hd wi hz fun h' O' sb => h _ ?_
 have hd : ∃ o,h'.get? dx = some o := let ⟨o,_,_,e',_⟩ := O'.ns; ⟨o,e'⟩
 refine I.write (x := a) (e := dx) (by rw [e]; exact True.intro) (.inr ho) (fun b q hb z => (sb.2 b hb).trans z) hd ?_
 refine ⟨by rw [qe_ O.ne]; exact ho,?_,O.ne,O'.obj,_,O'.ns,fun g => ?_,fun g hg => ?_⟩
 ·have := vu_ f y fs; omega
 ·show RelO ((putF f y fs).lookup g) (if g = f then some u else mA g)
  rw [vt_]
  by_cases q : g = f
  ·rw [if_pos q,if_pos q]; exact ry
  ·rw [if_neg q,if_neg q]; exact r g
 ·by_cases q : g = f
  ·rw [q]; exact (zP_ f y fs).1
  ·refine (zP_ f y fs).2 g (wi g fun z => hg ?_)
   show (if g = f then some u else mA g) = none
   rw [if_neg q]; exact z
theorem Inv.made (I : Inv X pins σ H s) : Inv X pins σ (upd (upd H s.heap.objs.size (.own (s.heap.objs.size + 1))) (s.heap.objs.size + 1) (.ins C s.heap.objs.size []))
  { s with heap := (s.heap.push PySem.W.emptyDict).push (PySem.W.instObj C s.heap.objs.size) } := by
 have e1 : (s.heap.push PySem.W.emptyDict).get? s.heap.objs.size = some PySem.W.emptyDict := Heap.get?_push_size s.heap rfl
 have e2 : ((s.heap.push PySem.W.emptyDict).push (PySem.W.instObj C s.heap.objs.size)).get? (s.heap.objs.size + 1) = some (PySem.W.instObj C s.heap.objs.size) := by
  have := Heap.get?_push_size (s.heap.push PySem.W.emptyDict) (o := PySem.W.instObj C s.heap.objs.size) rfl
  rwa [Heap.size_push] at this
 have e3 : (s.heap.push PySem.W.emptyDict).Ns s.heap.objs.size (fun _ => none) := ⟨PySem.W.emptyDict,#[],_,e1,rfl,(fun e he => absurd he (by simp)),fun _ => rfl⟩
 have I1 := I.laid (a := s.heap.objs.size) (o := .own (s.heap.objs.size + 1)) (h' := s.heap.push PySem.W.emptyDict) (t' := s.toks) (fun b u q => Heap.get?_push_of_some _ q) (Nat.le_refl _) ⟨_,e1⟩
 refine I1.laid (a := s.heap.objs.size + 1) (o := .ins C s.heap.objs.size []) (t' := s.toks) (fun b u q => Heap.get?_push_of_some _ q) (Nat.le_of_eq (Heap.size_push _ _)) ?_
 have ne : s.heap.objs.size ≠ s.heap.objs.size + 1 := Nat.ne_of_lt (Nat.lt_succ_self _)
 refine ⟨by rw [qe_ ne,qd_],Nat.zero_le _,ne,e2,fun _ => none,(Heap.Ns1.of_empty e3).at fun o q => Heap.get?_push_of_some _ q,fun _ => True.intro,fun y hy => absurd rfl hy⟩
theorem qin_ {prog : Program} {w : World} {env : Env} {e : Expr} {f : Str} {pos : Pos} {s : Shared} {Q : Value -> Shared -> Prop} (hb : attributeBase e f env (eval e env) = eval e env)
  (h : wpAny (model prog w) A (eval e env) (fun o s₁ => wpAny (model prog w) A (getAttr o f true) Q E s₁) E s) : wpAny (model prog w) A (eval (.Attribute e f pos) env) Q E s :=
 Attribute_any_ h (by rw [arm_eval_Attribute,hb])
end
def tFld (K : PySem.W.Frag) (ta : TE) (f : Str) : TE := fun σ H Q => ta σ H fun x H1 => ∃ a C dx fs v,x = .ref a /\ H1 a = some (.ins C dx fs) /\ Cls K C /\ NoAttr K C f /\ fs.lookup f = some v /\ Q v H1
def sFld (K : PySem.W.Frag) (ta tv : TE) (f : Str) : TS := fun D σ H => tv σ H fun y H1 => ta σ H1 fun x H2 => ∃ a C dx fs,x = .ref a /\ H2 a = some (.ins C dx fs) /\ Cls K C /\ NoAttr K C f /\ fs.length < 1000 ∧
 D.nx σ (upd H2 a (.ins C dx (putF f y fs)))
section
variable {X : Cx} {o e value : Expr} {f : Str} {pos pos' tpos : Pos} {ta tv : TE}
theorem qA_ (he : PE X e ta) (hb : attributeBase e f X.env (eval e X.env) = eval e X.env) : PE X (.Attribute e f pos) (tFld X.K ta f) := by
 intro pins s σ H Q I h
 refine qin_ hb (thn (he pins s σ H _ I h) fun u s1 ⟨x,H1,I1,rx,a,C,dx,fs,v,ex,ea,c,n,l,q⟩ => ?_)
 subst ex
 obtain rfl : u = Value.ref a := rx
 exact vZ_ I1 ea c n l fun u' s2 I2 ru => ⟨v,H1,I2,ru,q⟩
theorem je_ (ha : PE X o ta) (hv : PE X value tv) (hs : swapsWith value (some (.Attribute o f pos')) pos.line X.env = pure false) : PS X (.Assign [.Attribute o f pos'] value pos) (sFld X.K ta tv f) := by
 intro pins s σ H D I h
 refine plainObj_wpAny_Assign_Attribute (thn (hv pins s σ H _ I h) fun u s1 ⟨y,H1,I1,ry,q⟩ => thn (ha pins s1 σ H1 _ I1 q) fun ov s2 ⟨x,H2,I2,rx,a,C,dx,fs,ex,ea,c,n,l,q2⟩ => ?_) hs
 subst ex
 obtain rfl : ov = Value.ref a := rx
 exact qde_ I2 ea c n l ry fun s3 I3 => ⟨σ,_,I3,q2⟩
end
section
variable {X : Cx} {pins : List (Addr × Obj)} {σ : St} {H : Hp} {s : Shared} {A : Around} {E : Value -> Shared -> Prop} {Q : Value -> Shared -> Prop} {c : Value} {b : Bool}
inductive TyOf (K : PySem.W.Frag) (H : Hp) : V -> Value -> Prop where
 | non : TyOf K H .non (.type "NoneType")
 | bl (x : Bool) : TyOf K H (.bl x) (.type "bool")
 | int (i : Int) : TyOf K H (.int i) (.type "int")
 | str (x : Str) : TyOf K H (.str x) (.type "str")
 | flt (x : UInt64) : TyOf K H (.flt x) (.type "float")
 | lst {a : Addr} {xs : List V} (e : H a = some (.lst xs)) : TyOf K H (.ref a) (.type "list")
 | frz {a : Addr} {o : Obj} {xs : List V} (e : H a = some (.frz o (.lst xs))) : TyOf K H (.ref a) (.type "list")
 | tup {a : Addr} {xs : List V} (e : H a = some (.tup xs)) : TyOf K H (.ref a) (.type "tuple")
 | dK {a : Addr} {kvs : List (Key × V)} (e : H a = some (.dK kvs)) : TyOf K H (.ref a) (.type "dict")
 | dT {a : Addr} {kvs : List (List Key × V)} (e : H a = some (.dT kvs)) : TyOf K H (.ref a) (.type "dict")
 | ins {a C dx : Addr} {fs : List (Str × V)} (e : H a = some (.ins C dx fs)) (cl : Cls K C) (ha : PySem.W.findIn K (.ref C) "__class__" = some (some (.builtin "object.__class__")))
   (hn : PySem.W.specialIn K (.builtin "object.__class__") "__get__" = some (some (.builtin "getset_descriptor.__get__"))) (htk : PySem.W.takesIn K (.builtin "object.__class__") = some true)
   (hm : PySem.W.mroIn K C (.type "object") = some true) : TyOf K H (.ref a) (.ref C)
theorem qem_ {x : V} {u t : Value} (I : Inv X pins σ H s) (rx : RelV x u) (ty : TyOf X.K H x t) (e : PySem.W.kitOne X.K t c = some b) (h : ∀ tk,Q (.bool b) { s with toks := tk }) :
  wpAny (model X.prog X.w) A (call (.builtin "isinstance") [u,c]) Q E s := by
 cases ty with
 | non => cases (show u = Value.none from rx); exact PySem.W.kia_one PySem.W.kitx_none I.kIn True.intro e (fun z => nomatch z) h
 | bl y => cases (show u = Value.bool y from rx); exact PySem.W.kia_one PySem.W.kitx_bool I.kIn True.intro e (fun z => nomatch z) h
 | int i => obtain ⟨t,q⟩ := (show ∃ t,u = Value.int i t from rx); cases q; exact PySem.W.kia_one PySem.W.kitx_int I.kIn True.intro e (fun z => nomatch z) h
 | str y => obtain ⟨t,q⟩ := (show ∃ t,u = Value.str y t from rx); cases q; exact PySem.W.kia_one PySem.W.kitx_str I.kIn True.intro e (fun z => nomatch z) h
 | flt y => obtain ⟨t,q⟩ := (show ∃ t,u = Value.float y t from rx); cases q; exact PySem.W.kia_one PySem.W.kitx_float I.kIn True.intro e (fun z => nomatch z) h
 | @lst a xs ea =>
  cases (show u = Value.ref a from rx)
  obtain ⟨_,_,n,_,h1⟩ := (show ObjOk X.prog X.w H s.heap a (.lst xs) from I.hok a _ ea)
  exact PySem.W.kia_one PySem.W.kitx_list I.kIn ⟨_,h1,rfl⟩ e (fun z => nomatch z) h
 | @frz a ob xs ea =>
  cases (show u = Value.ref a from rx)
  obtain ⟨_,_,_,n,_,h1⟩ := (show ObjOk X.prog X.w H s.heap a (.frz ob (.lst xs)) from I.hok a _ ea)
  exact PySem.W.kia_one PySem.W.kitx_list I.kIn ⟨_,h1,rfl⟩ e (fun z => nomatch z) h
 | @tup a xs ea =>
  cases (show u = Value.ref a from rx)
  obtain ⟨_,_,_,p⟩ := (show ObjOk X.prog X.w H s.heap a (.tup xs) from I.hok a _ ea)
  obtain ⟨o,h1,h2,_⟩ := p
  exact PySem.W.kia_one PySem.W.kitx_tuple I.kIn ⟨o,h1,h2⟩ e (fun z => nomatch z) h
 | @dK a kvs ea =>
  cases (show u = Value.ref a from rx)
  obtain ⟨_,_,vs,_,p⟩ := (show ObjOk X.prog X.w H s.heap a (.dK kvs) from I.hok a _ ea)
  obtain ⟨o,es,ep,h1,h2,_⟩ := p
  exact PySem.W.kia_one PySem.W.kitx_dict I.kIn ⟨o,h1,h2.1⟩ e (fun z => nomatch z) h
 | @dT a kvs ea =>
  cases (show u = Value.ref a from rx)
  obtain ⟨_,_,xs,_,o,es,ep,h1,h2,_⟩ := (show ObjOk X.prog X.w H s.heap a (.dT kvs) from I.hok a _ ea)
  exact PySem.W.kia_one PySem.W.kitx_dict I.kIn ⟨o,h1,h2.1⟩ e (fun z => nomatch z) h
 | @ins a C dx fs ea cl ha hn htk hm =>
  cases (show u = Value.ref a from rx)
  obtain ⟨mA,O,_⟩ := zd_ I.hok ea
  obtain ⟨od,J,_⟩ := O.look
  exact PySem.W.kia_one (PySem.W.kitx_own (cl.get _) cl.hd ha hn htk hm) I.kIn J e (fun z => nomatch z) h
end
structure Room (k : Nat) (A : Around) : Prop where
 hd : A.handled = none
 dp : A.depth + 3 * k + 5 < recursionLimit
 un : A.units + 16 * k + 200 < cLine
 gd : A.guards = some [] := by rfl
theorem Room.mono {j k : Nat} {A : Around} (r : Room k A) (h : j <= k) : Room j A := ⟨r.hd,by have := r.dp; omega,by have := r.un; omega,r.gd⟩
theorem Room.deeper {k : Nat} {A : Around} (r : Room (k + 1) A) (env : Env) : Room k (A.deeper env) :=
 ⟨r.hd,by have := r.dp; show A.depth + 1 + 3 * k + 5 < _; omega,by have := r.un; show A.units + 3 + 16 * k + 200 < _; omega,r.gd⟩
theorem Room.in1 {k : Nat} {A : Around} (r : Room (k + 1) A) : Room k A.in1 :=
 ⟨r.hd,by have := r.dp; show A.depth + 3 * k + 5 < _; omega,by have := r.un; show A.units + 1 + 16 * k + 200 < _; omega,r.gd⟩
theorem qdf_ {A : Around} {C : Addr} {us : List Value} {kw : List (Str × Value)} : (A.under (.builtin "type.__call__" ⟨.ref C :: us,kw⟩)).depth = A.depth + 1 := by
 first | rfl | simp [Around.under,Code.weight,Code.isCreation,Code.isGuard,Code.isCaller,Code.frames,Code.isFrame,guardIds]
theorem qdg_ {A : Around} {C : Addr} {us : List Value} {kw : List (Str × Value)} : (A.under (.builtin "type.__call__" ⟨.ref C :: us,kw⟩)).units = A.units + 1 := by
 first | rfl | simp [Around.under,Code.cUnits,Code.frames,Code.isFrame]
theorem Room.make {k : Nat} {A : Around} (r : Room (k + 1) A) (C : Addr) (us : List Value) (kw : List (Str × Value)) : Room k (A.under (.builtin "type.__call__" ⟨.ref C :: us,kw⟩)) :=
 ⟨r.hd,by have := r.dp; rw [qdf_]; omega,by have := r.un; rw [qdg_]; omega,by have := r.gd; first | exact this | simp [Around.under,Code.weight,Code.isCreation,Code.isGuard,Code.isCaller,Code.frames,Code.isFrame,guardIds,this]⟩
theorem Room.depth {k : Nat} {A : Around} (r : Room k A) : A.depth < recursionLimit := by have := r.dp; omega
theorem Room.units {k : Nat} {A : Around} (r : Room k A) : A.units + 64 < cLine := by have := r.un; omega
def tNil : TA := fun _ H Q => Q [] H
def qk8_ (ta : TE) (tr : TA) : TA := fun σ H Q => ta σ H fun x H1 => tr σ H1 fun xs H2 => Q (x :: xs) H2
section
variable {X : Cx} {e : Expr} {es : List Expr} {te : TE} {t : TA} {pos : Pos}
theorem qc_ : PA X [] tNil := fun _ _ _ _ H Q I h => Calls.spliced_nil ⟨[],H,I,.nil,h⟩
theorem qa_ (ha : PE X e te) (hr : PA X es t) (hs : starEach (e :: es) X.env = (false,eval e X.env) :: starEach es X.env := by rfl) : PA X (e :: es) (qk8_ te t) := by
 intro pos pins s σ H Q I h
 rw [hs]
 show wpAny _ _ (spliced ((false,eval e X.env) :: backTo pos (starEach es X.env))) _ _ s
 refine Calls.spliced_cons (thn (ha pins s σ H _ I h) fun u s1 ⟨x,H1,I1,r1,q1⟩ => ?_)
 exact thn (hr pos pins s1 σ H1 _ I1 q1) fun us s2 ⟨xs,H2,I2,r2,q2⟩ => ⟨x :: xs,H2,I2,.cons r1 r2,q2⟩
def tTup (t : TA) : TE := fun σ H Q => t σ H fun xs H1 => xs.length <= sizeLine /\ ∀ p,H1 p = none -> Q (.ref p) (upd H1 p (.tup xs))
def tLst (t : TA) : TE := fun σ H Q => t σ H fun xs H1 => xs.length <= sizeLine /\ ∀ p,H1 p = none -> Q (.ref p) (upd H1 p (.lst xs))
theorem j1_ {x1} (h : PA X es t) : PE X (.Tuple es x1 pos) (tTup t) := by
 intro pins s σ H Q I hq
 refine wpAny_Tuple_spliced (thn (h pos pins s σ H _ I hq) fun us s1 ⟨xs,H1,I1,r,z,q⟩ => ⟨by rw [<- r.length]; exact z,?_⟩)
 have hf : H1 s1.heap.objs.size = none := I1.hok.fresh (Nat.le_refl _)
 refine ⟨.ref s1.heap.objs.size,upd H1 s1.heap.objs.size (.tup xs),I1.laid (t' := s1.toks) (fun b u e => Heap.get?_push_of_some _ e) (Nat.le_refl _) ?_,rfl,q _ hf⟩
 exact ⟨z,us,r,⟨_,Heap.get?_push_size _ rfl,rfl,_,rfl⟩⟩
theorem qI_ (h : PA X es t) : PE X (.List es pos) (tLst t) := by
 intro pins s σ H Q I hq
 refine wpAny_List_spliced (thn (h pos pins s σ H _ I hq) fun us s1 ⟨xs,H1,I1,r,z,q⟩ => ⟨by rw [<- r.length]; exact z,?_⟩)
 have hf : H1 s1.heap.objs.size = none := I1.hok.fresh (Nat.le_refl _)
 refine ⟨.ref s1.heap.objs.size,upd H1 s1.heap.objs.size (.lst xs),I1.laid (t' := s1.toks) (fun b u e => Heap.get?_push_of_some _ e) (Nat.le_refl _) ?_,rfl,q _ hf⟩
 exact ⟨z,us,0,r,Heap.get?_push_size _ rfl⟩
end
abbrev Sp := List V -> Hp -> VK -> XK -> Prop
abbrev CXT := List Env -> Hp -> Shared -> XK -> Value -> Shared -> Prop
structure Env0 (P : Program) (w : World) (K : PySem.W.Frag) (mg : Str -> Option Value) (base : Heap) (A : Around) (outer : List Env) (s : Shared) (H : Hp) : Prop where
 frames : A.frames = some outer
 mod : Mod K mg base
 bs : ∀ b o,base.get? b = some o -> s.heap.get? b = some o /\ H b = none
 bsz : base.objs.size <= s.heap.objs.size
 funs : s.heap.FunFrames base outer
 frf : ∀ b ∈ frs outer,H b = none
 hok : HOk P w H s.heap
 bare : AllBare s.gens
def CE (outer : List Env) (P : Program) (w : World) (H : Hp) (s : Shared) (Q : VK) (u : Value) (s' : Shared) : Prop :=
 ∃ v H',s'.os = s.os /\ AllBare s'.gens /\ Un (frs outer) [] H H' s.heap s'.heap /\ HOk P w H' s'.heap /\ RelV v u /\ Q v H'
def CR (CX : CXT) (outer : List Env) (P : Program) (w : World) (H : Hp) (s : Shared) (Q : VK) (E : XK) (r : Result) (s' : Shared) : Prop :=
 match r with
 | .ok (.ret u) => CE outer P w H s Q u s'
 | .ok _ => False
 | .error e => CX outer H s E e s'
structure FnOk (P : Program) (w : World) (K : PySem.W.Frag) (mg : Str -> Option Value) (base : Heap) (CX : CXT) (k : Nat) (f : Addr) (fd : FuncData) (ps : List Str) (sp : Sp) : Prop where
 len : ∀ vs H Q E,sp vs H Q E -> vs.length = ps.length
 run : ∀ (A : Around) (outer : List Env) (s : Shared) (H : Hp) (args : Args) (us : List Value) (vs : List V) (Q : VK) (E : XK),Room k A -> Env0 P w K mg base A outer s H -> BindsTo s fd args (ps.zip us) -> Vals vs us -> sp vs H Q E →
  codeAny (model P w) A (.call (.ref f) args) (CR CX outer P w H s Q E) s
theorem FnOk.imp {P : Program} {w : World} {K : PySem.W.Frag} {mg : Str -> Option Value} {base : Heap} {CX : CXT} {k : Nat} {f : Addr} {fd : FuncData} {ps : List Str} {sp sp' : Sp} (F : FnOk P w K mg base CX k f fd ps sp)
  (h : ∀ vs H Q E,sp' vs H Q E -> sp vs H Q E) : FnOk P w K mg base CX k f fd ps sp' :=
 ⟨fun vs H Q E q => F.len vs H Q E (h _ _ _ _ q),fun A outer s H args us vs Q E hr he hb hv hs => F.run A outer s H args us vs Q E hr he hb hv (h _ _ _ _ hs)⟩
theorem Env0.make {P : Program} {w : World} {K : PySem.W.Frag} {mg : Str -> Option Value} {base : Heap} {A : Around} {outer : List Env} {s : Shared} {H : Hp} (e : Env0 P w K mg base A outer s H) (C : Addr) (us : List Value) (kw : List (Str × Value)) :
  Env0 P w K mg base (A.under (.builtin "type.__call__" ⟨.ref C :: us,kw⟩)) outer s H := ⟨by first | exact e.frames | (simpa [Around.under,Code.envs,Code.isFrame,pushEnvs] using e.frames),e.mod,e.bs,e.bsz,e.funs,e.frf,e.hok,e.bare⟩
section
variable {X : Cx} {pins : List (Addr × Obj)} {σ : St} {H : Hp} {s s' : Shared}
theorem Inv.env0 (I : Inv X pins σ H s) : Env0 X.prog X.w X.K X.mg X.base X.A X.stack s H :=
 ⟨I.ok.frames,I.ok.mod,I.bs,Nat.le_trans I.ok.bsz I.sz,I.stack,I.stkFree,I.hok,I.bare⟩
theorem Inv.after {Q : VK} {u : Value} (I : Inv X pins σ H s) (h : CE X.stack X.prog X.w H s Q u s') : EP X pins σ Q u s' := by
 obtain ⟨v,H',os,bare,un,hok,r,q⟩ := h
 obtain ⟨hh,g,d,t,os'⟩ := s'
 obtain rfl : os' = s.os := os
 exact ⟨v,H',I.call (h' := hh) (g' := g) (d' := d) (t' := t) (ch := []) un hok bare (fun b z => absurd z (by simp)),r,q⟩
end
def qk9_ (sp : Sp) (dvs : List V) (E : XK) (t : TA) : TE := fun σ H Q => t σ H fun vs H1 => sp (vs ++ dvs) H1 Q E
def qie_ (C : Addr) (m : Str) (sp : Sp) (dvs : List V) (E : XK) (ta : TE) (t : TA) : TE := fun σ H Q => ta σ H fun x H1 => ∃ a dx fs,x = .ref a /\ H1 a = some (.ins C dx fs) /\ fs.lookup m = none ∧
 t σ H1 fun vs H2 => sp (x :: (vs ++ dvs)) H2 Q E
def qla_ (C : Addr) (sp : Sp) (dvs : List V) (E : XK) (t : TA) : TE := fun σ H Q => t σ H fun vs H1 => ∀ x dx,H1 x = none -> H1 dx = none -> dx ≠ x →
 sp (.ref x :: (vs ++ dvs)) (upd (upd H1 dx (.own x)) x (.ins C dx [])) (fun v H2 => v = .non /\ Q (.ref x) H2) E
def Binds (K : PySem.W.Frag) (fd : FuncData) (ps : List Str) (ds : List Value) : Prop :=
 ∀ (s : Shared) (us : List Value),K.In s.heap -> (us ++ ds).length = ps.length -> BindsTo s fd ⟨us,[]⟩ (ps.zip (us ++ ds))
theorem Binds.all {K : PySem.W.Frag} {fd : FuncData} {ps : List Str} (h : ∀ us : List Value,us.length = ps.length -> bindArgs fd ⟨us,[]⟩ = pure (ps.zip us)) : Binds K fd ps [] := fun s us _ hl => by
 rw [List.append_nil] at hl ⊢
 exact .of_eq (h us hl)
def yE_ (CX : CXT) (X : Cx) (E : XK) : Prop := ∀ (pins : List (Addr × Obj)) (σ : St) (H : Hp) (s : Shared) (e : Value) (s' : Shared),Inv X pins σ H s -> CX X.stack H s E e s' -> X.xe e s'
section
variable {X : Cx} {CX : CXT} {k : Nat} {f C : Addr} {fd : FuncData} {ps : List Str} {sp : Sp} {dvs : List V} {ds : List Value} {E : XK} {x m : Str} {p pos apos : Pos} {e o : Expr} {es : List Expr} {ta : TE} {t : TA}
theorem qat_ {pins : List (Addr × Obj)} {σ : St} {H : Hp} {s : Shared} {Q : VK} {us : List Value} {vs : List V} (F : FnOk X.prog X.w X.K X.mg X.base CX k f fd ps sp) (hr : Room k X.A) (hb : Binds X.K fd ps ds) (hd : Vals dvs ds) (hx : yE_ CX X E)
  (I : Inv X pins σ H s) (r : Vals vs us) (h : sp (vs ++ dvs) H Q E) : wpAny (model X.prog X.w) X.A (call (.ref f) us) (EP X pins σ Q) X.xe s := by
 have r2 : Vals (vs ++ dvs) (us ++ ds) := r.append hd
 have hl : (us ++ ds).length = ps.length := by rw [<- r2.length]; exact F.len _ _ _ _ h
 refine wpAny_call (codeAny_mono (F.run X.A X.stack s H ⟨us,[]⟩ (us ++ ds) (vs ++ dvs) Q E hr I.env0 (hb s us I.kIn hl) r2 h) fun r s' hq => ?_)
 cases r with
 | error e => exact hx pins σ H s e s' I hq
 | ok fl =>
  cases fl with
  | ret u => exact I.after hq
  | next => exact False.elim hq
  | brk => exact False.elim hq
  | cont => exact False.elim hq
theorem qt_ (F : FnOk X.prog X.w X.K X.mg X.base CX k f fd ps sp) (hr : Room k X.A) (hg : Gl X x) (hm : X.mg x = some (.ref f)) (hk : PySem.W.keepIn X.K (.ref f) = true) (hb : Binds X.K fd ps ds) (hd : Vals dvs ds) (hx : yE_ CX X E)
  (ha : PA X (e :: es) t) (hdb : (x == ("__debug__" : Str)) = false := by decide) (he : starEach (e :: es) X.env = (false,eval e X.env) :: starEach es X.env := by rfl) (hpl : (backTo pos (starEach es X.env)).any (·.1) = false := by rfl) :
  PE X (.Call (.Name x p) (e :: es) [] pos) (qk9_ sp dvs E t) := by
 intro pins s σ H Q I h
 refine wpAny_Call_Name_kw (un_ I hg hm ?_ hdb)
 refine PySem.W.callWith_K (h₀ := X.base) I.ok.mod.kin hk (thn (ha pos pins s σ H _ I h) fun us s1 ⟨vs,H1,I1,r,q⟩ => ⟨I1.kIn,?_⟩) he hpl
 exact qat_ F hr hb hd hx I1 r q
theorem qB_ {pl : Sem Bool} (he : PE X o ta) (c : Cls X.K C) (hm : Meth X.K C m f) (F : FnOk X.prog X.w X.K X.mg X.base CX k f fd ps sp) (hr : Room k X.A) (hb : Binds X.K fd ps ds) (hd : Vals dvs ds) (hx : yE_ CX X E) (ha : PA X (e :: es) t)
  (hst : starEach (e :: es) X.env = (false,eval e X.env) :: starEach es X.env := by rfl) (hpl : (backTo pos (starEach es X.env)).any (·.1) = false := by rfl)
  (ht : eval (.Call (.Attribute o m apos) (e :: es) [] pos) X.env = (do
   let ov ← eval o X.env
   standAt apos.atName
   let (f,first) ← holding [ov] (getMethod ov m pl)
   callWith pos f first (backTo pos (starEach (e :: es) X.env)) (backToKw pos (keywordEach [] X.env))) := by rfl) :
  PE X (.Call (.Attribute o m apos) (e :: es) [] pos) (qie_ C m sp dvs E ta t) := by
 intro pins s σ H Q I h
 refine PySem.W.methodCall_KW (pl := pl) (thn (he pins s σ H _ I h) fun u s1 ⟨x,H1,I1,rx,a,dx,fs,ex,ea,l,q⟩ => ?_) ht
 subst ex
 obtain rfl : u = Value.ref a := rx
 refine v0_ I1 ea c hm l ?_
 refine PySem.W.callWith_K (first := [.ref a]) (h₀ := X.base) I.ok.mod.kin hm.kp (thn (ha pos pins s1 σ H1 _ I1 q) fun us s2 ⟨vs,H2,I2,r,q2⟩ => ⟨I2.kIn,?_⟩) hst hpl
 exact qat_ (us := .ref a :: us) (vs := .ref a :: vs) F hr hb hd hx I2 (.cons rfl r) q2
theorem yF_ {pl : Sem Bool} (he : PE X o ta) (c : Cls X.K C) (hm : Meth X.K C m f) (F : FnOk X.prog X.w X.K X.mg X.base CX k f fd ps sp) (hr : Room k X.A) (hb : Binds X.K fd ps ds) (hd : Vals dvs ds) (hx : yE_ CX X E)
  (ht : eval (.Call (.Attribute o m apos) [] [] pos) X.env = (do
   let ov ← eval o X.env
   standAt apos.atName
   let (f,first) ← holding [ov] (getMethod ov m pl)
   callWith pos f first (backTo pos (starEach [] X.env)) (backToKw pos (keywordEach [] X.env))) := by rfl) :
  PE X (.Call (.Attribute o m apos) [] [] pos) (qie_ C m sp dvs E ta tNil) := by
 intro pins s σ H Q I h
 refine PySem.W.methodCall_KW (pl := pl) (thn (he pins s σ H _ I h) fun u s1 ⟨x,H1,I1,rx,a,dx,fs,ex,ea,l,q⟩ => ?_) ht
 subst ex
 obtain rfl : u = Value.ref a := rx
 refine v0_ I1 ea c hm l ?_
 exact PySem.W.callWith_K0 (first := [.ref a]) I1.kIn hm.kp (qat_ (us := [.ref a]) (vs := [.ref a]) F hr hb hd hx I1 (.cons rfl .nil) q)
structure Mk (K : PySem.W.Frag) (C f : Addr) : Prop where
 makes : PySem.W.makesIn K C = true
 init : PySem.W.findIn K (.ref C) "__init__" = some (some (.ref f))
 fn : PySem.W.isFn K (.ref f) = true
 kp : PySem.W.keepIn K (.ref C) = true
theorem qgp_ {pins : List (Addr × Obj)} {σ : St} {H : Hp} {s : Shared} {Q : VK} {us : List Value} {vs : List V} (M : Mk X.K C f) (F : FnOk X.prog X.w X.K X.mg X.base CX k f fd ps sp) (hr : Room (k + 1) X.A) (hb : Binds X.K fd ps ds) (hd : Vals dvs ds)
  (hx : yE_ CX X E) (I : Inv X pins σ H s) (r : Vals vs us)
  (h : ∀ x dx,H x = none -> H dx = none -> dx ≠ x -> sp (.ref x :: (vs ++ dvs)) (upd (upd H dx (.own x)) x (.ins C dx [])) (fun v H2 => v = .non /\ Q (.ref x) H2) E) :
  wpAny (model X.prog X.w) X.A (call (.ref C) us) (EP X pins σ Q) X.xe s := by
 have hq := h (s.heap.objs.size + 1) s.heap.objs.size (I.hok.fresh (Nat.le_succ _)) (I.hok.fresh (Nat.le_refl _)) (Nat.ne_of_lt (Nat.lt_succ_self _))
 have I2 := Inv.made (C := C) I
 have r2 : Vals (V.ref (s.heap.objs.size + 1) :: (vs ++ dvs)) (Value.ref (s.heap.objs.size + 1) :: (us ++ ds)) := .cons rfl (r.append hd)
 have hl : (Value.ref (s.heap.objs.size + 1) :: us ++ ds).length = ps.length := by
  have e := r2.length
  rw [F.len _ _ _ _ hq] at e
  exact e.symm
 refine wpAny_call (qgo_ (f := f) I.kIn M.makes M.init (beq_iff_eq.mp M.fn) (codeAny_mono (F.run _ X.stack _ _ ⟨Value.ref (s.heap.objs.size + 1) :: us,[]⟩ (Value.ref (s.heap.objs.size + 1) :: (us ++ ds)) _ _ E (hr.make C us [])
  (I2.env0.make C us []) (hb _ (Value.ref (s.heap.objs.size + 1) :: us) I2.kIn hl) r2 hq) fun r s' hq' => ?_))
 cases r with
 | error e => exact hx pins σ _ _ e s' I2 hq'
 | ok fl =>
  cases fl with
  | ret u =>
   obtain ⟨v,H',I3,rv,ev,q3⟩ := I2.after hq'
   subst ev
   exact ⟨rv,⟨V.ref (s.heap.objs.size + 1),H',I3,rfl,q3⟩⟩
  | next => exact False.elim hq'
  | brk => exact False.elim hq'
  | cont => exact False.elim hq'
theorem vi_ (M : Mk X.K C f) (F : FnOk X.prog X.w X.K X.mg X.base CX k f fd ps sp) (hr : Room (k + 1) X.A) (hg : Gl X x) (hm : X.mg x = some (.ref C)) (hb : Binds X.K fd ps ds) (hd : Vals dvs ds) (hx : yE_ CX X E)
  (ha : PA X (e :: es) t) (hdb : (x == ("__debug__" : Str)) = false := by decide) (he : starEach (e :: es) X.env = (false,eval e X.env) :: starEach es X.env := by rfl) (hpl : (backTo pos (starEach es X.env)).any (·.1) = false := by rfl) :
  PE X (.Call (.Name x p) (e :: es) [] pos) (qla_ C sp dvs E t) := by
 intro pins s σ H Q I h
 refine wpAny_Call_Name_kw (un_ I hg hm ?_ hdb)
 refine PySem.W.callWith_K (h₀ := X.base) I.ok.mod.kin M.kp (thn (ha pos pins s σ H _ I h) fun us s1 ⟨vs,H1,I1,r,q⟩ => ⟨I1.kIn,?_⟩) he hpl
 exact qgp_ M F hr hb hd hx I1 r q
end
section
variable {X : Cx} {CX : CXT} {k : Nat} {f C : Addr} {fd : FuncData} {ps ks : List Str} {sp : Sp} {E : XK} {x m : Str} {p pos apos kpos : Pos} {e o : Expr} {es : List Expr} {kws : List Keyword} {te ta : TE} {t tk : TA} {nm : Option Str}
structure KBinds (K : PySem.W.Frag) (fd : FuncData) (ps ks : List Str) (g : List Value -> List Value -> List Value) (gV : List V -> List V -> List V) : Prop where
 to : ∀ (s : Shared) (us ws : List Value),K.In s.heap -> (g us ws).length = ps.length -> BindsTo s fd ⟨us,ks.zip ws⟩ (ps.zip (g us ws))
 rel : ∀ {vs : List V} {us : List Value} {zs : List V} {ws : List Value},Vals vs us -> Vals zs ws -> Vals (gV vs zs) (g us ws)
variable {g : List Value -> List Value -> List Value} {gV : List V -> List V -> List V}
end
structure FnScope (N P : List Str) (sc : Scope) : Prop where
 kind : sc.kind = .function
 co : sc.isCoroutine = false
 gen : sc.isGenerator = false
 nd : N.Nodup
 pre : N.take P.length = P
 par : ∀ x ∈ P,sc.names.lookup x = some .local \/ sc.names.lookup x = some .cell
 nofree : ∀ y ∈ sc.names,y.2 ≠ .free
theorem uJ_ {kindOf : Str -> Option NameKind} {x : Str} : ∀ {binds : List (Str × Value)} {m : Str -> Option Value},(∀ v,(x,v) ∉ binds) -> bindL kindOf binds m x = m x
 | [],_,_ => rfl
 | (n,v) :: r,m,h => by
  unfold bindL
  rw [uJ_ fun w hw => h w (List.mem_cons_of_mem _ hw)]
  split
  ·have : x ≠ n := by rintro rfl; exact h v List.mem_cons_self
   simp [this]
  ·rfl
theorem uK_ {kindOf : Str -> Option NameKind} {x : Str} : ∀ {binds : List (Str × Value)} {m : Str -> Option Value},(∀ v,(x,v) ∉ binds) -> bindC kindOf binds m x = m x
 | [],_,_ => rfl
 | (n,v) :: r,m,h => by
  unfold bindC
  rw [uK_ fun w hw => h w (List.mem_cons_of_mem _ hw)]
  split
  ·rfl
  ·have : x ≠ n := by rintro rfl; exact h v List.mem_cons_self
   simp [this]
theorem uL_ {kindOf : Str -> Option NameKind} {x : Str} {v : Value} : ∀ {P : List Str} {vs : List Value} {i : Nat} {m : Str -> Option Value},P.Nodup -> P[i]? = some x -> vs[i]? = some v -> kindOf x = some .local →
  bindL kindOf (P.zip vs) m x = some v
 | [],_,_,_,_,h,_,_ => by simp at h
 | _ :: _,[],_,_,_,_,h,_ => by simp at h
 | p :: P,w :: vs,0,m,nd,h1,h2,hk => by
  simp at h1 h2; subst h1; subst h2
  show bindL kindOf ((p,w) :: P.zip vs) m p = _
  unfold bindL
  rw [uJ_ fun v hv => (List.nodup_cons.mp nd).1 (List.of_mem_zip hv).1,if_pos hk]
  simp
 | p :: P,w :: vs,i + 1,m,nd,h1,h2,hk => by
  show bindL kindOf ((p,w) :: P.zip vs) m x = _
  unfold bindL
  exact uL_ (i := i) (List.nodup_cons.mp nd).2 (by simpa using h1) (by simpa using h2) hk
theorem uM_ {kindOf : Str -> Option NameKind} {x : Str} {v : Value} : ∀ {P : List Str} {vs : List Value} {i : Nat} {m : Str -> Option Value},P.Nodup -> P[i]? = some x -> vs[i]? = some v -> kindOf x ≠ some .local →
  bindC kindOf (P.zip vs) m x = some v
 | [],_,_,_,_,h,_,_ => by simp at h
 | _ :: _,[],_,_,_,_,h,_ => by simp at h
 | p :: P,w :: vs,0,m,nd,h1,h2,hk => by
  simp at h1 h2; subst h1; subst h2
  show bindC kindOf ((p,w) :: P.zip vs) m p = _
  unfold bindC
  rw [uK_ fun v hv => (List.nodup_cons.mp nd).1 (List.of_mem_zip hv).1,if_neg hk]
  simp
 | p :: P,w :: vs,i + 1,m,nd,h1,h2,hk => by
  show bindC kindOf ((p,w) :: P.zip vs) m x = _
  unfold bindC
  exact uM_ (i := i) (List.nodup_cons.mp nd).2 (by simpa using h1) (by simpa using h2) hk
def start (N : List Str) (vs : List V) : St := vs.map some ++ List.replicate (N.length - vs.length) none
def cxOf (CX : CXT) (P : Program) (w : World) (K : PySem.W.Frag) (mg : Str -> Option Value) (base : Heap) (N : List Str) (qual : Str) (scope : Scope) (f : Addr) (cd : Value) (A : Around) (outer : List Env) (s : Shared) (H : Hp) (E : XK) : Cx where
 prog := P
 w := w
 K := K
 mg := mg
 base := base
 A := A.deeper (envOfC qual scope s.heap.objs.size f cd)
 N := N
 s₀ := s
 H₀ := H
 env := envOfC qual scope s.heap.objs.size f cd
 outer := outer
 stack := envOfC qual scope s.heap.objs.size f cd :: outer
 ex := []
 calm := true
 fn := fun _ => true
 pn := []
 xe := fun e s' => wpAny (model P w) (A.deeper (envOfC qual scope s.heap.objs.size f cd)) (leaving (envOfC qual scope s.heap.objs.size f cd) e) (fun _ s'' => CX outer H s E e s'') (fun e' s'' => CX outer H s E e' s'') s'
theorem qau_ {sc : Scope} {n : Nat} {x : Str} (h : sc.names.lookup x = some .cell) : ∃ c,(cellsFrom n sc.names []).lookup x = some c := by
 have q := PySem.W.cellsFrom_some sc.names n [] (.inl h)
 exact Option.isSome_iff_exists.mp q
theorem uN_ {CX : CXT} {P : Program} {w : World} {K : PySem.W.Frag} {mg : Str -> Option Value} {base : Heap} {N ps : List Str} {qual : Str} {scope : Scope} {f : Addr} {cd : Value} {A : Around} {outer : List Env} {s s1 : Shared} {H : Hp} {E : XK} {us : List Value} {vs : List V}
  (S : FnScope N ps scope) (hd : A.handled = none) (e0 : Env0 P w K mg base A outer s H) (hl : vs.length = ps.length) (r : Vals vs us)
  (x : InCallC s s.heap.objs.size (bindL (envOfC qual scope s.heap.objs.size f cd).kindOf (ps.zip us) fun _ => none) (cellsFrom (s.heap.objs.size + 1) scope.names []) (bindC (envOfC qual scope s.heap.objs.size f cd).kindOf (ps.zip us) fun _ => none) s1) :
  Inv (cxOf CX P w K mg base N qual scope f cd A outer s H E) [] (start N vs) H s1 := by
 have hpl : ps.length <= N.length := by have := congrArg List.length S.pre; rw [List.length_take] at this; omega
 obtain ⟨h1,tk,rfl,hk⟩ := x.done
 have noA : ∀ b : Addr,b ∉ (cxOf CX P w K mg base N qual scope f cd A outer s H E).ex := fun b z => absurd (show b ∈ ([] : List Addr) from z) (by simp)
 refine ⟨⟨e0.mod,S.kind,rfl,rfl,Nat.le_refl _,fun y z c h1 h2 => ?_,fun y hy => ?_,fun y c _ h => ?_,fun _ => hd,Around.frames_deeper e0.frames,.inr ⟨rfl,rfl⟩,fun b z => absurd z (noA b),e0.bs,e0.bsz,fun b _ _ => noA b,fun b z => absurd z (noA b),e0.funs,e0.frf⟩,
  rfl,e0.bare,Un.kept hk,⟨_,x.toInCall.ns,fun i y v h1 h2 h3 => ?_⟩,fun y c h => ⟨_,x.cell y c h⟩,e0.hok.fresh (Nat.le_refl _),fun y c h => ?_,fun p hp => absurd (show p ∈ ([] : List (Addr × Obj)) from hp) (by simp),e0.hok.kept hk,?_⟩
 ·exact name_of_addr x.apart (PySem.mem_of_lookup h1) (PySem.mem_of_lookup h2)
 ·have hy : scope.names.lookup y = some .cell \/ scope.names.lookup y = some .free := hy
  rcases hy with hy | hy
  ·exact qau_ hy
  ·exact absurd rfl (S.nofree _ (PySem.mem_of_lookup hy))
 ·exact Nat.le_of_lt (x.above y c (PySem.mem_of_lookup h))
 ·have hi : i < vs.length := by
   unfold start at h2
   by_cases hi : i < vs.length
   ·exact hi
   ·rw [List.getElem?_append_right (by simpa using hi)] at h2
    rw [List.getElem?_replicate] at h2
    split at h2 <;> cases h2
  have ha : vs[i]? = some v := by
   unfold start at h2
   rw [List.getElem?_append_left (by simpa using hi),List.getElem?_map] at h2
   cases e : vs[i]? with
   | none => rw [e] at h2; cases h2
   | some a => rw [e] at h2; cases h2; rfl
  obtain ⟨u,hu,rv⟩ := r.get ha
  have hp : ps[i]? = some y := by
   rw [<- S.pre,List.getElem?_take_of_lt (by omega)]; exact h1
  have ndP : ps.Nodup := by rw [<- S.pre]; exact S.nd.sublist (List.take_sublist _ _)
  refine ⟨u,rv,?_⟩
  rcases S.par y (List.mem_of_getElem? hp) with k | k
  ·exact .inl ⟨k,uL_ ndP hp hu k⟩
  ·obtain ⟨c,e⟩ := qau_ (n := s.heap.objs.size + 1) k
   refine .inr ⟨.inl k,c,e,?_⟩
   have q := x.cell y c e
   rw [uM_ ndP hp hu (by show scope.names.lookup y ≠ _; rw [k]; decide)] at q
   exact q
 ·exact e0.hok.fresh (Nat.le_of_lt (x.above y c (PySem.mem_of_lookup h)))
 ·unfold start
  show _ = N.length
  rw [List.length_append,List.length_map,List.length_replicate]
  omega
theorem qif_ {CX : CXT} {P : Program} {w : World} {K : PySem.W.Frag} {mg : Str -> Option Value} {base : Heap} {k : Nat} {f : Addr} {name qual : Str} {params : Arguments} {body : List Stmt} {scope : Scope} {dV kV doc pm cdv ct oc : Value} {an od : Option Addr}
  {osl : Array (Option Value)} {N ps : List Str} {sp : Sp} (lk : K.lookup f = some ⟨oc,od,.func (PySem.W.fnOf name qual params body scope dV kV doc pm an cdv ct),osl⟩) (hcd : PySem.W.codeIn K cdv qual = true) (S : FnScope N ps scope)
  (len : ∀ vs H Q E,sp vs H Q E -> vs.length = ps.length)
  (hbody : ∀ (A : Around) (outer : List Env) (s : Shared) (H : Hp) (vs : List V) (Q : VK) (E : XK),Room k (A.deeper (envOfC qual scope s.heap.objs.size f cdv)) -> sp vs H Q E →
   ∃ t,PSs (cxOf CX P w K mg base N qual scope f cdv A outer s H E) body t /\ t { nx := fun _ H' => Q .non H',rt := Q } (start N vs) H) :
  FnOk P w K mg base CX (k + 1) f (PySem.W.fnOf name qual params body scope dV kV doc pm an cdv ct) ps sp := by
 refine ⟨len,fun A outer s H args us vs Q E hr e0 hb r hsp => ?_⟩
 have hl := len _ _ _ _ hsp
 have KX : K.In s.heap := e0.mod.kin.keeps fun b o e => (e0.bs b o e).1
 have lim : s.heap.NoLimit := e0.mod.nolimit.keeps fun b o e => (e0.bs b o e).1
 have hkind : ∀ y ∈ ps.zip us,scope.names.lookup y.1 = some .local \/ (scope.names.lookup y.1 = some .cell /\ ((cellsFrom (s.heap.objs.size + 1) scope.names []).lookup y.1).isSome = true) := fun ⟨n,v⟩ hy => by
  rcases S.par n (List.of_mem_zip hy).1 with q | q
  ·exact .inl q
  ·exact .inr ⟨q,PySem.W.cellsFrom_some _ _ _ (.inl q)⟩
 refine codeAny_call_function hr.depth (KX _ _ lk) rfl S.co S.gen rfl (PySem.W.codeRec_of KX hcd) (hb _ _ _ _ ?_)
 refine wpAny_newFunctionEnv_cells S.kind hkind fun env he s1 x => ?_
 subst he
 refine ⟨lim.keeps x.toInCall.keep,codeAny_func ?_⟩
 obtain ⟨t,ht,hq⟩ := hbody A outer s H vs Q E (hr.deeper _) hsp
 have I : Inv (cxOf CX P w K mg base N qual scope f cdv A outer s H E) [] (start N vs) H s1 := uN_ S hr.hd e0 hl r x
 refine wpAny_mono (ht [] s1 (start N vs) H _ I hq) (fun fl s' hs => ?_) fun e s' hs => hs
 have fin : ∀ {σ' : St} {H' : Hp} {v : V} {u : Value},Inv (cxOf CX P w K mg base N qual scope f cdv A outer s H E) [] σ' H' s' -> RelV v u -> Q v H' -> CE outer P w H s Q u s' :=
  fun {σ' H' v u} J rv q => ⟨v,H',J.os,J.bare,J.base,J.hok,rv,q⟩
 cases fl with
 | ret u =>
  obtain ⟨v,σ',H',J,rv,q⟩ := hs
  exact fin J rv q
 | next =>
  obtain ⟨σ',H',J,q⟩ := hs
  exact fin (v := V.non) (u := Value.none) J rfl q
 | brk =>
  obtain ⟨_,_,_,q⟩ := hs
  exact False.elim q
 | cont =>
  obtain ⟨_,_,_,q⟩ := hs
  exact False.elim q
section
variable {X : Cx} {x : Str} {p pos : Pos} {e : Expr} {es : List Expr} {t : TA} {id T : String} {r : List V -> Hp -> VK -> Prop}
def tCB (r : List V -> Hp -> VK -> Prop) (t : TA) : TE := fun σ H Q => t σ H fun vs H1 => r vs H1 Q
theorem qw_ (hc : jz_ X (.builtin id) r) (hg : Gl X x) (hm : X.mg x = none) (hv : bootBuiltins x = some (.builtin id)) (ha : PA X (e :: es) t) (hn : x ≠ "__name__" := by decide) (hdb : (x == ("__debug__" : Str)) = false := by decide)
  (he : starEach (e :: es) X.env = (false,eval e X.env) :: starEach es X.env := by rfl) (hpl : (backTo pos (starEach es X.env)).any (·.1) = false := by rfl) : PE X (.Call (.Name x p) (e :: es) [] pos) (tCB r t) := by
 intro pins s σ H Q I h
 refine wpAny_Call_Name_kw (jY_ I hg hm hv ?_ hn hdb)
 exact PyProof.Rows.callWith_builtin1 (thn (ha pos pins s σ H _ I h) fun us s1 ⟨vs,H1,I1,r1,q1⟩ => hc pins s1 σ H1 vs us Q I1 r1 q1) he hpl
theorem jf_ (hc : jz_ X (.type T) r) (hg : Gl X x) (hm : X.mg x = none) (hv : bootBuiltins x = some (.type T)) (ha : PA X (e :: es) t) (hn : x ≠ "__name__" := by decide) (hdb : (x == ("__debug__" : Str)) = false := by decide)
  (he : starEach (e :: es) X.env = (false,eval e X.env) :: starEach es X.env := by rfl) (hpl : (backTo pos (starEach es X.env)).any (·.1) = false := by rfl) : PE X (.Call (.Name x p) (e :: es) [] pos) (tCB r t) := by
 intro pins s σ H Q I h
 refine wpAny_Call_Name_kw (jY_ I hg hm hv ?_ hn hdb)
 exact PyProof.Rows.callWith_type1 (thn (ha pos pins s σ H _ I h) fun us s1 ⟨vs,H1,I1,r1,q1⟩ => hc pins s1 σ H1 vs us Q I1 r1 q1) he hpl
end
end L2
namespace HT
open PySem PyProof.Rows
section
open PySem.SeqAt
open PySem.AutoSeq1 (wpAny_loadPart')
open PySem.MeetsSeq PySem.MeetsSeq2 PySem.MeetsSeq3
end
section
variable {prog : Program} {w : World} {A : Around} {E : Value -> Shared -> Prop} {s : Shared}
def sIx (n d : Nat) : Option Int -> Nat
 | none => d
 | some v => if v < 0 then (v + (n : Int)).toNat else min v.toNat n
theorem sIx_none (n d : Nat) : sIx n d none = d := rfl
theorem sIx_nat (n d k : Nat) : sIx n d (some (k : Int)) = min k n := by
 show (if (k : Int) < 0 then ((k : Int) + (n : Int)).toNat else min (k : Int).toNat n) = min k n
 rw [if_neg (by omega),Int.toNat_natCast]
end
end HT
namespace L2
open PySem PySem.Spec PyProof.Rows
abbrev TO := St -> Hp -> (Option Int -> Hp -> Prop) -> Prop
def PO (X : Cx) (e : Option Expr) (t : TO) : Prop :=
 ∀ (pins : List (Addr × Obj)) (s : Shared) (σ : St) (H : Hp) (Q : Option Int -> Hp -> Prop),Inv X pins σ H s -> t σ H Q →
  wpAny (model X.prog X.w) X.A (evalPart e X.env) (fun u s' => ∃ o H',Inv X pins σ H' s' /\ IsPart u o /\ Q o H') X.xe s
def qio_ : TO := fun _ H Q => Q none H
def qlb_ (t : TE) : TO := fun σ H Q => t σ H fun x H1 => ∃ i,x = .int i /\ Q (some i) H1
section
variable {X : Cx} {e : Expr} {te : TE} {lo hi : Option Expr} {tl th : TO} {pos p2 : Pos}
theorem ze_ : PO X none qio_ := by
 intro pins s σ H Q I h
 rw [evalPart_none]
 exact wpAny_pure ⟨none,H,I,.none,h⟩
theorem zf_ (h : PE X e te) : PO X (some e) (qlb_ te) := by
 intro pins s σ H Q I hw
 rw [evalPart_some]
 refine thn (h pins s σ H _ I hw) fun u s1 ⟨x,H1,I1,r1,q1⟩ => ?_
 obtain ⟨i,rfl,q⟩ := q1
 obtain ⟨t,rfl⟩ := r1
 exact ⟨some i,H1,I1,.int i t,q⟩
def SlR (X : Cx) (r : V -> Option Int -> Option Int -> Hp -> VK -> Prop) : Prop :=
 ∀ (pins : List (Addr × Obj)) (s : Shared) (σ : St) (H : Hp) (x : V) (v vl vu : Value) (lo hi : Option Int) (sl : Addr) (Q : VK),Inv X pins σ H s -> RelV x v -> s.heap.IsSliceOf sl vl vu .none -> IsPart vl lo -> IsPart vu hi -> r x lo hi H Q →
  ∃ T id,typeLookup (.type T) "__getitem__" = pure (some (.builtin id)) ∧ s.TypeIs v T ∧ wpAny (model X.prog X.w) X.A (getItem v (.ref sl)) (EP X pins σ Q) X.xe s
def tSl (r : V -> Option Int -> Option Int -> Hp -> VK -> Prop) (te : TE) (tl th : TO) : TE := fun σ H Q => te σ H fun x H1 => tl σ H1 fun l H2 => th σ H2 fun u H3 => r x l u H3 Q
theorem yG_ {r : V -> Option Int -> Option Int -> Hp -> VK -> Prop} (hr : SlR X r) (he : PE X e te) (hl : PO X lo tl) (hu : PO X hi th) : PE X (.Subscript e (.Slice lo hi none p2) pos) (tSl r te tl th) := by
 intro pins s σ H Q I h
 refine Subscript_ (thn (he pins s σ H _ I h) fun v s1 ⟨x,H1,I1,r1,q1⟩ => ?_)
 refine wpAny_Slice (thn (hl pins s1 σ H1 _ I1 q1) fun vl s2 ⟨l,H2,I2,pl,q2⟩ => thn (hu pins s2 σ H2 _ I2 q2) fun vu s3 ⟨u,H3,I3,pu,q3⟩ => ?_)
 rw [evalPart_none]
 refine wpAny_pure ?_
 have I4 : Inv X pins σ H3 { s3 with heap := s3.heap.push { cls := .type "slice",data := .fields #[vl,vu,.none] } } := I3.kept (t' := s3.toks) fun b ob q => Heap.get?_push_of_some _ q
 obtain ⟨T,id,hT,ht,hg⟩ := hr pins { s3 with heap := s3.heap.push { cls := .type "slice",data := .fields #[vl,vu,.none] } } σ H3 x v vl vu l u s3.heap.objs.size Q I4 r1 (Heap.IsSliceOf.new ..) pl pu q3
 show wpAny (model X.prog X.w) X.A (subscriptTail e (.Slice lo hi none p2) v (.ref s3.heap.objs.size)) (EP X pins σ Q) X.xe { s3 with heap := s3.heap.push { cls := .type "slice",data := .fields #[vl,vu,.none] } }
 exact tail_any (ops := [.ref s3.heap.objs.size,v]) ht hT hg (by with_unfolding_all rfl)
def cutV (xs : List V) (lo hi : Option Int) : List V := (xs.drop (HT.sIx xs.length 0 lo)).take (HT.sIx xs.length xs.length hi - HT.sIx xs.length 0 lo)
theorem qbv_ (xs : List V) (lo hi : Option Int) : (cutV xs lo hi).length <= xs.length := by
 unfold cutV
 rw [List.length_take,List.length_drop]
 omega
end
def ixN (n : Nat) (i : Int) : Option Nat := if 0 <= i then (if i < n then some i.toNat else none) else if -(n : Int) <= i then some (i + n).toNat else none
def atI {α : Type} (xs : List α) (i : Int) : Option α := (ixN xs.length i).bind fun j => xs[j]?
theorem qce_ {n : Nat} {i : Int} {j : Nat} (h : ixN n i = some j) : seqIndex? i n = some j /\ j < n /\ -(n : Int) <= i /\ i < n := by
 unfold ixN at h
 by_cases h0 : 0 <= i
 ·rw [if_pos h0] at h
  by_cases h1 : i < n
  ·rw [if_pos h1] at h
   have e : i.toNat = j := Option.some.inj h
   exact ⟨by rw [seqIndex_of h0 h1,e],by omega,by omega,h1⟩
  ·rw [if_neg h1] at h; cases h
 ·rw [if_neg h0] at h
  by_cases h1 : -(n : Int) <= i
  ·rw [if_pos h1] at h
   have e : (i + n).toNat = j := Option.some.inj h
   exact ⟨by rw [seqIndex_neg (by omega) h1,e],by omega,h1,by omega⟩
  ·rw [if_neg h1] at h; cases h
theorem qcf_ {α : Type} {xs : List α} {i : Int} {v : α} (h : atI xs i = some v) : ∃ j,seqIndex? i xs.length = some j /\ xs[j]? = some v /\ j < xs.length /\ -(xs.length : Int) <= i /\ i < xs.length := by
 unfold atI at h
 cases e : ixN xs.length i with
 | none => rw [e] at h; cases h
 | some j =>
  rw [e] at h
  obtain ⟨h1,h2,h3,h4⟩ := qce_ e
  exact ⟨j,h1,h,h2,h3,h4⟩
theorem qq_ {α : Type} {xs : List α} {j : Nat} {v : α} (h : xs[j]? = some v) : atI xs (j : Int) = some v := by
 have hj : j < xs.length := (List.getElem?_eq_some_iff.mp h).1
 have e : ixN xs.length (j : Int) = some j := by
  unfold ixN
  rw [if_pos (by omega),if_pos (by omega)]; simp
 unfold atI; rw [e]; exact h
def qip_ (b : Expr) : Prop := ∀ o i,subscripted b false o i = operate [o,i] (getItem o i)
def IxR (X : Cx) (r : R2) : Prop :=
 ∀ (value slice : Expr) (pins : List (Addr × Obj)) (s : Shared) (σ : St) (H : Hp) (x y : V) (v u : Value) (Q : VK),Inv X pins σ H s -> RelV x v -> RelV y u -> r x y H Q →
  subscripted slice false v u = operate [v,u] (getItem v u) -> wpAny (model X.prog X.w) X.A (subscriptTail value slice v u) (EP X pins σ Q) X.xe s
def MtR (X : Cx) (id : String) (r : V -> List V -> Hp -> VK -> Prop) : Prop :=
 ∀ (pins : List (Addr × Obj)) (s : Shared) (σ : St) (H : Hp) (x : V) (xs : List V) (v : Value) (us : List Value) (Q : VK),Inv X pins σ H s -> RelV x v -> Vals xs us -> r x xs H Q →
  wpAny (model X.prog X.w) X.A (call (.builtin id) (v :: us)) (EP X pins σ Q) X.xe s
section
variable {X : Cx} {a b : Expr} {ta tb : TE} {pos : Pos}
theorem qx_ {r : R2} (hr : IxR X r) (ha : PE X a ta) (hb : PE X b tb) (hs : qip_ b) : PE X (.Subscript a b pos) (tOp r ta tb) := by
 intro pins s σ H Q I h
 exact Subscript_ (binT ha hb I h fun v u s2 x y H2 I2 rx ry q => hr a b pins s2 σ H2 x y v u Q I2 rx ry q (hs _ _))
def rIxL (K : PySem.W.Frag) : R2 := fun x y H Q => ∃ p xs i v,x = .ref p /\ y = .int i /\ SqL K H p xs /\ atI xs i = some v /\ Q v H
def rIxT (K : PySem.W.Frag) : R2 := fun x y H Q => ∃ p xs i v,x = .ref p /\ y = .int i /\ SqT K H p xs /\ atI xs i = some v /\ Q v H
theorem qy_ : IxR X (rIxL X.K) := by
 intro value slice pins s σ H x y v u Q I rx ry h hs
 obtain ⟨p,xs,i,z,rfl,rfl,hq,he,q⟩ := h
 cases rx
 obtain ⟨t,rfl⟩ := ry
 obtain ⟨its,r,pl,hz⟩ := I.list hq
 obtain ⟨j,h1,h2,h3,h4,h5⟩ := qcf_ he
 obtain ⟨w,ew,rw'⟩ := r.get h2
 have hl := r.length
 have hn := vY_
 have fin : EP X pins σ Q w s := ⟨z,H,I,rw',q⟩
 by_cases h0 : 0 <= i
 ·have hj : i.toNat = j := by
   rw [seqIndex_of h0 h5] at h1
   exact Option.some.inj h1
  exact item_listR pl.isList h0 (by omega) (by rw [hj]; simpa using ew) fin hs
 ·have hj : (i + (its.toArray.size : Int)).toNat = j := by
   rw [seqIndex_neg (by omega) h4] at h1
   rw [List.size_toArray,← hl]
   exact Option.some.inj h1
  exact subscriptTail_builtinR (x := w) pl.isList.typeIs slot_list_getitem.lookup
   (wpAny_getItem_list_neg (Q := fun r s' => r = w /\ EP X pins σ Q r s') pl.isList (by omega) (by rw [List.size_toArray] <;> omega) (by omega) (by rw [hj]; simpa using ew) ⟨rfl,fin⟩) hs
theorem yj_ : IxR X (rIxT X.K) := by
 intro value slice pins s σ H x y v u Q I rx ry h hs
 obtain ⟨p,xs,i,z,rfl,rfl,hq,he,q⟩ := h
 cases rx
 obtain ⟨t,rfl⟩ := ry
 obtain ⟨its,r,pl,hz⟩ := I.tuple hq
 obtain ⟨j,h1,h2,h3,h4,h5⟩ := qcf_ he
 obtain ⟨w,ew,rw'⟩ := r.get h2
 have hl := r.length
 have hn := vY_
 have fin : EP X pins σ Q w s := ⟨z,H,I,rw',q⟩
 exact subscriptTail_builtinR (x := w) pl.typeIs slot_tuple_getitem.lookup
  (getItem_tuple (j := j) (Q := fun r s' => r = w /\ EP X pins σ Q r s') pl (by omega) (by omega) (by rw [List.size_toArray,← hl]; exact h1) (by simpa using ew) ⟨rfl,fin⟩) hs
theorem qdh_ (its : List Value) (n j : Nat) (u : Value) : Obj.mapSeq (·.setIfInBounds j u) { cls := .type "list",data := .seq its.toArray n } = { cls := .type "list",data := .seq (its.set j u).toArray n } := by
 simp [Obj.mapSeq]
theorem Inv.lst {pins : List (Addr × Obj)} {σ : St} {H : Hp} {s : Shared} {p : Addr} {xs : List V} (I : Inv X pins σ H s) (h : H p = some (.lst xs)) :
  ∃ (its : List Value) (n : Nat),Vals xs its ∧ s.heap.get? p = some { cls := .type "list",data := .seq its.toArray n } ∧ xs.length ≤ sizeLine := by
 obtain ⟨z,its,n,r,e⟩ := I.hok p _ h
 exact ⟨its,n,r,e,z⟩
theorem Inv.lstUpd {pins : List (Addr × Obj)} {σ : St} {H : Hp} {s : Shared} {p : Addr} {xs ys : List V} {its its' : List Value} {n n' : Nat} {f : Obj -> Obj} (I : Inv X pins σ H s) (h : H p = some (.lst xs))
  (ho : s.heap.get? p = some { cls := .type "list",data := .seq its.toArray n }) (hf : f { cls := .type "list",data := .seq its.toArray n } = { cls := .type "list",data := .seq its'.toArray n' }) (r : Vals ys its') (hz : ys.length ≤ sizeLine) (t : Nat) :
  Inv X pins σ (upd H p (.lst ys)) { s with heap := s.heap.update p f,toks := t } := by
 have e : (s.heap.update p f).get? p = some { cls := .type "list",data := .seq its'.toArray n' } := by
  rw [Heap.get?_update_self f ho (by rw [hf] <;> rfl),hf]
 refine I.write (x := p) (e := p) (by rw [h]; trivial) (.inl rfl) (fun b u hb q => (Heap.get?_update_other _ _ (Ne.symm hb)).trans q) ⟨_,e⟩ ?_
 exact ⟨hz,its',n',r,e⟩
def qlc_ : V -> V -> V -> Hp -> (Hp -> Prop) -> Prop := fun o i v H Q => ∃ p xs k j,o = .ref p /\ i = .int k /\ H p = some (.lst xs) /\ ixN xs.length k = some j /\ Q (upd H p (.lst (xs.set j v)))
theorem jt_ : PSet X qlc_ := by
 intro pins s σ H o i v ov iv u Q I ro ri rv h
 obtain ⟨p,xs,k,j,rfl,rfl,hp,hj,q⟩ := h
 cases ro
 obtain ⟨t,rfl⟩ := ri
 obtain ⟨its,n,r,ho,hz⟩ := I.lst hp
 obtain ⟨h1,h2,h3,h4⟩ := qce_ hj
 have hl := r.length
 have hn := vY_
 have I' : Inv X pins σ (upd H p (.lst (xs.set j v))) { s with heap := s.heap.update p (Obj.mapSeq (·.setIfInBounds j u)) } :=
  I.lstUpd hp ho (qdh_ its n j u) (r.set rv j) (by rw [List.length_set]; exact hz) s.toks
 by_cases h0 : 0 <= k
 ·have hk : k.toNat = j := by
   rw [seqIndex_of h0 h4] at h1
   exact Option.some.inj h1
  exact PySem.W.ki_setAt ho h0 (by omega) (by rw [List.size_toArray,← hl]; exact h4) (by rw [hk]; exact ⟨_,I',q⟩)
 ·have hk : (k + (its.toArray.size : Int)).toNat = j := by
   rw [seqIndex_neg (by omega) h3] at h1
   rw [List.size_toArray,← hl]
   exact Option.some.inj h1
  exact PySem.W.ki_setBack ho (by omega) (by rw [List.size_toArray,← hl]; exact h3) (by omega) (by rw [hk]; exact ⟨_,I',q⟩)
theorem qav_ (lo hi : Option Int) (n : Nat) : (sliceBounds lo hi none n).1 = ((HT.sIx n 0 lo : Nat) : Int) /\ (sliceBounds lo hi none n).2.1 = ((HT.sIx n n hi : Nat) : Int) /\ (sliceBounds lo hi none n).2.2 = 1 := by
 refine ⟨?_,?_,rfl⟩
 ·cases lo with
  | none => simp [sliceBounds,HT.sIx]
  | some i =>
   simp only [sliceBounds,HT.sIx,Option.getD_none,show (1 : Int) > 0 by decide,if_true]
   by_cases h : i < 0
   ·simp only [h,if_true] <;> omega
   ·simp only [h,if_false] <;> omega
 ·cases hi with
  | none => simp [sliceBounds,HT.sIx]
  | some i =>
   simp only [sliceBounds,HT.sIx,Option.getD_none,show (1 : Int) > 0 by decide,if_true]
   by_cases h : i < 0
   ·simp only [h,if_true] <;> omega
   ·simp only [h,if_false] <;> omega
theorem qad_ (its : List Value) (lo hi : Option Int) : slicePick its.toArray lo hi none = ((its.drop (HT.sIx its.length 0 lo)).take (HT.sIx its.length its.length hi - HT.sIx its.length 0 lo)).toArray := by
 obtain ⟨h1,h2,h3⟩ := qav_ lo hi its.toArray.size
 unfold slicePick
 rw [h1,h2,h3]
 simp only [sliceRange_one,pick_run,List.size_toArray] <;> rfl
def rSlL (K : PySem.W.Frag) : V -> Option Int -> Option Int -> Hp -> VK -> Prop := fun x lo hi H Q => ∃ a xs,x = .ref a /\ SqL K H a xs /\ ∀ p,H p = none -> Q (.ref p) (upd H p (.lst (cutV xs lo hi)))
theorem zg_ : SlR X (rSlL X.K) := by
 intro pins s σ H x v vl vu lo hi sl Q I rx hs pl pu h
 obtain ⟨a,xs,rfl,hx,q⟩ := h
 cases rx
 obtain ⟨its,r,ht,hz⟩ := I.list hx
 have hlen := r.length
 refine ⟨"list",_,slot_list_getitem.lookup,ht.isList.typeIs,?_⟩
 refine wpAny_getItem_list_slice ht.isList hs pl pu .none (by simp) ?_ (by rw [List.size_toArray] <;> omega)
 rw [qad_,← hlen]
 refine ⟨.ref s.heap.objs.size,_,I.laid (t' := s.toks) (o := .lst (cutV xs lo hi)) (fun b ob q => Heap.get?_push_of_some _ q) (Nat.le_refl _) ?_,rfl,q _ (I.hok.fresh (Nat.le_refl _))⟩
 exact ⟨Nat.le_trans (qbv_ xs lo hi) hz,_,0,(r.drop (HT.sIx xs.length 0 lo)).take (HT.sIx xs.length xs.length hi - HT.sIx xs.length 0 lo),Heap.get?_push_size _ rfl⟩
def yw_ : V -> Bool
 | .non => true
 | .bl _ => true
 | .int _ => true
 | .str _ => true
 | _ => false
def eqV : V -> V -> Bool
 | .non,.non => true
 | .bl a,.bl b => a == b
 | .bl a,.int b => (if a then 1 else 0) == b
 | .int a,.bl b => a == (if b then 1 else 0)
 | .int a,.int b => a == b
 | .str a,.str b => a == b
 | _,_ => false
theorem jg_ {A : Around} {s : Shared} {y x : V} {u v : Value} (ry : RelV y u) (rx : RelV x v) (fy : yw_ y = true) (fx : yw_ x = true) : SeqAt.EqAt A s u v (eqV y x) := by
 cases y with
 | non =>
  cases ry
  cases x with
  | non => cases rx; exact SeqAt.EqAt.same _
  | bl b => cases rx; exact SeqAt.EqAt.none_bool b
  | int b => obtain ⟨t,rfl⟩ := rx; exact SeqAt.EqAt.none_int b t
  | str b => obtain ⟨t,rfl⟩ := rx; exact SeqAt.EqAt.none_str b t
  | _ => exact absurd (show false = true from fx) Bool.false_ne_true
 | bl a =>
  cases ry
  cases x with
  | non => cases rx; exact SeqAt.EqAt.bool_none a
  | bl b => cases rx; exact SeqAt.EqAt.bool_bool a b
  | int b => obtain ⟨t,rfl⟩ := rx; exact SeqAt.EqAt.bool_int a b t
  | str b => obtain ⟨t,rfl⟩ := rx; exact SeqAt.EqAt.bool_str a b t
  | _ => exact absurd (show false = true from fx) Bool.false_ne_true
 | int a =>
  obtain ⟨t',rfl⟩ := ry
  cases x with
  | non => cases rx; exact SeqAt.EqAt.int_none a t'
  | bl b => cases rx; exact SeqAt.EqAt.int_bool a t' b
  | int b => obtain ⟨t,rfl⟩ := rx; exact SeqAt.EqAt.int_int a t' b t
  | str b => obtain ⟨t,rfl⟩ := rx; exact SeqAt.EqAt.int_str a t' b t
  | _ => exact absurd (show false = true from fx) Bool.false_ne_true
 | str a =>
  obtain ⟨t',rfl⟩ := ry
  cases x with
  | non => cases rx; exact SeqAt.EqAt.str_none a t'
  | bl b => cases rx; exact SeqAt.EqAt.str_bool a t' b
  | int b => obtain ⟨t,rfl⟩ := rx; exact SeqAt.EqAt.str_int a t' b t
  | str b => obtain ⟨t,rfl⟩ := rx; exact SeqAt.EqAt.str_str a t' b t
  | _ => exact absurd (show false = true from fx) Bool.false_ne_true
 | _ => exact absurd (show false = true from fy) Bool.false_ne_true
def eqU (x : V) (u : Value) : Bool := match u with
 | .none => eqV .non x
 | .bool b => eqV (.bl b) x
 | .int i _ => eqV (.int i) x
 | .str z _ => eqV (.str z) x
 | _ => false
theorem qen_ {x y : V} {u : Value} (r : RelV y u) (f : yw_ y = true) : eqU x u = eqV y x := by
 cases y with
 | non => cases r; rfl
 | bl b => cases r; rfl
 | int i => obtain ⟨t,rfl⟩ := r; rfl
 | str z => obtain ⟨t,rfl⟩ := r; rfl
 | _ => exact absurd (show false = true from f) Bool.false_ne_true
theorem zh_ {x : V} : ∀ {xs : List V} {us : List Value},Vals xs us -> xs.all yw_ = true -> us.any (eqU x) = xs.any fun y => eqV y x
 | _,_,.nil,_ => rfl
 | y :: xs,u :: us,.cons r t,f => by
  rw [List.all_cons,Bool.and_eq_true] at f
  rw [List.any_cons,List.any_cons,qen_ r f.1,zh_ t f.2]
theorem yH_ {A : Around} {s : Shared} {x : V} {v : Value} (rx : RelV x v) (fx : yw_ x = true) : ∀ {xs : List V} {us : List Value},Vals xs us -> xs.all yw_ = true -> ∀ u ∈ us,SeqAt.EqAt A s u v (eqU x u)
 | _,_,.nil,_ => fun u hu => by cases hu
 | y :: xs,u :: us,.cons r t,f => fun u' hu => by
  rw [List.all_cons,Bool.and_eq_true] at f
  rcases List.mem_cons.mp hu with rfl | hu
  ·rw [qen_ r f.1]; exact jg_ r rx f.1 fx
  ·exact yH_ rx fx t f.2 u' hu
def inV (x : V) (xs : List V) : Bool := xs.any fun y => eqV y x
def rIn (K : PySem.W.Frag) (neg : Bool) : R2 := fun x y H Q => ∃ p xs,y = .ref p /\ (SqL K H p xs \/ SqT K H p xs) /\ yw_ x = true /\ xs.all yw_ = true /\ Q (.bl (if neg then !inV x xs else inV x xs)) H
theorem zQ_ : OpR X (compareOp .In) (rIn X.K false) := by
 intro pins s σ H x y v u Q I rx ry h
 obtain ⟨p,xs,rfl,hq,fx,fs,q⟩ := h
 cases ry
 rcases hq with hq | hq
 ·obtain ⟨its,r,pl,hz⟩ := I.list hq
  refine SeqAt.in_listAt (eqU x) pl.isList (fun w hw => yH_ rx fx r fs w (by simpa using hw)) ⟨.bl _,H,I,rfl,?_⟩
  rw [show its.toArray.any (eqU x) = its.any (eqU x) by simp,zh_ r fs]
  exact q
 ·obtain ⟨its,r,pl,hz⟩ := I.tuple hq
  refine SeqAt.in_tupleAt (eqU x) pl (fun w hw => yH_ rx fx r fs w (by simpa using hw)) ⟨.bl _,H,I,rfl,?_⟩
  rw [show its.toArray.any (eqU x) = its.any (eqU x) by simp,zh_ r fs]
  exact q
theorem j2_ : OpR X (compareOp .NotIn) (rIn X.K true) := by
 intro pins s σ H x y v u Q I rx ry h
 obtain ⟨p,xs,rfl,hq,fx,fs,q⟩ := h
 cases ry
 rcases hq with hq | hq
 ·obtain ⟨its,r,pl,hz⟩ := I.list hq
  refine SeqAt.notIn_listAt (eqU x) pl.isList (fun w hw => yH_ rx fx r fs w (by simpa using hw)) ⟨.bl _,H,I,rfl,?_⟩
  rw [show its.toArray.any (eqU x) = its.any (eqU x) by simp,zh_ r fs]
  exact q
 ·obtain ⟨its,r,pl,hz⟩ := I.tuple hq
  refine SeqAt.notIn_tupleAt (eqU x) pl (fun w hw => yH_ rx fx r fs w (by simpa using hw)) ⟨.bl _,H,I,rfl,?_⟩
  rw [show its.toArray.any (eqU x) = its.any (eqU x) by simp,zh_ r fs]
  exact q
theorem qu_ : jz_ X (.builtin "len") (fun xs H Q => ∃ p ys,xs = [.ref p] ∧ (SqL X.K H p ys ∨ SqT X.K H p ys) ∧ Q (.int ys.length) H) := by
 intro pins s σ H xs us Q I r h
 obtain ⟨p,ys,rfl,hq,q⟩ := h
 obtain ⟨u,rfl,rx⟩ := jJ_ r
 cases rx
 have hn := vY_
 rcases hq with hq | hq
 ·obtain ⟨its,r',pl,hz⟩ := I.list hq
  have hlen := r'.length
  exact Calls.call_len_list pl.isList (by simp only [List.size_toArray] <;> omega) ⟨.int ys.length,H,I.tok _,⟨s.toks + 1,by rw [List.size_toArray,hlen]⟩,q⟩
 ·obtain ⟨its,r',pl,hz⟩ := I.tuple hq
  have hlen := r'.length
  exact len_tuple pl (by simp only [List.size_toArray] <;> omega) ⟨.int ys.length,H,I.tok _,⟨s.toks + 1,by rw [List.size_toArray,hlen]⟩,q⟩
theorem q0_ : jz_ X (.type "list") (fun xs H Q => ∃ p ys,xs = [.ref p] ∧ (SqL X.K H p ys ∨ SqT X.K H p ys) ∧ ∀ l,H l = none → Q (.ref l) (upd H l (.lst ys))) := by
 intro pins s σ H xs us Q I r h
 obtain ⟨p,ys,rfl,hq,q⟩ := h
 obtain ⟨u,rfl,rx⟩ := jJ_ r
 cases rx
 have fin : ∀ (its : List Value),Vals ys its -> ys.length <= sizeLine -> ∀ (h' : Heap) (c' : Nat),(∀ b o',s.heap.get? b = some o' -> h'.get? b = some o') →
   h'.get? s.heap.objs.size = some { cls := .type "list",dict := none,data := .seq its.toArray c',slots := #[] } → EP X pins σ Q (.ref s.heap.objs.size) { s with heap := h' } := fun its r' hz h' c' kp e =>
  ⟨.ref s.heap.objs.size,_,I.laid (t' := s.toks) kp (Nat.le_refl _) (show ObjOk X.prog X.w _ h' _ (.lst ys) from ⟨hz,its,c',r',e⟩),rfl,q _ (I.hok.fresh (Nat.le_refl _))⟩
 rcases hq with hq | hq
 ·obtain ⟨its,r',pl,hz⟩ := I.list hq
  have hlen := r'.length
  obtain ⟨o,ho,hc,n,hd⟩ := pl.isList
  exact call_list_seq p (.inl rfl) ho hc hd (fun h' c' kp e => fin its r' hz h' c' kp e) (by simp only [List.size_toArray] <;> omega)
 ·obtain ⟨its,r',pl,hz⟩ := I.tuple hq
  have hlen := r'.length
  obtain ⟨o,ho,hc,n,hd⟩ := pl
  exact call_list_seq p (.inr rfl) ho hc hd (fun h' c' kp e => fin its r' hz h' c' kp e) (by simp only [List.size_toArray] <;> omega)
def tyV (K : PySem.W.Frag) (T : String) (x : V) (H : Hp) : Prop := match x with
 | .str _ => T = "str"
 | .int _ => T = "int"
 | .ref p => (T = "list" ∧ ∃ xs,SqL K H p xs) ∨ (T = "tuple" ∧ ∃ o,K.lookup p = some o ∧ o.cls = .type "tuple" ∧ o.dict = none) ∨
   (T = "dict" ∧ ((∃ kvs,H p = some (.dK kvs)) ∨ ∃ kvs,H p = some (.dT kvs))) ∨ (T = "set" ∧ ∃ S n,H p = some (.set S n))
 | _ => False
theorem qeo_ {pins : List (Addr × Obj)} {σ : St} {H : Hp} {s : Shared} {T : String} {x : V} {v : Value} (I : Inv X pins σ H s) (r : RelV x v) (ty : tyV X.K T x H) :
  s.TypeIs v T /\ ∀ a,v = .ref a -> ∃ ob,s.heap.get? a = some ob /\ ob.dict = none := by
 cases x with
 | str z =>
  obtain ⟨t,rfl⟩ := r
  cases (show T = "str" from ty)
  exact ⟨typeIs_str s z t,fun _ e => nomatch e⟩
 | int i =>
  obtain ⟨t,rfl⟩ := r
  cases (show T = "int" from ty)
  exact ⟨typeIs_int s i t,fun _ e => nomatch e⟩
 | ref p =>
  cases r
  rcases ty with ⟨rfl,xs,hq⟩ | ⟨rfl,o,hk,hc,hd⟩ | ⟨rfl,hk⟩ | ⟨rfl,S,n,hk⟩
  ·obtain ⟨its,_,pl,_⟩ := I.list hq
   refine ⟨pl.isList.typeIs,fun a e => ?_⟩
   cases e
   obtain ⟨o,n,e,c,hd,_⟩ := pl
   exact ⟨o,e,hd⟩
  ·refine ⟨⟨o,I.kIn p o hk,hc⟩,fun a e => ?_⟩
   cases e
   exact ⟨o,I.kIn _ o hk,hd⟩
  ·have z : ∃ o,s.heap.get? p = some o /\ o.ExactDict := by
    rcases hk with ⟨kvs,hk⟩ | ⟨kvs,hk⟩
    ·obtain ⟨_,_,_,_,o,_,_,e,ex,_⟩ := I.hok p _ hk
     exact ⟨o,e,ex⟩
    ·obtain ⟨_,_,_,_,o,_,_,e,ex,_⟩ := I.hok p _ hk
     exact ⟨o,e,ex⟩
   obtain ⟨o,e,ex⟩ := z
   refine ⟨⟨o,e,ex.1⟩,fun a e2 => ?_⟩
   cases e2
   exact ⟨o,e,ex.2.1⟩
  ·obtain ⟨o,_,_,_,e,ex,_⟩ := I.hok p _ hk
   refine ⟨⟨o,e,ex.1⟩,fun a e2 => ?_⟩
   cases e2
   exact ⟨o,e,ex.2.1⟩
 | _ => exact False.elim ty
def tBM0 (K : PySem.W.Frag) (T : String) (r : V -> List V -> Hp -> VK -> Prop) (to : TE) : TE := fun σ H Q => to σ H fun x H1 => tyV K T x H1 /\ r x [] H1 Q
def tBM (K : PySem.W.Frag) (T : String) (r : V -> List V -> Hp -> VK -> Prop) (to : TE) (t : TA) : TE := fun σ H Q => to σ H fun x H1 => tyV K T x H1 /\ t σ H1 fun xs H2 => r x xs H2 Q
variable {o e : Expr} {es : List Expr} {to : TE} {t : TA} {name : Str} {apos cpos : Pos} {T id : String} {r : V -> List V -> Hp -> VK -> Prop}
theorem yI_ (pa : PlainAttrs T) (slot : Slot T name id) (hty : typeOf (.builtin id) = pure (.type "method_descriptor")) (hm : MtR X id r) (ho : PE X o to)
  (hbase : attributeBase o name X.env (eval o X.env) = eval o X.env := by rfl) (hline : (apos.endLine == cpos.line) = true := by rfl) : PE X (.Call (.Attribute o name apos) [] [] cpos) (tBM0 X.K T r to) := by
 intro pins s σ H Q I h
 refine wpAny_Call_method0_late hbase hline (thn (ho pins s σ H _ I h) fun v s1 ⟨x,H1,I1,r1,ty,q1⟩ => ?_)
 obtain ⟨h1,h2⟩ := qeo_ I1 r1 ty
 exact ⟨T,id,pa,slot,hty,h1,h2,Calls.callWith_builtin rfl (PySem.evalArgs_none (hm pins s1 σ H1 x [] v [] Q I1 r1 .nil q1))⟩
theorem jm_ (pa : PlainAttrs T) (slot : Slot T name id) (hty : typeOf (.builtin id) = pure (.type "method_descriptor")) (hm : MtR X id r) (ho : PE X o to) (ha : PA X (e :: es) t)
  (hbase : attributeBase o name X.env (eval o X.env) = eval o X.env := by rfl)
  (hfew : ((backTo cpos (starEach (e :: es) X.env)).all (fun x => !x.1) && (backToKw cpos (keywordEach [] X.env)).all (fun x => x.1.isSome)
   && decide ((e :: es).length + ([] : List Keyword).length + (if ([] : List Keyword).isEmpty then 0 else 1) < 30)) = true := by rfl)
  (hline : (apos.endLine == cpos.line) = true := by rfl) (hs : starEach (e :: es) X.env = (false,eval e X.env) :: starEach es X.env := by rfl) (hplain : (backTo cpos (starEach es X.env)).any (·.1) = false := by rfl) :
  PE X (.Call (.Attribute o name apos) (e :: es) [] cpos) (tBM X.K T r to t) := by
 intro pins s σ H Q I h
 refine wpAny_Call_method_late hbase hfew hline rfl (thn (ho pins s σ H _ I h) fun v s1 ⟨x,H1,I1,r1,ty,q1⟩ => ?_)
 obtain ⟨h1,h2⟩ := qeo_ I1 r1 ty
 refine ⟨T,id,pa,slot,hty,h1,h2,?_⟩
 have hA := ha cpos pins s1 σ H1 _ I1 q1
 rw [hs] at hA ⊢
 refine Calls.callWith_builtin (by show (false || (backTo cpos (starEach es X.env)).any (·.1)) = false; rw [hplain] <;> rfl) (Calls.evalArgs_plain ?_)
 exact thn hA fun us s2 ⟨vs,H2,I2,r2,q2⟩ => hm pins s2 σ H2 x vs v us Q I2 r1 r2 q2
end
def MtM (X : Cx) (id : String) (r : V -> List V -> Hp -> VK -> Prop) : Prop :=
 ∀ (pins : List (Addr × Obj)) (s : Shared) (σ : St) (H : Hp) (x : V) (xs : List V) (v : Value) (us : List Value) (Q : VK),Inv X pins σ H s -> RelV x v -> Vals xs us -> r x xs H Q →
  wpAny (model X.prog X.w) X.A (call (.builtin id) (v :: us)) (EP X pins σ Q) X.xe s
theorem Vals.one : ∀ {x : V} {us : List Value},Vals [x] us -> ∃ u,us = [u] /\ RelV x u
 | _,_,.cons r .nil => ⟨_,rfl,r⟩
theorem Vals.zero : ∀ {us : List Value},Vals [] us -> us = []
 | _,.nil => rfl
theorem Vals.reverse {xs : List V} {us : List Value} (h : Vals xs us) : Vals xs.reverse us.reverse := by
 induction h with
 | nil => exact .nil
 | cons r t ih => rw [List.reverse_cons,List.reverse_cons]; exact Vals.append ih (.cons r .nil)
theorem Vals.rep {xs : List V} {us : List Value} (h : Vals xs us) : ∀ k : Nat,Vals (List.replicate k xs).flatten (List.replicate k us).flatten
 | 0 => .nil
 | k + 1 => by
  rw [List.replicate_succ,List.replicate_succ,List.flatten_cons,List.flatten_cons]
  exact Vals.append h (Vals.rep h k)
theorem uO_ (its : List Value) : ∀ (k : Nat) (acc : List Value),
  List.foldl (fun x1 x2 => x1 ++ x2) acc.toArray (List.replicate k its.toArray) = (acc ++ (List.replicate k its).flatten).toArray
 | 0,acc => by simp
 | k + 1,acc => by
  have e : acc.toArray ++ its.toArray = (acc ++ its).toArray := by simp
  have e2 : (acc ++ its) ++ (List.replicate k its).flatten = acc ++ (List.replicate (k + 1) its).flatten := by
   rw [List.replicate_succ,List.flatten_cons,List.append_assoc]
  rw [<- e2,← uO_ its k (acc ++ its),← e,List.replicate_succ,List.foldl_cons]
section
variable {X : Cx} {pins : List (Addr × Obj)} {σ : St} {H : Hp} {s : Shared} {l b : Addr} {xs ys zs : List V}
theorem Inv.lset {its its' : List Value} {n : Nat} {f : Array Value -> Array Value} {t' : Nat} (I : Inv X pins σ H s) (hH : H l = some (.lst xs))
  (e : s.heap.get? l = some { cls := .type "list",data := .seq its.toArray n }) (hf : f its.toArray = its'.toArray) (hv : Vals ys its') (hz : ys.length ≤ sizeLine) :
  Inv X pins σ (upd H l (.lst ys)) { s with heap := s.heap.update l (Obj.mapSeq f),toks := t' } := by
 have q := PySem.IsL.update e f
 rw [hf] at q
 refine I.write (x := l) (e := l) (by rw [hH]; exact trivial) (.inl rfl) (fun b' u hb hu => (Heap.get?_update_other s.heap (Obj.mapSeq f) (Ne.symm hb)).trans hu) ⟨_,q⟩ ?_
 exact ⟨hz,its',_,hv,q⟩
theorem Inv.lnew {its : List Value} {t' : Nat} (I : Inv X pins σ H s) (hv : Vals ys its) (hz : ys.length <= sizeLine) :
  Inv X pins σ (upd H s.heap.objs.size (.lst ys)) { s with heap := s.heap.push { cls := .type "list",data := .seq its.toArray },toks := t' } :=
 I.laid (fun _ _ q => Heap.get?_push_of_some _ q) (Nat.le_refl _) ⟨hz,its,0,hv,Heap.get?_push_size _ rfl⟩
theorem Inv.fresh (I : Inv X pins σ H s) : H s.heap.objs.size = none := I.hok.fresh (Nat.le_refl _)
theorem Inv.lstM (I : Inv X pins σ H s) (hH : H l = some (.lst xs)) : xs.length ≤ sizeLine ∧ ∃ (its : List Value) (n : Nat),Vals xs its ∧ xs.length = its.length ∧ s.heap.get? l = some { cls := .type "list",data := .seq its.toArray n } := by
 obtain ⟨z,its,n,r,e⟩ := I.hok l _ hH
 exact ⟨z,its,n,r,r.length,e⟩
theorem qgq_ {n : Nat} (h : n <= sizeLine) : Builtin.List.listTooLong n = false := by
 unfold Builtin.List.listTooLong
 exact decide_eq_false (by omega)
end
section
variable {X : Cx}
def qiq_ : V -> List V -> Hp -> VK -> Prop := fun x vs H Q => ∃ l xs y,x = .ref l /\ vs = [y] /\ H l = some (.lst xs) /\ xs.length < sizeLine /\ Q .non (upd H l (.lst (xs ++ [y])))
theorem qJ_ : MtM X "list.append" qiq_ := by
 intro pins s σ H x vs v us Q I rx rv h
 obtain ⟨l,xs,y,rfl,rfl,hH,hz,q⟩ := h
 cases rx
 obtain ⟨u,rfl,ru⟩ := rv.one
 obtain ⟨z,its,n,r,hl,e⟩ := I.lstM hH
 refine call_meets F.slot_list_append ⟨_,e,rfl⟩ F.entry_list_append (F.args_list_append_2 _ _) (PySem.list_append l its.toArray n u (by rw [List.size_toArray]; omega)) ⟨e,?_⟩
 refine ⟨.non,_,I.lset (its' := its ++ [u]) hH e (by simp) (r.append (.cons ru .nil)) ?_,rfl,q⟩
 rw [List.length_append,List.length_singleton]
 omega
def qgr_ : V -> List V -> Hp -> VK -> Prop := fun x vs H Q => ∃ l xs,x = .ref l /\ vs = [] /\ H l = some (.lst xs) /\ Q .non (upd H l (.lst xs.reverse))
theorem qdi_ : MtM X "list.reverse" qgr_ := by
 intro pins s σ H x vs v us Q I rx rv h
 obtain ⟨l,xs,rfl,rfl,hH,q⟩ := h
 cases rx
 have hus := rv.zero
 subst hus
 obtain ⟨z,its,n,r,hl,e⟩ := I.lstM hH
 refine call_meets F.slot_list_reverse ⟨_,e,rfl⟩ F.entry_list_reverse (F.args_list_reverse_1 _) (AutoSeq1.list_reverse_list_0 l its.toArray n (by rw [List.size_toArray]; omega)) ⟨e,?_⟩
 refine ⟨.non,_,I.lset (its' := its.reverse) hH e (by simp) r.reverse ?_,rfl,q⟩
 rw [List.length_reverse]
 omega
def qkb_ : V -> List V -> Hp -> VK -> Prop := fun x vs H Q => ∃ l xs,x = .ref l /\ vs = [] /\ H l = some (.lst xs) /\ Q .non (upd H l (.lst []))
theorem qgs_ : MtM X "list.clear" qkb_ := by
 intro pins s σ H x vs v us Q I rx rv h
 obtain ⟨l,xs,rfl,rfl,hH,q⟩ := h
 cases rx
 have hus := rv.zero
 subst hus
 obtain ⟨z,its,n,r,hl,e⟩ := I.lstM hH
 refine call_meets F.slot_list_clear ⟨_,e,rfl⟩ F.entry_list_clear (F.args_list_clear_1 _) (AutoSeq1.list_clear_list_0 l its.toArray n (by rw [List.size_toArray]; omega)) ⟨e,?_⟩
 exact ⟨.non,_,I.lset (its' := []) (ys := []) hH e rfl .nil (Nat.zero_le _),rfl,q⟩
def rCat : R2 := fun x y H Q => ∃ l b xs zs,x = .ref l /\ y = .ref b /\ H l = some (.lst xs) /\ H b = some (.lst zs) /\ xs.length + zs.length <= sizeLine /\ ∀ p,H p = none -> Q (.ref p) (upd H p (.lst (xs ++ zs)))
theorem zR_ : OpR X (binaryOp .Add) rCat := by
 intro pins s σ H x y v u Q I rx ry h
 obtain ⟨l,b,xs,zs,rfl,rfl,hH,hB,hz,q⟩ := h
 cases rx
 cases ry
 obtain ⟨z,its,n,r,hl,e⟩ := I.lstM hH
 obtain ⟨z2,its2,n2,r2,hl2,e2⟩ := I.lstM hB
 refine PySem.P.add_list e e2 ?_ (by rw [List.size_toArray,List.size_toArray]; omega)
 have ea : its.toArray ++ its2.toArray = (its ++ its2).toArray := by simp
 rw [ea]
 exact ⟨.ref _,_,I.lnew (t' := s.toks) (r.append r2) (by rw [List.length_append]; omega),rfl,q _ I.fresh⟩
def rRep : R2 := fun x y H Q => ∃ l k xs,x = .ref l /\ y = .int k /\ H l = some (.lst xs) /\ -(2 ^ 63) <= k /\ k < 2 ^ 63 /\ xs.length * k.toNat <= sizeLine ∧
 ∀ p,H p = none -> Q (.ref p) (upd H p (.lst (List.replicate k.toNat xs).flatten))
theorem qir_ {α : Type} (xs : List α) (k : Nat) : (List.replicate k xs).flatten.length = k * xs.length := by
 induction k with
 | zero => simp
 | succ k ih => rw [List.replicate_succ,List.flatten_cons,List.length_append,ih,Nat.succ_mul,Nat.add_comm]
theorem zS_ : OpR X (binaryOp .Mult) rRep := by
 intro pins s σ H x y v u Q I rx ry h
 obtain ⟨l,k,xs,rfl,rfl,hH,h1,h2,hz,q⟩ := h
 cases rx
 obtain ⟨t,rfl⟩ := ry
 obtain ⟨z,its,n,r,hl,e⟩ := I.lstM hH
 have hlen : its.toArray.size * k.toNat <= sizeLine := by rw [List.size_toArray,← hl]; exact hz
 have hcap : ¬ its.toArray.size * k.toNat > (2 ^ 63 - 1) / 8 := by
  have : (sizeLine : Nat) <= (2 ^ 63 - 1) / 8 := by decide
  omega
 have hfit : ¬ (!Builtin.List.listFitsIndex k) = true := by
  rw [fitsIndex_both h1 h2]
  exact Bool.false_ne_true
 have hlong : ¬ Builtin.List.listTooLong (its.toArray.size * k.toNat) = true := by
  rw [qgq_ hlen]
  exact Bool.false_ne_true
 have hnew : List.foldl (fun x1 x2 => x1 ++ x2) #[] (List.replicate (if its.toArray.isEmpty = true then 0 else k.toNat) its.toArray) = (List.replicate k.toNat its).flatten.toArray := by
  have f0 : ∀ m : Nat,List.foldl (fun x1 x2 => x1 ++ x2) #[] (List.replicate m its.toArray) = (List.replicate m its).flatten.toArray := fun m => by
   have := uO_ its m []
   rw [List.nil_append] at this
   exact this
  rw [f0]
  cases its with
  | nil => simp
  | cons a r' => rw [if_neg (by simp)]
 refine wpAny_binaryOp_repeat_ref (T := "list") (U := "int") (by decide) ⟨_,e,rfl⟩ (fun s' => typeIs_int s' k t) noFill_list_mul F.fills_int_mul F.slot_int_rmul repeat_list F.slot_int_index.lookup
  (call_meets F.slot_int_rmul (typeIs_int s k t) F.entry_int_rmul (F.args_int_rmul_2 _ _) (int___rmul___int_list k t l its.toArray n)
   ⟨e,rfl,⟨_,e,rfl⟩,call_meets F.slot_list_mul ⟨_,e,rfl⟩ F.entry_list_mul (F.args_list_mul_2 _ _) (AutoListH.list___mul___list_int_3 l its.toArray n k t hfit hcap hlong) ⟨e,?_⟩⟩)
 rw [hnew]
 exact ⟨.ref _,_,I.lnew (t' := s.toks) (r.rep k.toNat) (by rw [qir_,Nat.mul_comm]; exact hz),rfl,q _ I.fresh⟩
end
section
variable {prog : Program} {w : World} {A : Around} {E : Value -> Shared -> Prop} {s : Shared}
end
section
variable {X : Cx}
end
end L2
namespace Att
open PySem PySem.W PySem.Calls PyProof.Rows
theorem v1_ {P : Params} {h : Heap} : ∀ (ns : List Int) (vs : List Value),WellAll P h vs (ns.map WData.int) -> IntsAre vs ns := by
 intro ns
 induction ns with
 | nil =>
  intro vs w
  rw [List.map_nil] at w
  cases w
  exact .nil
 | cons n ns ih =>
  intro vs w
  rw [List.map_cons] at w
  cases w with
  | cons a b =>
   cases a
   exact .cons _ _ (ih _ b)
theorem qep_ {l : OpenLaw} {n : Nat} (hn : l.most = some n) {P : Params} {h : Heap} {args : List WData} {vals : List Value}
  (hpre : l.row.toRowW.claim.pre args = true) (hwl : WellAll P h vals args) :
  ∃ a vs ns,vals = [Value.ref a] ∧ args = [WData.list (ns.map WData.int)] ∧ h.get? a = some { cls := .type "list",data := .seq vs.toArray } ∧ IntsAre vs ns ∧ ns.length ≤ n := by
 have hsh : WShape.hasAll [] args [.list .int] = true := (pre_splitW hpre).1
 have hc : l.pre.holds [] { args := args } = true := (pre_splitW hpre).2
 obtain ⟨d,r,rfl,h1,h2⟩ := hasAllW_cons hsh
 obtain rfl := hasAllW_nil h2
 obtain ⟨xs,rfl,h3⟩ := hasW_list h1
 obtain ⟨ns,rfl⟩ := items_int h3
 have hlen : ns.length <= n := by
  unfold OpenLaw.pre at hc
  have h4 : (WTm.not (.lt (.lit (.int (n : Int))) (.len (.arg 0)))).holds [] { args := [.list (ns.map .int)] } = true := by
   have h4 := (holds_andW hc).1
   rw [hn] at h4
   exact h4
  have h5 := condW_of h4 (w_not (w_lt w_lit (w_len_list (w_arg rfl))))
  rw [List.length_map] at h5
  refine Nat.le_of_not_lt fun q => ?_
  have q' : (n : Int) < ((ns.length : Nat) : Int) := by omega
  first
   | (rw [decide_eq_true q'] at h5; exact absurd h5 (by decide))
   | (simp at h5; omega)
 cases hwl with
 | cons w1 w2 =>
  cases w2
  cases w1 with
  | list ho hall => exact ⟨_,_,ns,rfl,rfl,ho,v1_ ns _ hall,hlen⟩
theorem qeq_ (l : OpenLaw) (args : List WData) : l.row.toRowW.claim.post args (.bool true) args = true :=
 postW_of (r := l.row.toRowW) (X := (true == true))
  (show WShape.has [] (.bool true) .bool = true by first | rfl | decide | simp [WShape.has,WShape.arms,WShape.armsAll])
  (show (WTm.eq .res (.lit (.bool true))).value [] { args := args,res := some (.bool true),after := args } = some (.bool (true == true)) from w_eq_bool (w_res rfl) w_lit) rfl
theorem attach_call {l : OpenLaw} {n : Nat} {q : Program} {loose : List Str} {XP : (Str -> Option Value) -> Heap -> Prop} {YP : World -> Heap -> Prop} {d : DefRec}
  (hn : l.most = some n) (hdf : d.params.defaults = [])
  (call : ∀ (w : World) (s₀ s₁ : Shared) (mg mb : Str -> Option Value) (fa : Addr) (o : Obj) (pm cd doc : Value) (a : Addr) (vs : List Value) (ns : List Int),
   Ground q loose [] XP w s₀ mg mb s₁.heap -> YP w s₁.heap →
   s₁.heap.get? fa = some o -> o.data = .func (docDef d.name d.params d.body d.scope pm cd doc) -> s₁.heap.CodeRec cd d.name -> mg d.name = some (.ref fa) →
   s₁.heap.get? a = some { cls := .type "list",data := .seq vs.toArray } → IntsAre vs ns → ns.length ≤ n → s₁.gens = #[] →
   codeAny (model l.prog w) callerA (.call (.ref fa) ⟨[.ref a],[]⟩) (fun r s' => r = .ok (.ret (.bool true)) /\ OldK s₁.heap s'.heap /\ s'.os = s₁.os /\ AllBare s'.gens) s₁) :
  WalkO q loose XP YP l.row.toRowW d [] (fun f vs => PySem.call f vs) := by
 intro w s₀ s₁ mg mb G Y fa o pm cd doc dV kV ho hd hcd hD hmg hg args vals as hpre hlay hrd hwl hlo
 obtain rfl : dV = .none := Dflts.none hD hdf
 obtain rfl : kV = .none := Dflts.noKw hD
 obtain ⟨a,vs,ns,rfl,rfl,hobj,hints,hlen⟩ := qep_ hn hpre hwl
 refine enter_call (codeAny_mono (call w s₀ s₁ mg mb fa o pm cd doc a vs ns G Y ho (fd_plain hd) hcd hmg hobj hints hlen hg) fun r s' hq => ?_)
 obtain ⟨rfl,h2,h3,h4⟩ := hq
 exact ⟨.inl ⟨.bool true,.bool true,[],rfl,fun _ => rfl,.bool true,qeq_ l _,fun _ => ⟨List.Pairwise.nil,fun _ hm => (nomatch hm)⟩⟩,h2,h3,h4⟩
section
variable {prog : Program} {w : World} {A : Around} {E : Value -> Shared -> Prop} {s : Shared} {K : Frag}
end
end Att
namespace L2
open PySem PySem.Spec PyProof.Rows
theorem uP_ : ∀ {vs : List Value} {ns : List Int},IntsAre vs ns -> Vals (ns.map V.int) vs
 | _,_,.nil => .nil
 | _,_,.cons n t h => .cons ⟨t,rfl⟩ (uP_ h)
abbrev KOf {K : PySem.W.Frag} {h : Heap} (_ : K.In h) : PySem.W.Frag := K
end L2
namespace L2
open PySem PySem.Spec PyProof.Rows
def qE_ (s : Stmt) (j : Nat) : Stmt := match s with
 | .ClassDef _ _ _ body _ _ _ _ _ _ _ => body.getD j (.Pass ⟨0,0,0,0⟩)
 | _ => .Pass ⟨0,0,0,0⟩
def q8_ (s : Stmt) : Arguments := match s with
 | .FunctionDef _ a _ _ _ _ _ _ _ _ => a
 | _ => { posonlyargs := [],args := [],vararg := none,kwonlyargs := [],kw_defaults := [],kwarg := none,defaults := [] }
def qR_ (s : Stmt) : List Stmt := match s with
 | .FunctionDef _ _ b _ _ _ _ _ _ _ => b
 | _ => []
def qh_ (s : Stmt) : Scope := match s with
 | .FunctionDef _ _ _ _ _ _ sc _ _ _ => sc
 | _ => { kind := .function,names := [],isGenerator := false,isCoroutine := false }
abbrev CX0 : CXT := fun _ _ _ _ _ _ => False
abbrev E0 : XK := fun _ _ _ => False
theorem qn_ {X : Cx} : yE_ CX0 X E0 := fun _ _ _ _ _ _ _ h => h.elim
structure Fun (K : PySem.W.Frag) (x qual : Str) (st : Stmt) (f : Addr) (fd : FuncData) : Prop where
 ex : ∃ (oc : Value) (od : Option Addr) (kV doc pm : Value) (an : Option Addr) (cdv ct : Value) (osl : Array (Option Value)),
  fd = PySem.W.fnOf x qual (q8_ st) (qR_ st) (qh_ st) .none kV doc pm an cdv ct /\ K.lookup f = some ⟨oc,od,.func fd,osl⟩ /\ PySem.W.codeIn K cdv qual = true
 kp : PySem.W.keepIn K (.ref f) = true
section
variable {P : Program} {w : World} {K : PySem.W.Frag} {mg : Str -> Option Value} {base : Heap}
theorem Fun.ok {x qual : Str} {st : Stmt} {f : Addr} {fd : FuncData} {N ps : List Str} {k : Nat} {sp : Sp} (F : Fun K x qual st f fd) (S : FnScope N ps (qh_ st)) (len : ∀ vs H Q E,sp vs H Q E -> vs.length = ps.length)
  (hbody : ∀ (cdv : Value) (A : Around) (outer : List Env) (s : Shared) (H : Hp) (vs : List V) (Q : VK) (E : XK),Room k (A.deeper (envOfC qual (qh_ st) s.heap.objs.size f cdv)) -> sp vs H Q E →
   ∃ t,PSs (cxOf CX0 P w K mg base N qual (qh_ st) f cdv A outer s H E).nox (qR_ st) t /\ t { nx := fun _ H' => Q .non H',rt := Q } (start N vs) H) : FnOk P w K mg base CX0 (k + 1) f fd ps sp := by
 obtain ⟨oc,od,kV,doc,pm,an,cdv,ct,osl,rfl,lk,hcd⟩ := F.ex
 refine qif_ lk hcd S len fun A outer s H vs Q E hr hsp => ?_
 obtain ⟨t,h,q⟩ := hbody cdv A outer s H vs Q E hr hsp
 exact ⟨t,h.nox,q⟩
theorem Fun.binds {x qual : Str} {st : Stmt} {f : Addr} {fd : FuncData} {ps : List Str} (F : Fun K x qual st f fd)
  (h : ∀ (kV doc pm : Value) (an : Option Addr) (cdv ct : Value) (us : List Value),us.length = ps.length -> bindArgs (PySem.W.fnOf x qual (q8_ st) (qR_ st) (qh_ st) .none kV doc pm an cdv ct) ⟨us,[]⟩ = pure (ps.zip us)) : Binds K fd ps [] := by
 obtain ⟨oc,od,kV,doc,pm,an,cdv,ct,osl,rfl,lk,hcd⟩ := F.ex
 exact .all (h kV doc pm an cdv ct)
theorem qer_ {x qual : Str} {st : Stmt} {f : Addr} {oc : Value} {od an : Option Addr} {osl : Array (Option Value)} {kV doc pm cdv ct : Value} (l : K.lookup f = some ⟨oc,od,.func (PySem.W.fnOf x qual (q8_ st) (qR_ st) (qh_ st) .none kV doc pm an cdv ct),osl⟩)
  (c : PySem.W.codeIn K cdv qual = true) (k : PySem.W.keepIn K (.ref f) = true) : Fun K x qual st f (PySem.W.fnOf x qual (q8_ st) (qR_ st) (qh_ st) .none kV doc pm an cdv ct) := ⟨⟨oc,od,kV,doc,pm,an,cdv,ct,osl,rfl,l,c⟩,k⟩
end
theorem qes_ {n : Nat} (h : n <= 1000) : n < sizeLine := Nat.lt_of_le_of_lt h (by decide)
section
variable {X : Cx}
theorem pv (i : Nat) {x : Str} {pos : Pos} (hN : X.N[i]? = some x := by rfl) (hv : Vis X.env.scope x := by first | exact Or.inl rfl | exact Or.inr (Or.inl rfl) | exact Or.inr (Or.inr rfl)) (hd : (x == ("__debug__" : Str)) = false := by decide)
  (hcd : (x == ("__classdict__" : Str)) = false := by decide) : PE X (.Name x pos) (tVar i) := qj5_ hN hv hd hcd
end
theorem iteF {A B : Prop} (h : B) : if false = true then A else B := by
 rw [if_neg Bool.false_ne_true]
 exact h
theorem iteT {A B : Prop} (h : A) : if true = true then A else B := by
 rw [if_pos rfl]
 exact h
theorem ite2 {c A B : Prop} [Decidable c] (h1 : c -> A) (h2 : ¬ c -> B) : if c then A else B := by
 by_cases h : c
 ·rw [if_pos h]
  exact h1 h
 ·rw [if_neg h]
  exact h2 h
def Same (H H' : Hp) : Prop := ∀ b o,H b = some o -> H' b = some o
theorem Same.refl (H : Hp) : Same H H := fun _ _ h => h
theorem Same.trans {H H1 H2 : Hp} (a : Same H H1) (b : Same H1 H2) : Same H H2 := fun c o h => b c o (a c o h)
theorem Same.free {H H' : Hp} (e : Same H H') {l : Addr} (h : H' l = Option.none) : H l = Option.none := by
 cases q : H l with
 | none => rfl
 | some o =>
  rw [e l o q] at h
  cases h
theorem Same.seq {K : PySem.W.Frag} {H H' : Hp} {a : Addr} {xs : List V} (e : Same H H') (h : SqL K H a xs) : SqL K H' a xs := by
 rcases h with (h | ⟨o,h⟩) | h
 ·exact .inl (.inl (e _ _ h))
 ·exact .inl (.inr ⟨o,e _ _ h⟩)
 ·exact .inr h
def BndP (x q : Str) (st : Stmt) (ps : List Str) : Prop := ∀ (kV doc pm : Value) (an : Option Addr) (cdv ct : Value) (us : List Value),us.length = ps.length -> bindArgs (PySem.W.fnOf x q (q8_ st) (qR_ st) (qh_ st) .none kV doc pm an cdv ct) ⟨us,[]⟩ = pure (ps.zip us)
def fd (K : PySem.W.Frag) (f : Addr) : FuncData := ((K.lookup f).bind fun o => match o.data with | .func d => some d | _ => none).getD (PySem.W.fnOf "" "" (q8_ (.Pass ⟨0,0,0,0⟩)) [] (qh_ (.Pass ⟨0,0,0,0⟩)) .none .none .none .none none .none .none)
theorem qao_ {K : PySem.W.Frag} {f : Addr} {oc : Value} {od : Option Addr} {d : FuncData} {osl : Array (Option Value)} (l : K.lookup f = some ⟨oc,od,.func d,osl⟩) : fd K f = d := by
 unfold fd
 rw [l]
 rfl
structure GD (K : PySem.W.Frag) (mg : Str -> Option Value) (x : Str) (st : Stmt) (f : Addr) (ps : List Str) : Prop where
 m : mg x = some (.ref f)
 F : Fun K x x st f (fd K f)
 b : Binds K (fd K f) ps []
 k : PySem.W.keepIn K (.ref f) = true
structure MD (K : PySem.W.Frag) (C : Addr) (x q : Str) (st : Stmt) (f : Addr) (ps : List Str) : Prop where
 me : Meth K C x f
 F : Fun K x q st f (fd K f)
 b : Binds K (fd K f) ps []
 k : PySem.W.keepIn K (.ref f) = true
section
variable {K : PySem.W.Frag} {h : Heap} {mg : Str -> Option Value} {x q : Str} {st : Stmt} {f C : Addr} {ps : List Str} {oc : Value} {od an : Option Addr} {osl : Array (Option Value)} {kV doc pm cdv ct : Value}
theorem gd_mk (X : K.In h) (G : h.Ns mainGlobals mg) (a : PySem.W.nsIn K mainGlobals x = some (some (.ref f))) (l : K.lookup f = some ⟨oc,od,.func (PySem.W.fnOf x x (q8_ st) (qR_ st) (qh_ st) .none kV doc pm an cdv ct),osl⟩) (c : PySem.W.codeIn K cdv x = true) (k : PySem.W.keepIn K (.ref f) = true) (hb : BndP x x st ps) : GD K mg x st f ps := by
 have F : Fun K x x st f (fd K f) := by rw [qao_ l]; exact qer_ l c k
 exact ⟨PySem.W.mg_of X G a,F,F.binds hb,k⟩
theorem md_mk (a : PySem.W.findIn K (.ref C) x = some (some (.ref f))) (i : PySem.W.isFn K (.ref f) = true) (l : K.lookup f = some ⟨oc,od,.func (PySem.W.fnOf x q (q8_ st) (qR_ st) (qh_ st) .none kV doc pm an cdv ct),osl⟩) (c : PySem.W.codeIn K cdv q = true) (k : PySem.W.keepIn K (.ref f) = true) (hb : BndP x q st ps) : MD K C x q st f ps := by
 have F : Fun K x q st f (fd K f) := by rw [qao_ l]; exact qer_ l c k
 exact ⟨⟨a,i,k⟩,F,F.binds hb,k⟩
end
abbrev FnO (P : Program) (w : World) (K : PySem.W.Frag) (mg : Str -> Option Value) (base : Heap) (k : Nat) (f : Addr) (ps : List Str) (sp : Sp) : Prop := FnOk P w K mg base CX0 k f (fd K f) ps sp
theorem Room.u {j k : Nat} {A : Around} (r : Room k A) (h : j <= k := by decide) : Room j A := r.mono h
theorem scM {N P : List Str} {sc : Scope} (h1 : sc.kind = .function := by rfl) (h2 : sc.isCoroutine = false := by rfl) (h3 : sc.isGenerator = false := by rfl) (h4 : N.Nodup := by decide +kernel) (h5 : N.take P.length = P := by rfl) (h6 : ∀ x ∈ P,sc.names.lookup x = some .local \/ sc.names.lookup x = some .cell := by decide +kernel) (h7 : ∀ y ∈ sc.names,y.2 ≠ .free := by decide +kernel) : FnScope N P sc := ⟨h1,h2,h3,h4,h5,h6,h7⟩
section
variable {P : Program} {w : World} {K : PySem.W.Frag} {mg : Str -> Option Value} {base : Heap}
theorem Fun.okA {x qual : Str} {st : Stmt} {f : Addr} {fd : FuncData} {N ps : List Str} {k : Nat} {sp : Sp} (F : Fun K x qual st f fd) (S : FnScope N ps (qh_ st))
  (hbody : ∀ (cdv : Value) (A : Around) (outer : List Env) (s : Shared) (H : Hp) (vs : List V) (Q : VK) (E : XK),Room k (A.deeper (envOfC qual (qh_ st) s.heap.objs.size f cdv)) -> sp vs H Q E →
   ∃ t,PSs (cxOf CX0 P w K mg base N qual (qh_ st) f cdv A outer s H E).nox (qR_ st) t /\ t { nx := fun _ H' => Q .non H',rt := Q } (start N vs) H)
  (len : ∀ vs H Q E,sp vs H Q E -> vs.length = ps.length := by intro vs H Q E h; (repeat (obtain ⟨_,h⟩ := h)); subst_vars; rfl) : FnOk P w K mg base CX0 (k + 1) f fd ps sp := F.ok S len hbody
end
end L2
namespace GF
theorem two_mul_xor (a b : Nat) : 2 * (a ^^^ b) = (2 * a) ^^^ (2 * b) := by
 apply Nat.eq_of_testBit_eq
 intro i
 rw [Nat.testBit_xor]
 cases i with
 | zero => simp [Nat.testBit_zero]
 | succ i => simp [Nat.testBit_succ]
theorem vv_ (a b : Nat) : (a ^^^ b) / 2 = (a / 2) ^^^ (b / 2) := by
 apply Nat.eq_of_testBit_eq
 intro i
 rw [Nat.testBit_xor,← Nat.testBit_succ,← Nat.testBit_succ,← Nat.testBit_succ,Nat.testBit_xor]
theorem vw_ (a b : Nat) : (a ^^^ b) % 2 = (a % 2 + b % 2) % 2 := by
 have h := Nat.testBit_xor a b 0
 simp only [Nat.testBit_zero] at h
 rcases Nat.mod_two_eq_zero_or_one a with ha | ha <;> rcases Nat.mod_two_eq_zero_or_one b with hb | hb <;>
  rcases Nat.mod_two_eq_zero_or_one (a ^^^ b) with hc | hc <;> simp_all
theorem xor4 (a b c d : Nat) : (a ^^^ b) ^^^ (c ^^^ d) = (a ^^^ c) ^^^ (b ^^^ d) := by
 rw [Nat.xor_assoc,Nat.xor_assoc,← Nat.xor_assoc b c d,Nat.xor_comm b c,Nat.xor_assoc c b d]
def dbl (r w x : Nat) : Nat := if 2 ^ w <= 2 * x then (2 * x) ^^^ r else 2 * x
structure Rule (r w : Nat) : Prop where
 lo : 2 ^ w <= r
 hi : r < 2 ^ (w + 1)
theorem zi_ {w x : Nat} (h : x < 2 ^ (w + 1)) : (2 ^ w <= x) ↔ x.testBit w = true := by
 constructor
 ·intro h1
  rw [Nat.testBit_eq_decide_div_mod_eq]
  have : x / 2 ^ w = 1 := by
   apply Nat.div_eq_of_lt_le
   ·omega
   ·rw [Nat.pow_succ] at h; omega
  rw [this]; rfl
 ·intro h1
  exact Nat.ge_two_pow_of_testBit h1
theorem qet_ {w x : Nat} (h : x < 2 ^ (w + 1)) (hb : x.testBit w = false) : x < 2 ^ w := by
 refine Nat.lt_of_not_le fun q => ?_
 rw [(zi_ h).mp q] at hb
 cases hb
variable {r w : Nat}
theorem dbl_lt (R : Rule r w) {x : Nat} (hx : x < 2 ^ w) : dbl r w x < 2 ^ w := by
 unfold dbl
 have h2 : 2 * x < 2 ^ (w + 1) := by rw [Nat.pow_succ]; omega
 split
 ·rename_i h
  refine qet_ (Nat.xor_lt_two_pow h2 R.hi) ?_
  rw [Nat.testBit_xor,(zi_ h2).mp h,(zi_ R.hi).mp R.lo]
  rfl
 ·omega
theorem qaw_ {x : Nat} (hx : x < 2 ^ w) : dbl r w x = (2 * x) ^^^ (bif (2 * x).testBit w then r else 0) := by
 have h2 : 2 * x < 2 ^ (w + 1) := by rw [Nat.pow_succ]; omega
 unfold dbl
 split
 ·rename_i h
  rw [(zi_ h2).mp h]
  rfl
 ·rename_i h
  cases e : (2 * x).testBit w
  ·simp
  ·exact absurd ((zi_ h2).mpr e) h
theorem qcg_ (R : Rule r w) {a b : Nat} (ha : a < 2 ^ w) (hb : b < 2 ^ w) : dbl r w (a ^^^ b) = dbl r w a ^^^ dbl r w b := by
 rw [qaw_ (Nat.xor_lt_two_pow ha hb),qaw_ ha,qaw_ hb,two_mul_xor,Nat.testBit_xor,xor4]
 congr 1
 cases (2 * a).testBit w <;> cases (2 * b).testBit w <;> simp
theorem yJ_ : dbl r w 0 = 0 := by
 unfold dbl
 have : 0 < 2 ^ w := Nat.two_pow_pos w
 rw [if_neg (by omega)]
def tm (r w a b : Nat) : Nat := if b = 0 then 0 else (if b % 2 = 1 then a else 0) ^^^ tm r w (dbl r w a) (b / 2)
termination_by b
decreasing_by omega
theorem tm_zero (a : Nat) : tm r w a 0 = 0 := by rw [tm]; simp
theorem tm_step (a b : Nat) : tm r w a b = (if b % 2 = 1 then a else 0) ^^^ tm r w (dbl r w a) (b / 2) := by
 by_cases h : b = 0
 ·subst h
  rw [tm_zero]
  simp [tm_zero]
 ·rw [tm]; simp [h]
theorem tm_lt (R : Rule r w) : ∀ {b a : Nat},a < 2 ^ w -> tm r w a b < 2 ^ w := by
 intro b
 induction b using Nat.strongRecOn with
 | _ b ih =>
  intro a ha
  by_cases h : b = 0
  ·subst h; rw [tm_zero]; exact Nat.two_pow_pos w
  ·rw [tm_step]
   refine Nat.xor_lt_two_pow ?_ (ih (b / 2) (by omega) (dbl_lt R ha))
   split
   ·exact ha
   ·exact Nat.two_pow_pos w
theorem jP_ (R : Rule r w) : ∀ {b a c : Nat},a < 2 ^ w -> c < 2 ^ w -> tm r w (a ^^^ c) b = tm r w a b ^^^ tm r w c b := by
 intro b
 induction b using Nat.strongRecOn with
 | _ b ih =>
  intro a c ha hc
  by_cases h : b = 0
  ·subst h; simp [tm_zero]
  ·rw [tm_step,tm_step a,tm_step c,qcg_ R ha hc,ih (b / 2) (by omega) (dbl_lt R ha) (dbl_lt R hc),xor4]
   congr 1
   split <;> simp
theorem yf_ (R : Rule r w) : ∀ {b a : Nat},a < 2 ^ w -> tm r w (dbl r w a) b = dbl r w (tm r w a b) := by
 intro b
 induction b using Nat.strongRecOn with
 | _ b ih =>
  intro a ha
  by_cases h : b = 0
  ·subst h; simp [tm_zero,yJ_]
  ·have hz : (if b % 2 = 1 then a else 0) < 2 ^ w := by
    split
    ·exact ha
    ·exact Nat.two_pow_pos w
   rw [tm_step,tm_step a,qcg_ R hz (tm_lt R (dbl_lt R ha)),ih (b / 2) (by omega) (dbl_lt R ha)]
   congr 1
   split <;> simp [yJ_]
theorem tm_xor_right : ∀ {b c a : Nat},tm r w a (b ^^^ c) = tm r w a b ^^^ tm r w a c := by
 intro b
 induction b using Nat.strongRecOn with
 | _ b ih =>
  intro c a
  by_cases h : b = 0
  ·subst h; simp [tm_zero]
  ·rw [tm_step a (b ^^^ c),tm_step a b,tm_step a c,vv_,ih (b / 2) (by omega),xor4]
   congr 1
   rw [vw_]
   rcases Nat.mod_two_eq_zero_or_one b with hb | hb <;> rcases Nat.mod_two_eq_zero_or_one c with hc | hc <;> simp [hb,hc]
abbrev ev (r w x : Nat) : Nat := tm r w 1 x
theorem qis_ (hw' : 1 < w) : dbl r w 1 = 2 := by
 unfold dbl
 have : 2 ^ 2 <= 2 ^ w := Nat.pow_le_pow_right (by decide) hw'
 rw [if_neg (by omega)]
theorem one_lt (hw : 1 < w) : 1 < 2 ^ w := by
 have : 2 ^ 2 <= 2 ^ w := Nat.pow_le_pow_right (by decide) hw
 omega
theorem yK_ (a x : Nat) (R : Rule r w) (ha : a < 2 ^ w) : tm r w a x = (if x % 2 = 1 then a else 0) ^^^ dbl r w (tm r w a (x / 2)) := by
 rw [tm_step,yf_ R ha]
theorem qit_ (R : Rule r w) (hw : 1 < w) : ∀ {k x : Nat},k <= w -> x < 2 ^ k -> ev r w x = x := by
 intro k
 induction k with
 | zero =>
  intro x _ hx
  have : x = 0 := by simpa using hx
  subst this
  exact tm_zero 1
 | succ k ih =>
  intro x hk hx
  have hx2 : x / 2 < 2 ^ k := by rw [Nat.pow_succ] at hx; omega
  have hk2 : 2 ^ k <= 2 ^ (w - 1) := Nat.pow_le_pow_right (by decide) (by omega)
  have hww : 2 * 2 ^ (w - 1) = 2 ^ w := by rw [Nat.mul_comm,← Nat.pow_succ]; congr 1; omega
  have h1 : ev r w (x / 2) = x / 2 := ih (by omega) hx2
  unfold ev at h1 ⊢
  have hd : dbl r w (x / 2) = 2 * (x / 2) := by
   unfold dbl
   rw [if_neg (by omega)]
  rw [yK_ 1 x R (one_lt hw),h1,hd]
  rcases Nat.mod_two_eq_zero_or_one x with h | h
  ·rw [if_neg (by omega),Nat.zero_xor]; omega
  ·rw [if_pos h]
   apply Nat.eq_of_testBit_eq
   intro i
   rw [Nat.testBit_xor]
   cases i with
   | zero => simp [Nat.testBit_zero,h]
   | succ i => simp [Nat.testBit_succ]
theorem one_tm (R : Rule r w) (hw : 1 < w) {x : Nat} (hx : x < 2 ^ w) : tm r w 1 x = x := qit_ R hw (Nat.le_refl w) hx
theorem tm_one (a : Nat) : tm r w a 1 = a := by
 rw [tm_step]; simp [tm_zero]
theorem qkc_ (a : Nat) : tm r w a 2 = dbl r w a := by
 rw [tm_step]; simp [tm_one]
theorem tm_comm (R : Rule r w) (hw : 1 < w) {a b : Nat} (ha : a < 2 ^ w) (hb : b < 2 ^ w) : tm r w a b = tm r w b a := by
 have key : ∀ x y : Nat,tm r w (ev r w x) y = tm r w (ev r w y) x := by
  intro x
  induction x using Nat.strongRecOn with
  | _ x ih =>
   intro y
   by_cases h : x = 0
   ·subst h
    show tm r w (tm r w 1 0) y = tm r w (ev r w y) 0
    rw [tm_zero,tm_zero]
    have : ∀ y,tm r w 0 y = 0 := by
     intro y
     induction y using Nat.strongRecOn with
     | _ y ihy =>
      by_cases hy : y = 0
      ·subst hy; exact tm_zero 0
      ·rw [tm_step,yJ_,ihy (y / 2) (by omega)]; simp
    exact this y
   ·have e1 : ev r w x = (if x % 2 = 1 then 1 else 0) ^^^ dbl r w (ev r w (x / 2)) := yK_ 1 x R (one_lt hw)
    have l1 : ev r w (x / 2) < 2 ^ w := tm_lt R (one_lt hw)
    have l2 : (if x % 2 = 1 then 1 else 0) < 2 ^ w := by
     split
     ·exact one_lt hw
     ·exact Nat.two_pow_pos w
    have ly : ev r w y < 2 ^ w := tm_lt R (one_lt hw)
    rw [e1,jP_ R l2 (dbl_lt R l1),yf_ R l1,ih (x / 2) (by omega) y,yK_ (ev r w y) x R ly]
    congr 1
    split
    ·rfl
    ·have : ∀ y,tm r w 0 y = 0 := by
      intro y
      induction y using Nat.strongRecOn with
      | _ y ihy =>
       by_cases hy : y = 0
       ·subst hy; exact tm_zero 0
       ·rw [tm_step,yJ_,ihy (y / 2) (by omega)]; simp
     exact this y
 have h := key a b
 rw [show ev r w a = a from one_tm R hw ha,show ev r w b = b from one_tm R hw hb] at h
 exact h
theorem zero_tm (y : Nat) : tm r w 0 y = 0 := by
 induction y using Nat.strongRecOn with
 | _ y ihy =>
  by_cases hy : y = 0
  ·subst hy; exact tm_zero 0
  ·rw [tm_step,yJ_,ihy (y / 2) (by omega)]; simp
theorem qax_ (R : Rule r w) (hw : 1 < w) {a z : Nat} (ha : a < 2 ^ w) (hz : z < 2 ^ w) : tm r w a (dbl r w z) = dbl r w (tm r w a z) := by
 rw [tm_comm R hw ha (dbl_lt R hz),yf_ R hz,tm_comm R hw hz ha]
theorem tm_assoc (R : Rule r w) (hw : 1 < w) {a b : Nat} (ha : a < 2 ^ w) (hb : b < 2 ^ w) : ∀ c,tm r w (tm r w a b) c = tm r w a (tm r w b c) := by
 intro c
 induction c using Nat.strongRecOn with
 | _ c ih =>
  by_cases h : c = 0
  ·subst h; simp [tm_zero]
  ·rw [yK_ _ c R (tm_lt R ha),yK_ b c R hb,tm_xor_right,qax_ R hw ha (tm_lt R hb),ih (c / 2) (by omega)]
   congr 1
   split
   ·rfl
   ·exact (tm_zero a).symm
end GF
namespace GF
theorem qbw_ (a b : Nat) : (a &&& b) / 2 = (a / 2) &&& (b / 2) := by
 apply Nat.eq_of_testBit_eq
 intro i
 rw [Nat.testBit_and,← Nat.testBit_succ,← Nat.testBit_succ,← Nat.testBit_succ,Nat.testBit_and]
theorem qbx_ (a b : Nat) : (a &&& b) % 2 = (a % 2) * (b % 2) := by
 have h := Nat.testBit_and a b 0
 simp only [Nat.testBit_zero] at h
 rcases Nat.mod_two_eq_zero_or_one a with ha | ha <;> rcases Nat.mod_two_eq_zero_or_one b with hb | hb <;>
  rcases Nat.mod_two_eq_zero_or_one (a &&& b) with hc | hc <;> simp_all
theorem xor_add_and : ∀ (a b : Nat),(a ^^^ b) + 2 * (a &&& b) = a + b := by
 intro a
 induction a using Nat.strongRecOn with
 | _ a ih =>
  intro b
  by_cases h : a = 0
  ·subst h; simp
  ·have h1 := ih (a / 2) (by omega) (b / 2)
   have e1 := vv_ a b
   have e2 := qbw_ a b
   have m1 := vw_ a b
   have m2 := qbx_ a b
   rcases Nat.mod_two_eq_zero_or_one a with ha | ha <;> rcases Nat.mod_two_eq_zero_or_one b with hb | hb <;> rw [ha,hb] at m1 m2 <;> omega
variable {r w : Nat}
structure Sum1 (r w a b i f : Nat) : Prop where
 lt : f < 2 ^ (2 * w - 1)
 ev : ev r w f = tm r w a (b % 2 ^ i)
structure Sum2 (r w p i f : Nat) : Prop where
 lt : f < 2 ^ (2 * w - 1 - i)
 ev : ev r w f = p
end GF
namespace GF
def it (r w : Nat) : Nat -> Nat
 | 0 => 1
 | n + 1 => dbl r w (it r w n)
structure Good (r w : Nat) : Prop where
 rule : Rule r w
 w4 : 4 <= w
 w8 : w <= 8
 odd : r % 2 = 1
 lo16 : 16 <= r
 hi511 : r <= 511
 back : it r w (2 ^ w - 1) = 1
 first : ∀ n,1 <= n -> n < 2 ^ w - 1 -> it r w n ≠ 1
theorem Good.w1 {r w : Nat} (g : Good r w) : 1 < w := Nat.lt_of_lt_of_le (by decide) g.w4
theorem Good.top16 {r w : Nat} (g : Good r w) : 16 <= 2 ^ w := Nat.pow_le_pow_right (n := 2) (by decide) g.w4
theorem Good.top256 {r w : Nat} (g : Good r w) : 2 ^ w <= 256 := Nat.pow_le_pow_right (n := 2) (by decide) g.w8
theorem Good.last1 {r w : Nat} (g : Good r w) : 1 <= 2 ^ w - 1 := by
 have := g.top16
 omega
theorem it_lt {r w : Nat} (R : Rule r w) (hw : 1 < w) : ∀ n,it r w n < 2 ^ w
 | 0 => one_lt hw
 | n + 1 => dbl_lt R (it_lt R hw n)
def yk_ (r w : Nat) : Nat -> Nat -> Nat -> Option Nat
 | 0,_,_ => none
 | fuel + 1,x,n => if x = 1 then some n else yk_ r w fuel (dbl r w x) (n + 1)
theorem up_ {r w : Nat} : ∀ {fuel n m : Nat},yk_ r w fuel (it r w n) n = some m -> it r w m = 1 /\ ∀ k,n <= k -> k < m -> it r w k ≠ 1 := by
 intro fuel
 induction fuel with
 | zero => intro n m h; cases h
 | succ fuel ih =>
  intro n m h
  unfold yk_ at h
  split at h
  ·rename_i e
   cases h
   exact ⟨e,fun k h1 h2 => absurd h2 (by omega)⟩
  ·rename_i e
   obtain ⟨h1,h2⟩ := ih (n := n + 1) h
   refine ⟨h1,fun k a b => ?_⟩
   by_cases q : k = n
   ·subst q; exact e
   ·exact h2 k (by omega) b
def rules : List Nat := [19,25,37,41,47,55,59,61,67,91,97,103,109,115,131,137,143,145,157,167,171,185,191,193,
 203,211,213,229,239,241,247,253,285,299,301,333,351,355,357,361,369,391,397,425,451,463,487,501]
def chk (r : Nat) : Bool := decide (16 <= r) && decide (r <= 511) && decide (r % 2 = 1) && decide (4 <= r.log2) && decide (r.log2 <= 8) && decide (2 ^ r.log2 <= r) && decide (r < 2 ^ (r.log2 + 1)) &&
 decide (yk_ r r.log2 600 2 1 = some (2 ^ r.log2 - 1))
theorem qeu_ : rules.all chk = true := by decide +kernel
theorem qby_ {r : Nat} (h : chk r = true) : Good r r.log2 := by
 unfold chk at h
 simp only [Bool.and_eq_true,decide_eq_true_eq] at h
 obtain ⟨⟨⟨⟨⟨⟨⟨h1,h2⟩,h3⟩,h4⟩,h5⟩,h6⟩,h7⟩,h8⟩ := h
 have e : it r r.log2 1 = 2 := qis_ (by omega)
 have h9 : yk_ r r.log2 600 (it r r.log2 1) 1 = some (2 ^ r.log2 - 1) := by rw [e]; exact h8
 obtain ⟨b1,b2⟩ := up_ h9
 exact ⟨⟨h6,h7⟩,h4,h5,h3,h1,h2,b1,b2⟩
def ruleOf (c : Int) : Nat := rules.getD (c % 48).toNat 19
theorem qbz_ (c : Int) : Good (ruleOf c) (ruleOf c).log2 := by
 apply qby_
 have h := List.all_eq_true.mp qeu_
 apply h
 unfold ruleOf
 have hl : rules.length = 48 := rfl
 have h1 : (c % 48).toNat < rules.length := by rw [hl]; omega
 rw [List.getD_eq_getElem?_getD,List.getElem?_eq_getElem h1]
 exact List.getElem_mem h1
end GF
namespace GF
def mask (r w : Nat) : Nat -> Nat -> Nat -> Nat
 | 0,_,acc => acc
 | fuel + 1,x,acc => mask r w fuel (dbl r w x) (acc ||| 2 ^ x)
theorem qgt_ {r w : Nat} : ∀ {fuel n acc b : Nat},(mask r w fuel (it r w n) acc).testBit b = true -> acc.testBit b = true \/ ∃ k,it r w k = b := by
 intro fuel
 induction fuel with
 | zero => intro n acc b h; exact .inl h
 | succ fuel ih =>
  intro n acc b h
  rcases ih (n := n + 1) h with q | q
  ·rw [Nat.testBit_or,Nat.testBit_two_pow,Bool.or_eq_true] at q
   rcases q with q | q
   ·exact .inl q
   ·exact .inr ⟨n,of_decide_eq_true q⟩
  ·exact .inr q
theorem qdj_ : rules.all (fun r => decide (mask r r.log2 (2 ^ r.log2 - 1) 1 0 = 2 ^ 2 ^ r.log2 - 2)) = true := by decide +kernel
theorem qiu_ {N b : Nat} (h0 : 0 < b) (h : b < N) : (2 ^ N - 2).testBit b = true := by
 obtain ⟨M,rfl⟩ : ∃ M,N = M + 1 := ⟨N - 1,by omega⟩
 obtain ⟨c,rfl⟩ : ∃ c,b = c + 1 := ⟨b - 1,by omega⟩
 have e : (2 ^ (M + 1) - 2) / 2 = 2 ^ M - 1 := by rw [Nat.pow_succ]; omega
 rw [Nat.testBit_succ,e,Nat.testBit_two_pow_sub_one]
 exact decide_eq_true (by omega)
structure Full (r w : Nat) : Prop extends Good r w where
 all : ∀ x,0 < x -> x < 2 ^ w -> ∃ n,it r w n = x
theorem ruleOf_full (c : Int) : Full (ruleOf c) (ruleOf c).log2 := by
 refine ⟨qbz_ c,fun x h0 h => ?_⟩
 have hm : ruleOf c ∈ rules := by
  unfold ruleOf
  have hl : rules.length = 48 := rfl
  have h1 : (c % 48).toNat < rules.length := by rw [hl]; omega
  rw [List.getD_eq_getElem?_getD,List.getElem?_eq_getElem h1]
  exact List.getElem_mem h1
 have q := of_decide_eq_true (List.all_eq_true.mp qdj_ _ hm)
 have b := qiu_ h0 h
 rw [<- q] at b
 rcases qgt_ (n := 0) b with z | z
 ·rw [Nat.zero_testBit] at z; cases z
 ·exact z
variable {r w : Nat}
theorem qb0_ (g : Good r w) {x : Nat} (hx : x < 2 ^ w) (h : dbl r w x = 0) : x = 0 := by
 unfold dbl at h
 split at h
 ·have e : 2 * x = r := by
   have := congrArg (· ^^^ r) h
   simp only [Nat.zero_xor,Nat.xor_assoc,Nat.xor_self,Nat.xor_zero] at this
   exact this
  have := g.odd
  omega
 ·omega
theorem v2_ (g : Good r w) {y : Nat} (hy : y < 2 ^ w) : ∀ n,tm r w (it r w n) y = 0 -> y = 0
 | 0,h => by rw [show it r w 0 = 1 from rfl,one_tm g.rule g.w1 hy] at h; exact h
 | n + 1,h => by
  rw [show it r w (n + 1) = dbl r w (it r w n) from rfl,yf_ g.rule (it_lt g.rule g.w1 n)] at h
  exact v2_ g hy n (qb0_ g (tm_lt g.rule (it_lt g.rule g.w1 n)) h)
theorem tm_eq_zero (g : Full r w) {x y : Nat} (hx : x < 2 ^ w) (hy : y < 2 ^ w) : tm r w x y = 0 ↔ (x = 0 \/ y = 0) := by
 constructor
 ·intro h
  by_cases h0 : x = 0
  ·exact .inl h0
  ·obtain ⟨n,rfl⟩ := g.all x (by omega) hx
   exact .inr (v2_ g.toGood hy n h)
 ·rintro (rfl | rfl)
  ·exact zero_tm y
  ·exact tm_zero x
def pw (r w x : Nat) : Nat -> Nat
 | 0 => 1
 | n + 1 => tm r w (pw r w x n) x
theorem pw_lt (g : Good r w) {x : Nat} (hx : x < 2 ^ w) : ∀ n,pw r w x n < 2 ^ w
 | 0 => one_lt g.w1
 | n + 1 => tm_lt g.rule (pw_lt g hx n)
theorem pw_add (g : Good r w) {x : Nat} (hx : x < 2 ^ w) (m : Nat) : ∀ n,pw r w x (m + n) = tm r w (pw r w x m) (pw r w x n)
 | 0 => by rw [Nat.add_zero,show pw r w x 0 = 1 from rfl,tm_one]
 | n + 1 => by
  rw [<- Nat.add_assoc]
  show tm r w (pw r w x (m + n)) x = tm r w (pw r w x m) (tm r w (pw r w x n) x)
  rw [pw_add g hx m n,tm_assoc g.rule g.w1 (pw_lt g hx m) (pw_lt g hx n)]
theorem pw_one (x : Nat) (g : Good r w) (hx : x < 2 ^ w) : pw r w x 1 = x := by
 show tm r w 1 x = x
 exact one_tm g.rule g.w1 hx
theorem v3_ (g : Good r w) {x : Nat} (hx : x < 2 ^ w) (m : Nat) : ∀ n,pw r w (pw r w x m) n = pw r w x (m * n)
 | 0 => by rw [Nat.mul_zero]; rfl
 | n + 1 => by
  rw [Nat.mul_succ,pw_add g hx]
  show tm r w (pw r w (pw r w x m) n) (pw r w x m) = _
  rw [v3_ g hx m n]
theorem qdk_ (g : Good r w) : ∀ n,it r w n = pw r w 2 n
 | 0 => rfl
 | n + 1 => by
  show dbl r w (it r w n) = tm r w (pw r w 2 n) 2
  rw [qdk_ g n,qkc_]
theorem two_lt (g : Good r w) : 2 < 2 ^ w := by have := g.top16; omega
theorem qev_ (g : Good r w) : ∀ n,pw r w 1 n = 1
 | 0 => rfl
 | n + 1 => by
  show tm r w (pw r w 1 n) 1 = 1
  rw [qev_ g n,tm_one]
theorem qiv_ (g : Full r w) {x : Nat} (h0 : 0 < x) (hx : x < 2 ^ w) : pw r w x (2 ^ w - 1) = 1 := by
 obtain ⟨n,rfl⟩ := g.all x h0 hx
 rw [qdk_ g.toGood,v3_ g.toGood (two_lt g.toGood),Nat.mul_comm,← v3_ g.toGood (two_lt g.toGood),← qdk_ g.toGood,g.back,qev_ g.toGood]
theorem pw_back (g : Full r w) {x : Nat} (h0 : 0 < x) (hx : x < 2 ^ w) : tm r w x (pw r w x (2 ^ w - 1 - 1)) = 1 := by
 have h := qiv_ g h0 hx
 have e : 2 ^ w - 1 = 1 + (2 ^ w - 1 - 1) := by have := g.top16; omega
 rw [e,pw_add g.toGood hx,pw_one x g.toGood hx] at h
 exact h
theorem pw_half (g : Good r w) {x : Nat} (hx : x < 2 ^ w) (n : Nat) : pw r w (tm r w x x) n = pw r w x (2 * n) := by
 have e : tm r w x x = pw r w x 2 := by
  show _ = tm r w (tm r w 1 x) x
  rw [one_tm g.rule g.w1 hx]
 rw [e,v3_ g hx]
end GF
namespace GF
variable {r w : Nat}
theorem qb1_ {i j : Nat} (h : i ^^^ j = 0) : i = j := by
 have := congrArg (· ^^^ j) h
 simp only [Nat.xor_assoc,Nat.xor_self,Nat.xor_zero,Nat.zero_xor] at this
 exact this
theorem tm_inj (g : Full r w) {x i j : Nat} (h0 : x ≠ 0) (hx : x < 2 ^ w) (hi : i < 2 ^ w) (hj : j < 2 ^ w) (h : tm r w x i = tm r w x j) : i = j := by
 have e : tm r w x (i ^^^ j) = 0 := by rw [tm_xor_right,h,Nat.xor_self]
 rcases (tm_eq_zero g hx (Nat.xor_lt_two_pow hi hj)).mp e with z | z
 ·exact absurd z h0
 ·exact qb1_ z
end GF
namespace GF
def join (w : Nat) : List Nat -> Nat
 | [] => 0
 | x :: xs => join w xs * 2 ^ w + x
def syms (w : Nat) : Nat -> Nat -> List Nat
 | 0,_ => []
 | n + 1,b => b % 2 ^ w :: syms w n (b / 2 ^ w)
theorem syms_length (w : Nat) : ∀ (n b : Nat),(syms w n b).length = n
 | 0,_ => rfl
 | n + 1,b => by rw [syms,List.length_cons,syms_length w n]
theorem qch_ {w : Nat} : ∀ {n b x : Nat},x ∈ syms w n b -> x < 2 ^ w
 | 0,b,x,h => by simp [syms] at h
 | n + 1,b,x,h => by
  rw [syms] at h
  rcases List.mem_cons.mp h with e | h
  ·rw [e]; exact Nat.mod_lt _ (Nat.two_pow_pos w)
  ·exact qch_ h
theorem uQ_ {w : Nat} : ∀ {row : List Nat},(∀ x ∈ row,x < 2 ^ w) -> syms w row.length (join w row) = row
 | [],_ => rfl
 | x :: row,h => by
  have hx : x < 2 ^ w := h x List.mem_cons_self
  rw [List.length_cons,syms,join]
  have e1 : (join w row * 2 ^ w + x) % 2 ^ w = x := by rw [Nat.mul_comm,Nat.mul_add_mod,Nat.mod_eq_of_lt hx]
  have e2 : (join w row * 2 ^ w + x) / 2 ^ w = join w row := by
   rw [Nat.mul_comm,Nat.mul_add_div (Nat.two_pow_pos w),Nat.div_eq_of_lt hx,Nat.add_zero]
  rw [e1,e2,uQ_ fun y hy => h y (List.mem_cons_of_mem _ hy)]
theorem qci_ {w : Nat} : ∀ {row : List Nat},(∀ x ∈ row,x < 2 ^ w) -> join w row < (2 ^ w) ^ row.length
 | [],_ => by simp [join]
 | x :: row,h => by
  have hx : x < 2 ^ w := h x List.mem_cons_self
  have ih := qci_ (row := row) fun y hy => h y (List.mem_cons_of_mem _ hy)
  rw [join,List.length_cons,Nat.pow_succ]
  have : (join w row + 1) * 2 ^ w <= (2 ^ w) ^ row.length * 2 ^ w := Nat.mul_le_mul_right _ ih
  rw [Nat.add_mul,Nat.one_mul] at this
  omega
theorem uR_ {w : Nat} : ∀ {n b : Nat},b < (2 ^ w) ^ n -> join w (syms w n b) = b
 | 0,b,h => by
  have : b = 0 := by simpa using h
  rw [this]; rfl
 | n + 1,b,h => by
  rw [syms,join,uR_ (n := n) (b := b / 2 ^ w)]
  ·rw [Nat.mul_comm]; exact Nat.div_add_mod b (2 ^ w)
  ·rw [Nat.pow_succ] at h
   exact Nat.div_lt_of_lt_mul (by rw [Nat.mul_comm]; exact h)
theorem v4_ (w : Nat) : ∀ (n : Nat) (f : Nat -> Nat),f 0 = 0 -> join w ((syms w n 0).map f) = 0
 | 0,_,_ => rfl
 | n + 1,f,h => by
  rw [syms,Nat.zero_mod,Nat.zero_div,List.map_cons,join,v4_ w n f h,h]
  simp
theorem v5_ {w x y a b : Nat} (hx : x < 2 ^ w) (hy : y < 2 ^ w) : (a * 2 ^ w + x) ^^^ (b * 2 ^ w + y) = (a ^^^ b) * 2 ^ w + (x ^^^ y) := by
 apply Nat.eq_of_testBit_eq
 intro i
 rw [Nat.testBit_xor,Nat.mul_comm a,Nat.mul_comm b,Nat.mul_comm (a ^^^ b),Nat.testBit_two_pow_mul_add _ hx,Nat.testBit_two_pow_mul_add _ hy,Nat.testBit_two_pow_mul_add _ (Nat.xor_lt_two_pow hx hy)]
 split
 ·rw [Nat.testBit_xor]
 ·rw [Nat.testBit_xor]
theorem qay_ {w : Nat} : ∀ {n : Nat} {f g : Nat -> Nat} {b c : Nat},(∀ x,f x < 2 ^ w) -> (∀ x,g x < 2 ^ w) →
  join w ((syms w n b).map f) ^^^ join w ((syms w n c).map g) = join w (List.zipWith (fun x y => f x ^^^ g y) (syms w n b) (syms w n c))
 | 0,_,_,_,_,_,_ => by simp [syms,join]
 | n + 1,f,g,b,c,hf,hg => by
  rw [syms,syms,List.map_cons,List.map_cons,List.zipWith_cons_cons,join,join,join,v5_ (hf _) (hg _),qay_ hf hg]
theorem qaz_ {w : Nat} : ∀ {n b k : Nat},k < n -> (syms w n b)[k]? = some (b / (2 ^ w) ^ k % 2 ^ w)
 | 0,_,_,h => absurd h (Nat.not_lt_zero _)
 | n + 1,b,0,_ => by rw [syms,Nat.pow_zero,Nat.div_one]; rfl
 | n + 1,b,k + 1,h => by
  rw [syms,List.getElem?_cons_succ,qaz_ (by omega),Nat.div_div_eq_div_mul,Nat.pow_succ,Nat.mul_comm ((2 ^ w) ^ k)]
theorem qa0_ {w : Nat} : ∀ {n b c : Nat},syms w n (b ^^^ c) = List.zipWith (fun x y => x ^^^ y) (syms w n b) (syms w n c)
 | 0,_,_ => rfl
 | n + 1,b,c => by
  rw [syms,syms,syms,List.zipWith_cons_cons]
  congr 1
  ·apply Nat.eq_of_testBit_eq
   intro i
   rw [Nat.testBit_xor,Nat.testBit_mod_two_pow,Nat.testBit_mod_two_pow,Nat.testBit_mod_two_pow,Nat.testBit_xor]
   by_cases h : i < w <;> simp [h]
  ·have e : (b ^^^ c) / 2 ^ w = b / 2 ^ w ^^^ c / 2 ^ w := by
    apply Nat.eq_of_testBit_eq
    intro i
    rw [Nat.testBit_xor,Nat.testBit_div_two_pow,Nat.testBit_div_two_pow,Nat.testBit_div_two_pow,Nat.testBit_xor]
   rw [e,qa0_]
end GF
namespace GF
def sumB (r w n : Nat) (ps : List (Nat × Nat)) : Nat := ps.foldl (fun t p => t ^^^ join w ((syms w n p.2).map (tm r w p.1))) 0
theorem zT_ {α : Type} (F : α -> Nat) : ∀ (ps : List α) (t : Nat),ps.foldl (fun t p => t ^^^ F p) t = t ^^^ ps.foldl (fun t p => t ^^^ F p) 0
 | [],t => by simp
 | p :: ps,t => by
  rw [List.foldl_cons,List.foldl_cons,zT_ F ps (t ^^^ F p),zT_ F ps (0 ^^^ F p),Nat.zero_xor,Nat.xor_assoc]
theorem sumB_append (r w n : Nat) (ps qs : List (Nat × Nat)) : sumB r w n (ps ++ qs) = sumB r w n ps ^^^ sumB r w n qs := by
 unfold sumB
 rw [List.foldl_append,zT_ (fun p : Nat × Nat => join w ((syms w n p.2).map (tm r w p.1))) qs]
theorem syms_range (w n b : Nat) : syms w n b = (List.range n).map fun k => b / (2 ^ w) ^ k % 2 ^ w := by
 apply List.ext_getElem?
 intro k
 by_cases h : k < n
 ·rw [qaz_ h,List.getElem?_map,List.getElem?_range h]
  rfl
 ·rw [List.getElem?_eq_none (by rw [syms_length]; omega),List.getElem?_eq_none (by simp; omega)]
theorem uS_ {w : Nat} {f g : Nat -> Nat} : ∀ (ks : List Nat),(∀ k,f k < 2 ^ w) -> (∀ k,g k < 2 ^ w) -> join w (ks.map f) ^^^ join w (ks.map g) = join w (ks.map fun k => f k ^^^ g k)
 | [],_,_ => by simp [join]
 | k :: ks,hf,hg => by
  rw [List.map_cons,List.map_cons,List.map_cons,join,join,join,v5_ (hf k) (hg k),uS_ ks hf hg]
theorem uT_ (w : Nat) : ∀ (ks : List Nat),join w (ks.map fun _ => 0) = 0
 | [] => rfl
 | k :: ks => by rw [List.map_cons,join,uT_ w ks]; simp
theorem join_snoc (w : Nat) : ∀ (xs : List Nat) (x : Nat),join w (xs ++ [x]) = join w xs + x * (2 ^ w) ^ xs.length
 | [],x => by simp [join]
 | y :: xs,x => by
  rw [List.cons_append,join,join_snoc w xs,join,List.length_cons,Nat.pow_succ,Nat.add_mul,Nat.mul_assoc]
  omega
theorem sumB_snoc (r w n : Nat) (ps : List (Nat × Nat)) (p : Nat × Nat) : sumB r w n (ps ++ [p]) = sumB r w n ps ^^^ join w ((syms w n p.2).map (tm r w p.1)) := by
 unfold sumB
 rw [List.foldl_append]
 rfl
end GF
namespace GF
variable {r w : Nat}
def dot (r w : Nat) : Nat -> (Nat -> Nat) -> (Nat -> Nat) -> Nat
 | 0,_,_ => 0
 | n + 1,a,x => dot r w n a x ^^^ tm r w (a n) (x n)
theorem dot_lt (R : Rule r w) {a x : Nat -> Nat} : ∀ n,(∀ k,k < n -> a k < 2 ^ w) -> dot r w n a x < 2 ^ w
 | 0,_ => Nat.two_pow_pos w
 | n + 1,h => Nat.xor_lt_two_pow (dot_lt R n fun k hk => h k (Nat.lt_succ_of_lt hk)) (tm_lt R (h n (Nat.lt_succ_self n)))
theorem dot_congr {a b x y : Nat -> Nat} : ∀ n,(∀ k,k < n -> a k = b k /\ x k = y k) -> dot r w n a x = dot r w n b y
 | 0,_ => rfl
 | n + 1,h => by
  rw [dot,dot,dot_congr n fun k hk => h k (Nat.lt_succ_of_lt hk),(h n (Nat.lt_succ_self n)).1,(h n (Nat.lt_succ_self n)).2]
theorem vF_ (a : Nat -> Nat) : ∀ n,dot r w n a (fun _ => 0) = 0
 | 0 => rfl
 | n + 1 => by rw [dot,vF_ a n,tm_zero]; rfl
theorem vj_ {a x : Nat -> Nat} {p v : Nat} (hx : x p = 0) : ∀ n,dot r w n a (fun k => if k = p then v else x k) = dot r w n a x ^^^ (if p < n then tm r w (a p) v else 0)
 | 0 => by
  rw [if_neg (Nat.not_lt_zero p),dot,dot]
  rfl
 | n + 1 => by
  rw [dot,dot,vj_ hx n]
  by_cases e : n = p
  ·subst e
   rw [if_neg (Nat.lt_irrefl n),if_pos rfl,if_pos (Nat.lt_succ_self n),hx,tm_zero,Nat.xor_zero]
  ·rw [if_neg e]
   by_cases h : p < n
   ·rw [if_pos h,if_pos (Nat.lt_succ_of_lt h),Nat.xor_assoc,Nat.xor_assoc,Nat.xor_comm (tm r w (a p) v)]
   ·rw [if_neg h,if_neg (by omega),Nat.xor_zero,Nat.xor_zero]
theorem dot_add (R : Rule r w) {a b x : Nat -> Nat} : ∀ n,(∀ k,k < n -> a k < 2 ^ w /\ b k < 2 ^ w) -> dot r w n (fun k => a k ^^^ b k) x = dot r w n a x ^^^ dot r w n b x
 | 0,_ => by rw [dot,dot,dot]; rfl
 | n + 1,h => by
  rw [dot,dot,dot,dot_add R n fun k hk => h k (Nat.lt_succ_of_lt hk),jP_ R (h n (Nat.lt_succ_self n)).1 (h n (Nat.lt_succ_self n)).2]
  exact xor4 _ _ _ _
theorem dot_scale (R : Rule r w) (hw : 1 < w) {a x : Nat -> Nat} {c : Nat} (hc : c < 2 ^ w) : ∀ n,(∀ k,k < n -> a k < 2 ^ w /\ x k < 2 ^ w) -> dot r w n (fun k => tm r w (a k) c) x = tm r w (dot r w n a x) c
 | 0,_ => (zero_tm c).symm
 | n + 1,h => by
  have hn := h n (Nat.lt_succ_self n)
  have ih := dot_scale R hw hc n fun k hk => h k (Nat.lt_succ_of_lt hk)
  rw [dot,dot,ih,jP_ R (dot_lt R n fun k hk => (h k (Nat.lt_succ_of_lt hk)).1) (tm_lt R hn.1)]
  congr 1
  rw [tm_assoc R hw hn.1 hc,tm_comm R hw hc hn.2,← tm_assoc R hw hn.1 hn.2]
theorem j3_ (R : Rule r w) (hw : 1 < w) {a x : Nat -> Nat} {c : Nat} : ∀ n,(∀ k,k < n -> a k < 2 ^ w /\ x k < 2 ^ w) -> dot r w n a (fun k => tm r w (x k) c) = tm r w (dot r w n a x) c
 | 0,_ => (zero_tm c).symm
 | n + 1,h => by
  have hn := h n (Nat.lt_succ_self n)
  have ih := j3_ R hw (c := c) n fun k hk => h k (Nat.lt_succ_of_lt hk)
  rw [dot,dot,ih,jP_ R (dot_lt R n fun k hk => (h k (Nat.lt_succ_of_lt hk)).1) (tm_lt R hn.1),tm_assoc R hw hn.1 hn.2]
theorem qa1_ {a x y : Nat -> Nat} : ∀ n,dot r w n a (fun k => x k ^^^ y k) = dot r w n a x ^^^ dot r w n a y
 | 0 => by rw [dot,dot,dot]; rfl
 | n + 1 => by
  rw [dot,dot,dot,qa1_ n,tm_xor_right]
  exact xor4 _ _ _ _
structure Tab (r w N M : Nat) (L : Nat -> Nat -> Nat) (T : Nat -> Nat -> Nat) : Prop where
 lt : ∀ i k,i < M -> k < N + M -> T i k < 2 ^ w
 of : ∀ i k,i < M -> k < N -> T i k = dot r w M (fun j => L j k) (fun j => T i (N + j))
 keep : ∀ x : Nat -> Nat,(∀ k,k < N -> x k < 2 ^ w) -> (∀ i,i < M -> dot r w N (T i) x = 0) -> ∀ j,j < M -> dot r w N (L j) x = 0
def swapT (T : Nat -> Nat -> Nat) (h f : Nat) : Nat -> Nat -> Nat := fun i => if i = h then T f else if i = f then T h else T i
def clearT (r w : Nat) (T : Nat -> Nat -> Nat) (h p c : Nat) : Nat -> Nat -> Nat := fun i k => if i = h then tm r w (T h k) c else T i k ^^^ tm r w (tm r w (T h k) c) (T i p)
theorem vG_ {T : Nat -> Nat -> Nat} {h f M i : Nat} (hh : h < M) (hf : f < M) (hi : i < M) : ∃ j,j < M /\ swapT T h f i = T j := by
 unfold swapT
 by_cases e : i = h
 ·exact ⟨f,hf,by rw [if_pos e]⟩
 ·by_cases e2 : i = f
  ·exact ⟨h,hh,by rw [if_neg e,if_pos e2]⟩
  ·exact ⟨i,hi,by rw [if_neg e,if_neg e2]⟩
theorem Tab.swap {N M : Nat} {L T : Nat -> Nat -> Nat} (t : Tab r w N M L T) {h f : Nat} (hh : h < M) (hf : f < M) : Tab r w N M L (swapT T h f) := by
 refine ⟨fun i k hi hk => ?_,fun i k hi hk => ?_,fun x hx hz => t.keep x hx fun i hi => ?_⟩
 ·obtain ⟨j,hj,e⟩ := vG_ (T := T) hh hf hi
  rw [e]
  exact t.lt j k hj hk
 ·obtain ⟨j,hj,e⟩ := vG_ (T := T) hh hf hi
  rw [e]
  exact t.of j k hj hk
 ·by_cases e : i = h
  ·have := hz f hf
   unfold swapT at this
   by_cases e2 : f = h
   ·rw [if_pos e2,e2] at this
    rw [e]
    exact this
   ·rw [if_neg e2,if_pos rfl] at this
    rw [e]
    exact this
  ·by_cases e2 : i = f
   ·have := hz h hh
    unfold swapT at this
    rw [if_pos rfl] at this
    rw [e2]
    exact this
   ·have := hz i hi
    unfold swapT at this
    rw [if_neg e,if_neg e2] at this
    exact this
theorem Tab.clear {N M : Nat} {L T : Nat -> Nat -> Nat} (g : Full r w) (t : Tab r w N M L T) (hL : ∀ j k,j < M -> k < N -> L j k < 2 ^ w) {h p c : Nat} (hh : h < M) (hp : p < N) (hc : c < 2 ^ w) (hc0 : c ≠ 0) : Tab r w N M L (clearT r w T h p c) := by
 have R := g.rule
 have hw := g.w1
 refine ⟨fun i k hi hk => ?_,fun i k hi hk => ?_,fun x hx hz => t.keep x hx ?_⟩
 ·unfold clearT
  by_cases e : i = h
  ·rw [if_pos e]
   exact tm_lt R (t.lt h k hh hk)
  ·rw [if_neg e]
   exact Nat.xor_lt_two_pow (t.lt i k hi hk) (tm_lt R (tm_lt R (t.lt h k hh hk)))
 ·unfold clearT
  by_cases e : i = h
  ·simp only [if_pos e]
   rw [t.of h k hh hk,← j3_ R hw M fun j hj => ⟨hL j k hj hk,t.lt h (N + j) hh (by omega)⟩]
  ·simp only [if_neg e]
   rw [qa1_,j3_ R hw M fun j hj => ⟨hL j k hj hk,tm_lt R (t.lt h (N + j) hh (by omega))⟩,j3_ R hw M fun j hj => ⟨hL j k hj hk,t.lt h (N + j) hh (by omega)⟩,← t.of i k hi hk,← t.of h k hh hk]
 ·have hTN : ∀ i k,i < M -> k < N -> T i k < 2 ^ w := fun i k hi hk => t.lt i k hi (by omega)
  have hd : ∀ i,i < M -> dot r w N (T i) x < 2 ^ w := fun i hi => dot_lt R N fun k hk => hTN i k hi hk
  have h1 : dot r w N (T h) x = 0 := by
   have z := hz h hh
   have e : dot r w N (clearT r w T h p c h) x = tm r w (dot r w N (T h) x) c := by
    rw [<- dot_scale R hw hc N fun k hk => ⟨hTN h k hh hk,hx k hk⟩]
    exact dot_congr N fun k _ => ⟨by unfold clearT; rw [if_pos rfl],rfl⟩
   rw [e] at z
   rcases (tm_eq_zero g (hd h hh) hc).mp z with y | y
   ·exact y
   ·exact absurd y hc0
  intro i hi
  by_cases e : i = h
  ·rw [e]
   exact h1
  ·have z := hz i hi
   have e2 : dot r w N (clearT r w T h p c i) x = dot r w N (T i) x ^^^ tm r w (tm r w (dot r w N (T h) x) c) (T i p) := by
    rw [<- dot_scale R hw hc N fun k hk => ⟨hTN h k hh hk,hx k hk⟩,← dot_scale R hw (hTN i p hi hp) N fun k hk => ⟨tm_lt R (hTN h k hh hk),hx k hk⟩,← dot_add R N fun k hk => ⟨hTN i k hi hk,tm_lt R (tm_lt R (hTN h k hh hk))⟩]
    exact dot_congr N fun k _ => ⟨by unfold clearT; rw [if_neg e],rfl⟩
   rw [e2,h1,zero_tm,zero_tm,Nat.xor_zero] at z
   exact z
structure Piv (N M : Nat) (T : Nat -> Nat -> Nat) (hs : List Nat) (Z : Nat -> Prop) : Prop where
 hl : hs.length <= M
 lt : ∀ t p : Nat,hs[t]? = some p -> p < N
 one : ∀ t p : Nat,hs[t]? = some p -> ∀ i,i < M -> T i p = if i = t then 1 else 0
 zero : ∀ k,Z k -> ∀ i,hs.length <= i -> i < M -> T i k = 0
section
variable {N M : Nat} {L T : Nat -> Nat -> Nat} {hs : List Nat} {Z : Nat -> Prop} {p c f : Nat}
theorem Piv.start : Piv N M T [] (fun _ => False) := ⟨Nat.zero_le _,fun t p h => by simp at h,fun t p h => by simp at h,fun k z => z.elim⟩
theorem Piv.weaken {Z' : Nat -> Prop} (h : Piv N M T hs Z) (e : ∀ k,Z' k -> Z k) : Piv N M T hs Z' := ⟨h.hl,h.lt,h.one,fun k z => h.zero k (e k z)⟩
theorem Piv.skip (h : Piv N M T hs Z) (hz : ∀ i,hs.length <= i -> i < M -> T i p = 0) : Piv N M T hs (fun k => Z k \/ k = p) :=
 ⟨h.hl,h.lt,h.one,fun k z => z.elim (h.zero k) fun e => by rw [e]; exact hz⟩
theorem Piv.step (g : Full r w) (h : Piv N M T hs Z) (t : Tab r w N M L T) (hp : p < N) (hf : hs.length <= f) (hfM : f < M) (hc : c < 2 ^ w) (hinv : tm r w (T f p) c = 1) :
  Piv N M (clearT r w (swapT T hs.length f) hs.length p c) (hs ++ [p]) (fun k => Z k \/ k = p) := by
 have R := g.rule
 have hw := g.w1
 have hhM : hs.length < M := by omega
 have T1h : swapT T hs.length f hs.length = T f := by unfold swapT; rw [if_pos rfl]
 have ge : ∀ i,hs.length <= i -> i < M -> ∃ j,hs.length <= j /\ j < M /\ swapT T hs.length f i = T j := fun i h1 h2 => by
  unfold swapT
  by_cases e : i = hs.length
  ·exact ⟨f,hf,hfM,by rw [if_pos e]⟩
  ·by_cases e2 : i = f
   ·exact ⟨hs.length,Nat.le_refl _,hhM,by rw [if_neg e,if_pos e2]⟩
   ·exact ⟨i,h1,h2,by rw [if_neg e,if_neg e2]⟩
 have lo : ∀ i,i < hs.length -> swapT T hs.length f i = T i := fun i h1 => by
  unfold swapT
  rw [if_neg (by omega),if_neg (by omega)]
 have col : ∀ k,(∀ i,hs.length <= i -> i < M -> T i k = 0) -> ∀ i,i < M -> clearT r w (swapT T hs.length f) hs.length p c i k = if i < hs.length then T i k else 0 := fun k hz i hi => by
  unfold clearT
  rw [T1h,hz f hf hfM,zero_tm,zero_tm]
  by_cases e : i = hs.length
  ·rw [if_pos e,if_neg (by omega)]
  ·rw [if_neg e,Nat.xor_zero]
   by_cases e2 : i < hs.length
   ·rw [if_pos e2,lo i e2]
   ·obtain ⟨j,j1,j2,ej⟩ := ge i (by omega) hi
    rw [if_neg e2,ej,hz j j1 j2]
 have colp : ∀ i,i < M -> clearT r w (swapT T hs.length f) hs.length p c i p = if i = hs.length then 1 else 0 := fun i hi => by
  unfold clearT
  rw [T1h,hinv]
  by_cases e : i = hs.length
  ·rw [if_pos e,if_pos e]
  ·obtain ⟨j,j2,ej⟩ := vG_ (T := T) (h := hs.length) (f := f) hhM hfM hi
   rw [if_neg e,if_neg e,ej,one_tm R hw (t.lt j p j2 (by omega)),Nat.xor_self]
 refine ⟨by rw [List.length_append]; simp; omega,fun t' q e => ?_,fun t' q e i hi => ?_,fun k z i h1 h2 => ?_⟩
 ·rw [List.getElem?_append] at e
  split at e
  ·exact h.lt t' q e
  ·have : q = p := by
    cases ht : t' - hs.length with
    | zero => rw [ht] at e; simpa using e.symm
    | succ m => rw [ht] at e; simp at e
   rw [this]
   exact hp
 ·rw [List.getElem?_append] at e
  split at e
  ·rename_i hlt
   have hz : ∀ i,hs.length <= i -> i < M -> T i q = 0 := fun i h1 h2 => by
    rw [h.one t' q e i h2,if_neg (by omega)]
   rw [col q hz i hi]
   by_cases e2 : i < hs.length
   ·rw [if_pos e2]
    exact h.one t' q e i hi
   ·rw [if_neg e2,if_neg (by omega)]
  ·rename_i hge
   have ht : t' = hs.length /\ q = p := by
    cases ht : t' - hs.length with
    | zero => rw [ht] at e; exact ⟨by omega,by simpa using e.symm⟩
    | succ m => rw [ht] at e; simp at e
   rw [ht.2,ht.1]
   exact colp i hi
 ·rw [List.length_append] at h1
  have h1' : hs.length < i := by simp at h1; omega
  rcases z with z | z
  ·rw [col k (h.zero k z) i h2,if_neg (by omega)]
  ·rw [z,colp i h2,if_neg (by omega)]
theorem reckoned_ok (g : Full r w) (t : Tab r w N M L T) (hL : ∀ j k,j < M -> k < N -> L j k < 2 ^ w) (h : Piv N M T hs Z) (hf : hs.length <= f) (hfM : f < M) (hp : p < N) (hinv : tm r w (T f p) c = 1) :
  (dot r w M (fun j => L j p) (fun j => tm r w (T f (N + j)) c) = 1) /\ ∀ k,k < N -> Z k -> dot r w M (fun j => L j k) (fun j => tm r w (T f (N + j)) c) = 0 := by
 have R := g.rule
 have e : ∀ k,k < N -> dot r w M (fun j => L j k) (fun j => tm r w (T f (N + j)) c) = tm r w (T f k) c := fun k hk => by
  rw [j3_ R g.w1 M fun j hj => ⟨hL j k hj hk,t.lt f (N + j) hfM (by omega)⟩,← t.of f k hfM hk]
 refine ⟨by rw [e p hp]; exact hinv,fun k hk z => ?_⟩
 rw [e k hk,h.zero k z f hf hfM,zero_tm]
def makeX (T : Nat -> Nat -> Nat) (hs : List Nat) (p : Nat) : Nat -> Nat -> Nat
 | 0 => fun k => if k = p then 1 else 0
 | t + 1 => fun k => if k = hs.getD t 0 then T t p else makeX T hs p t k
theorem makeX_none {k : Nat} (hkp : k ≠ p) : ∀ t,t <= hs.length -> (∀ s,s < t -> hs.getD s 0 ≠ k) -> makeX T hs p t k = 0
 | 0,_,_ => by unfold makeX; rw [if_neg hkp]
 | t + 1,ht,h => by
  unfold makeX
  rw [if_neg (fun z => h t (Nat.lt_succ_self t) z.symm)]
  exact makeX_none hkp t (by omega) fun s hs' => h s (by omega)
theorem makeX_place : ∀ t,t <= hs.length -> (∀ s,s < t -> hs.getD s 0 ≠ p) -> makeX T hs p t p = 1
 | 0,_,_ => by unfold makeX; rw [if_pos rfl]
 | t + 1,ht,h => by
  unfold makeX
  rw [if_neg (fun z => h t (Nat.lt_succ_self t) z.symm)]
  exact makeX_place t (by omega) fun s hs' => h s (by omega)
theorem getD_at {t : Nat} (h : t < hs.length) : hs[t]? = some (hs.getD t 0) := by
 rw [List.getD_eq_getElem?_getD,List.getElem?_eq_getElem h]
 rfl
theorem qa2_ (g : Full r w) (t : Tab r w N M L T) (h : Piv N M T hs Z) (hp : p < N) (hnp : ∀ s,s < hs.length -> hs.getD s 0 ≠ p) {i : Nat} (hi : i < M) : ∀ q,q <= hs.length -> dot r w N (T i) (makeX T hs p q) = T i p ^^^ (if i < q then T i p else 0)
 | 0,_ => by
  rw [if_neg (Nat.not_lt_zero i),Nat.xor_zero]
  have e : dot r w N (T i) (fun k => if k = p then 1 else (fun _ => 0) k) = _ := vj_ (x := fun _ => 0) (p := p) (v := 1) rfl N
  rw [vF_,Nat.zero_xor,if_pos hp,tm_one] at e
  exact e
 | q + 1,hq => by
  have R := g.rule
  have hq' : q < hs.length := hq
  have dup : ∀ s,s < q -> hs.getD s 0 ≠ hs.getD q 0 := fun s hs' z => by
   have a1 := h.one s _ (getD_at (by omega)) s (by have := h.hl; omega)
   have a2 := h.one q _ (getD_at hq') s (by have := h.hl; omega)
   rw [z,a2,if_pos rfl,if_neg (by omega)] at a1
   exact absurd a1 (by decide)
  have e : dot r w N (T i) (makeX T hs p (q + 1)) = _ := vj_ (x := makeX T hs p q) (p := hs.getD q 0) (v := T q p) (makeX_none (hnp q hq') q (by omega) dup) N
  rw [if_pos (h.lt q _ (getD_at hq')),qa2_ g t h hp hnp hi q (by omega),h.one q _ (getD_at hq') i hi] at e
  rw [e]
  by_cases z : i = q
  ·subst z
   rw [if_pos rfl,if_neg (Nat.lt_irrefl i),if_pos (Nat.lt_succ_self i),one_tm R g.w1 (t.lt i p hi (by omega)),Nat.xor_zero]
  ·rw [if_neg z,zero_tm,Nat.xor_zero]
   by_cases z2 : i < q
   ·rw [if_pos z2,if_pos (by omega)]
   ·rw [if_neg z2,if_neg (by omega)]
theorem makeX_lt (g : Full r w) (t : Tab r w N M L T) (h : Piv N M T hs Z) (hp : p < N) (k : Nat) : ∀ q,q <= hs.length -> makeX T hs p q k < 2 ^ w
 | 0,_ => by
  have := g.top16
  unfold makeX
  split <;> omega
 | q + 1,hq => by
  unfold makeX
  split
  ·exact t.lt q p (by have := h.hl; omega) (by omega)
  ·exact makeX_lt g t h hp k q (by omega)
theorem free_ok (g : Full r w) (t : Tab r w N M L T) (h : Piv N M T hs Z) (hp : p < N) (hnp : ∀ s,s < hs.length -> hs.getD s 0 ≠ p) (hz : ∀ i,hs.length <= i -> i < M -> T i p = 0) : ∀ j,j < M -> dot r w N (L j) (makeX T hs p hs.length) = 0 := by
 refine t.keep _ (fun k _ => makeX_lt g t h hp k _ (Nat.le_refl _)) fun i hi => ?_
 rw [qa2_ g t h hp hnp hi _ (Nat.le_refl _)]
 by_cases z : i < hs.length
 ·rw [if_pos z,Nat.xor_self]
 ·rw [if_neg z,hz i (by omega) hi]
  rfl
theorem Tab.start (g : Full r w) (hL : ∀ j k,j < M -> k < N -> L j k < 2 ^ w) (h1 : ∀ i k,i < M -> k < N -> T i k = L i k) (h2 : ∀ i j,i < M -> j < M -> T i (N + j) = if j = i then 1 else 0) : Tab r w N M L T := by
 have t16 := g.top16
 refine ⟨fun i k hi hk => ?_,fun i k hi hk => ?_,fun x hx hz j hj => ?_⟩
 ·by_cases e : k < N
  ·rw [h1 i k hi e]
   exact hL i k hi e
  ·obtain ⟨j,rfl⟩ : ∃ j,k = N + j := ⟨k - N,by omega⟩
   rw [h2 i j hi (by omega)]
   split <;> omega
 ·have e : dot r w M (fun j => L j k) (fun j => if j = i then 1 else (fun _ => 0) j) = _ := vj_ (x := fun _ => 0) (p := i) (v := 1) rfl M
  rw [vF_,Nat.zero_xor,if_pos hi,tm_one] at e
  rw [h1 i k hi hk,← e]
  exact (dot_congr M fun j hj => ⟨rfl,(h2 i j hi hj).symm⟩)
 ·rw [<- hz j hj]
  exact dot_congr N fun k hk => ⟨(h1 j k hj hk).symm,rfl⟩
end
end GF
namespace GF
structure Odd (r w n : Nat) : Prop where
 rule : Rule r w
 w4 : 4 <= w
 w8 : w <= 8
 odd : r % 2 = 1
 lo16 : 16 <= r
 hi511 : r <= 511
 n1 : 1 <= n
 n255 : n <= 255
 back : it r w n = 1
 first : ∀ k,1 <= k -> k < n -> it r w k ≠ 1
end GF
namespace GF
variable {r w : Nat}
def sc (r w n f b : Nat) : Nat := join w ((syms w n b).map (tm r w f))
theorem qld_ (R : Rule r w) {n f b : Nat} (hf : f < 2 ^ w) : sc r w n f b < (2 ^ w) ^ n := by
 unfold sc
 have := qci_ (w := w) (row := (syms w n b).map (tm r w f)) fun x hx => by
  obtain ⟨y,_,rfl⟩ := List.mem_map.mp hx
  exact tm_lt R hf
 rw [List.length_map,syms_length] at this
 exact this
theorem qkd_ (R : Rule r w) {n f b c : Nat} (hf : f < 2 ^ w) : sc r w n f (b ^^^ c) = sc r w n f b ^^^ sc r w n f c := by
 unfold sc
 rw [qay_ (fun x => tm_lt R hf) (fun x => tm_lt R hf),qa0_,List.map_zipWith]
 congr 2
 funext x y
 exact tm_xor_right
theorem sc_zero {n b : Nat} : sc r w n 0 b = 0 := by
 unfold sc
 have : (syms w n b).map (tm r w 0) = (List.range n).map fun _ => 0 := by
  rw [syms_range,List.map_map]
  exact List.map_congr_left fun k _ => zero_tm _
 rw [this,uT_]
theorem v6_ {n f : Nat} : sc r w n f 0 = 0 := v4_ w n _ (tm_zero f)
theorem sc_one (R : Rule r w) (hw : 1 < w) {n b : Nat} (hb : b < (2 ^ w) ^ n) : sc r w n 1 b = b := by
 unfold sc
 have : (syms w n b).map (tm r w 1) = syms w n b := by
  conv => rhs; rw [<- List.map_id (syms w n b)]
  exact List.map_congr_left fun x hx => one_tm R hw (qch_ hx)
 rw [this,uR_ hb]
theorem uU_ {n : Nat} (p : Nat × Nat) (ps : List (Nat × Nat)) : sumB r w n (p :: ps) = sc r w n p.1 p.2 ^^^ sumB r w n ps := by
 rw [show p :: ps = [p] ++ ps from rfl,sumB_append]
 congr 1
 exact Nat.zero_xor _
theorem qa3_ {n : Nat} : sumB r w n [] = 0 := rfl
theorem sumB_lt (R : Rule r w) {n : Nat} : ∀ {fs bs : List Nat},(∀ f ∈ fs,f < 2 ^ w) -> sumB r w n (fs.zip bs) < (2 ^ w) ^ n
 | [],bs,_ => by
  rw [List.zip_nil_left,qa3_]
  exact Nat.pow_pos (Nat.two_pow_pos w)
 | _ :: _,[],_ => by
  rw [List.zip_nil_right,qa3_]
  exact Nat.pow_pos (Nat.two_pow_pos w)
 | f :: fs,b :: bs,h => by
  rw [List.zip_cons_cons,uU_,← Nat.pow_mul]
  refine Nat.xor_lt_two_pow ?_ ?_
  ·rw [Nat.pow_mul]; exact qld_ R (h f List.mem_cons_self)
  ·rw [Nat.pow_mul]; exact sumB_lt R fun x hx => h x (List.mem_cons_of_mem _ hx)
theorem sumB_unit (R : Rule r w) (hw : 1 < w) {n t : Nat} : ∀ (M s : Nat) (bs : List Nat),bs.length = M -> (∀ b ∈ bs,b < (2 ^ w) ^ n) -> sumB r w n (((List.range M).map fun j => if j + s = t then 1 else 0).zip bs) = if s <= t /\ t < s + M then bs.getD (t - s) 0 else 0
 | 0,s,bs,_,_ => by
  rw [if_neg (by omega)]
  rfl
 | M + 1,s,[],hl,_ => by simp at hl
 | M + 1,s,b :: bs,hl,h => by
  have ih := sumB_unit R hw (n := n) (t := t) M (s + 1) bs (by simpa using hl) fun x hx => h x (List.mem_cons_of_mem _ hx)
  rw [List.range_succ_eq_map,List.map_cons,List.map_map,List.zip_cons_cons,uU_]
  have e : ((fun j => if j + s = t then 1 else 0) ∘ Nat.succ) = fun j => if j + (s + 1) = t then 1 else 0 := by
   funext j
   show (if j + 1 + s = t then 1 else 0) = _
   rw [show j + 1 + s = j + (s + 1) by omega]
  rw [e,ih]
  dsimp only
  by_cases z : s = t
  ·subst z
   rw [if_pos (by omega),if_neg (by omega),if_pos (by omega),Nat.xor_zero,Nat.sub_self,sc_one R hw (h b List.mem_cons_self)]
   rfl
  ·rw [if_neg (by omega),sc_zero,Nat.zero_xor]
   by_cases y : s + 1 <= t /\ t < s + 1 + M
   ·rw [if_pos y,if_pos (by omega)]
    rw [show t - s = (t - (s + 1)) + 1 by omega]
    rfl
   ·rw [if_neg y,if_neg (by omega)]
end GF
namespace GF
variable {r w : Nat}
def xsum : Nat -> (Nat -> Nat) -> Nat
 | 0,_ => 0
 | n + 1,F => xsum n F ^^^ F n
theorem zs_ {F G : Nat -> Nat} : ∀ n,(∀ k,k < n -> F k = G k) -> xsum n F = xsum n G
 | 0,_ => rfl
 | n + 1,h => by rw [xsum,xsum,zs_ n fun k hk => h k (Nat.lt_succ_of_lt hk),h n (Nat.lt_succ_self n)]
theorem xsum_xor (F G : Nat -> Nat) : ∀ n,xsum n (fun k => F k ^^^ G k) = xsum n F ^^^ xsum n G
 | 0 => (Nat.xor_self 0).symm
 | n + 1 => by rw [xsum,xsum,xsum,xsum_xor F G n]; exact xor4 _ _ _ _
theorem uV_ : ∀ n,xsum n (fun _ => 0) = 0
 | 0 => rfl
 | n + 1 => by rw [xsum,uV_ n]; rfl
theorem xsum_single {n p : Nat} {F : Nat -> Nat} (hp : p < n) (h : ∀ k,k < n -> k ≠ p -> F k = 0) : xsum n F = F p := by
 have key : ∀ m,m <= n -> xsum m F = if p < m then F p else 0 := by
  intro m
  induction m with
  | zero => intro _; rw [if_neg (Nat.not_lt_zero _)]; rfl
  | succ m ih =>
   intro hm
   rw [xsum,ih (by omega)]
   by_cases z : m = p
   ·subst z
    rw [if_neg (Nat.lt_irrefl _),if_pos (Nat.lt_succ_self _),Nat.zero_xor]
   ·rw [h m (by omega) z,Nat.xor_zero]
    by_cases y : p < m
    ·rw [if_pos y,if_pos (by omega)]
    ·rw [if_neg y,if_neg (by omega)]
 rw [key n (Nat.le_refl _),if_pos hp]
theorem qke_ (R : Rule r w) {n f g b : Nat} (hf : f < 2 ^ w) (hg : g < 2 ^ w) : sc r w n (f ^^^ g) b = sc r w n f b ^^^ sc r w n g b := by
 unfold sc
 rw [syms_range,List.map_map,List.map_map,List.map_map]
 refine Eq.trans ?_ (uS_ (f := tm r w f ∘ fun k => b / (2 ^ w) ^ k % 2 ^ w) (g := tm r w g ∘ fun k => b / (2 ^ w) ^ k % 2 ^ w) _ (fun k => tm_lt R hf) (fun k => tm_lt R hg)).symm
 congr 1
 exact List.map_congr_left fun k _ => jP_ R hf hg
theorem qle_ (R : Rule r w) (hw : 1 < w) {n f g b : Nat} (hf : f < 2 ^ w) (hg : g < 2 ^ w) : sc r w n f (sc r w n g b) = sc r w n (tm r w f g) b := by
 unfold sc
 have h := uQ_ (w := w) (row := (syms w n b).map (tm r w g)) fun x hx => by
  obtain ⟨y,_,rfl⟩ := List.mem_map.mp hx
  exact tm_lt R hg
 rw [List.length_map,syms_length] at h
 rw [h,List.map_map]
 congr 1
 exact List.map_congr_left fun d _ => (tm_assoc R hw hf hg d).symm
theorem qcj_ (R : Rule r w) {n f : Nat} (hf : f < 2 ^ w) (F : Nat -> Nat) : ∀ m,sc r w n f (xsum m F) = xsum m (fun k => sc r w n f (F k))
 | 0 => v6_
 | m + 1 => by rw [xsum,xsum,qkd_ R hf,qcj_ R hf F m]
theorem sumB_range {n : Nat} (f x : Nat -> Nat) : ∀ (m : Nat),sumB r w n (((List.range m).map f).zip ((List.range m).map x)) = xsum m (fun k => sc r w n (f k) (x k))
 | 0 => rfl
 | m + 1 => by
  rw [List.range_succ,List.map_append,List.map_append,List.zip_append (by rw [List.length_map,List.length_map]),sumB_append,sumB_range f x m,xsum]
  congr 1
  exact Nat.zero_xor _
theorem list_range (X : List Nat) : X = (List.range X.length).map fun k => X.getD k 0 := by
 apply List.ext_getElem?
 intro k
 rw [List.getElem?_map]
 by_cases h : k < X.length
 ·rw [List.getElem?_range h,List.getElem?_eq_getElem h]
  show some _ = some (X.getD k 0)
  rw [List.getD_eq_getElem?_getD,List.getElem?_eq_getElem h]
  rfl
 ·rw [List.getElem?_eq_none (by omega),List.getElem?_eq_none (by rw [List.length_range]; omega)]
  rfl
theorem sumB_filter {n : Nat} (b : Nat -> Bool) (f x : Nat -> Nat) : ∀ m,sumB r w n (((List.range m).filter b).map fun k => (f k,x k)) = xsum m (fun k => if b k = true then sc r w n (f k) (x k) else 0)
 | 0 => rfl
 | m + 1 => by
  rw [List.range_succ,List.filter_append,List.map_append,sumB_append,sumB_filter b f x m,xsum]
  congr 1
  by_cases z : b m = true
  ·rw [List.filter_cons_of_pos z,List.filter_nil,if_pos z]
   exact Nat.zero_xor _
  ·rw [List.filter_cons_of_neg z,List.filter_nil,if_neg z]
   rfl
theorem lines_zero (R : Rule r w) (hw : 1 < w) {n m : Nat} {e : Nat -> Nat -> Nat} {x y : Nat -> Nat} : ∀ (M : Nat),(∀ t j,t < M -> j < m -> e t j < 2 ^ w) -> (∀ t,t < M -> y t < 2 ^ w) -> (∀ t,t < M -> xsum m (fun j => sc r w n (e t j) (x j)) = 0) -> xsum m (fun j => sc r w n (dot r w M (fun t => e t j) y) (x j)) = 0
 | 0,_,_,_ => by
  have : xsum m (fun j => sc r w n (dot r w 0 (fun t => e t j) y) (x j)) = xsum m (fun _ => 0) := zs_ m fun j _ => sc_zero
  rw [this,uV_]
 | M + 1,he,hy,h0 => by
  have ih := lines_zero R hw M (fun t j ht hj => he t j (Nat.lt_succ_of_lt ht) hj) (fun t ht => hy t (Nat.lt_succ_of_lt ht)) fun t ht => h0 t (Nat.lt_succ_of_lt ht)
  have e1 : xsum m (fun j => sc r w n (dot r w (M + 1) (fun t => e t j) y) (x j)) = xsum m (fun j => sc r w n (dot r w M (fun t => e t j) y) (x j) ^^^ sc r w n (y M) (sc r w n (e M j) (x j))) := zs_ m fun j hj => by
   have hm := he M j (Nat.lt_succ_self M) hj
   have hyM := hy M (Nat.lt_succ_self M)
   rw [dot,qke_ R (dot_lt R M fun t ht => he t j (Nat.lt_succ_of_lt ht) hj) (tm_lt R hm),qle_ R hw hyM hm,tm_comm R hw hyM hm]
  rw [e1,xsum_xor,ih,Nat.zero_xor,← qcj_ R (hy M (Nat.lt_succ_self M)),h0 M (Nat.lt_succ_self M),v6_]
end GF
namespace L2
open PySem PySem.Spec PyProof.Rows
section
variable {X : Cx}
theorem yl_ : MtR X "int.bit_length" (fun x xs H Q => ∃ i,x = .int i ∧ xs = [] ∧ Q (.int ((Builtin.Int.intBits i : Nat) : Int)) H) := by
 intro pins s σ H x xs v us Q I rx rs h
 obtain ⟨i,rfl,rfl,q⟩ := h
 obtain ⟨t,rfl⟩ := rx
 cases rs
 exact call_int_bit_length ⟨.int _,H,I.tok _,⟨_,rfl⟩,q⟩
theorem yL_ : jz_ X (.builtin "isinstance") (fun xs H Q => ∃ x c t b,xs = [x,.ty c] ∧ TyOf X.K H x t ∧ PySem.W.kitOne X.K t (.type c) = some b ∧ Q (.bl b) H) := by
 intro pins s σ H xs us Q I r h
 obtain ⟨x,c,t,b,rfl,ty,e,q⟩ := h
 obtain ⟨u,w',rfl,ru,rw'⟩ := zr_ r
 cases (show w' = Value.type c from rw')
 exact qem_ I ru ty e fun tk => ⟨.bl b,H,I.tok tk,rfl,q⟩
end
theorem zt_ (K : PySem.W.Frag) (c : String) : PySem.W.kitOne K (.type c) (.type c) = some true := by
 unfold PySem.W.kitOne
 rw [if_pos (by exact beq_self_eq_true _)]
theorem qkf_ {K : PySem.W.Frag} {t c : String} {b : Bool} (h0 : (Value.type t == Value.type c) = false) (h1 : PySem.W.kitMeta c = true) (h2 : (PySem.fastBuiltinMro t).map (fun l => l.contains (Value.type c)) = some b) : PySem.W.kitOne K (.type t) (.type c) = some b := by
 unfold PySem.W.kitOne
 rw [if_neg (by rw [h0]; exact Bool.false_ne_true)]
 show (if PySem.W.kitMeta c = true then PySem.W.subIn K (.type t) (.type c) else none) = some b
 rw [if_pos h1]
 exact h2
theorem qa4_ (K : PySem.W.Frag) : PySem.W.kitOne K (.type "int") (.type "bool") = some false := qkf_ (by decide +kernel) (by decide +kernel) (by decide +kernel)
theorem qdl_ (a b : Nat) : Builtin.bitAnd (a : Int) (b : Int) = ((a &&& b : Nat) : Int) := by
 unfold Builtin.bitAnd
 rw [decide_eq_true (Int.natCast_nonneg a),decide_eq_true (Int.natCast_nonneg b)]
 simp
theorem jA_ (a b : Nat) : Builtin.bitXor (a : Int) (b : Int) = ((a ^^^ b : Nat) : Int) := by
 have h := PyProof.Rows.bitXor_and (a : Int) (b : Int)
 rw [h,qdl_]
 have := GF.xor_add_and a b
 omega
theorem jD_ {r w : Nat} (h1 : 2 ^ w <= r) (h2 : r < 2 ^ (w + 1)) : Builtin.Int.intBits (r : Int) = w + 1 := by
 unfold Builtin.Int.intBits
 have hr : 0 < r := Nat.lt_of_lt_of_le (Nat.two_pow_pos w) h1
 have : ((r : Int) == 0) = false := beq_eq_false_iff_ne.mpr (by omega)
 rw [this]
 have e : (r : Int).natAbs = r := Int.natAbs_natCast r
 rw [e]
 have : r.log2 = w := (Nat.log2_eq_iff (by omega)).mpr ⟨h1,h2⟩
 simp [this]
def Itv (K : PySem.W.Frag) (a : Addr) (xs : List V) : It :=
 ⟨fun i H => SqL K H a xs /\ i < xs.length,fun i H x H' => H' = H /\ xs[xs.length - 1 - i]? = some x,fun i _ => i = xs.length⟩
theorem qgu_ {P : Program} {w : World} {K : PySem.W.Frag} {tg : Expr} (a it : Addr) (xs : List V) : Turn P w K tg (Itv K a xs) [it] it (fun i h => h.IsRevIter it a ((xs.length : Int) - 1 - (i : Int))) where
 mem := by simp
 obj := fun i h st b hb => by
  have e : b = it := by simpa using hb
  subst e
  obtain ⟨o,e,c,d⟩ := st
  exact ⟨o,e,fun v z => by rw [d] at z; cases z⟩
 keep := fun i h h' st k => st.at fun o e => k it (by simp) o e
 item := by
  intro X hP hw hK hc i pins s σ H E I hf st hg
  subst hP hw hK
  obtain ⟨hq,hi⟩ := hg
  obtain ⟨its,rv,p,hz⟩ := I.list hq
  have hx : xs[xs.length - 1 - i]? = some (xs[xs.length - 1 - i]'(by omega)) := List.getElem?_eq_getElem (by omega)
  obtain ⟨u,hu,ru⟩ := rv.get hx
  obtain ⟨f0,f1,f2,f3,f4,f5⟩ := hf it (by simp)
  have e : (xs.length : Int) - 1 - (i : Int) = ((xs.length - 1 - i : Nat) : Int) := by omega
  rw [e] at st
  refine wpAny_pyNext_rev_item st p.isList (x := u) (by simpa using hu) fun h' st' sb => ?_
  have e2 : ((xs.length - 1 - i : Nat) : Int) - 1 = (xs.length : Int) - 1 - ((i + 1 : Nat) : Int) := by omega
  rw [e2] at st'
  have I1 : Inv X pins σ H { s with heap := h' } := I.turned (t' := s.toks) (fun b o hb e => (sb.2 b hb).trans e) f0 f1 f3 f4 f5
  obtain ⟨o,e,c,d⟩ := id st'
  exact ⟨u,rfl,qdc_ (s := { s with heap := h' }) e c d (by decide) ⟨_,H,I1,ru,⟨rfl,hx⟩,st',fun b hb => (hf b hb).1⟩⟩
 done := by
  intro X hP hw hK hc i pins s σ H E I hf st hg
  subst hP hw hK
  have hg : i = xs.length := hg
  obtain ⟨f0,f1,f2,f3,f4,f5⟩ := hf it (by simp)
  have e : (xs.length : Int) - 1 - (i : Int) = -1 := by omega
  rw [e] at st
  exact wpAny_pyNext_rev_end (I.ok.hd hc) st fun h' eb => ⟨rfl,I.turned (t' := s.toks) (fun b o hb e => eb b o hb e) f0 f1 f3 f4 f5⟩
 self := fun _ _ _ _ _ st h => wpAny_pyIter_revIter st h
section
variable {X : Cx} {tg : Expr}
def iRev (K : PySem.W.Frag) (ta : TA) : TI := fun σ H R => ta σ H fun vs H1 => ∃ l xs,vs = [.ref l] /\ SqL K H1 l xs /\ R (Itv K l xs) H1
theorem qae_ : bootBuiltins "reversed" = some (.type "reversed") := by decide +kernel
theorem qkg_ {a : Expr} {ta : TA} {p pos : Pos} (hg : Gl X "reversed") (hm : X.mg "reversed" = none) (ha : PA X [a] ta) (hs : starEach [a] X.env = [(false,eval a X.env)] := by rfl) : PI X tg (.Call (.Name "reversed" p) [a] [] pos) (iRev X.K ta) := by
 intro pins s σ H R I h
 refine Call_ (jY_ I hg hm qae_ (PyProof.Rows.callWith_type1 (thn (ha pos pins s σ H _ I h) fun us s1 ⟨vs,H1,I1,r1,q1⟩ => ?_) hs rfl))
 obtain ⟨l,xs,e,hq,q⟩ := q1
 subst e
 obtain ⟨u,rfl,ru⟩ := jJ_ r1
 cases ru
 obtain ⟨its,rv,pl,hz⟩ := I1.list hq
 refine call_reversed_list pl.isList ?_
 have hsz : ((its.toArray.size : Nat) : Int) - 1 = (xs.length : Int) - 1 - ((0 : Nat) : Int) := by rw [List.size_toArray,← rv.length]; omega
 have st : (s1.heap.push (revObj l ((its.toArray.size : Int) - 1))).IsRevIter s1.heap.objs.size l ((xs.length : Int) - 1 - ((0 : Nat) : Int)) := by
  rw [<- hsz]
  exact ⟨_,Heap.get?_push_size _ rfl,rfl,rfl⟩
 refine wpAny_pyIter_revIter st ?_
 refine ⟨s1.heap.objs.size,[s1.heap.objs.size],_,_,H1,rfl,I1.kept (t' := s1.toks) fun b o e => Heap.get?_push_of_some _ e,qgu_ l _ xs,st,fun b hb => ?_,q⟩
 have e : b = s1.heap.objs.size := by simpa using hb
 subst e
 exact I1.fpOk (Nat.le_refl _) (I1.hok.fresh (Nat.le_refl _))
end
theorem qiw_ {K : PySem.W.Frag} {a : Addr} {xs : List V} {g : TG} {tb : TS} {D : Ends} {σ : St} {H : Hp} (Pv : Nat -> St -> Hp -> Prop) (h0 : Pv 0 σ H) (hl : ∀ i σ H,i <= xs.length -> Pv i σ H -> SqL K H a xs)
  (hs : ∀ i x σ H,i < xs.length -> xs[xs.length - 1 - i]? = some x -> Pv i σ H -> g x σ H fun σ2 H2 => tb { D with nx := Pv (i + 1),ct := Pv (i + 1),bk := D.nx } σ2 H2) (hd : ∀ σ H,Pv xs.length σ H -> D.nx σ H) :
  ∃ W : Nat -> Nat -> St -> Hp -> Prop,(∃ m,W 0 m σ H) /\ ∀ i m σ H,W i m σ H →
   ((Itv K a xs).stop i H /\ D.nx σ H) \/ ((Itv K a xs).go i H /\ ∃ N : St -> Hp -> Prop,(∀ σ' H',N σ' H' -> ∃ m',m' < m /\ W (i + 1) m' σ' H') /\ ∀ x H',(Itv K a xs).yld i H x H' -> g x σ H' fun σ2 H2 => tb { D with nx := N,ct := N,bk := D.nx } σ2 H2) := by
 refine ⟨fun i m σ H => m = xs.length - i /\ i <= xs.length /\ Pv i σ H,⟨xs.length,by simp,Nat.zero_le _,h0⟩,?_⟩
 rintro i m σ H ⟨rfl,hi,p⟩
 have q := hl i σ H hi p
 by_cases hlt : i < xs.length
 ·refine .inr ⟨⟨q,hlt⟩,Pv (i + 1),fun σ' H' p' => ⟨xs.length - (i + 1),by omega,rfl,hlt,p'⟩,fun x H' y => ?_⟩
  obtain ⟨e,y⟩ := y
  subst e
  exact hs i x σ _ hlt y p
 ·have e : i = xs.length := by omega
  exact .inl ⟨e,hd σ H (e ▸ p)⟩
theorem zu_ {env : Env} : ∀ (names : List (Str × NameKind)) (acc : List (Str × Addr)),(∀ n,(n,NameKind.free) ∈ names -> ∃ c,env.cells.lookup n = some c) -> (∀ n c,acc.lookup n = some c -> env.cells.lookup n = some c) →
  ∃ cl : List (Str × Addr),(forIn names acc (fun x r => match x with
    | (name,kind) => if (kind == NameKind.free) = true then do
      let c ← cellOf env name
      pure (ForInStep.yield ((name,c) :: r))
     else pure (ForInStep.yield r)) : Sem (List (Str × Addr))) = pure cl /\ (∀ n c,cl.lookup n = some c -> env.cells.lookup n = some c) ∧
   ∀ n,((n,NameKind.free) ∈ names \/ (acc.lookup n).isSome = true) -> (cl.lookup n).isSome = true
 | [],acc,_,h => ⟨acc,rfl,h,fun n q => q.elim (fun z => by simp at z) id⟩
 | (n,k) :: r,acc,hf,h => by
  rw [List.forIn_cons]
  by_cases hk : k = .free
  ·subst hk
   obtain ⟨c,hc⟩ := hf n List.mem_cons_self
   have e : cellOf env n = pure c := by unfold cellOf; rw [hc]
   obtain ⟨cl,h1,h2,h3⟩ := zu_ r ((n,c) :: acc) (fun m hm => hf m (List.mem_cons_of_mem _ hm)) (fun m d hm => by
    rw [List.lookup_cons] at hm
    cases q : (m == n) with
    | true => rw [q] at hm; cases hm; rw [eq_of_beq q]; exact hc
    | false => rw [q] at hm; exact h m d hm)
   refine ⟨cl,?_,h2,fun m hm => h3 m ?_⟩
   ·show ((if (NameKind.free == NameKind.free) = true then _ else _) >>= _) = _
    rw [if_pos (by decide),e]
    exact h1
   ·rcases hm with hm | hm
    ·rcases List.mem_cons.mp hm with z | z
     ·cases z
      exact .inr (by rw [List.lookup_cons,beq_self_eq_true]; rfl)
     ·exact .inl z
    ·refine .inr ?_
     rw [List.lookup_cons]
     cases q : (m == n) with
     | true => rfl
     | false => exact hm
  ·have hb : (k == NameKind.free) = false := by simpa using hk
   obtain ⟨cl,h1,h2,h3⟩ := zu_ r acc (fun m hm => hf m (List.mem_cons_of_mem _ hm)) h
   refine ⟨cl,?_,h2,fun m hm => h3 m ?_⟩
   ·show ((if (k == NameKind.free) = true then _ else _) >>= _) = _
    rw [if_neg (by rw [hb]; exact Bool.false_ne_true)]
    exact h1
   ·rcases hm with hm | hm
    ·rcases List.mem_cons.mp hm with z | z
     ·cases z
      exact absurd rfl hk
     ·exact .inl z
    ·exact .inr hm
theorem qdm_ {env : Env} {scope : Scope} (hf : ∀ n,(n,NameKind.free) ∈ scope.names -> ∃ c,env.cells.lookup n = some c) :
  ∃ cl : List (Str × Addr),closureFor scope env = pure cl /\ (∀ n c,cl.lookup n = some c -> env.cells.lookup n = some c) /\ ∀ n,(n,NameKind.free) ∈ scope.names -> (cl.lookup n).isSome = true := by
 obtain ⟨cl,h1,h2,h3⟩ := zu_ scope.names [] hf (fun n c h => by simp at h)
 refine ⟨cl,?_,h2,fun n h => h3 n (.inl h)⟩
 unfold closureFor
 have : (forIn scope.names ([] : List (Str × Addr)) (fun x r => match x with
    | (name,kind) => if (kind == NameKind.free) = true then do
      let c ← cellOf env name
      pure (ForInStep.yield ((name,c) :: r))
     else pure (ForInStep.yield r)) : Sem (List (Str × Addr))) = pure cl := h1
 first
  | exact this
  | (rw [show ∀ x : Sem (List (Str × Addr)),(x >>= fun cs => pure cs) = x from fun x => by simp]; exact this)
  | (simp only [bind_pure]; exact this)
theorem j8_ {env : Env} : ∀ (names : List (Str × NameKind)) (x : Str),
  (names.map fun (n,k) => if (k == NameKind.free && env.scope.kind == .function && env.kindOf n == some .cell) = true then (n,NameKind.cell) else (n,k)).lookup x =
   (names.lookup x).map fun k => if (k == NameKind.free && env.scope.kind == .function && env.kindOf x == some .cell) = true then NameKind.cell else k
 | [],x => rfl
 | (n,k) :: r,x => by
  have ih := j8_ (env := env) r x
  show List.lookup x ((if (k == NameKind.free && env.scope.kind == .function && env.kindOf n == some .cell) = true then (n,NameKind.cell) else (n,k)) :: _) = _
  cases q : (x == n) with
  | true =>
   have e := eq_of_beq q
   subst e
   by_cases hc : (k == NameKind.free && env.scope.kind == .function && env.kindOf x == some .cell) = true
   ·rw [if_pos hc]
    simp only [List.lookup_cons,q,Option.map_some,if_pos hc]
   ·rw [if_neg hc]
    simp only [List.lookup_cons,q,Option.map_some,if_neg hc]
  | false =>
   by_cases hc : (k == NameKind.free && env.scope.kind == .function && env.kindOf n == some .cell) = true
   ·rw [if_pos hc]
    simp only [List.lookup_cons,q]
    exact ih
   ·rw [if_neg hc]
    simp only [List.lookup_cons,q]
    exact ih
def qew_ (N : List Str) (osc sc : Scope) (cap : List Nat) (own : List Str) : Bool :=
 (sc.kind == .function) && sc.names.all (fun y => (y.2 != .cell) && ((y.2 != .local) || (sc.names.lookup y.1 == some .local)) && ((y.2 != .free) || ((sc.names.lookup y.1 == some .free) && ((osc.names.lookup y.1 == some .cell) || (osc.names.lookup y.1 == some .free))))) &&
  cap.all (fun i => match N[i]? with | some x => sc.names.lookup x == some .free | none => false) && own.all (fun x => sc.names.lookup x == some .local) && decide ((cap.map (fun i => N.getD i Str.empty) ++ own).Nodup)
structure CompOk (N : List Str) (osc sc : Scope) (cap : List Nat) (own : List Str) : Prop where
 kind : sc.kind = .function
 nocell : ∀ y ∈ sc.names,y.2 ≠ .cell
 locs : ∀ y ∈ sc.names,y.2 = .local -> sc.names.lookup y.1 = some .local
 free1 : ∀ y ∈ sc.names,y.2 = .free -> sc.names.lookup y.1 = some .free
 frees : ∀ y ∈ sc.names,y.2 = .free -> osc.names.lookup y.1 = some .cell \/ osc.names.lookup y.1 = some .free
 capf : ∀ i ∈ cap,∃ x,N[i]? = some x /\ sc.names.lookup x = some .free
 owns : ∀ x ∈ own,sc.names.lookup x = some .local
 nd : (cap.map (fun i => N.getD i Str.empty) ++ own).Nodup
theorem CompOk.of {N : List Str} {osc sc : Scope} {cap : List Nat} {own : List Str} (h : qew_ N osc sc cap own = true) : CompOk N osc sc cap own := by
 unfold qew_ at h
 simp only [Bool.and_eq_true] at h
 obtain ⟨⟨⟨⟨h1,h2⟩,h3⟩,h4⟩,h5⟩ := h
 have all := List.all_eq_true.mp h2
 refine ⟨eq_of_beq h1,fun y hy => ?_,fun y hy e => ?_,fun y hy e => ?_,fun y hy e => ?_,fun i hi => ?_,fun x hx => ?_,of_decide_eq_true h5⟩
 ·have q := all y hy
  simp only [Bool.and_eq_true] at q
  intro e
  rw [e] at q
  exact absurd q.1.1 (by decide)
 ·have q := all y hy
  simp only [Bool.and_eq_true,Bool.or_eq_true] at q
  rcases q.1.2 with z | z
  ·rw [e] at z; exact absurd z (by decide)
  ·exact eq_of_beq z
 ·have q := all y hy
  simp only [Bool.and_eq_true,Bool.or_eq_true] at q
  rcases q.2 with z | z
  ·rw [e] at z; exact absurd z (by decide)
  ·exact eq_of_beq z.1
 ·have q := all y hy
  simp only [Bool.and_eq_true,Bool.or_eq_true] at q
  rcases q.2 with z | z
  ·rw [e] at z; exact absurd z (by decide)
  ·exact z.2.imp eq_of_beq eq_of_beq
 ·have q := List.all_eq_true.mp h3 i hi
  cases e : N[i]? with
  | none => rw [e] at q; cases q
  | some x => rw [e] at q; exact ⟨x,rfl,eq_of_beq q⟩
 ·exact eq_of_beq (List.all_eq_true.mp h4 x hx)
abbrev v7_ (N : List Str) (cap : List Nat) (own : List Str) : List Str := cap.map (fun i => N.getD i Str.empty) ++ own
abbrev ym_ (σ : St) (cap : List Nat) (own : List Str) : St := cap.map (fun i => (σ[i]?).join) ++ own.map fun _ => none
def jG_ (X : Cx) (sc : Scope) (cl : List (Str × Addr)) (C : Addr) (cap : List Nat) (own : List Str) (s₀ : Shared) (H₀ : Hp) (ex : List Addr) : Cx :=
 { X with N := v7_ X.N cap own,s₀ := s₀,H₀ := H₀,env := compEnvC sc cl C X.env,outer := X.stack,stack := X.stack,ex := ex,fn := fun _ => false,pn := [],xe := fun _ _ => False }
section
variable {X : Cx} {pins : List (Addr × Obj)} {σ : St} {H : Hp} {s : Shared} {sc : Scope} {cl : List (Str × Addr)} {cap : List Nat} {own : List Str}
theorem qa5_ (S : CompOk X.N X.env.scope sc cap own) {x : Str} {C : Addr} (h : (compEnvC sc cl C X.env).kindOf x = some .cell \/ (compEnvC sc cl C X.env).kindOf x = some .free) : (x,NameKind.free) ∈ sc.names := by
 have e : (compEnvC sc cl C X.env).kindOf x = (sc.names.lookup x).map fun k => if (k == NameKind.free && X.env.scope.kind == .function && X.env.kindOf x == some .cell) = true then NameKind.cell else k := j8_ sc.names x
 rw [e] at h
 cases q : sc.names.lookup x with
 | none => rw [q] at h; rcases h with z | z <;> cases z
 | some k =>
  have hm := PySem.mem_of_lookup q
  have hk : k = .free := by
   rw [q] at h
   simp only [Option.map_some,Option.some.injEq] at h
   by_cases c : (k == NameKind.free && X.env.scope.kind == .function && X.env.kindOf x == some .cell) = true
   ·simp only [Bool.and_eq_true] at c
    exact eq_of_beq c.1.1
   ·rw [if_neg c] at h
    rcases h with z | z
    ·exact absurd z (S.nocell _ hm)
    ·exact z
  rw [hk] at hm
  exact hm
theorem qex_ (S : CompOk X.N X.env.scope sc cap own) {x : Str} {C : Addr} (h : sc.names.lookup x = some .free) : (compEnvC sc cl C X.env).kindOf x = some .cell \/ (compEnvC sc cl C X.env).kindOf x = some .free := by
 have e : (compEnvC sc cl C X.env).kindOf x = (sc.names.lookup x).map fun k => if (k == NameKind.free && X.env.scope.kind == .function && X.env.kindOf x == some .cell) = true then NameKind.cell else k := j8_ sc.names x
 rw [e,h]
 simp only [Option.map_some,Option.some.injEq]
 split
 ·exact .inl rfl
 ·exact .inr rfl
theorem Inv.block {h' : Heap} {fp : List Addr} {t' : Nat} (I : Inv X pins σ H s) (S : CompOk X.N X.env.scope sc cap own) (hc1 : ∀ n c,cl.lookup n = some c -> X.env.cells.lookup n = some c) (hc2 : ∀ n,(n,NameKind.free) ∈ sc.names -> (cl.lookup n).isSome = true)
  (hf : ∀ b ∈ fp,FpOk X pins H b) (hlt : ∀ b ∈ fp,b < s.heap.objs.size) {m : Str -> Option Value} (hn : h'.Ns s.heap.objs.size m) (k : ∀ b u,s.heap.get? b = some u -> h'.get? b = some u) :
  Inv (jG_ X sc cl s.heap.objs.size cap own s H fp) [] (ym_ σ cap own) H { s with heap := h',toks := t' } := by
 refine ⟨⟨I.mod,S.kind,I.ok.glob,I.ok.blt,Nat.le_refl _,fun x y c a b => I.ok.inj x y c (hc1 x c a) (hc1 y c b),fun x hx => ?_,fun x c z => absurd z (by show ¬ (false = true); decide),I.ok.hd,I.ok.frames,.inl rfl,fun b hb => ⟨Nat.ne_of_lt (hlt b hb),fun x c e => (hf b hb).2.2.2.2.1 x c (hc1 x c e)⟩,I.bs,Nat.le_trans I.ok.bsz I.sz,fun b o e hb => ?_,fun b hb z => ?_,I.stack,I.stkFree⟩,
  rfl,I.bare,Un.kept k,⟨m,hn,fun i x v e1 e2 e3 => ?_⟩,fun x c e => ?_,I.hok.fresh (Nat.le_refl _),fun x c e => I.freeC x c (hc1 x c e),fun p hp => absurd hp (by show p ∉ ([] ++ [] : List (Addr × Obj)); simp),I.hok.kept k,?_⟩
 ·have hm := qa5_ S hx
  exact Option.isSome_iff_exists.mp (hc2 x hm)
 ·rcases (hf b hb).2.2.2.1 with z | z
  ·exact I.ok.noex b o e z
  ·exact absurd (Nat.lt_of_lt_of_le (Heap.lt_size (I.ok.bs b o e).1) z) (Nat.lt_irrefl _)
 ·rcases List.mem_cons.mp (I.stkSub b z) with q | q
  ·exact (hf b hb).2.1 q
  ·exact (hf b hb).2.2.1 q
 ·by_cases hi : i < cap.length
  ·have e1' : (v7_ X.N cap own)[i]? = some x := e1
   have e2' : (ym_ σ cap own)[i]? = some (some v) := e2
   rw [v7_,List.getElem?_append_left (by simpa using hi),List.getElem?_map,List.getElem?_eq_getElem hi] at e1'
   rw [ym_,List.getElem?_append_left (by simpa using hi),List.getElem?_map,List.getElem?_eq_getElem hi] at e2'
   simp only [Option.map_some,Option.some.injEq] at e1' e2'
   obtain ⟨y,hy,hl⟩ := S.capf _ (List.getElem_mem hi)
   have exy : x = y := by
    rw [<- e1',List.getD_eq_getElem?_getD,hy]; rfl
   subst exy
   have ev : σ[cap[i]]? = some (some v) := by
    cases q : σ[cap[i]]? with
    | none => rw [q] at e2'; cases e2'
    | some o => rw [q] at e2'; exact congrArg some e2'
   obtain ⟨m0,hn0,hl0⟩ := I.loc
   have hm := PySem.mem_of_lookup hl
   have hko := S.frees _ hm rfl
   obtain ⟨u,ru,lk⟩ := hl0 _ x v hy ev (hko.elim (fun z => .inr (.inl z)) fun z => .inr (.inr z))
   refine ⟨u,ru,.inr ⟨qex_ S hl,?_⟩⟩
   obtain ⟨c,hc⟩ := Option.isSome_iff_exists.mp (hc2 x hm)
   refine ⟨c,hc,?_⟩
   rcases lk with ⟨z,_⟩ | ⟨_,c',hc',q⟩
   ·have z' : X.env.scope.names.lookup x = some .local := z
    rcases hko with w | w <;> (rw [z'] at w; cases w)
   ·have := hc1 x c hc
    rw [hc'] at this
    cases this
    obtain ⟨o,ho,hd⟩ := q
    exact ⟨o,k _ o ho,hd⟩
  ·have e2' : (ym_ σ cap own)[i]? = some (some v) := e2
   rw [ym_,List.getElem?_append_right (by simpa using hi),List.getElem?_map] at e2'
   cases q : own[i - (cap.map fun i => (σ[i]?).join).length]? with
   | none => rw [q] at e2'; cases e2'
   | some o => rw [q] at e2'; cases e2'
 ·obtain ⟨v,o,ho,hd⟩ := I.cell x c (hc1 x c e)
  exact ⟨v,o,k c o ho,hd⟩
 ·show (ym_ σ cap own).length = (v7_ X.N cap own).length
  simp [ym_,v7_]
def PTs (X : Cx) (ifs : List Expr) (t : TT) : Prop :=
 ∀ (pins : List (Addr × Obj)) (s : Shared) (σ : St) (H : Hp) (Q : Bool -> Hp -> Prop),Inv X pins σ H s -> t σ H Q →
  wpAny (model X.prog X.w) X.A (forIn ifs true fun c r => if r = true then do let ok ← isTrue c X.env (eval c X.env); pure (ForInStep.yield ok) else pure (ForInStep.yield r)) (TP X pins σ Q) X.xe s
def jd_ : TT := fun _ H Q => Q true H
theorem qY_ : PTs X [] jd_ := fun _ _ _ H _ I h => wpAny_tests_nil ⟨H,I,h⟩
theorem jW_ {c : Expr} {t : TT} (h : PT X c t) : PTs X [c] t := fun pins s σ H Q I q => wpAny_tests_one (h pins s σ H Q I q)
end
theorem qey_ {prog : Program} {w : World} {A : Around} {R : Result -> Shared -> Prop} {s : Shared} {elt target iter : Expr} {ifs : List Expr} {scope : Scope} {pos : Pos} {it acc : Value} {env : Env} (I : Nat -> Shared -> Prop)
  (turn : ∀ n s,I n s -> wpAny (model prog w) A (pyNext it) (fun r s₁ => match r with
   | none => R (.ok .next) s₁
   | some v => wpAny (model prog w) A (letOwnedTupleGo target it v) (fun _ s₁ => wpAny (model prog w) A (assign target env v) (fun _ s₂ =>
     wpAny (model prog w) A (forIn ifs true fun c r => if r = true then do let ok ← isTrue c env (eval c env); pure (ForInStep.yield ok) else pure (ForInStep.yield r)) (fun ok s₃ =>
      if ok = true then wpAny (model prog w) A (eval elt env) (fun x s₄ =>
       wpAny (model prog w) A (call (.builtin "list.append") [acc,x]) (fun _ s₅ => ∃ m,m < n ∧ I m s₅) (fun _ _ => False) s₄) (fun _ _ => False) s₃
      else ∃ m,m < n /\ I m s₃) (fun _ _ => False) s₂) (fun _ _ => False) s₁) (fun _ _ => False) s₁) (fun _ _ => False) s)
  (n : Nat) (h : I n s) :
  codeAny (model prog w) A (.compLoop (.ListComp elt [⟨target,iter,ifs,0⟩] scope pos) 0 it acc env) R s := by
 refine codeAny_loop rfl I (fun n s hI => ?_) n h
 show wpAny _ A ((compTurn (.ListComp elt [⟨target,iter,ifs,0⟩] scope pos) 0 it acc env).onRaise (fun x => do noteFrame x env; theTreesLotGoes x)) _ _ s
 refine wpAny_noted ?_
 rw [compTurn_list]
 refine wpAny_noRaise ?_
 refine wpAny_bind (wpAny_standAt (wpAny_bind (wpAny_mono (turn n s hI) (fun r s₁ h₁ => ?_) fun _ _ h' => h')))
 cases r with
 | none => exact wpAny_pure h₁
 | some v =>
  refine wpAny_bind (wpAny_mono h₁ (fun _ s₁ h₁ => ?_) fun _ _ h' => h')
  refine wpAny_bind (wpAny_mono h₁ (fun _ s₂ h₂ => wpAny_bind (wpAny_mono h₂ (fun ok s₃ h₃ => ?_) fun _ _ h' => h')) fun _ _ h' => h')
  cases ok with
  | false => exact wpAny_pure ⟨rfl,h₃⟩
  | true =>
   exact wpAny_bind (wpAny_bind (wpAny_mono h₃ (fun x s₄ h₄ => wpAny_bind (wpAny_mono h₄ (fun _ s₅ h₅ => wpAny_pure (wpAny_pure ⟨rfl,h₅⟩)) fun _ _ h' => h')) fun _ _ h' => h'))
def q3_ (J : It) (g : TG) (tt : TT) (te : TE) (σ0 : St) (H1 : Hp) (D : Addr) (Q : Hp -> Prop) : Prop :=
 ∃ W : Nat -> Nat -> List V -> St -> Hp -> Prop,(∃ m,W 0 m [] σ0 (upd H1 D (.lst []))) /\ ∀ i m ys σ H,W i m ys σ H -> H D = some (.lst ys) ∧
  ((J.stop i H /\ Q H) \/ (J.go i H /\ ∀ x H',J.yld i H x H' -> g x σ H' fun σ2 H2 => tt σ2 H2 fun b H3 =>
   if b = true then te σ2 H3 fun v H4 => H4 D = some (.lst ys) /\ ys.length < sizeLine /\ ∃ m',m' < m /\ W (i + 1) m' (ys ++ [v]) σ2 (upd H4 D (.lst (ys ++ [v])))
   else ∃ m',m' < m /\ W (i + 1) m' ys σ2 H3))
def qdn_ (cap : List Nat) (own : List Str) (wi : TI) (g : TG) (tt : TT) (te : TE) : TE := fun σ H Q => wi σ H fun J H1 => ∀ D,H1 D = none -> q3_ J g tt te (ym_ σ cap own) H1 D (fun H' => Q (.ref D) H')
section
variable {X : Cx} {sc : Scope} {cap : List Nat} {own : List Str} {tg iter elt : Expr} {ifs : List Expr} {pos : Pos} {wi : TI} {g : TG} {tt : TT} {te : TE}
theorem uW_ {use : Option (Value -> Sem Unit)} {ppos : Pos} {pins : List (Addr × Obj)} {s : Shared} {σ : St} {H : Hp} {Q : V -> Hp -> Prop} {R : Value -> Shared -> Prop} (hc : X.calm = true) (S : CompOk X.N X.env.scope sc cap own) (hi : PI X tg iter wi)
  (hg : ∀ cl C s₀ H₀ ex,PG (jG_ X sc cl C cap own s₀ H₀ ex) tg g) (ht : ∀ cl C s₀ H₀ ex,PTs (jG_ X sc cl C cap own s₀ H₀ ex) ifs tt) (he : ∀ cl C s₀ H₀ ex,PE (jG_ X sc cl C cap own s₀ H₀ ex) elt te)
  (hs : ∀ x,foldedSetIterable iter X.env x = pure x) (I : Inv X pins σ H s) (h : qdn_ cap own wi g tt te σ H Q)
  (fin : ∀ (D C : Addr) (H' : Hp) (s' : Shared) (m : Str -> Option Value),Inv X pins σ H' s' -> s'.heap.Ns C m -> FpOk X pins H' C -> Q (.ref D) H' -> compPost (model X.prog X.w) X.A X.xe use R (.ref D) C (.ok .next) s') :
  wpAny (model X.prog X.w) X.A (comprehension (.ListComp elt [⟨tg,iter,ifs,0⟩] sc pos) sc X.env ppos (newList []) false (eval iter X.env) use) R X.xe s := by
 obtain ⟨cl,hclos,hc1,hc2⟩ := qdm_ (env := X.env) (scope := sc) fun n hn => X.env.cells.lookup n |> fun _ => I.ok.has n (S.frees _ hn rfl)
 refine wpAny_comprehension_free (use := use) rfl hs hclos S.kind S.locs (thn (hi pins s σ H _ I h) fun v s1 h1 => thn h1 fun itv s2 h2 => ?_)
 obtain ⟨it,fp,tn,J,H2,rfl,I2,T,st2,f2,q⟩ := h2
 refine wpAny_newObj_type ?_
 obtain ⟨D,hD⟩ : ∃ D,D = s2.heap.objs.size := ⟨_,rfl⟩
 have hfr : H2 D = none := by rw [hD]; exact I2.hok.fresh (Nat.le_refl _)
 have I3 : Inv X pins σ (upd H2 D (.lst [])) { s2 with heap := s2.heap.push { cls := .type "list",dict := none,data := .seq ([] : List Value).toArray } } := by
  rw [hD]
  exact I2.laid (t' := s2.toks) (fun b u e => Heap.get?_push_of_some _ e) (Nat.le_refl _) ⟨Nat.zero_le _,[],_,.nil,Heap.get?_push_size _ rfl⟩
 have fpne : ∀ b ∈ fp,b ≠ D := fun b hb z => by
  obtain ⟨o,ho,_⟩ := T.obj _ _ st2 b hb
  exact absurd (Heap.lt_size ho) (by rw [z,hD]; exact Nat.lt_irrefl _)
 have f3 : ∀ b ∈ fp,FpOk X pins (upd H2 D (.lst [])) b := fun b hb => ⟨by rw [qe_ (fpne b hb)]; exact (f2 b hb).1,(f2 b hb).2⟩
 have st3 : tn 0 (s2.heap.push { cls := .type "list",dict := none,data := .seq ([] : List Value).toArray }) := T.keep _ _ _ st2 fun b _ o e => Heap.get?_push_of_some _ e
 rw [<- hD]
 obtain ⟨W,⟨m0,w0⟩,turn⟩ := q D hfr
 generalize hs3 : ({ s2 with heap := s2.heap.push { cls := .type "list",dict := none,data := .seq ([] : List Value).toArray } } : Shared) = s3 at I3 ⊢
 have st3' : tn 0 s3.heap := by rw [<- hs3]; exact st3
 refine wpAny_newFunctionEnv S.nocell (by intro y hy; simp at hy) (fun h1 hns hsb => ?_) S.kind
 have hk : ∀ b u,s3.heap.get? b = some u -> h1.get? b = some u := fun b u e => hsb.extBut b u (Nat.ne_of_lt (Heap.lt_size e)) (Heap.get?_push_of_some _ e)
 have fplt : ∀ b ∈ fp,b < s3.heap.objs.size := fun b hb => by
  obtain ⟨o,ho,_⟩ := T.obj _ _ st3' b hb
  exact Heap.lt_size ho
 have I4 := I3.block (t' := s3.toks + ([] : List (Str × Value)).length) S hc1 hc2 f3 fplt hns hk
 have fC : ∀ H',H' s3.heap.objs.size = none -> FpOk X pins H' s3.heap.objs.size := fun H' hn => I3.fpOk (Nat.le_refl _) hn
 obtain ⟨C,hC⟩ : ∃ C,C = s3.heap.objs.size := ⟨_,rfl⟩
 rw [<- hC] at I4 fC
 rw [<- hC]
 obtain ⟨Xc,hXc⟩ : ∃ Xc,Xc = jG_ X sc cl C cap own s3 (upd H2 D (.lst [])) fp := ⟨_,rfl⟩
 rw [<- hXc] at I4
 have gX : PG Xc tg g := hXc ▸ hg cl C s3 _ fp
 have tX : PTs Xc ifs tt := hXc ▸ ht cl C s3 _ fp
 have eX : PE Xc elt te := hXc ▸ he cl C s3 _ fp
 have x1 : Xc.prog = X.prog := by rw [hXc]; rfl
 have x2 : Xc.w = X.w := by rw [hXc]; rfl
 have x3 : Xc.K = X.K := by rw [hXc]; rfl
 have x4 : Xc.calm = true := by rw [hXc]; exact hc
 have x5 : Xc.A = X.A := by rw [hXc]; rfl
 have x6 : Xc.env = compEnvC sc cl C X.env := by rw [hXc]; rfl
 have x7 : Xc.xe = fun _ _ => False := by rw [hXc]; rfl
 have stat : ∀ {H' : Hp},(∀ b ∈ fp,H' b = none) -> ∀ b ∈ fp,FpOk Xc [] H' b := fun hn b hb => by
  rw [hXc]
  refine ⟨hn b hb,?_,?_,.inl hb,fun x c e => (f3 b hb).2.2.2.2.1 x c (hc1 x c e),fun p hp => absurd hp (by show p ∉ ([] ++ [] : List (Addr × Obj)); simp)⟩
  ·show b ≠ C
   rw [hC]
   exact Nat.ne_of_lt (fplt b hb)
  ·intro z
   rcases List.mem_cons.mp (I3.stkSub b z) with q | q
   ·exact (f3 b hb).2.1 q
   ·exact (f3 b hb).2.2.1 q
 have st4 : tn 0 h1 := T.keep _ _ _ st3' fun b _ o e => hk b o e
 have loop : ∀ s4 : Shared,s4 = { s3 with heap := h1,toks := s3.toks + ([] : List (Str × Value)).length } →
   codeAny (model X.prog X.w) X.A (.compLoop (.ListComp elt [⟨tg,iter,ifs,0⟩] sc pos) 0 (.ref it) (.ref D) (compEnvC sc cl C X.env)) (compPost (model X.prog X.w) X.A X.xe use R (.ref D) C) s4 := by
  rintro s4 rfl
  refine qey_ (fun n s' => ∃ i σ' H' ys,Inv Xc [] σ' H' s' /\ tn i s'.heap /\ (∀ b ∈ fp,H' b = none) /\ H' D = some (.lst ys) /\ W i n ys σ' H') ?_ m0 ⟨0,_,_,[],I4,st4,fun b hb => (f3 b hb).1,qd_,w0⟩
  rintro n s5 ⟨i,σ5,H5,ys,I5,st5,fr5,hD5,w5⟩
  obtain ⟨_,cases5⟩ := turn i n ys σ5 H5 w5
  rcases cases5 with ⟨stop,qq⟩ | ⟨go,step⟩
  ·have td := T.done Xc x1 x2 x3 x4 i [] s5 σ5 H5 (fun _ _ => False) I5 (stat fr5) st5 stop
   rw [x5] at td
   refine thn td fun r s6 ⟨hr,I6⟩ => ?_
   subst hr
   show compPost _ _ _ _ _ _ _ (.ok .next) s6
   obtain ⟨m6,hn6,_⟩ := id I6.loc
   rw [x6] at hn6
   have u6 := I6.base
   have ok6 := I6.hok
   have fr6 : H5 C = none := by have := I6.free; rw [x6] at this; exact this
   have os6 : s6.os = s3.os := by have := I6.os; rw [hXc] at this; exact this
   rw [hXc] at u6 ok6
   have IX : Inv X pins σ H5 s6 := I3.call' (s' := s6) os6 u6 ok6 I6.bare fun b hb => ⟨(f3 b hb).2.2.2.1,(f3 b hb).2.1,(f3 b hb).2.2.2.2.1,(f3 b hb).2.2.2.2.2⟩
   exact fin D C H5 s6 m6 IX hn6 (fC H5 fr6) qq
  ·have ti := T.item Xc x1 x2 x3 x4 i [] s5 σ5 H5 (fun _ _ => False) I5 (stat fr5) st5 go
   rw [x5] at ti
   refine thn ti fun r s6 ⟨u,hr,h6⟩ => ?_
   subst hr
   refine thn h6 fun _ s7 ⟨x,H7,I7,r7,y7,st7,fr7⟩ => ?_
   have I7' := I7.pinned (stat fr7) (T.obj _ _ st7)
   have a7 := gX _ s7 σ5 H7 x u _ I7' r7 (step x H7 y7)
   rw [x1,x2,x5,x6,x7] at a7
   refine thn a7 fun _ s8 ⟨σ8,H8,I8,q8⟩ => ?_
   have a8 := tX _ s8 σ8 H8 _ I8 q8
   rw [x1,x2,x5,x6,x7] at a8
   have again : ∀ {σ9 : St} {H9 : Hp} {s9 : Shared} {zs : List V} {m' : Nat},Inv Xc ([] ++ zb_ fp s7.heap) σ9 H9 s9 -> H9 D = some (.lst zs) -> m' < n -> W (i + 1) m' zs σ9 H9 →
     ∃ m,m < n /\ ∃ i σ' H' ys,Inv Xc [] σ' H' s9 /\ tn i s9.heap /\ (∀ b ∈ fp,H' b = none) /\ H' D = some (.lst ys) /\ W i m ys σ' H' := fun {σ9 H9 s9 zs m'} I9 hz hm w9 => by
    refine ⟨m',hm,i + 1,σ9,H9,zs,I9.unpinned,T.keep _ _ _ st7 fun b hb o e => (I9.pin (b,o) (List.mem_append_right _ (List.mem_append_right _ (yv_ hb e)))).1,fun b hb => ?_,hz,w9⟩
    obtain ⟨o,e,d⟩ := T.obj _ _ st7 b hb
    exact (I9.pin (b,o) (List.mem_append_right _ (List.mem_append_right _ (yv_ hb e)))).2.1
   refine thn a8 fun ok s9 ⟨H9,I9,q9⟩ => ?_
   cases ok with
   | false =>
    rw [if_neg Bool.false_ne_true] at q9 ⊢
    obtain ⟨m',hm,w9⟩ := q9
    exact again I9 (turn _ _ _ _ _ w9).1 hm w9
   | true =>
    rw [if_pos rfl] at q9 ⊢
    have a9 := eX _ s9 σ8 H9 _ I9 q9
    rw [x1,x2,x5,x6,x7] at a9
    refine thn a9 fun v s10 ⟨y,H10,I10,r10,hD10,hlen,m',hm,w10⟩ => ?_
    have a10 := qJ_ (X := Xc) ([] ++ zb_ fp s7.heap) s10 σ8 H10 (.ref D) [y] (.ref D) [v] (fun _ H11 => H11 = upd H10 D (.lst (ys ++ [y]))) I10 rfl (.cons r10 .nil) ⟨D,ys,y,rfl,rfl,hD10,hlen,rfl⟩
    rw [x1,x2,x5,x7] at a10
    refine thn a10 fun _ s11 ⟨_,H11,I11,_,e11⟩ => ?_
    subst e11
    exact again I11 qd_ hm w10
 exact codeAny_compStart_list (loop _ rfl) (T.self _ 0 _ _ _ st4 (loop _ rfl))
theorem q4_ (S : CompOk X.N X.env.scope sc cap own) (hc : X.calm = true) (hi : PI X tg iter wi)
  (hg : ∀ cl C s₀ H₀ ex,PG (jG_ X sc cl C cap own s₀ H₀ ex) tg g) (ht : ∀ cl C s₀ H₀ ex,PTs (jG_ X sc cl C cap own s₀ H₀ ex) ifs tt) (he : ∀ cl C s₀ H₀ ex,PE (jG_ X sc cl C cap own s₀ H₀ ex) elt te)
  (hs : ∀ x,foldedSetIterable iter X.env x = pure x := by intro _; rfl) : PE X (.ListComp elt [⟨tg,iter,ifs,0⟩] sc pos) (qdn_ cap own wi g tt te) := by
 intro pins s σ H Q I h
 rw [eval_ListComp]
 refine uW_ (use := none) hc S hi hg ht he hs I h fun D C H' s' m I' hn hf q => ?_
 refine ⟨m,hn,fun h' sb => ?_⟩
 obtain ⟨f0,f1,f2,f3,f4,f5⟩ := hf
 exact ⟨.ref D,H',I'.turned (t' := s'.toks) (fun b o hb e => (sb.2 b hb).trans e) f0 f1 f3 f4 f5,rfl,q⟩
theorem jK_ {i : Nat} {x : Str} {pos' spos : Pos} (hN : X.N.Nodup) (hi' : X.N[i]? = some x) (hx : Loc X.env.scope x) (S : CompOk X.N X.env.scope sc cap own) (hc : X.calm = true) (hi : PI X tg iter wi)
  (hg : ∀ cl C s₀ H₀ ex,PG (jG_ X sc cl C cap own s₀ H₀ ex) tg g) (ht : ∀ cl C s₀ H₀ ex,PTs (jG_ X sc cl C cap own s₀ H₀ ex) ifs tt) (he : ∀ cl C s₀ H₀ ex,PE (jG_ X sc cl C cap own s₀ H₀ ex) elt te)
  (hsw : swapsWith (.ListComp elt [⟨tg,iter,ifs,0⟩] sc pos) (some (.Name x pos')) spos.line X.env = pure true := by rfl) (hs : ∀ x,foldedSetIterable iter X.env x = pure x := by intro _; rfl)
  (hf : X.fn x = true \/ X.env.scope.names.lookup x = some .local := by first | exact .inl rfl | exact .inr rfl | assumption) :
  PS X (.Assign [.Name x pos'] (.ListComp elt [⟨tg,iter,ifs,0⟩] sc pos) spos) (fun D σ H => qdn_ cap own wi g tt te σ H fun v H1 => D.nx (σ.set i (some v)) H1) := by
 intro pins s σ H D I h
 rw [exec_Assign_Name_used _ _ _ _ hsw]
 refine wpAny_bind (wpAny_standAt (wpAny_bind ?_))
 show wpAny _ X.A (do let _ ← comprehension (.ListComp elt [⟨tg,iter,ifs,0⟩] sc pos) sc X.env _ (newList []) false (eval iter X.env) (some (assign (.Name x pos') X.env))) _ _ s
 refine wpAny_bind (thn (uW_ (use := some (assign (.Name x pos') X.env)) (R := fun _ s' => SP X pins D .next s') hc S hi hg ht he hs I h fun A C H' s' m I' hn hfp q => ?_) (fun _ s' hq => wpAny_pure (wpAny_pure hq)))
 obtain ⟨f0,f1,f2,f3,f4,f5⟩ := hfp
 refine wpAny_assign_Name (uH_ I' hN hi' hx (v := .ref A) rfl (fun s'' I'' ⟨a,sa,ha⟩ => ?_) hf)
 have hCa : C ≠ a := by
  rcases ha with z | z
  ·rw [z]; exact f1
  ·exact fun w => f4 x a z w.symm
 refine ⟨m,hn.sameBut sa hCa,fun h' sb => ?_⟩
 exact ⟨_,H',I''.turned (t' := s''.toks) (fun b o hb e => (sb.2 b hb).trans e) f0 f1 f3 f4 f5,q⟩
end
section
variable {X : Cx} {pins : List (Addr × Obj)} {σ : St} {H : Hp} {s : Shared} {h' : Heap}
theorem Inv.turnedUp {fp : List Addr} {a : Addr} {o : HO} {t' : Nat} (I : Inv X pins σ H s) (hf : ∀ b ∈ fp,FpOk X pins H b) (k : ∀ b u,b ∉ fp -> s.heap.get? b = some u -> h'.get? b = some u) (ha : s.heap.objs.size <= a)
  (new : ObjOk X.prog X.w (upd H a o) h' a o) : Inv X pins σ (upd H a o) { s with heap := h',toks := t' } := by
 have ne : ∀ b u,s.heap.get? b = some u -> b ≠ a := fun b u e => Nat.ne_of_lt (Nat.lt_of_lt_of_le (Heap.lt_size e) ha)
 have nH : H a = none := I.hok.fresh ha
 have nb : ∀ b u,H b = some u -> b ≠ a := fun b u e z => by rw [z,nH] at e; cases e
 have nf : ∀ b u,H b = some u -> b ∉ fp := fun b u e z => by rw [(hf b z).1] at e; cases e
 refine I.step (g' := s.gens) (d' := s.drawn) (ch := fp) (fun b hb => ⟨(hf b hb).2.2.2.1,(hf b hb).2.1,(hf b hb).2.2.2.2.1,(hf b hb).2.2.2.2.2⟩) (fun b o _ _ hc e _ => k b o hc e) (fun b o _ _ hc e _ => ⟨o.slots,k b o hc e⟩)
  (fun b o _ e n => by rw [qe_ (ne b o e)]; exact n) (fun b o hc e => ?_) (fun b xs e => by rw [qe_ (nb b _ e)]; exact e) (fun b o u e => by rw [qe_ (nb b _ e)]; exact e) (fun b ps e => ⟨#[],by rw [qe_ (nb b _ e),e]; simp⟩)
  (fun m hm => by
   obtain ⟨oL,es,ep,ho,r⟩ := hm
   exact ⟨oL,es,ep,k _ oL (fun z => (hf _ z).2.1 rfl) ho,r⟩) (fun b u e => ?_) I.bare
 ·exact ⟨o,k b o hc e⟩
 ·by_cases hb : b = a
  ·subst hb; rw [qd_] at e; cases e; exact new
  ·rw [qe_ hb] at e
   refine (I.hok b u e).stay (fun c v hc q => k c v ?_ q) (fun c q => by rw [qe_ (nb c _ q)]; exact q) fun c xs q => by rw [qe_ (nb c _ q)]; exact q
   rcases hc with z | z
   ·rw [z]; exact nf b u e
   ·exact nf c _ z
theorem Inv.turnedL {fp : List Addr} {t' : Nat} (I : Inv X pins σ H s) (hf : ∀ b ∈ fp,FpOk X pins H b) (k : ∀ b u,b ∉ fp -> s.heap.get? b = some u -> h'.get? b = some u) : Inv X pins σ H { s with heap := h',toks := t' } := by
 have nf : ∀ b u,H b = some u -> b ∉ fp := fun b u e z => by rw [(hf b z).1] at e; cases e
 refine I.step (g' := s.gens) (d' := s.drawn) (ch := fp) (fun b hb => ⟨(hf b hb).2.2.2.1,(hf b hb).2.1,(hf b hb).2.2.2.2.1,(hf b hb).2.2.2.2.2⟩) (fun b o _ _ hc e _ => k b o hc e) (fun b o _ _ hc e _ => ⟨o.slots,k b o hc e⟩)
  (fun b o _ e n => n) (fun b o hc e => ⟨o,k b o hc e⟩) (fun b xs e => e) (fun b o u e => e) (fun b ps e => ⟨#[],by rw [e]; simp⟩)
  (fun m hm => by
   obtain ⟨oL,es,ep,ho,r⟩ := hm
   exact ⟨oL,es,ep,k _ oL (fun z => (hf _ z).2.1 rfl) ho,r⟩) (fun b u e => ?_) I.bare
 refine (I.hok b u e).stay (fun c v hc q => k c v ?_ q) (fun _ q => q) fun _ _ q => q
 rcases hc with z | z
 ·rw [z]; exact nf b u e
 ·exact nf c _ z
end
def Itz (K : PySem.W.Frag) (l1 l2 : Addr) (xs ys : List V) : It :=
 ⟨fun i H => SqL K H l1 xs /\ SqL K H l2 ys /\ i < xs.length /\ i < ys.length,fun i H x H' => ∃ T u v,H T = none /\ x = .ref T /\ xs[i]? = some u /\ ys[i]? = some v /\ H' = upd H T (.tup [u,v]),
  fun i H => SqL K H l1 xs /\ SqL K H l2 ys /\ (xs.length <= i \/ ys.length <= i)⟩
structure Five (z TI TO i1 i2 : Addr) : Prop where
 TIz : TI ≠ z
 TOz : TO ≠ z
 i1z : i1 ≠ z
 i2z : i2 ≠ z
 TITO : TI ≠ TO
 TIi1 : TI ≠ i1
 TIi2 : TI ≠ i2
 TOi1 : TO ≠ i1
 TOi2 : TO ≠ i2
 i12 : i1 ≠ i2
theorem qix_ (n : Nat) : Five (n + 4) (n + 2) (n + 3) n (n + 1) :=
 ⟨(by omega : (n + 2 : Nat) ≠ n + 4),(by omega : (n + 3 : Nat) ≠ n + 4),(by omega : (n : Nat) ≠ n + 4),(by omega : (n + 1 : Nat) ≠ n + 4),(by omega : (n + 2 : Nat) ≠ n + 3),(by omega : (n + 2 : Nat) ≠ n),
  (by omega : (n + 2 : Nat) ≠ n + 1),(by omega : (n + 3 : Nat) ≠ n),(by omega : (n + 3 : Nat) ≠ n + 1),(by omega : (n : Nat) ≠ n + 1)⟩
theorem jy_ {h : Heap} {a b : Addr} {x y : Array Value} {o : Obj} {T : String} (hl : h.IsList a x) (ho : h.get? b = some o) (hc : o.cls = .type T) (hT : T ≠ "list") : a ≠ b := by
 rintro rfl
 obtain ⟨o',ho',hc',_⟩ := hl
 rw [ho] at ho'
 cases ho'
 rw [hc] at hc'
 cases hc'
 exact hT rfl
theorem Five.apart {h : Heap} {z TI TO i1 i2 l1 l2 : Addr} {a b c d : Value} {k1 k2 : Nat} {xs ys : Array Value} (F : Five z TI TO i1 i2) (hz : PySem.IsZip h z TI TO a) (hTO : PySem.IsPair h TO b c) (h1 : h.IsListIter i1 l1 k1) (h2 : h.IsListIter i2 l2 k2)
  (hl1 : h.IsList l1 xs) (hl2 : h.IsList l2 ys) : PySem.ZipApart z TI TO i1 i2 l1 l2 := by
 obtain ⟨o1,e1,c1,_⟩ := id h1
 obtain ⟨o2,e2,c2,_⟩ := id h2
 exact ⟨F.TIz,F.TOz,F.i1z,F.i2z,F.TITO,F.TIi1,F.TIi2,F.TOi1,F.TOi2,F.i12,
  jy_ (y := xs) hl1 hz rfl (by decide),jy_ (y := xs) hl1 hTO rfl (by decide),jy_ (y := xs) hl1 e1 c1 (by decide),jy_ (y := xs) hl1 e2 c2 (by decide),
  jy_ (y := xs) hl2 hz rfl (by decide),jy_ (y := xs) hl2 hTO rfl (by decide),jy_ (y := xs) hl2 e1 c1 (by decide),jy_ (y := xs) hl2 e2 c2 (by decide)⟩
theorem qgv_ {P : Program} {w : World} {K : PySem.W.Frag} {elts : List Expr} {x1} {tp : Pos} {z TI TO i1 i2 l1 l2 : Addr} (F : Five z TI TO i1 i2) (xs ys : List V) :
  Turn P w K (.Tuple elts x1 tp) (Itz K l1 l2 xs ys) [z,TI,TO,i1,i2] z (fun i h => PySem.IsZip h z TI TO .none /\ PySem.IsPair h TI (.ref i1) (.ref i2) /\ (∃ a b,PySem.IsPair h TO a b) /\ h.IsListIter i1 l1 i /\ h.IsListIter i2 l2 i) where
 mem := by simp
 obj := fun i h st b hb => by
  obtain ⟨hz,hTI,⟨a,c,hTO⟩,⟨o1,e1,c1,d1⟩,o2,e2,c2,d2⟩ := st
  simp only [List.mem_cons,List.not_mem_nil,or_false] at hb
  rcases hb with rfl | rfl | rfl | rfl | rfl
  ·exact ⟨_,hz,fun v q => by have q' : Data.fields _ = Data.cell v := q; cases q'⟩
  ·exact ⟨_,hTI,fun v q => by have q' : Data.seq _ _ = Data.cell v := q; cases q'⟩
  ·exact ⟨_,hTO,fun v q => by have q' : Data.seq _ _ = Data.cell v := q; cases q'⟩
  ·exact ⟨o1,e1,fun v q => by rw [d1] at q; cases q⟩
  ·exact ⟨o2,e2,fun v q => by rw [d2] at q; cases q⟩
 keep := fun i h h' st k => by
  obtain ⟨hz,hTI,⟨a,b,hTO⟩,h1,h2⟩ := st
  exact ⟨k z (by simp) _ hz,k TI (by simp) _ hTI,⟨a,b,k TO (by simp) _ hTO⟩,h1.at fun o e => k i1 (by simp) o e,h2.at fun o e => k i2 (by simp) o e⟩
 item := by
  intro X hP hw hK hc i pins s σ H E I hf st hg
  subst hP hw hK
  obtain ⟨hz,hTI,⟨a,b,hTO⟩,h1,h2⟩ := st
  obtain ⟨q1,q2,b1,b2⟩ := hg
  obtain ⟨its1,rv1,p1,_⟩ := I.list q1
  obtain ⟨its2,rv2,p2,_⟩ := I.list q2
  have hx : xs[i]? = some xs[i] := List.getElem?_eq_getElem b1
  have hy : ys[i]? = some ys[i] := List.getElem?_eq_getElem b2
  obtain ⟨u,hu,ru⟩ := rv1.get hx
  obtain ⟨v,hv,rv⟩ := rv2.get hy
  have lt : ∀ {c o},s.heap.get? c = some o -> c ≠ s.heap.objs.size := fun e => Nat.ne_of_lt (Heap.lt_size e)
  refine PySem.wpAny_pyNext_zip_item (F.apart (d := .none) hz hTO h1 h2 p1.isList p2.isList) hz hTI hTO h1 h2 p1.isList p2.isList (x := u) (y := v) (by simpa using hu) (by simpa using hv) fun h' a1 a2 a3 a4 a5 a6 hk => ?_
  refine ⟨_,rfl,PySem.wpAny_letOwnedTupleGo_zip a1 fun h'' hz'' sb => ?_⟩
  have zne : s.heap.objs.size ≠ z := (lt hz).symm
  have kk : ∀ b u,b ∉ [z,TI,TO,i1,i2] -> s.heap.get? b = some u -> h''.get? b = some u := fun b u hb e => by
   simp only [List.mem_cons,List.not_mem_nil,or_false,not_or] at hb
   exact sb.extBut _ _ hb.1 (hk b u hb.1 hb.2.2.1 hb.2.2.2.1 hb.2.2.2.2 e)
  refine ⟨.ref s.heap.objs.size,upd H s.heap.objs.size (.tup [xs[i],ys[i]]),I.turnedUp (t' := s.toks) hf kk (Nat.le_refl _) ⟨by show 2 <= sizeLine; decide,[u,v],.cons ru (.cons rv .nil),⟨_,sb.extBut _ _ zne a5,rfl,_,rfl⟩⟩,rfl,
   ⟨_,_,_,I.hok.fresh (Nat.le_refl _),rfl,hx,hy,rfl⟩,⟨hz'',sb.extBut _ _ F.TIz (hk _ _ F.TIz F.TITO F.TIi1 F.TIi2 hTI),⟨_,_,sb.extBut _ _ F.TOz a2⟩,a3.at fun o e => sb.extBut _ _ F.i1z e,a4.at fun o e => sb.extBut _ _ F.i2z e⟩,fun b hb => ?_⟩
  have : b ≠ s.heap.objs.size := by
   obtain ⟨o1,e1,_⟩ := id h1
   obtain ⟨o2,e2,_⟩ := id h2
   simp only [List.mem_cons,List.not_mem_nil,or_false] at hb
   rcases hb with rfl | rfl | rfl | rfl | rfl
   ·exact lt hz
   ·exact lt hTI
   ·exact lt hTO
   ·exact lt e1
   ·exact lt e2
  rw [qe_ this]
  exact (hf b hb).1
 done := by
  intro X hP hw hK hc i pins s σ H E I hf st hg
  subst hP hw hK
  obtain ⟨hz,hTI,⟨a,b,hTO⟩,h1,h2⟩ := st
  obtain ⟨q1,q2,hend⟩ := hg
  obtain ⟨its1,rv1,p1,_⟩ := I.list q1
  obtain ⟨its2,rv2,p2,_⟩ := I.list q2
  have l1 := rv1.length
  have l2 := rv2.length
  refine PySem.wpAny_pyNext_zip_end (I.ok.hd hc) (F.apart (d := .none) hz hTO h1 h2 p1.isList p2.isList) hz hTI hTO h1 h2 p1.isList p2.isList ?_ fun h' hk => ⟨rfl,I.turnedL (t' := s.toks) hf fun b u hb e => ?_⟩
  ·rcases hend with q | q
   ·exact .inl (by rw [Array.getElem?_eq_none]; simp; omega)
   ·exact .inr (by rw [Array.getElem?_eq_none]; simp; omega)
  ·simp only [List.mem_cons,List.not_mem_nil,or_false,not_or] at hb
   exact hk b u hb.1 hb.2.2.1 hb.2.2.2.1 hb.2.2.2.2 e
 self := fun _ _ _ _ _ st h => PySem.wpAny_pyIter_zip st.1 h
section
variable {X : Cx}
def iZip (K : PySem.W.Frag) (ta : TA) : TI := fun σ H R => ta σ H fun vs H1 => ∃ l1 l2 xs ys,vs = [.ref l1,.ref l2] /\ SqL K H1 l1 xs /\ SqL K H1 l2 ys /\ R (Itz K l1 l2 xs ys) H1
theorem qgw_ : bootBuiltins "zip" = some (.type "zip") := by decide +kernel
theorem zU_ {elts : List Expr} {x1} {tp : Pos} {a b : Expr} {ta : TA} {p pos : Pos} (hg : Gl X "zip") (hm : X.mg "zip" = none) (ha : PA X [a,b] ta) (hs : starEach [a,b] X.env = [(false,eval a X.env),(false,eval b X.env)] := by rfl) (hs2 : starEach [b] X.env = [(false,eval b X.env)] := by rfl) :
  PI X (.Tuple elts x1 tp) (.Call (.Name "zip" p) [a,b] [] pos) (iZip X.K ta) := by
 intro pins s σ H R I h
 refine Call_ (jY_ I hg hm qgw_ (PyProof.Rows.callWith_type1 (thn (ha pos pins s σ H _ I h) fun us s1 ⟨vs,H1,I1,r1,q1⟩ => ?_) (by rw [hs,hs2]) (by rw [hs2]; rfl)))
 obtain ⟨l1,l2,xs,ys,e,h1,h2,q⟩ := q1
 subst e
 obtain ⟨u,v,rfl,ru,rv⟩ := zr_ r1
 cases ru
 cases rv
 obtain ⟨its1,rv1,p1,_⟩ := I1.list h1
 obtain ⟨its2,rv2,p2,_⟩ := I1.list h2
 refine PySem.call_zip_2 p1.isList p2.isList fun h' a1 a2 a3 a4 a5 a6 a7 => ?_
 refine PySem.wpAny_pyIter_zip a1 ?_
 refine ⟨s1.heap.objs.size + 4,[s1.heap.objs.size + 4,s1.heap.objs.size + 2,s1.heap.objs.size + 3,s1.heap.objs.size,s1.heap.objs.size + 1],_,_,H1,rfl,I1.kept (t' := s1.toks) fun b o e => a7 b o e,qgv_ (qix_ _) xs ys,
  ⟨a1,a2,⟨_,_,a3⟩,a4,a5⟩,fun b hb => ?_,q⟩
 have : s1.heap.objs.size <= b := by
  simp only [List.mem_cons,List.not_mem_nil,or_false] at hb
  rcases hb with rfl | rfl | rfl | rfl | rfl
  ·exact Nat.le_add_right _ 4
  ·exact Nat.le_add_right _ 2
  ·exact Nat.le_add_right _ 3
  ·exact Nat.le_refl _
  ·exact Nat.le_add_right _ 1
 exact I1.fpOk this (I1.hok.fresh this)
end
theorem uq_ {K : PySem.W.Frag} {l1 l2 : Addr} {xs ys : List V} {g : TG} {tb : TS} {D : Ends} {σ : St} {H : Hp} (Pv : Nat -> St -> Hp -> Prop) (h0 : Pv 0 σ H) (hl : ∀ i σ H,i <= xs.length -> Pv i σ H -> SqL K H l1 xs /\ SqL K H l2 ys) (he : xs.length = ys.length)
  (hs : ∀ i u v T σ H,i < xs.length -> xs[i]? = some u -> ys[i]? = some v -> H T = none -> Pv i σ H -> g (.ref T) σ (upd H T (.tup [u,v])) fun σ2 H2 => tb { D with nx := Pv (i + 1),ct := Pv (i + 1),bk := D.nx } σ2 H2) (hd : ∀ σ H,Pv xs.length σ H -> D.nx σ H) :
  ∃ W : Nat -> Nat -> St -> Hp -> Prop,(∃ m,W 0 m σ H) /\ ∀ i m σ H,W i m σ H →
   ((Itz K l1 l2 xs ys).stop i H /\ D.nx σ H) \/ ((Itz K l1 l2 xs ys).go i H /\ ∃ N : St -> Hp -> Prop,(∀ σ' H',N σ' H' -> ∃ m',m' < m /\ W (i + 1) m' σ' H') /\ ∀ x H',(Itz K l1 l2 xs ys).yld i H x H' -> g x σ H' fun σ2 H2 => tb { D with nx := N,ct := N,bk := D.nx } σ2 H2) := by
 refine ⟨fun i m σ H => m = xs.length - i /\ i <= xs.length /\ Pv i σ H,⟨xs.length,by simp,Nat.zero_le _,h0⟩,?_⟩
 rintro i m σ H ⟨rfl,hi,p⟩
 obtain ⟨q1,q2⟩ := hl i σ H hi p
 by_cases hlt : i < xs.length
 ·refine .inr ⟨⟨q1,q2,hlt,by omega⟩,Pv (i + 1),fun σ' H' p' => ⟨xs.length - (i + 1),by omega,rfl,hlt,p'⟩,fun x H' y => ?_⟩
  obtain ⟨T,u,v,hT,rfl,hu,hv,rfl⟩ := y
  exact hs i u v T σ H hlt hu hv hT p
 ·have e : i = xs.length := by omega
  exact .inl ⟨⟨q1,q2,.inl (by omega)⟩,hd σ H (e ▸ p)⟩
inductive Dt where
 | non | bl (b : Bool) | int (i : Int) | str (x : Str) | lst (l : List Dt) | tup (l : List Dt)
mutual
def eqD : Dt -> Dt -> Bool
 | .non,.non => true
 | .bl a,.bl b => a == b
 | .bl a,.int b => (if a then 1 else 0) == b
 | .int a,.bl b => a == (if b then 1 else 0)
 | .int a,.int b => a == b
 | .str a,.str b => a == b
 | .lst a,.lst b => eqDs a b
 | .tup a,.tup b => eqDs a b
 | _,_ => false
def eqDs : List Dt -> List Dt -> Bool
 | [],[] => true
 | a :: as,b :: bs => eqD a b && eqDs as bs
 | [],_ :: _ => false
 | _ :: _,[] => false
end
mutual
def depD : Dt -> Nat
 | .lst a => yg_ a + 1
 | .tup a => yg_ a + 1
 | _ => 0
def yg_ : List Dt -> Nat
 | [] => 0
 | a :: as => max (depD a) (yg_ as)
end
mutual
def Sees (K : PySem.W.Frag) (H : Hp) : V -> Dt -> Prop
 | v,.non => v = .non
 | v,.bl b => v = .bl b
 | v,.int i => v = .int i
 | v,.str x => v = .str x
 | v,.lst ds => ∃ a xs,v = .ref a /\ SqL K H a xs /\ SeesL K H xs ds
 | v,.tup ds => ∃ a xs,v = .ref a /\ SqT K H a xs /\ SeesL K H xs ds
def SeesL (K : PySem.W.Frag) (H : Hp) : List V -> List Dt -> Prop
 | xs,[] => xs = []
 | xs,d :: ds => ∃ v vs,xs = v :: vs /\ Sees K H v d /\ SeesL K H vs ds
end
theorem vx_ : ∀ {a b : List Dt},eqDs a b = true -> a.length = b.length
 | [],[],_ => rfl
 | x :: a,y :: b,h => by
  rw [eqDs,Bool.and_eq_true] at h
  rw [List.length_cons,List.length_cons,vx_ h.2]
 | [],_ :: _,h => by rw [eqDs] at h; cases h
 | _ :: _,[],h => by rw [eqDs] at h; cases h
theorem SeesL.length {K : PySem.W.Frag} {H : Hp} : ∀ {ds : List Dt} {xs : List V},SeesL K H xs ds -> xs.length = ds.length
 | [],xs,h => by rw [SeesL] at h; rw [h]; rfl
 | d :: ds,xs,h => by
  rw [SeesL] at h
  obtain ⟨v,vs,rfl,_,t⟩ := h
  rw [List.length_cons,List.length_cons,SeesL.length t]
theorem SeesL.get {K : PySem.W.Frag} {H : Hp} : ∀ {ds : List Dt} {xs : List V} (j : Nat) (h1 : j < xs.length) (h2 : j < ds.length),SeesL K H xs ds -> Sees K H xs[j] ds[j]
 | d :: ds,xs,j,h1,h2,h => by
  rw [SeesL] at h
  obtain ⟨v,vs,rfl,s,t⟩ := h
  cases j with
  | zero => exact s
  | succ j => exact SeesL.get j (by simpa using h1) (by simpa using h2) t
theorem yM_ : ∀ {a b : List Dt},a.length = b.length -> eqDs a b = (List.range a.length).all fun j => eqD (a.getD j .non) (b.getD j .non)
 | [],[],_ => by rw [eqDs]; rfl
 | x :: a,y :: b,h => by
  have ih := yM_ (a := a) (b := b) (by simpa using h)
  rw [eqDs,ih,List.length_cons,List.range_succ_eq_map,List.all_cons,List.all_map]
  rfl
theorem qck_ : ∀ {ds : List Dt} {j : Nat} (h : j < ds.length),depD ds[j] <= yg_ ds
 | d :: ds,j,h => by
  rw [yg_]
  cases j with
  | zero => exact Nat.le_max_left _ _
  | succ j =>
   have h' : j < ds.length := by simpa using h
   exact Nat.le_trans (qck_ (ds := ds) (j := j) h') (Nat.le_max_right _ _)
mutual
theorem jU_ : ∀ d : Dt,eqD d d = true
 | .non => by rw [eqD]
 | .bl b => by rw [eqD]; exact beq_self_eq_true _
 | .int b => by rw [eqD]; exact beq_self_eq_true _
 | .str b => by rw [eqD]; exact beq_self_eq_true _
 | .lst l => by rw [eqD]; exact zV_ l
 | .tup l => by rw [eqD]; exact zV_ l
theorem zV_ : ∀ l : List Dt,eqDs l l = true
 | [] => by rw [eqDs]
 | d :: l => by rw [eqDs,jU_ d,zV_ l]; rfl
end
section
variable {X : Cx} {pins : List (Addr × Obj)} {σ : St} {H : Hp} {s : Shared}
mutual
theorem qgx_ (I : Inv X pins σ H s) : ∀ {d d' : Dt} {v : V},Sees X.K H v d -> Sees X.K H v d' -> d = d'
 | .non,d',v,h,h' => by
  rw [Sees] at h; subst h
  cases d' <;> rw [Sees] at h' <;> first | (obtain ⟨a,xs,z,_⟩ := h'; cases z) | rfl | cases h'
 | .bl b,d',v,h,h' => by
  rw [Sees] at h; subst h
  cases d' <;> rw [Sees] at h' <;> first | (obtain ⟨a,xs,z,_⟩ := h'; cases z) | (cases h'; rfl) | cases h'
 | .int b,d',v,h,h' => by
  rw [Sees] at h; subst h
  cases d' <;> rw [Sees] at h' <;> first | (obtain ⟨a,xs,z,_⟩ := h'; cases z) | (cases h'; rfl) | cases h'
 | .str b,d',v,h,h' => by
  rw [Sees] at h; subst h
  cases d' <;> rw [Sees] at h' <;> first | (obtain ⟨a,xs,z,_⟩ := h'; cases z) | (cases h'; rfl) | cases h'
 | .lst ds,d',v,h,h' => by
  rw [Sees] at h
  obtain ⟨a,xs,rfl,q,t⟩ := h
  cases d' with
  | lst ds' =>
   rw [Sees] at h'
   obtain ⟨a',xs',z,q',t'⟩ := h'
   cases z
   have := I.list_inj q q'
   subst this
   rw [yn_ I t t']
  | tup ds' =>
   rw [Sees] at h'
   obtain ⟨a',xs',z,q',t'⟩ := h'
   cases z
   obtain ⟨its,_,p,_⟩ := I.list q
   obtain ⟨its',_,p',_⟩ := I.tuple q'
   exact absurd rfl (SeqAt.ne_of_list_tuple p.isList p')
  | _ => rw [Sees] at h'; cases h'
 | .tup ds,d',v,h,h' => by
  rw [Sees] at h
  obtain ⟨a,xs,rfl,q,t⟩ := h
  cases d' with
  | tup ds' =>
   rw [Sees] at h'
   obtain ⟨a',xs',z,q',t'⟩ := h'
   cases z
   have := I.tuple_inj q q'
   subst this
   rw [yn_ I t t']
  | lst ds' =>
   rw [Sees] at h'
   obtain ⟨a',xs',z,q',t'⟩ := h'
   cases z
   obtain ⟨its,_,p,_⟩ := I.tuple q
   obtain ⟨its',_,p',_⟩ := I.list q'
   exact absurd rfl (SeqAt.ne_of_list_tuple p'.isList p)
  | _ => rw [Sees] at h'; cases h'
theorem yn_ (I : Inv X pins σ H s) : ∀ {ds ds' : List Dt} {xs : List V},SeesL X.K H xs ds -> SeesL X.K H xs ds' -> ds = ds'
 | [],ds',xs,h,h' => by
  rw [SeesL] at h; subst h
  cases ds' with
  | nil => rfl
  | cons d' ds' => rw [SeesL] at h'; obtain ⟨_,_,z,_⟩ := h'; cases z
 | d :: ds,ds',xs,h,h' => by
  rw [SeesL] at h
  obtain ⟨v,vs,rfl,q,t⟩ := h
  cases ds' with
  | nil => rw [SeesL] at h'; cases h'
  | cons d' ds' =>
   rw [SeesL] at h'
   obtain ⟨v',vs',z,q',t'⟩ := h'
   cases z
   rw [qgx_ I q q',yn_ I t t']
end
def qdo_ : Dt -> Bool
 | .lst _ => false
 | .tup _ => false
 | _ => true
theorem qcl_ (I : Inv X pins σ H s) {A : Around} {d d' : Dt} {v v' : V} {u u' : Value} (h : Sees X.K H v d) (h' : Sees X.K H v' d') (r : RelV v u) (r' : RelV v' u') (f : qdo_ d = true) (hu : A.units < cLine) : SeqAt.EqAt A s u u' (eqD d d') := by
 have ends : ∀ (T : SeqAt.EqAt A s u u' (eqD d d')),SeqAt.EqAt A s u u' (eqD d d') := fun T => T
 cases d with
 | lst l => exact absurd (show false = true from f) Bool.false_ne_true
 | tup l => exact absurd (show false = true from f) Bool.false_ne_true
 | non =>
  simp only [Sees] at h; subst h; cases r
  cases d' with
  | lst l => simp only [Sees] at h'; obtain ⟨a,xs,rfl,q,t⟩ := h'; cases r'; obtain ⟨its,rv,p,_⟩ := I.list q; simp only [eqD]; exact SeqAt.EqAt.none_list p.isList hu
  | tup l => simp only [Sees] at h'; obtain ⟨a,xs,rfl,q,t⟩ := h'; cases r'; obtain ⟨its,rv,p,_⟩ := I.tuple q; simp only [eqD]; exact SeqAt.EqAt.none_tuple p hu
  | non => simp only [Sees] at h'; subst h'; simp only [eqD]; exact jg_ (y := .non) (x := .non) rfl r' rfl rfl
  | bl b => simp only [Sees] at h'; subst h'; simp only [eqD]; exact jg_ (y := .non) (x := .bl b) rfl r' rfl rfl
  | int b => simp only [Sees] at h'; subst h'; simp only [eqD]; exact jg_ (y := .non) (x := .int b) rfl r' rfl rfl
  | str b => simp only [Sees] at h'; subst h'; simp only [eqD]; exact jg_ (y := .non) (x := .str b) rfl r' rfl rfl
 | bl c =>
  simp only [Sees] at h; subst h
  cases d' with
  | lst l => cases r; simp only [Sees] at h'; obtain ⟨a,xs,rfl,q,t⟩ := h'; cases r'; obtain ⟨its,rv,p,_⟩ := I.list q; simp only [eqD]; exact SeqAt.EqAt.bool_list c p.isList hu
  | tup l => cases r; simp only [Sees] at h'; obtain ⟨a,xs,rfl,q,t⟩ := h'; cases r'; obtain ⟨its,rv,p,_⟩ := I.tuple q; simp only [eqD]; exact SeqAt.EqAt.bool_tuple c p hu
  | non => simp only [Sees] at h'; subst h'; simp only [eqD]; exact jg_ (y := .bl c) (x := .non) r r' rfl rfl
  | bl b => simp only [Sees] at h'; subst h'; simp only [eqD]; exact jg_ (y := .bl c) (x := .bl b) r r' rfl rfl
  | int b => simp only [Sees] at h'; subst h'; simp only [eqD]; exact jg_ (y := .bl c) (x := .int b) r r' rfl rfl
  | str b => simp only [Sees] at h'; subst h'; simp only [eqD]; exact jg_ (y := .bl c) (x := .str b) r r' rfl rfl
 | int c =>
  simp only [Sees] at h; subst h
  cases d' with
  | lst l => obtain ⟨t,rfl⟩ := r; simp only [Sees] at h'; obtain ⟨a,xs,rfl,q,t⟩ := h'; cases r'; obtain ⟨its,rv,p,_⟩ := I.list q; simp only [eqD]; exact SeqAt.EqAt.int_list c _ p.isList hu
  | tup l => obtain ⟨t,rfl⟩ := r; simp only [Sees] at h'; obtain ⟨a,xs,rfl,q,t⟩ := h'; cases r'; obtain ⟨its,rv,p,_⟩ := I.tuple q; simp only [eqD]; exact SeqAt.EqAt.int_tuple c _ p hu
  | non => simp only [Sees] at h'; subst h'; simp only [eqD]; exact jg_ (y := .int c) (x := .non) r r' rfl rfl
  | bl b => simp only [Sees] at h'; subst h'; simp only [eqD]; exact jg_ (y := .int c) (x := .bl b) r r' rfl rfl
  | int b => simp only [Sees] at h'; subst h'; simp only [eqD]; exact jg_ (y := .int c) (x := .int b) r r' rfl rfl
  | str b => simp only [Sees] at h'; subst h'; simp only [eqD]; exact jg_ (y := .int c) (x := .str b) r r' rfl rfl
 | str c =>
  simp only [Sees] at h; subst h
  cases d' with
  | lst l => obtain ⟨t,rfl⟩ := r; simp only [Sees] at h'; obtain ⟨a,xs,rfl,q,t⟩ := h'; cases r'; obtain ⟨its,rv,p,_⟩ := I.list q; simp only [eqD]; exact SeqAt.EqAt.str_list c _ p.isList hu
  | tup l => obtain ⟨t,rfl⟩ := r; simp only [Sees] at h'; obtain ⟨a,xs,rfl,q,t⟩ := h'; cases r'; obtain ⟨its,rv,p,_⟩ := I.tuple q; simp only [eqD]; exact SeqAt.EqAt.str_tuple c _ p hu
  | non => simp only [Sees] at h'; subst h'; simp only [eqD]; exact jg_ (y := .str c) (x := .non) r r' rfl rfl
  | bl b => simp only [Sees] at h'; subst h'; simp only [eqD]; exact jg_ (y := .str c) (x := .bl b) r r' rfl rfl
  | int b => simp only [Sees] at h'; subst h'; simp only [eqD]; exact jg_ (y := .str c) (x := .int b) r r' rfl rfl
  | str b => simp only [Sees] at h'; subst h'; simp only [eqD]; exact jg_ (y := .str c) (x := .str b) r r' rfl rfl
def eJ (ds ds' : List Dt) (j : Nat) : Bool := eqD (ds.getD j .non) (ds'.getD j .non)
theorem j9_ {A : Around} {ds ds' : List Dt} {xs xs' : List V} {its its' : List Value} (t : SeesL X.K H xs ds) (t' : SeesL X.K H xs' ds') (rv : Vals xs its) (rv' : Vals xs' its')
  (ih : ∀ (d d' : Dt) (v v' : V) (u u' : Value),depD d <= yg_ ds -> Sees X.K H v d -> Sees X.K H v' d' -> RelV v u -> RelV v' u' -> SeqAt.EqAt A s u u' (eqD d d')) :
  ∀ j (h1 : j < its.toArray.size) (h2 : j < its'.toArray.size),SeqAt.EqAt A s its.toArray[j] its'.toArray[j] (eJ ds ds' j) := by
 intro j h1 h2
 have l1 := rv.length
 have l2 := rv'.length
 have k1 := t.length
 have k2 := t'.length
 simp only [List.size_toArray] at h1 h2
 have b1 : j < xs.length := by omega
 have b2 : j < xs'.length := by omega
 have c1 : j < ds.length := by omega
 have c2 : j < ds'.length := by omega
 obtain ⟨u,hu,ru⟩ := rv.get (List.getElem?_eq_getElem b1)
 obtain ⟨u',hu',ru'⟩ := rv'.get (List.getElem?_eq_getElem b2)
 have e1 : its.toArray[j] = u := by
  have := (List.getElem?_eq_some_iff.mp hu).2
  simpa using this
 have e2 : its'.toArray[j] = u' := by
  have := (List.getElem?_eq_some_iff.mp hu').2
  simpa using this
 rw [e1,e2]
 have g1 : ds.getD j .non = ds[j] := by rw [List.getD_eq_getElem?_getD,List.getElem?_eq_getElem c1]; rfl
 have g2 : ds'.getD j .non = ds'[j] := by rw [List.getD_eq_getElem?_getD,List.getElem?_eq_getElem c2]; rfl
 unfold eJ
 rw [g1,g2]
 exact ih _ _ _ _ _ _ (qck_ c1) (SeesL.get j b1 c1 t) (SeesL.get j b2 c2 t') ru ru'
theorem zv_ {ds ds' : List Dt} (h : ds.length ≠ ds'.length) : eqDs ds ds' = false := by
 cases q : eqDs ds ds' with
 | false => rfl
 | true => exact absurd (vx_ q) h
theorem ur_ {ds ds' : List Dt} : ((List.range (min ds.length ds'.length)).all (eJ ds ds') && ds.length == ds'.length) = eqDs ds ds' := by
 by_cases h : ds.length = ds'.length
 ·rw [h,Nat.min_self,beq_self_eq_true,Bool.and_true,yM_ h,h]
  rfl
 ·rw [zv_ h,beq_eq_false_iff_ne.mpr h,Bool.and_false]
theorem vk_ (I : Inv X pins σ H s) : ∀ (n : Nat) (A : Around) (d d' : Dt) (v v' : V) (u u' : Value),depD d <= n -> Sees X.K H v d -> Sees X.K H v' d' -> RelV v u -> RelV v' u' -> A.units + n < cLine -> SeqAt.EqAt A s u u' (eqD d d') := by
 intro n
 induction n with
 | zero =>
  intro A d d' v v' u u' hn h h' r r' hu
  refine qcl_ I h h' r r' ?_ hu
  cases d with
  | lst l => simp only [depD] at hn; omega
  | tup l => simp only [depD] at hn; omega
  | _ => rfl
 | succ n ih =>
  intro A d d' v v' u u' hn h h' r r' hu
  have hu0 : A.units < cLine := by omega
  have hin : A.in1.units + n < cLine := by
   have : A.in1.units = A.units + 1 := rfl
   omega
  cases fd : qdo_ d with
  | true => exact qcl_ I h h' r r' fd hu0
  | false =>
   cases d with
   | lst l =>
    simp only [depD] at hn
    simp only [Sees] at h
    obtain ⟨a,xs,rfl,q,t⟩ := h
    cases r
    obtain ⟨its,rv,p,_⟩ := I.list q
    cases d' with
    | non => simp only [Sees] at h'; subst h'; cases r'; simp only [eqD]; exact SeqAt.EqAt.list_none p.isList hu0
    | bl b => simp only [Sees] at h'; subst h'; cases r'; simp only [eqD]; exact SeqAt.EqAt.list_bool b p.isList hu0
    | int b => simp only [Sees] at h'; subst h'; obtain ⟨t',rfl⟩ := r'; simp only [eqD]; exact SeqAt.EqAt.list_int b _ p.isList hu0
    | str b => simp only [Sees] at h'; subst h'; obtain ⟨t',rfl⟩ := r'; simp only [eqD]; exact SeqAt.EqAt.list_str b _ p.isList hu0
    | tup l' =>
     simp only [Sees] at h'
     obtain ⟨a',xs',rfl,q',t'⟩ := h'
     cases r'
     obtain ⟨its',rv',p',_⟩ := I.tuple q'
     simp only [eqD]
     exact SeqAt.EqAt.list_tuple p.isList p' hu0
    | lst l' =>
     have h2 := h'
     simp only [Sees] at h'
     obtain ⟨a',xs',rfl,q',t'⟩ := h'
     cases r'
     obtain ⟨its',rv',p',_⟩ := I.list q'
     by_cases e : a = a'
     ·subst e
      have : xs = xs' := I.list_inj q q'
      subst this
      have := yn_ I t t'
      subst this
      rw [jU_]
      exact SeqAt.EqAt.same _
     ·refine SeqAt.EqAt.of_refs e ?_
      have le1 := rv.length
      have le2 := rv'.length
      have k1 := t.length
      have k2 := t'.length
      simp only [eqD]
      by_cases hl : l.length = l'.length
      ·have := SeqAt.RcAt.lists (A := A) (e := eJ l l') p.isList p'.isList (by simp only [List.size_toArray]; omega) hu0 (j9_ t t' rv rv' fun d d' v v' u u' hd b1 b2 b3 b4 => ih A.in1 d d' v v' u u' (by omega) b1 b2 b3 b4 hin)
       have hs : its.toArray.size = l.length := by simp only [List.size_toArray]; omega
       rw [hs] at this
       rw [yM_ hl]
       exact this
      ·rw [zv_ hl]
       exact SeqAt.RcAt.lists_lengths p.isList p'.isList (by simp only [List.size_toArray,bne_iff_ne,ne_eq]; omega) hu0
   | tup l =>
    simp only [depD] at hn
    simp only [Sees] at h
    obtain ⟨a,xs,rfl,q,t⟩ := h
    cases r
    obtain ⟨its,rv,p,_⟩ := I.tuple q
    cases d' with
    | non => simp only [Sees] at h'; subst h'; cases r'; simp only [eqD]; exact SeqAt.EqAt.tuple_none p hu0
    | bl b => simp only [Sees] at h'; subst h'; cases r'; simp only [eqD]; exact SeqAt.EqAt.tuple_bool b p hu0
    | int b => simp only [Sees] at h'; subst h'; obtain ⟨t',rfl⟩ := r'; simp only [eqD]; exact SeqAt.EqAt.tuple_int b _ p hu0
    | str b => simp only [Sees] at h'; subst h'; obtain ⟨t',rfl⟩ := r'; simp only [eqD]; exact SeqAt.EqAt.tuple_str b _ p hu0
    | lst l' =>
     simp only [Sees] at h'
     obtain ⟨a',xs',rfl,q',t'⟩ := h'
     cases r'
     obtain ⟨its',rv',p',_⟩ := I.list q'
     simp only [eqD]
     exact SeqAt.EqAt.tuple_list p p'.isList hu0
    | tup l' =>
     simp only [Sees] at h'
     obtain ⟨a',xs',rfl,q',t'⟩ := h'
     cases r'
     obtain ⟨its',rv',p',_⟩ := I.tuple q'
     by_cases e : a = a'
     ·subst e
      have : xs = xs' := I.tuple_inj q q'
      subst this
      have := yn_ I t t'
      subst this
      rw [jU_]
      exact SeqAt.EqAt.same _
     ·refine SeqAt.EqAt.of_refs e ?_
      have le1 := rv.length
      have le2 := rv'.length
      have k1 := t.length
      have k2 := t'.length
      simp only [eqD]
      have := SeqAt.RcAt.tuples (A := A) (e := eJ l l') p p' hu0 (j9_ t t' rv rv' fun d d' v v' u u' hd b1 b2 b3 b4 => ih A.in1 d d' v v' u u' (by omega) b1 b2 b3 b4 hin)
      have hs : its.toArray.size = l.length := by simp only [List.size_toArray]; omega
      have hs' : its'.toArray.size = l'.length := by simp only [List.size_toArray]; omega
      rw [hs,hs',ur_] at this
      exact this
   | _ => cases fd
end
section
variable {X : Cx}
def qlf_ : Dt -> Dt -> Bool
 | .lst _,.tup _ => false
 | .tup _,.lst _ => false
 | _,_ => true
def rEqD (K : PySem.W.Frag) (neg : Bool) : R2 := fun x y H Q => ∃ d d',Sees K H x d /\ Sees K H y d' /\ qdo_ d = false /\ qlf_ d d' = true /\ (∃ p,y = .ref p) /\ depD d <= 60 /\ Q (.bl (if neg then !eqD d d' else eqD d d')) H
theorem zW_ (hu : X.A.units + 64 < cLine) : OpR X (compareOp .Eq) (rEqD X.K false) := by
 intro pins s σ H x y v u Q I rx ry h
 obtain ⟨d,d',h1,h2,fd,sk,⟨p',rfl⟩,hd,q⟩ := h
 cases ry
 have hu0 : X.A.units < cLine := by omega
 have hin : X.A.in1.units + 60 < cLine := by
  have : X.A.in1.units = X.A.units + 1 := rfl
  omega
 have fin : ∀ b,b = eqD d d' -> EP X pins σ Q (.bool b) s := fun b e => ⟨.bl b,H,I,rfl,by rw [e]; exact q⟩
 cases d with
 | lst l =>
  simp only [depD] at hd
  simp only [Sees] at h1
  obtain ⟨a,xs,rfl,q1,t⟩ := h1
  cases rx
  obtain ⟨its,rv,p,_⟩ := I.list q1
  cases d' with
  | tup l' =>
   simp only [Sees] at h2
   obtain ⟨a',xs',z,q',t'⟩ := h2
   cases z
   obtain ⟨its',rv',p2,_⟩ := I.tuple q'
   exact SeqAt.RcAt.list_tuple p.isList p2 hu0 _ _ _ _ (fin _ (by simp only [eqD]))
  | lst l' =>
   simp only [Sees] at h2
   obtain ⟨a',xs',z,q',t'⟩ := h2
   cases z
   obtain ⟨its',rv',p2,_⟩ := I.list q'
   have le1 := rv.length
   have le2 := rv'.length
   have k1 := t.length
   have k2 := t'.length
   by_cases hl : l.length = l'.length
   ·have hs : its.toArray.size = l.length := by simp only [List.size_toArray]; omega
    refine SeqAt.RcAt.lists (A := X.A) (e := eJ l l') p.isList p2.isList (by simp only [List.size_toArray]; omega) hu0 (j9_ t t' rv rv' fun d d' v v' u u' hd' b1 b2 b3 b4 => vk_ I 60 X.A.in1 d d' v v' u u' (by omega) b1 b2 b3 b4 hin) _ _ _ _ (fin _ ?_)
    simp only [eqD]
    rw [hs,yM_ hl]
    rfl
   ·refine SeqAt.RcAt.lists_lengths p.isList p2.isList (by simp only [List.size_toArray,bne_iff_ne,ne_eq]; omega) hu0 _ _ _ _ (fin _ ?_)
    simp only [eqD]
    rw [zv_ hl]
  | _ => simp only [Sees] at h2; cases h2
 | tup l =>
  simp only [depD] at hd
  simp only [Sees] at h1
  obtain ⟨a,xs,rfl,q1,t⟩ := h1
  cases rx
  obtain ⟨its,rv,p,_⟩ := I.tuple q1
  cases d' with
  | lst l' =>
   simp only [Sees] at h2
   obtain ⟨a',xs',z,q',t'⟩ := h2
   cases z
   obtain ⟨its',rv',p2,_⟩ := I.list q'
   exact SeqAt.RcAt.tuple_list p p2.isList hu0 _ _ _ _ (fin _ (by simp only [eqD]))
  | tup l' =>
   simp only [Sees] at h2
   obtain ⟨a',xs',z,q',t'⟩ := h2
   cases z
   obtain ⟨its',rv',p2,_⟩ := I.tuple q'
   have le1 := rv.length
   have le2 := rv'.length
   have k1 := t.length
   have k2 := t'.length
   have hs : its.toArray.size = l.length := by simp only [List.size_toArray]; omega
   have hs' : its'.toArray.size = l'.length := by simp only [List.size_toArray]; omega
   refine SeqAt.RcAt.tuples (A := X.A) (e := eJ l l') p p2 hu0 (j9_ t t' rv rv' fun d d' v v' u u' hd' b1 b2 b3 b4 => vk_ I 60 X.A.in1 d d' v v' u u' (by omega) b1 b2 b3 b4 hin) _ _ _ _ (fin _ ?_)
   simp only [eqD]
   rw [hs,hs',ur_]
  | _ => simp only [Sees] at h2; cases h2
 | _ => cases fd
theorem qez_ (hu : X.A.units + 64 < cLine) : OpR X (compareOp .NotEq) (rEqD X.K true) := by
 intro pins s σ H x y v u Q I rx ry h
 obtain ⟨d,d',h1,h2,fd,sk,⟨p',rfl⟩,hd,q⟩ := h
 cases ry
 have hu0 : X.A.units < cLine := by omega
 have hin : X.A.in1.units + 60 < cLine := by
  have : X.A.in1.units = X.A.units + 1 := rfl
  omega
 have fin : ∀ b,b = (!eqD d d') -> EP X pins σ Q (.bool b) s := fun b e => ⟨.bl b,H,I,rfl,by rw [e]; exact q⟩
 cases d with
 | lst l =>
  simp only [depD] at hd
  simp only [Sees] at h1
  obtain ⟨a,xs,rfl,q1,t⟩ := h1
  cases rx
  obtain ⟨its,rv,p,_⟩ := I.list q1
  cases d' with
  | lst l' =>
   simp only [Sees] at h2
   obtain ⟨a',xs',z,q',t'⟩ := h2
   cases z
   obtain ⟨its',rv',p2,_⟩ := I.list q'
   have le1 := rv.length
   have le2 := rv'.length
   have k1 := t.length
   have k2 := t'.length
   by_cases hl : l.length = l'.length
   ·have hs : its.toArray.size = l.length := by simp only [List.size_toArray]; omega
    refine SeqAt.RcNeAt.lists (A := X.A) (e := eJ l l') p.isList p2.isList (by simp only [List.size_toArray]; omega) hu0 (j9_ t t' rv rv' fun d d' v v' u u' hd' b1 b2 b3 b4 => vk_ I 60 X.A.in1 d d' v v' u u' (by omega) b1 b2 b3 b4 hin) _ _ _ _ (fin _ ?_)
    simp only [eqD]
    rw [hs,yM_ hl]
    rfl
   ·refine SeqAt.RcNeAt.lists_lengths p.isList p2.isList (by simp only [List.size_toArray,bne_iff_ne,ne_eq]; omega) hu0 _ _ _ _ (fin _ ?_)
    simp only [eqD]
    rw [zv_ hl]
    rfl
  | tup l' => cases sk
  | _ => simp only [Sees] at h2; cases h2
 | tup l =>
  simp only [depD] at hd
  simp only [Sees] at h1
  obtain ⟨a,xs,rfl,q1,t⟩ := h1
  cases rx
  obtain ⟨its,rv,p,_⟩ := I.tuple q1
  cases d' with
  | tup l' =>
   simp only [Sees] at h2
   obtain ⟨a',xs',z,q',t'⟩ := h2
   cases z
   obtain ⟨its',rv',p2,_⟩ := I.tuple q'
   have le1 := rv.length
   have le2 := rv'.length
   have k1 := t.length
   have k2 := t'.length
   have hs : its.toArray.size = l.length := by simp only [List.size_toArray]; omega
   have hs' : its'.toArray.size = l'.length := by simp only [List.size_toArray]; omega
   refine SeqAt.RcNeAt.tuples (A := X.A) (e := eJ l l') p p2 hu0 (j9_ t t' rv rv' fun d d' v v' u u' hd' b1 b2 b3 b4 => vk_ I 60 X.A.in1 d d' v v' u u' (by omega) b1 b2 b3 b4 hin) _ _ _ _ (fin _ ?_)
   simp only [eqD]
   rw [hs,hs',ur_]
  | lst l' => cases sk
  | _ => simp only [Sees] at h2; cases h2
 | _ => cases fd
end
theorem Same.up {H H' : Hp} {D : Addr} {o : HO} (s : Same H H') (n : H D = none) : Same H (upd H' D o) := fun b u e => by rw [qe_ (ql_ e n)]; exact s b u e
theorem zX_ {J : It} {n k : Nat} {src f : Nat -> V} {te : TE} {cs : St} {H1 : Hp} {D : Addr} {Q : Hp -> Prop} (hD : H1 D = none) (hk : k = cs.length) (hn : n <= sizeLine)
  (stop : ∀ H,Same H1 H -> J.stop n H) (go : ∀ i H,i < n -> Same H1 H -> J.go i H) (yld : ∀ i H x H',i < n -> Same H1 H -> J.yld i H x H' -> x = src i /\ H' = H)
  (he : ∀ i H (R : V -> Hp -> Prop),i < n -> Same H1 H -> (∀ H4,Same H H4 -> R (f i) H4) -> te (cs ++ [some (src i)]) H R)
  (hQ : ∀ H,Same H1 H -> H D = some (.lst ((List.range n).map f)) -> Q H) : q3_ J (qT_ k) jd_ te (cs ++ [none]) H1 D Q := by
 refine ⟨fun i m ys σ H => m = n - i /\ i <= n /\ Same H1 H /\ ys = (List.range i).map f /\ H D = some (.lst ys) /\ ∃ o,σ = cs ++ [o],⟨n,rfl,Nat.zero_le _,(Same.refl _).up hD,rfl,qd_,none,rfl⟩,?_⟩
 rintro i m ys σ H ⟨rfl,hi,sm,rfl,hd,o,rfl⟩
 refine ⟨hd,?_⟩
 by_cases hlt : i < n
 ·refine .inr ⟨go i H hlt sm,fun x H' y => ?_⟩
  obtain ⟨rfl,rfl⟩ := yld i H x H' hlt sm y
  have e : (cs ++ [o]).set k (some (src i)) = cs ++ [some (src i)] := by
   rw [hk,List.set_append_right _ _ (Nat.le_refl _),Nat.sub_self]
   rfl
  unfold qT_
  rw [e]
  unfold jd_
  refine iteT ?_
  refine he i H' _ hlt sm fun H4 s4 => ⟨s4 _ _ hd,?_,n - (i + 1),by omega,rfl,hlt,(sm.trans s4).up hD,?_,qd_,_,rfl⟩
  ·rw [List.length_map,List.length_range]
   omega
  ·rw [List.range_succ,List.map_append]
   rfl
 ·have e : i = n := by omega
  subst e
  exact .inl ⟨stop H sm,hQ H sm hd⟩
theorem v8_ {K : PySem.W.Frag} {a : Addr} {xs : List V} {f : V -> V} {k : Nat} {te : TE} {cs : St} {H1 : Hp} {D : Addr} {Q : Hp -> Prop} (hs : SqL K H1 a xs) (hD : H1 D = none) (hk : k = cs.length) (hn : xs.length <= sizeLine)
  (he : ∀ x H (R : V -> Hp -> Prop),x ∈ xs -> Same H1 H -> (∀ H4,Same H H4 -> R (f x) H4) -> te (cs ++ [some x]) H R)
  (hQ : ∀ H,Same H1 H -> H D = some (.lst (xs.map f)) -> Q H) : q3_ (Itl K a) (qT_ k) jd_ te (cs ++ [none]) H1 D Q := by
 refine zX_ (src := fun i => xs.getD i .non) (f := fun i => f (xs.getD i .non)) (n := xs.length) hD hk hn (fun H sm => ⟨xs,sm.seq hs,Nat.le_refl _⟩) (fun i H hi sm => ⟨xs,xs[i],sm.seq hs,List.getElem?_eq_getElem hi⟩) (fun i H x H' hi sm y => ?_) (fun i H R hi sm r => ?_) (fun H sm hd => hQ H sm ?_)
 ·obtain ⟨e,y⟩ := y
  refine ⟨?_,e⟩
  have := y xs (sm.seq hs)
  rw [List.getD_eq_getElem?_getD,this]
  rfl
 ·refine he _ H R ?_ sm r
  rw [List.getD_eq_getElem?_getD,List.getElem?_eq_getElem hi]
  exact List.getElem_mem hi
 ·rw [hd]
  congr 2
  apply List.ext_getElem
  ·simp
  ·intro i h1 h2
   simp at h1 h2
   simp [h1]
theorem qb2_ {lo : Int} {n : Nat} {f : Nat -> V} {k : Nat} {te : TE} {cs : St} {H1 : Hp} {D : Addr} {Q : Hp -> Prop} (hD : H1 D = none) (hk : k = cs.length) (hn : n <= sizeLine)
  (he : ∀ i H (R : V -> Hp -> Prop),i < n -> Same H1 H -> (∀ H4,Same H H4 -> R (f i) H4) -> te (cs ++ [some (.int (lo + i))]) H R)
  (hQ : ∀ H,Same H1 H -> H D = some (.lst ((List.range n).map f)) -> Q H) : q3_ (Itr lo n) (qT_ k) jd_ te (cs ++ [none]) H1 D Q :=
 zX_ (src := fun i => .int (lo + (i : Nat))) hD hk hn (fun H _ => Nat.le_refl _) (fun i H hi _ => hi) (fun i H x H' _ _ y => ⟨y.2,y.1⟩) he hQ
theorem qb3_ {n : Nat} {f : Nat -> V} {k : Nat} {te : TE} {cs : St} {H1 : Hp} {D : Addr} {Q : Hp -> Prop} (hD : H1 D = none) (hk : k = cs.length) (hn : n <= sizeLine)
  (he : ∀ i H (R : V -> Hp -> Prop),i < n -> Same H1 H -> (∀ H4,Same H H4 -> R (f i) H4) -> te (cs ++ [some (.int (i : Nat))]) H R)
  (hQ : ∀ H,Same H1 H -> H D = some (.lst ((List.range n).map f)) -> Q H) : q3_ (Itr 0 n) (qT_ k) jd_ te (cs ++ [none]) H1 D Q :=
 qb2_ hD hk hn (fun i H R hi sm r => by
  have e : (0 : Int) + (i : Nat) = (i : Nat) := by omega
  rw [e]
  exact he i H R hi sm r) hQ
section
variable {X : Cx} {K : PySem.W.Frag}
theorem vl_ {e : Expr} {f : Str} {pos : Pos} {ta : TE} (hK : X.K = K) (he : PE X e ta) (hb : attributeBase e f X.env (eval e X.env) = eval e X.env) : PE X (.Attribute e f pos) (tFld K ta f) := by
 subst hK
 exact qA_ he hb
theorem ja_ (hK : X.K = K) : IxR X (rIxL K) := by subst hK; exact qy_
theorem qiy_ (hK : X.K = K) : IxR X (rIxT K) := by subst hK; exact yj_
theorem qaf_ (hK : X.K = K) : jz_ X (.builtin "len") (fun xs H Q => ∃ p ys,xs = [.ref p] ∧ (SqL K H p ys ∨ SqT K H p ys) ∧ Q (.int ys.length) H) := by subst hK; exact qu_
end
def v9_ : List Expr -> Option (List Int)
 | [] => some []
 | .Constant (.int i) _ _ :: r => (v9_ r).map (i :: ·)
 | _ => none
theorem qcm_ {X : Cx} : ∀ {es : List Expr} {is : List Int},v9_ es = some is -> PA X es (fun _ H Q => Q (is.map V.int) H)
 | [],is,h => by
  cases h
  exact qc_
 | e :: es,is,h => by
  unfold v9_ at h
  split at h
  ·rename_i z
   cases z
  ·rename_i i j pos r heq
   cases heq
   cases q : v9_ es with
   | none => rw [q] at h; cases h
   | some js =>
    rw [q] at h
    cases h
    intro pos pins s σ H Q I hq
    exact qa_ qg_ (qcm_ q) (by rfl) pos pins s σ H Q I hq
  ·cases h
theorem p0 {j : Int} (h : (0 : Int) < j) : (0 : Int) < j := h
def XObj (h : Heap) (x C : Addr) (od tb : Option Addr) (fl : Value) : Prop :=
 ∃ oe vs,h.get? x = some oe /\ oe.cls = .ref C /\ oe.dict = od /\ oe.data = .fields vs ∧
  match tb with
  | none => vs[1]? = some Value.none
  | some T => vs[1]? = some (.ref T) /\ T ≠ x /\ ∃ oT ts,h.get? T = some oT /\ oT.data = .fields ts /\ ts[3]? = some fl
section
variable {P : Program} {w : World} {K : PySem.W.Frag} {mg : Str -> Option Value} {base : Heap} {N : List Str} {qual : Str} {scope : Scope} {f : Addr} {cd : Value} {A : Around} {outer : List Env} {s : Shared} {H : Hp} {E E' : XK}
end
section
variable {P : Program} {w : World} {K : PySem.W.Frag} {mg : Str -> Option Value} {base : Heap}
end
def qlg_ (es : List DictEntry) : Bool := es.all fun e => match e.key with | .str _ _ => true | _ => false
def nsB (K : PySem.W.Frag) (a : Addr) (f : Array DictEntry -> Bool) : Bool := match K.lookup a with
 | some ⟨_,_,.dict es _,_⟩ => qlg_ es.toList && f es
 | _ => false
section
variable {X : Cx} {E : XK} {c : Str} {C Pk : Addr} {p cpos pos : Pos} {e : Expr} {es : List Expr} {t : TA}
end
section
variable {X : Cx} {pins : List (Addr × Obj)} {σ : St} {H : Hp} {s : Shared} {h' : Heap}
def XP (X : Cx) (pins : List (Addr × Obj)) (EX : St -> XK) (e : Value) (s' : Shared) : Prop :=
 ∃ (x C T : Addr) (od : Option Addr) (σ : St) (H' : Hp),e = .ref x /\ Inv X pins σ H' s' /\ XObj s'.heap x C od (some T) .none /\ X.s₀.heap.get? x = none /\ X.s₀.heap.get? T = none /\ H' x = none /\ H' T = none ∧
  (∀ p ∈ X.pn ++ pins,p.1 ≠ x /\ p.1 ≠ T) /\ EX σ (.ref C) od H'
end
abbrev TEX := St -> Hp -> VK -> XK -> Prop
section
variable {X : Cx} {k : Nat} {f C : Addr} {fd : FuncData} {ps : List Str} {sp : Sp} {dvs : List V} {ds : List Value} {x m : Str} {p pos apos : Pos} {e o : Expr} {es : List Expr} {te : TE} {ta : TE} {t : TA}
end
abbrev TSX := Ends -> (St -> XK) -> St -> Hp -> Prop
section
variable {X : Cx} {e : Expr} {te : TEX} {t : TS} {u : TSX} {st : Stmt} {rest : List Stmt} {pos : Pos}
end
structure Loose (X : Cx) (pins : List (Addr × Obj)) (H : Hp) (s : Shared) (x C T : Addr) (od : Option Addr) (fl : Value) : Prop where
 obj : XObj s.heap x C od (some T) fl
 f1 : X.s₀.heap.get? x = none
 f2 : X.s₀.heap.get? T = none
 h1 : H x = none
 h2 : H T = none
 p : ∀ p ∈ X.pn ++ pins,p.1 ≠ x /\ p.1 ≠ T
section
variable {X : Cx} {pins : List (Addr × Obj)} {σ : St} {H : Hp} {s : Shared} {x C T : Addr} {od : Option Addr} {fl : Value}
end
abbrev TH := Ends -> Addr -> Option Addr -> St -> Hp -> Prop
section
variable {X : Cx} {c n : Str} {C' : Addr} {i : Nat} {p pos : Pos} {b₀ : Stmt} {suite : List Stmt} {hs : List ExceptHandler} {ts : TS} {th : TH}
end
def qkh_ (es : Array DictEntry) : Bool := quietNames.all fun n => (nsFind es n).isNone
def xqIn (K : PySem.W.Frag) (C Pk : Addr) : Bool :=
 match K.lookup C,K.lookup Pk with
 | some ⟨.type "type",_,.cls cd,sl⟩,some ⟨_,_,.cls cp,_⟩ =>
  (match cd.mro with
  | [.ref C',.ref P',.type "ValueError",.type "Exception",.type "BaseException",.type "object"] => C' == C && P' == Pk
  | _ => false) &&
  (match sl.toList with
  | [_,_,_,_,some (.builtin id),_] => id == "ValueError.__new__"
  | _ => false) && !cd.hasDel && nsB K cp.ns qkh_
 | _,_ => false
structure XIn (K : PySem.W.Frag) (C Pk : Addr) : Prop where
 cls : xqIn K C Pk = true
 ga : PySem.W.findIn K (.ref C) "__getattribute__" = some (some (.builtin "BaseException.__getattribute__"))
 gt : PySem.W.findIn K (.ref C) "__getattr__" = some none
 ca : PySem.W.findIn K (.ref C) "__class__" = some (some (.builtin "object.__class__"))
 hn : PySem.W.specialIn K (.builtin "object.__class__") "__get__" = some (some (.builtin "getset_descriptor.__get__"))
 tk : PySem.W.takesIn K (.builtin "object.__class__") = some true
 mo : PySem.W.mroIn K C (.type "object") = some true
 kc : PySem.W.kitCls K (.ref C) (.ref C) = some true
section
variable {prog : Program} {w : World} {A : Around} {E : Value -> Shared -> Prop} {s : Shared} {K : PySem.W.Frag} {x C Pk : Addr} {ox : Obj} {od : Option Obj} {name : Str} {tk : Tok} {fill expr : Bool} {r : Builtin.ObjectAttr.Found} {Q : Value -> Shared -> Prop}
end
section
variable {X : Cx}
end
abbrev TJ := St -> Hp -> (Hp -> Prop) -> Prop
section
variable {X : Cx} {e v₁ v₂ : Expr} {es : List Expr} {n : Nat} {te : TE} {t : TJ} {pos : Pos}
end
section
variable {prog : Program} {w : World} {A : Around} {E : Value -> Shared -> Prop} {s : Shared} {K : PySem.W.Frag} {C Pk f : Addr} {rest : List Value}
end
structure XSet (K : PySem.W.Frag) (C : Addr) : Prop where
 sa : PySem.W.findIn K (.ref C) "__setattr__" = some (some (.builtin "object.__setattr__"))
 hd : PySem.W.hasDictIn K C = true
section
variable {prog : Program} {w : World} {A : Around} {E : Value -> Shared -> Prop} {s : Shared} {K : PySem.W.Frag} {x C Pk : Addr} {ox : Obj} {od : Option Obj} {name : Str} {v : Value} {Q : Unit -> Shared -> Prop}
end
section
variable {fl : Bool} {X : Cx} {pins : List (Addr × Obj)} {σ : St} {H : Hp} {s : Shared} {x C Pk : Addr} {f : Str} {A : Around} {E : Value -> Shared -> Prop}
end
section
variable {X : Cx} {o e value : Expr} {f : Str} {pos pos' : Pos} {ta tv : TE}
end
structure XUp (K : PySem.W.Frag) (Pk : Addr) : Prop where
 sp : PySem.W.specialIn K (.ref Pk) "__getattribute__" = some (some (.builtin "type.__getattribute__"))
 rd : PySem.W.readsIn K Pk (.type "type") = true
 fc : PySem.W.findCls K (.ref Pk) (.type "type") "__init__" = some (.val (.builtin "ValueError.__init__"))
section
variable {prog : Program} {w : World} {A : Around} {E : Value -> Shared -> Prop} {s : Shared} {K : PySem.W.Frag} {x C Pk : Addr} {oe : Obj} {vs : Array Value} {us : List Value} {Q : Value -> Shared -> Prop}
end
section
variable {X : Cx} {P c : Str} {p pos apos : Pos} {e : Expr} {es : List Expr} {t : TA} {Pk : Addr}
end
def drop (H : Hp) (x : Addr) : Hp := fun b => if b = x then none else H b
section
variable {X : Cx} {pins : List (Addr × Obj)} {σ : St} {H : Hp} {s : Shared} {x : Addr} {φ : Heap -> Prop}
end
structure XMk (K : PySem.W.Frag) (C f : Addr) : Prop where
 init : PySem.W.findIn K (.ref C) "__init__" = some (some (.ref f))
 fn : PySem.W.typeIn K (.ref f) = some (.type "function")
 kp : PySem.W.keepIn K (.ref C) = true
section
variable {X : Cx} {E : XK} {c : Str} {C Pk f : Addr} {fd : FuncData} {ps : List Str} {sp : Sp} {k : Nat} {p cpos pos : Pos} {e : Expr} {es : List Expr} {t : TA}
end
structure RowsAt (H : Hp) (ps : List Addr) (n : Nat) (row : Nat -> List V) : Prop where
 len : ps.length = n
 nd : ps.Nodup
 on : ∀ j p,ps[j]? = some p -> H p = some (.lst (row j))
section
variable {H H' : Hp} {ps : List Addr} {n : Nat} {row : Nat -> List V} {p : Addr}
theorem RowsAt.same (h : RowsAt H ps n row) (s : Same H H') : RowsAt H' ps n row := ⟨h.len,h.nd,fun j p e => s _ _ (h.on j p e)⟩
theorem RowsAt.none : RowsAt H [] 0 row := ⟨rfl,List.nodup_nil,fun j p e => by simp at e⟩
theorem RowsAt.ne (h : RowsAt H ps n row) (hp : H p = Option.none) : p ∉ ps := fun m => by
 obtain ⟨j,hj,e⟩ := List.getElem_of_mem m
 have := h.on j p (by rw [List.getElem?_eq_getElem hj,e])
 rw [hp] at this
 cases this
theorem RowsAt.snoc (h : RowsAt H ps n row) (np : p ∉ ps) (hp : H p = some (.lst (row n))) : RowsAt H (ps ++ [p]) (n + 1) row := by
 refine ⟨by rw [List.length_append,h.len]; rfl,List.nodup_append.mpr ⟨h.nd,by simp,fun a ha b hb e => ?_⟩,fun j q e => ?_⟩
 ·rw [List.mem_singleton.mp hb] at e
  exact np (e ▸ ha)
 ·rw [List.getElem?_append] at e
  split at e
  ·exact h.on j q e
  ·rename_i hj
   have hj0 : j - ps.length = 0 := by
    by_cases z : j - ps.length = 0
    ·exact z
    ·rw [List.getElem?_eq_none (by simp; omega)] at e; cases e
   have hjn : j = n := by have := h.len; omega
   rw [hj0] at e
   cases e
   rw [hjn]
   exact hp
theorem RowsAt.upd (h : RowsAt H ps n row) (hp : p ∉ ps) {o : HO} : RowsAt (upd H p o) ps n row := by
 refine ⟨h.len,h.nd,fun j q e => ?_⟩
 have : q ≠ p := fun z => hp (by rw [<- z]; exact List.mem_of_getElem? e)
 rw [qe_ this]
 exact h.on j q e
end
theorem qe0_ {J : It} {n k : Nat} {src : Nat -> V} {row : Nat -> List V} {te : TE} {cs : St} {H1 : Hp} {D : Addr} {Q : Hp -> Prop} (hD : H1 D = none) (hk : k = cs.length) (hn : n <= sizeLine)
  (stop : ∀ H,Same H1 H -> J.stop n H) (go : ∀ i H,i < n -> Same H1 H -> J.go i H) (yld : ∀ i H x H',i < n -> Same H1 H -> J.yld i H x H' -> x = src i /\ H' = H)
  (he : ∀ i H (R : V -> Hp -> Prop),i < n -> Same H1 H -> (∀ p H4,H p = none -> Same H H4 -> H4 p = some (.lst (row i)) -> R (.ref p) H4) -> te (cs ++ [some (src i)]) H R)
  (hQ : ∀ ps H,Same H1 H -> H D = some (.lst (ps.map V.ref)) -> RowsAt H ps n row -> (∀ p ∈ ps,H1 p = none) -> D ∉ ps -> Q H) : q3_ J (qT_ k) jd_ te (cs ++ [none]) H1 D Q := by
 refine ⟨fun i m ys σ H => m = n - i /\ i <= n /\ Same H1 H /\ (∃ ps : List Addr,ys = ps.map V.ref /\ RowsAt H ps i row /\ (∀ p ∈ ps,H1 p = none) /\ D ∉ ps) /\ H D = some (.lst ys) /\ ∃ o,σ = cs ++ [o],
  ⟨n,rfl,Nat.zero_le _,(Same.refl _).up hD,⟨[],rfl,RowsAt.none,by simp,by simp⟩,qd_,none,rfl⟩,?_⟩
 rintro i m ys σ H ⟨rfl,hi,sm,⟨ps,rfl,hr,hf,hd'⟩,hd,o,rfl⟩
 refine ⟨hd,?_⟩
 by_cases hlt : i < n
 ·refine .inr ⟨go i H hlt sm,fun x H' y => ?_⟩
  obtain ⟨rfl,rfl⟩ := yld i H x H' hlt sm y
  have e : (cs ++ [o]).set k (some (src i)) = cs ++ [some (src i)] := by
   rw [hk,List.set_append_right _ _ (Nat.le_refl _),Nat.sub_self]
   rfl
  unfold qT_
  rw [e]
  unfold jd_
  refine iteT ?_
  refine he i H' _ hlt sm fun p H4 hp s4 h4 => ⟨s4 _ _ hd,?_,n - (i + 1),by omega,rfl,hlt,(sm.trans s4).up hD,⟨ps ++ [p],by rw [List.map_append]; rfl,?_,?_,?_⟩,qd_,_,rfl⟩
  ·rw [List.length_map,hr.len]
   omega
  ·have np : p ≠ D := fun z => by rw [z,hd] at hp; cases hp
   have hps := hr.ne hp
   refine ((hr.same s4).snoc hps h4).upd ?_
   intro z
   rcases List.mem_append.mp z with z | z
   ·exact hd' z
   ·exact np (List.mem_singleton.mp z).symm
  ·intro q hq
   rcases List.mem_append.mp hq with z | z
   ·exact hf q z
   ·rw [List.mem_singleton.mp z]
    exact sm.free hp
  ·intro z
   rcases List.mem_append.mp z with z | z
   ·exact hd' z
   ·rw [List.mem_singleton.mp z] at hd
    rw [hd] at hp; cases hp
 ·have e : i = n := by omega
  subst e
  exact .inl ⟨stop H sm,hQ ps H sm hd hr hf hd'⟩
theorem qdp_ {n : Nat} {row : Nat -> List V} {k : Nat} {te : TE} {cs : St} {H1 : Hp} {D : Addr} {Q : Hp -> Prop} (hD : H1 D = none) (hk : k = cs.length) (hn : n <= sizeLine)
  (he : ∀ i H (R : V -> Hp -> Prop),i < n -> Same H1 H -> (∀ p H4,H p = none -> Same H H4 -> H4 p = some (.lst (row i)) -> R (.ref p) H4) -> te (cs ++ [some (.int (i : Nat))]) H R)
  (hQ : ∀ ps H,Same H1 H -> H D = some (.lst (ps.map V.ref)) -> RowsAt H ps n row -> (∀ p ∈ ps,H1 p = none) -> D ∉ ps -> Q H) : q3_ (Itr 0 n) (qT_ k) jd_ te (cs ++ [none]) H1 D Q :=
 qe0_ (src := fun i => .int (0 + (i : Nat))) hD hk hn (fun H _ => Nat.le_refl _) (fun i H hi _ => hi) (fun i H x H' _ _ y => ⟨y.2,y.1⟩) (fun i H R hi sm r => by
  have e : (0 : Int) + (i : Nat) = (i : Nat) := by omega
  rw [e]
  exact he i H R hi sm r) hQ
variable {X : Cx}
section
variable {K : PySem.W.Frag}
theorem qag_ (hK : X.K = K) : jz_ X (.type "list") (fun xs H Q => ∃ p ys,xs = [.ref p] ∧ (SqL K H p ys ∨ SqT K H p ys) ∧ ∀ l,H l = none → Q (.ref l) (upd H l (.lst ys))) := by
 subst hK
 exact q0_
end
def Ite (K : PySem.W.Frag) (l : Addr) (xs : List V) : It :=
 ⟨fun i H => SqL K H l xs /\ i < xs.length,fun i H x H' => ∃ T u,H T = none /\ x = .ref T /\ xs[i]? = some u /\ H' = upd H T (.tup [.int (i : Nat),u]),fun i H => SqL K H l xs /\ xs.length <= i⟩
theorem qe1_ {P : Program} {w : World} {K : PySem.W.Frag} {elts : List Expr} {x1} {tp : Pos} {z it l : Addr} (zi : z ≠ it) (xs : List V) :
  Turn P w K (.Tuple elts x1 tp) (Ite K l xs) [z,it] z (fun i h => (∃ old,PySem.IsEnum h z it (i : Nat) old) /\ h.IsListIter it l i) where
 mem := by simp
 obj := fun i h st b hb => by
  obtain ⟨⟨old,hz⟩,o1,e1,c1,d1⟩ := st
  simp only [List.mem_cons,List.not_mem_nil,or_false] at hb
  rcases hb with rfl | rfl
  ·exact ⟨_,hz,fun v q => by have q' : Data.fields _ = Data.cell v := q; cases q'⟩
  ·exact ⟨o1,e1,fun v q => by rw [d1] at q; cases q⟩
 keep := fun i h h' st k => by
  obtain ⟨⟨old,hz⟩,h1⟩ := st
  exact ⟨⟨old,k z (by simp) _ hz⟩,h1.at fun o e => k it (by simp) o e⟩
 item := by
  intro X hP hw hK hc i pins s σ H E I hf st hg
  subst hP hw hK
  obtain ⟨⟨old,hz⟩,h1⟩ := st
  obtain ⟨q1,b1⟩ := hg
  obtain ⟨its1,rv1,p1,_⟩ := I.list q1
  have hx : xs[i]? = some xs[i] := List.getElem?_eq_getElem b1
  obtain ⟨u,hu,ru⟩ := rv1.get hx
  have lt : ∀ {c o},s.heap.get? c = some o -> c ≠ s.heap.objs.size := fun e => Nat.ne_of_lt (Heap.lt_size e)
  refine PySem.wpAny_pyNext_enum_item hz h1 p1.isList (x := u) (by simpa using hu) zi fun h' a1 a2 a3 a4 hk => ?_
  refine ⟨_,rfl,PySem.wpAny_letOwnedTupleGo_enum a1 fun h'' hz'' sb => ?_⟩
  have zne : s.heap.objs.size ≠ z := (lt hz).symm
  have kk : ∀ b u,b ∉ [z,it] -> s.heap.get? b = some u -> h''.get? b = some u := fun b u hb e => by
   simp only [List.mem_cons,List.not_mem_nil,or_false,not_or] at hb
   exact sb.extBut _ _ hb.1 (hk b u hb.1 hb.2 e)
  refine ⟨.ref s.heap.objs.size,upd H s.heap.objs.size (.tup [.int (i : Nat),xs[i]]),I.turnedUp (t' := s.toks + 1) hf kk (Nat.le_refl _) ⟨by show 2 <= sizeLine; decide,[.int (i : Nat) s.toks,u],.cons ⟨_,rfl⟩ (.cons ru .nil),⟨_,sb.extBut _ _ zne a3,rfl,_,rfl⟩⟩,rfl,
   ⟨_,_,I.hok.fresh (Nat.le_refl _),rfl,hx,rfl⟩,⟨⟨_,hz''⟩,a2.at fun o e => sb.extBut _ _ zi.symm e⟩,fun b hb => ?_⟩
  have : b ≠ s.heap.objs.size := by
   obtain ⟨o1,e1,_⟩ := id h1
   simp only [List.mem_cons,List.not_mem_nil,or_false] at hb
   rcases hb with rfl | rfl
   ·exact lt hz
   ·exact lt e1
  rw [qe_ this]
  exact (hf b hb).1
 done := by
  intro X hP hw hK hc i pins s σ H E I hf st hg
  subst hP hw hK
  obtain ⟨⟨old,hz⟩,h1⟩ := st
  obtain ⟨q1,hend⟩ := hg
  obtain ⟨its1,rv1,p1,_⟩ := I.list q1
  have l1 := rv1.length
  refine PySem.wpAny_pyNext_enum_end (I.ok.hd hc) hz h1 p1.isList (by rw [Array.getElem?_eq_none]; simp; omega) fun h' hk => ⟨rfl,I.turnedL (t' := s.toks) hf fun b u hb e => ?_⟩
  simp only [List.mem_cons,List.not_mem_nil,or_false,not_or] at hb
  exact hk b u hb.2 e
 self := fun _ _ _ _ _ ⟨⟨_,hz⟩,_⟩ h => PySem.wpAny_pyIter_enum hz h
section
variable {X : Cx}
def qlh_ (K : PySem.W.Frag) (ta : TA) : TI := fun σ H R => ta σ H fun vs H1 => ∃ l xs,vs = [.ref l] /\ SqL K H1 l xs /\ R (Ite K l xs) H1
theorem us_ : bootBuiltins "enumerate" = some (.type "enumerate") := by decide +kernel
theorem vm_ {elts : List Expr} {x1} {tp : Pos} {a : Expr} {ta : TA} {p pos : Pos} (hg : Gl X "enumerate") (hm : X.mg "enumerate" = none) (ha : PA X [a] ta) (hs : starEach [a] X.env = [(false,eval a X.env)] := by rfl) :
  PI X (.Tuple elts x1 tp) (.Call (.Name "enumerate" p) [a] [] pos) (qlh_ X.K ta) := by
 intro pins s σ H R I h
 refine Call_ (jY_ I hg hm us_ (PyProof.Rows.callWith_type1 (thn (ha pos pins s σ H _ I h) fun us s1 ⟨vs,H1,I1,r1,q1⟩ => ?_) hs rfl))
 obtain ⟨l,xs,e,h1,q⟩ := q1
 subst e
 obtain ⟨u,rfl,ru⟩ := jJ_ r1
 cases ru
 obtain ⟨its1,rv1,p1,_⟩ := I1.list h1
 refine PySem.call_enumerate_list p1.isList fun h' a1 a2 a3 a4 => ?_
 refine PySem.wpAny_pyIter_enum a1 ?_
 refine ⟨s1.heap.objs.size + 1,[s1.heap.objs.size + 1,s1.heap.objs.size],_,_,H1,rfl,I1.kept (t' := s1.toks) fun b o e => a4 b o e,qe1_ (Nat.succ_ne_self _) xs,⟨⟨_,a1⟩,a2⟩,fun b hb => ?_,q⟩
 have : s1.heap.objs.size <= b := by
  simp only [List.mem_cons,List.not_mem_nil,or_false] at hb
  rcases hb with rfl | rfl
  ·exact Nat.le_add_right _ 1
  ·exact Nat.le_refl _
 exact I1.fpOk this (I1.hok.fresh this)
end
theorem qa6_ {K : PySem.W.Frag} {l : Addr} {xs : List V} {g : TG} {tb : TS} {D : Ends} {σ : St} {H : Hp} (Pv : Nat -> St -> Hp -> Prop) (h0 : Pv 0 σ H) (hl : ∀ i σ H,i <= xs.length -> Pv i σ H -> SqL K H l xs)
  (hs : ∀ i u T σ H,i < xs.length -> xs[i]? = some u -> H T = none -> Pv i σ H -> g (.ref T) σ (upd H T (.tup [.int (i : Nat),u])) fun σ2 H2 => tb { D with nx := Pv (i + 1),ct := Pv (i + 1),bk := D.nx } σ2 H2) (hd : ∀ σ H,Pv xs.length σ H -> D.nx σ H) :
  ∃ W : Nat -> Nat -> St -> Hp -> Prop,(∃ m,W 0 m σ H) /\ ∀ i m σ H,W i m σ H →
   ((Ite K l xs).stop i H /\ D.nx σ H) \/ ((Ite K l xs).go i H /\ ∃ N : St -> Hp -> Prop,(∀ σ' H',N σ' H' -> ∃ m',m' < m /\ W (i + 1) m' σ' H') /\ ∀ x H',(Ite K l xs).yld i H x H' -> g x σ H' fun σ2 H2 => tb { D with nx := N,ct := N,bk := D.nx } σ2 H2) := by
 refine ⟨fun i m σ H => m = xs.length - i /\ i <= xs.length /\ Pv i σ H,⟨xs.length,by simp,Nat.zero_le _,h0⟩,?_⟩
 rintro i m σ H ⟨rfl,hi,p⟩
 have q1 := hl i σ H hi p
 by_cases hlt : i < xs.length
 ·refine .inr ⟨⟨q1,hlt⟩,Pv (i + 1),fun σ' H' p' => ⟨xs.length - (i + 1),by omega,rfl,hlt,p'⟩,fun x H' y => ?_⟩
  obtain ⟨T,u,hT,rfl,hu,rfl⟩ := y
  exact hs i u T σ H hlt hu hT p
 ·have e : i = xs.length := by omega
  exact .inl ⟨⟨q1,by omega⟩,hd σ H (e ▸ p)⟩
theorem vn_ {X : Cx} {K : PySem.W.Frag} {es : List Expr} {k : Nat} {t : TGs} {n : Nat} {pos : Pos} (hK : X.K = K) (hc : X.calm = true) (h : PGs X es t) (hn : (assignEach es X.env).length = n := by rfl) (hst : (assignEach es X.env).findIdx? (·.1) = none := by rfl) : PG X (.Tuple es k pos) (gTup K n t) := by
 subst hK
 exact yh_ hc h hn hst
theorem qe2_ {J : It} {n : Nat} {g : TG} {stt : Nat -> St} {Ok : St -> Prop} {f : Nat -> V} {te : TE} {σ0 : St} {H1 : Hp} {D : Addr} {Q : Hp -> Prop} (hD : H1 D = none) (hn : n <= sizeLine) (h0 : Ok σ0) (hok : ∀ i,i < n -> Ok (stt i))
  (stop : ∀ H,Same H1 H -> J.stop n H) (go : ∀ i H,i < n -> Same H1 H -> J.go i H)
  (tg : ∀ i σ H x H' (R : St -> Hp -> Prop),i < n -> Same H1 H -> Ok σ -> J.yld i H x H' -> (∀ H'',Same H H'' -> R (stt i) H'') -> g x σ H' R)
  (he : ∀ i H (R : V -> Hp -> Prop),i < n -> Same H1 H -> (∀ H4,Same H H4 -> R (f i) H4) -> te (stt i) H R)
  (hQ : ∀ H,Same H1 H -> H D = some (.lst ((List.range n).map f)) -> Q H) : q3_ J g jd_ te σ0 H1 D Q := by
 refine ⟨fun i m ys σ H => m = n - i /\ i <= n /\ Same H1 H /\ ys = (List.range i).map f /\ H D = some (.lst ys) /\ Ok σ,⟨n,rfl,Nat.zero_le _,(Same.refl _).up hD,rfl,qd_,h0⟩,?_⟩
 rintro i m ys σ H ⟨rfl,hi,sm,rfl,hd,ho⟩
 refine ⟨hd,?_⟩
 by_cases hlt : i < n
 ·refine .inr ⟨go i H hlt sm,fun x H' y => ?_⟩
  refine tg i σ H x H' _ hlt sm ho y fun H'' s2 => ?_
  unfold jd_
  refine iteT ?_
  refine he i H'' _ hlt (sm.trans s2) fun H4 s4 => ⟨(s2.trans s4) _ _ hd,?_,n - (i + 1),by omega,rfl,hlt,(sm.trans (s2.trans s4)).up hD,?_,qd_,hok i hlt⟩
  ·rw [List.length_map,List.length_range]
   omega
  ·rw [List.range_succ,List.map_append]
   rfl
 ·have e : i = n := by omega
  subst e
  exact .inl ⟨stop H sm,hQ H sm hd⟩
theorem qdq_ {J : It} {n : Nat} {g : TG} {stt : Nat -> St} {Ok : St -> Prop} {row : Nat -> List V} {te : TE} {σ0 : St} {H1 : Hp} {D : Addr} {Q : Hp -> Prop} (hD : H1 D = none) (hn : n <= sizeLine) (h0 : Ok σ0) (hok : ∀ i,i < n -> Ok (stt i))
  (stop : ∀ H,Same H1 H -> J.stop n H) (go : ∀ i H,i < n -> Same H1 H -> J.go i H)
  (tg : ∀ i σ H x H' (R : St -> Hp -> Prop),i < n -> Same H1 H -> Ok σ -> J.yld i H x H' -> (∀ H'',Same H H'' -> R (stt i) H'') -> g x σ H' R)
  (he : ∀ i H (R : V -> Hp -> Prop),i < n -> Same H1 H -> (∀ p H4,H p = none -> Same H H4 -> H4 p = some (.lst (row i)) -> R (.ref p) H4) -> te (stt i) H R)
  (hQ : ∀ ps H,Same H1 H -> H D = some (.lst (ps.map V.ref)) -> RowsAt H ps n row -> (∀ p ∈ ps,H1 p = none) -> D ∉ ps -> Q H) : q3_ J g jd_ te σ0 H1 D Q := by
 refine ⟨fun i m ys σ H => m = n - i /\ i <= n /\ Same H1 H /\ (∃ ps : List Addr,ys = ps.map V.ref /\ RowsAt H ps i row /\ (∀ p ∈ ps,H1 p = none) /\ D ∉ ps) /\ H D = some (.lst ys) /\ Ok σ,
  ⟨n,rfl,Nat.zero_le _,(Same.refl _).up hD,⟨[],rfl,RowsAt.none,by simp,by simp⟩,qd_,h0⟩,?_⟩
 rintro i m ys σ H ⟨rfl,hi,sm,⟨ps,rfl,hr,hf,hd'⟩,hd,ho⟩
 refine ⟨hd,?_⟩
 by_cases hlt : i < n
 ·refine .inr ⟨go i H hlt sm,fun x H' y => ?_⟩
  refine tg i σ H x H' _ hlt sm ho y fun H'' s2 => ?_
  unfold jd_
  refine iteT ?_
  refine he i H'' _ hlt (sm.trans s2) fun p H4 hp s4 h4 => ⟨(s2.trans s4) _ _ hd,?_,n - (i + 1),by omega,rfl,hlt,(sm.trans (s2.trans s4)).up hD,⟨ps ++ [p],by rw [List.map_append]; rfl,?_,?_,?_⟩,qd_,hok i hlt⟩
  ·rw [List.length_map,hr.len]
   omega
  ·have np : p ≠ D := fun z => by rw [z,s2 _ _ hd] at hp; cases hp
   have hps := (hr.same s2).ne hp
   refine ((hr.same (s2.trans s4)).snoc hps h4).upd ?_
   intro z
   rcases List.mem_append.mp z with z | z
   ·exact hd' z
   ·exact np (List.mem_singleton.mp z).symm
  ·intro q hq
   rcases List.mem_append.mp hq with z | z
   ·exact hf q z
   ·rw [List.mem_singleton.mp z]
    exact (sm.trans s2).free hp
  ·intro z
   rcases List.mem_append.mp z with z | z
   ·exact hd' z
   ·rw [List.mem_singleton.mp z] at hd
    rw [s2 _ _ hd] at hp; cases hp
 ·have e : i = n := by omega
  subst e
  exact .inl ⟨stop H sm,hQ ps H sm hd hr hf hd'⟩
theorem ut_ {K : PySem.W.Frag} {cs : St} {k : Nat} (hk : k = cs.length) {T : Addr} {u v : V} {o1 o2 : Option V} {H : Hp} {R : St -> Hp -> Prop} (hT : H T = none) (q : ∀ H'',Same H H'' -> R (cs ++ [some u,some v]) H'') :
  gTup K 2 (jZ_ (qT_ k) (jZ_ (qT_ (k + 1)) gNil)) (.ref T) (cs ++ [o1,o2]) (upd H T (.tup [u,v])) R := by
 refine ⟨T,_,rfl,SqT.of qd_,rfl,_,_,rfl,_,_,rfl,rfl,?_⟩
 have e : ((cs ++ [o1,o2]).set k (some u)).set (k + 1) (some v) = cs ++ [some u,some v] := by
  subst hk
  have e1 : (List.length cs).succ - List.length cs = 1 := by omega
  rw [List.set_append_right _ _ (Nat.le_refl _),List.set_append_right _ _ (Nat.le_succ _),Nat.sub_self,e1]
  rfl
 rw [e]
 exact q _ fun b o e => by rw [qe_ (ql_ e hT)]; exact e
theorem qe3_ {K : PySem.W.Frag} {l1 l2 : Addr} {xs ys : List V} {f : Nat -> V} {k : Nat} {te : TE} {cs : St} {H1 : Hp} {D : Addr} {Q : Hp -> Prop} (h1 : SqL K H1 l1 xs) (h2 : SqL K H1 l2 ys) (hl : xs.length = ys.length) (hD : H1 D = none) (hk : k = cs.length) (hn : xs.length <= sizeLine)
  (he : ∀ i u v H (R : V -> Hp -> Prop),xs[i]? = some u -> ys[i]? = some v -> Same H1 H -> (∀ H4,Same H H4 -> R (f i) H4) -> te (cs ++ [some u,some v]) H R)
  (hQ : ∀ H,Same H1 H -> H D = some (.lst ((List.range xs.length).map f)) -> Q H) : q3_ (Itz K l1 l2 xs ys) (gTup K 2 (jZ_ (qT_ k) (jZ_ (qT_ (k + 1)) gNil))) jd_ te (cs ++ [none,none]) H1 D Q := by
 refine qe2_ (n := xs.length) (stt := fun i => cs ++ [xs[i]?,ys[i]?]) (Ok := fun σ => ∃ o1 o2,σ = cs ++ [o1,o2]) hD hn ⟨none,none,rfl⟩ (fun i _ => ⟨_,_,rfl⟩) (fun H sm => ⟨sm.seq h1,sm.seq h2,.inl (Nat.le_refl _)⟩) (fun i H hi sm => ⟨sm.seq h1,sm.seq h2,hi,by omega⟩) (fun i σ H x H' R hi sm ho y q => ?_) (fun i H R hi sm r => ?_) hQ
 ·obtain ⟨o1,o2,rfl⟩ := ho
  obtain ⟨T,u,v,hT,rfl,hu,hv,rfl⟩ := y
  exact ut_ hk hT fun H'' s => by rw [<- hu,← hv]; exact q H'' s
 ·rw [List.getElem?_eq_getElem hi,List.getElem?_eq_getElem (by omega)]
  exact he i _ _ H R (List.getElem?_eq_getElem hi) (List.getElem?_eq_getElem (by omega)) sm r
theorem qdr_ {K : PySem.W.Frag} {l : Addr} {xs : List V} {row : Nat -> List V} {k : Nat} {te : TE} {cs : St} {H1 : Hp} {D : Addr} {Q : Hp -> Prop} (h1 : SqL K H1 l xs) (hD : H1 D = none) (hk : k = cs.length) (hn : xs.length <= sizeLine)
  (he : ∀ i u H (R : V -> Hp -> Prop),xs[i]? = some u -> Same H1 H -> (∀ p H4,H p = none -> Same H H4 -> H4 p = some (.lst (row i)) -> R (.ref p) H4) -> te (cs ++ [some (.int (i : Nat)),some u]) H R)
  (hQ : ∀ ps H,Same H1 H -> H D = some (.lst (ps.map V.ref)) -> RowsAt H ps xs.length row -> (∀ p ∈ ps,H1 p = none) -> D ∉ ps -> Q H) : q3_ (Ite K l xs) (gTup K 2 (jZ_ (qT_ k) (jZ_ (qT_ (k + 1)) gNil))) jd_ te (cs ++ [none,none]) H1 D Q := by
 refine qdq_ (n := xs.length) (stt := fun i => cs ++ [some (.int (i : Nat)),xs[i]?]) (Ok := fun σ => ∃ o1 o2,σ = cs ++ [o1,o2]) hD hn ⟨none,none,rfl⟩ (fun i _ => ⟨_,_,rfl⟩) (fun H sm => ⟨sm.seq h1,Nat.le_refl _⟩) (fun i H hi sm => ⟨sm.seq h1,hi⟩) (fun i σ H x H' R hi sm ho y q => ?_) (fun i H R hi sm r => ?_) hQ
 ·obtain ⟨o1,o2,rfl⟩ := ho
  obtain ⟨T,u,hT,rfl,hu,rfl⟩ := y
  exact ut_ hk hT fun H'' s => by rw [<- hu]; exact q H'' s
 ·rw [List.getElem?_eq_getElem hi]
  exact he i _ H R (List.getElem?_eq_getElem hi) sm r
theorem qgy_ {K : PySem.W.Frag} {l1 l2 : Addr} {xs ys : List V} {g : TG} {tb : TS} {D : Ends} {σ : St} {H : Hp} (Pv : Nat -> St -> Hp -> Prop) (h0 : Pv 0 σ H) (hl : ∀ i σ H,i <= xs.length -> Pv i σ H -> SqL K H l1 xs /\ SqL K H l2 ys) (he : xs.length <= ys.length)
  (hs : ∀ i u v T σ H,i < xs.length -> xs[i]? = some u -> ys[i]? = some v -> H T = none -> Pv i σ H -> g (.ref T) σ (upd H T (.tup [u,v])) fun σ2 H2 => tb { D with nx := Pv (i + 1),ct := Pv (i + 1),bk := D.nx } σ2 H2) (hd : ∀ σ H,Pv xs.length σ H -> D.nx σ H) :
  ∃ W : Nat -> Nat -> St -> Hp -> Prop,(∃ m,W 0 m σ H) /\ ∀ i m σ H,W i m σ H →
   ((Itz K l1 l2 xs ys).stop i H /\ D.nx σ H) \/ ((Itz K l1 l2 xs ys).go i H /\ ∃ N : St -> Hp -> Prop,(∀ σ' H',N σ' H' -> ∃ m',m' < m /\ W (i + 1) m' σ' H') /\ ∀ x H',(Itz K l1 l2 xs ys).yld i H x H' -> g x σ H' fun σ2 H2 => tb { D with nx := N,ct := N,bk := D.nx } σ2 H2) := by
 refine ⟨fun i m σ H => m = xs.length - i /\ i <= xs.length /\ Pv i σ H,⟨xs.length,by simp,Nat.zero_le _,h0⟩,?_⟩
 rintro i m σ H ⟨rfl,hi,p⟩
 obtain ⟨q1,q2⟩ := hl i σ H hi p
 by_cases hlt : i < xs.length
 ·refine .inr ⟨⟨q1,q2,hlt,by omega⟩,Pv (i + 1),fun σ' H' p' => ⟨xs.length - (i + 1),by omega,rfl,hlt,p'⟩,fun x H' y => ?_⟩
  obtain ⟨T,u,v,hT,rfl,hu,hv,rfl⟩ := y
  exact hs i u v T σ H hlt hu hv hT p
 ·have e : i = xs.length := by omega
  exact .inl ⟨⟨q1,q2,.inl (by omega)⟩,hd σ H (e ▸ p)⟩
section
variable {X : Cx} {pos : Pos}
end
section
variable {X : Cx} {e : Expr} {es : List Expr} {n : Nat} {te : TE} {t : TJ} {pos : Pos}
end
theorem qe4_ {α : Type} (f : α -> Bool) (d : α) : ∀ (l : List α),(List.range l.length).any (fun i => f (l.getD i d)) = l.any f := fun l => by
 rw [Bool.eq_iff_iff,List.any_eq_true,List.any_eq_true]
 constructor
 ·rintro ⟨i,hi,e⟩
  have hi := List.mem_range.mp hi
  rw [List.getD_eq_getElem?_getD,List.getElem?_eq_getElem hi] at e
  exact ⟨_,List.getElem_mem hi,e⟩
 ·rintro ⟨x,hx,e⟩
  obtain ⟨i,hi,rfl⟩ := List.getElem_of_mem hx
  refine ⟨i,List.mem_range.mpr hi,?_⟩
  rw [List.getD_eq_getElem?_getD,List.getElem?_eq_getElem hi]
  exact e
theorem qe5_ {α : Type} (f : α -> Bool) (d : α) : ∀ (l : List α),(List.range l.length).all (fun i => f (l.getD i d)) = l.all f := fun l => by
 rw [Bool.eq_iff_iff,List.all_eq_true,List.all_eq_true]
 constructor
 ·intro h x hx
  obtain ⟨i,hi,rfl⟩ := List.getElem_of_mem hx
  have := h i (List.mem_range.mpr hi)
  rw [List.getD_eq_getElem?_getD,List.getElem?_eq_getElem hi] at this
  exact this
 ·intro h i hi
  have hi := List.mem_range.mp hi
  rw [List.getD_eq_getElem?_getD,List.getElem?_eq_getElem hi]
  exact h _ (List.getElem_mem hi)
section
variable {X : Cx}
theorem zw_ {ns : List Int} {its : List Value} (rv : Vals (ns.map V.int) its) {i : Nat} {v : Value} (h : its.toArray[i]? = some v) : ∃ t,v = Value.int (ns.getD i 0) t := by
 have h' : its[i]? = some v := by simpa using h
 have hi : i < ns.length := by
  have := rv.length
  rw [List.length_map] at this
  rw [this]
  exact (List.getElem?_eq_some_iff.mp h').1
 obtain ⟨u,hu,ru⟩ := rv.get (i := i) (x := V.int ns[i]) (by rw [List.getElem?_map,List.getElem?_eq_getElem hi]; rfl)
 rw [h'] at hu
 cases hu
 obtain ⟨t,rfl⟩ := ru
 exact ⟨t,by rw [List.getD_eq_getElem?_getD,List.getElem?_eq_getElem hi]; rfl⟩
theorem qiz_ {bs : List Bool} {its : List Value} (rv : Vals (bs.map V.bl) its) {i : Nat} {v : Value} (h : its.toArray[i]? = some v) : v = Value.bool (bs.getD i false) := by
 have h' : its[i]? = some v := by simpa using h
 have hi : i < bs.length := by
  have := rv.length
  rw [List.length_map] at this
  rw [this]
  exact (List.getElem?_eq_some_iff.mp h').1
 obtain ⟨u,hu,ru⟩ := rv.get (i := i) (x := V.bl bs[i]) (by rw [List.getElem?_map,List.getElem?_eq_getElem hi]; rfl)
 rw [h'] at hu
 cases hu
 rw [List.getD_eq_getElem?_getD,List.getElem?_eq_getElem hi]
 exact ru
theorem uX_ (hc : X.calm = true) : jz_ X (.builtin "any") (fun xs H Q => ∃ (p : Addr) (ns : List Int),xs = [.ref p] ∧ SqL X.K H p (ns.map V.int) ∧ Q (.bl (ns.any fun i => i != 0)) H) := by
 intro pins s σ H xs us Q I r h
 obtain ⟨p,ns,rfl,hq,q⟩ := h
 obtain ⟨u,rfl,rx⟩ := jJ_ r
 cases rx
 obtain ⟨its,rv,⟨o,nn,e1,e2,e3,e4⟩,hz⟩ := I.list hq
 have hne : p ≠ s.heap.objs.size := Nat.ne_of_lt (Heap.lt_size e1)
 refine call_any_walk (wpAny_pyIter_list ⟨o,e1,e2,nn,e4⟩ ?_)
 refine ⟨_,_,_,_,_,_,fun i => ns.getD i 0 != 0,rfl,Walks.list (A := X.A.in1) (show X.A.in1.handled = none from I.ok.hd hc) s.heap.objs.size p hne its.toArray,⟨⟨_,Heap.get?_push_size _ rfl,rfl,rfl⟩,⟨o,Heap.get?_push_of_some _ e1,e2,nn,e4⟩⟩,fun i v s' Q' E' hv q' => ?_,fun h' tk kp => ?_⟩
 ·obtain ⟨t,rfl⟩ := zw_ rv hv
  exact P.truthy_int q'
 ·have hl : its.toArray.size = ns.length := by
   have := rv.length
   rw [List.length_map] at this
   simp [this]
  rw [hl,qe4_ (fun i : Int => i != 0) 0 ns]
  exact ⟨.bl _,H,I.kept (t' := tk) fun b o e => kp b o (fun z => by rw [List.mem_singleton.mp z] at e; exact absurd (Heap.lt_size e) (Nat.lt_irrefl _)) (Heap.get?_push_of_some _ e),rfl,q⟩
theorem qe6_ (hc : X.calm = true) : jz_ X (.builtin "all") (fun xs H Q => ∃ (p : Addr) (bs : List Bool),xs = [.ref p] ∧ SqL X.K H p (bs.map V.bl) ∧ Q (.bl (bs.all fun b => b)) H) := by
 intro pins s σ H xs us Q I r h
 obtain ⟨p,bs,rfl,hq,q⟩ := h
 obtain ⟨u,rfl,rx⟩ := jJ_ r
 cases rx
 obtain ⟨its,rv,⟨o,nn,e1,e2,e3,e4⟩,hz⟩ := I.list hq
 have hne : p ≠ s.heap.objs.size := Nat.ne_of_lt (Heap.lt_size e1)
 refine call_all_walk (wpAny_pyIter_list ⟨o,e1,e2,nn,e4⟩ ?_)
 refine ⟨_,_,_,_,_,_,fun i => bs.getD i false,rfl,Walks.list (A := X.A.in1) (show X.A.in1.handled = none from I.ok.hd hc) s.heap.objs.size p hne its.toArray,⟨⟨_,Heap.get?_push_size _ rfl,rfl,rfl⟩,⟨o,Heap.get?_push_of_some _ e1,e2,nn,e4⟩⟩,fun i v s' Q' E' hv q' => ?_,fun h' tk kp => ?_⟩
 ·rw [qiz_ rv hv]
  exact wpAny_truthy_bool q'
 ·have hl : its.toArray.size = bs.length := by
   have := rv.length
   rw [List.length_map] at this
   simp [this]
  rw [hl,qe5_ (fun b : Bool => b) false bs]
  exact ⟨.bl _,H,I.kept (t' := tk) fun b o e => kp b o (fun z => by rw [List.mem_singleton.mp z] at e; exact absurd (Heap.lt_size e) (Nat.lt_irrefl _)) (Heap.get?_push_of_some _ e),rfl,q⟩
theorem uY_ (hc : X.calm = true) : jz_ X (.builtin "max") (fun xs H Q => ∃ (p : Addr) (ns : List Int),xs = [.ref p] ∧ SqL X.K H p (ns.map V.int) ∧ ns ≠ [] ∧ ∀ z,z ∈ ns → (∀ y ∈ ns,y ≤ z) → Q (.int z) H) := by
 intro pins s σ H xs us Q I r h
 obtain ⟨p,ns,rfl,hq,hn,q⟩ := h
 obtain ⟨u,rfl,rx⟩ := jJ_ r
 cases rx
 obtain ⟨its,rv,⟨o,nn,e1,e2,e3,e4⟩,hz⟩ := I.list hq
 have hne : p ≠ s.heap.objs.size := Nat.ne_of_lt (Heap.lt_size e1)
 have hl : its.toArray.size = ns.length := by
  have := rv.length
  rw [List.length_map] at this
  simp [this]
 have hpos : 0 < ns.length := List.length_pos_iff.mpr hn
 refine call_max_walk (wpAny_pyIter_list ⟨o,e1,e2,nn,e4⟩ ?_)
 refine ⟨_,_,_,_,_,_,fun i j => decide (ns.getD i 0 > ns.getD j 0),rfl,Walks.list (A := X.A.in1) (show X.A.in1.handled = none from I.ok.hd hc) s.heap.objs.size p hne its.toArray,⟨⟨_,Heap.get?_push_size _ rfl,rfl,rfl⟩,⟨o,Heap.get?_push_of_some _ e1,e2,nn,e4⟩⟩,fun b hb => ?_,(show 0 < its.toArray.size by rw [hl]; exact hpos),CmpOf.ints_gt (fun i => ns.getD i 0) fun i v hv => zw_ rv hv,fun v h' tk hv kp => ?_⟩
 ·show b < (s.heap.push _).objs.size
  rw [Heap.size_push]
  rcases List.mem_cons.mp hb with z | z
  ·rw [z]; exact Nat.lt_succ_self _
  ·rw [List.mem_singleton.mp z]; exact Nat.lt_succ_of_lt (Heap.lt_size e1)
 ·obtain ⟨t,rfl⟩ := zw_ rv hv
  have g := argBest_gt (fun i => ns.getD i 0) (its.toArray.size - 1)
  rw [hl] at g ⊢
  obtain ⟨g1,g2⟩ := g
  generalize argBest (fun i j => decide (ns.getD i 0 > ns.getD j 0)) (ns.length - 1) = m at g1 g2
  have hm : m < ns.length := by omega
  have em : ns.getD m 0 = ns[m] := by rw [List.getD_eq_getElem?_getD,List.getElem?_eq_getElem hm]; rfl
  rw [em] at g2 ⊢
  exact ⟨.int ns[m],H,I.kept (t' := tk) fun b o e => kp b o (fun z => by rw [List.mem_singleton.mp z] at e; exact absurd (Heap.lt_size e) (Nat.lt_irrefl _)) (Heap.get?_push_of_some _ e),⟨_,rfl⟩,q _ (List.getElem_mem hm) fun y hy => by
   obtain ⟨j,hj,rfl⟩ := List.getElem_of_mem hy
   have := g2 j (by omega)
   rw [List.getD_eq_getElem?_getD,List.getElem?_eq_getElem hj] at this
   exact this⟩
end
theorem jn_ {K : PySem.W.Frag} {a : Addr} {xs : List V} {f : Nat -> V} {k : Nat} {te : TE} {cs : St} {H1 : Hp} {D : Addr} {Q : Hp -> Prop} (hs : SqL K H1 a xs) (hD : H1 D = none) (hk : k = cs.length) (hn : xs.length <= sizeLine)
  (he : ∀ i x H (R : V -> Hp -> Prop),xs[i]? = some x -> Same H1 H -> (∀ H4,Same H H4 -> R (f i) H4) -> te (cs ++ [some x]) H R)
  (hQ : ∀ H,Same H1 H -> H D = some (.lst ((List.range xs.length).map f)) -> Q H) : q3_ (Itl K a) (qT_ k) jd_ te (cs ++ [none]) H1 D Q := by
 refine zX_ (src := fun i => xs.getD i .non) (f := f) (n := xs.length) hD hk hn (fun H sm => ⟨xs,sm.seq hs,Nat.le_refl _⟩) (fun i H hi sm => ⟨xs,xs[i],sm.seq hs,List.getElem?_eq_getElem hi⟩) (fun i H x H' hi sm y => ?_) (fun i H R hi sm r => ?_) hQ
 ·obtain ⟨e,y⟩ := y
  refine ⟨?_,e⟩
  have := y xs (sm.seq hs)
  rw [List.getD_eq_getElem?_getD,this]
  rfl
 ·refine he i _ H R ?_ sm r
  rw [List.getD_eq_getElem?_getD,List.getElem?_eq_getElem hi]
  rfl
theorem vy_ {J : It} {n k : Nat} {src f : Nat -> V} {b : Nat -> Bool} {tt : TT} {te : TE} {cs : St} {H1 : Hp} {D : Addr} {Q : Hp -> Prop} (hD : H1 D = none) (hk : k = cs.length) (hn : n <= sizeLine)
  (stop : ∀ H,Same H1 H -> J.stop n H) (go : ∀ i H,i < n -> Same H1 H -> J.go i H) (yld : ∀ i H x H',i < n -> Same H1 H -> J.yld i H x H' -> x = src i /\ H' = H)
  (ht : ∀ i H (R : Bool -> Hp -> Prop),i < n -> Same H1 H -> (∀ H4,Same H H4 -> R (b i) H4) -> tt (cs ++ [some (src i)]) H R)
  (he : ∀ i H (R : V -> Hp -> Prop),i < n -> b i = true -> Same H1 H -> (∀ H4,Same H H4 -> R (f i) H4) -> te (cs ++ [some (src i)]) H R)
  (hQ : ∀ H,Same H1 H -> H D = some (.lst (((List.range n).filter b).map f)) -> Q H) : q3_ J (qT_ k) tt te (cs ++ [none]) H1 D Q := by
 refine ⟨fun i m ys σ H => m = n - i /\ i <= n /\ Same H1 H /\ ys = ((List.range i).filter b).map f /\ H D = some (.lst ys) /\ ∃ o,σ = cs ++ [o],⟨n,rfl,Nat.zero_le _,(Same.refl _).up hD,rfl,qd_,none,rfl⟩,?_⟩
 rintro i m ys σ H ⟨rfl,hi,sm,rfl,hd,o,rfl⟩
 refine ⟨hd,?_⟩
 by_cases hlt : i < n
 ·refine .inr ⟨go i H hlt sm,fun x H' y => ?_⟩
  obtain ⟨rfl,rfl⟩ := yld i H x H' hlt sm y
  have e : (cs ++ [o]).set k (some (src i)) = cs ++ [some (src i)] := by
   rw [hk,List.set_append_right _ _ (Nat.le_refl _),Nat.sub_self]
   rfl
  unfold qT_
  rw [e]
  refine ht i H' _ hlt sm fun H4 s4 => ?_
  have er : (List.range (i + 1)).filter b = (List.range i).filter b ++ (if b i = true then [i] else []) := by
   rw [List.range_succ,List.filter_append]
   congr 1
   by_cases z : b i = true
   ·rw [if_pos z,List.filter_cons_of_pos z,List.filter_nil]
   ·rw [if_neg z,List.filter_cons_of_neg z,List.filter_nil]
  by_cases z : b i = true
  ·rw [if_pos z]
   refine he i H4 _ hlt z (sm.trans s4) fun H5 s5 => ⟨s5 _ _ (s4 _ _ hd),?_,n - (i + 1),by omega,rfl,hlt,((sm.trans s4).trans s5).up hD,?_,qd_,_,rfl⟩
   ·rw [List.length_map]
    have := List.length_filter_le b (List.range i)
    rw [List.length_range] at this
    omega
   ·rw [er,if_pos z,List.map_append]
    rfl
  ·rw [if_neg z]
   refine ⟨n - (i + 1),by omega,rfl,hlt,sm.trans s4,?_,s4 _ _ hd,_,rfl⟩
   rw [er,if_neg z,List.append_nil]
 ·have e : i = n := by omega
  subst e
  exact .inl ⟨stop H sm,hQ H sm hd⟩
theorem y6_ {n : Nat} {f : Nat -> V} {b : Nat -> Bool} {k : Nat} {tt : TT} {te : TE} {cs : St} {H1 : Hp} {D : Addr} {Q : Hp -> Prop} (hD : H1 D = none) (hk : k = cs.length) (hn : n <= sizeLine)
  (ht : ∀ i H (R : Bool -> Hp -> Prop),i < n -> Same H1 H -> (∀ H4,Same H H4 -> R (b i) H4) -> tt (cs ++ [some (.int (i : Nat))]) H R)
  (he : ∀ i H (R : V -> Hp -> Prop),i < n -> b i = true -> Same H1 H -> (∀ H4,Same H H4 -> R (f i) H4) -> te (cs ++ [some (.int (i : Nat))]) H R)
  (hQ : ∀ H,Same H1 H -> H D = some (.lst (((List.range n).filter b).map f)) -> Q H) : q3_ (Itr 0 n) (qT_ k) tt te (cs ++ [none]) H1 D Q :=
 vy_ (src := fun i => .int (0 + (i : Nat))) hD hk hn (fun H _ => Nat.le_refl _) (fun i H hi _ => hi) (fun i H x H' _ _ y => ⟨y.2,y.1⟩) (fun i H R hi sm r => by
  have e : (0 : Int) + (i : Nat) = (i : Nat) := by omega
  rw [e]
  exact ht i H R hi sm r) (fun i H R hi hb sm r => by
  have e : (0 : Int) + (i : Nat) = (i : Nat) := by omega
  rw [e]
  exact he i H R hi hb sm r) hQ
variable {X : Cx}
def SameBut (D : Addr) (H H' : Hp) : Prop := ∀ y o,y ≠ D -> H y = some o -> H' y = some o
variable {X : Cx}
end L2
namespace GF
end GF
namespace L2
open PySem PySem.Spec PyProof.Rows
structure CompOkC (N : List Str) (osc sc : Scope) (cap : List Nat) (y : Str) : Prop where
 kind : sc.kind = .function
 one : sc.names.filter (fun p => p.2 == NameKind.cell) = [(y,NameKind.cell)]
 mine : sc.names.lookup y = some .cell
 locs : ∀ y ∈ sc.names,y.2 = .local -> sc.names.lookup y.1 = some .local
 free1 : ∀ y ∈ sc.names,y.2 = .free -> sc.names.lookup y.1 = some .free
 frees : ∀ y ∈ sc.names,y.2 = .free -> osc.names.lookup y.1 = some .cell \/ osc.names.lookup y.1 = some .free
 capf : ∀ i ∈ cap,∃ x,N[i]? = some x /\ sc.names.lookup x = some .free
section
variable {X : Cx} {pins : List (Addr × Obj)} {σ : St} {H : Hp} {s : Shared} {sc : Scope} {cl : List (Str × Addr)} {cap : List Nat} {y : Str}
end
section
variable {X : Cx} {sc : Scope} {cap : List Nat} {y : Str} {tg iter elt : Expr} {ifs : List Expr} {pos : Pos} {wi : TI} {g : TG} {tt : TT} {te : TE}
end
section
variable {X : Cx}
end
theorem qgz_ {M : Model} {A : Around} {E : Value -> Shared -> Prop} {s : Shared} {env : Env} {name : Str} {args : Arguments} {body : List Stmt} {scope : Scope} {pos : Pos} {Q : Flow -> Shared -> Prop}
  (h1 : defaultsOf args env = ([],[])) (h2 : annotationsOf (args.args ++ args.posonlyargs ++ args.vararg.toList ++ args.kwonlyargs ++ args.kwarg.toList) env = [])
  (h : wpAny M A (makeFunction name (qualnameIn env name name) args (.stmts body) scope env [] [] [] pos pos.line) (fun f s1 => wpAny M A (storeName env name f) (fun _ s2 => Q .next s2) E s1) E s) :
  wpAny M A (exec (.FunctionDef name args body [] none [] scope none name pos) env) Q E s := by
 rw [arm_exec_FunctionDef]
 obtain ⟨po,a,va,ko,kd,kwa,df⟩ := args
 unfold defStmt
 simp only [h1,h2,evalEach,evalOpt,List.isEmpty_nil,Bool.not_true,Bool.false_and,List.map_nil,Option.map_none,Option.toList_none,List.append_nil]
 rw [if_neg Bool.false_ne_true]
 refine wpAny_bind (wpAny_evalAll_nil ?_)
 refine wpAny_bind (wpAny_standAt ?_)
 refine wpAny_bind (wpAny_holding ?_)
 refine wpAny_bind (wpAny_evalAll_nil ?_)
 refine wpAny_bind (wpAny_holding (wpAny_pure (α := List (Option Value)) (a := []) ?_))
 refine wpAny_holding ?_
 refine wpAny_bind (wpAny_pure (α := List (Str × Value)) (a := []) ?_)
 refine wpAny_mono h (fun f s1 q => ?_) fun _ _ z => z
 refine wpAny_bind (wpAny_pure (α := Value) (a := f) ?_)
 refine wpAny_bind (wpAny_standAt ?_)
 refine wpAny_bind (wpAny_bindName ?_)
 exact wpAny_mono q (fun _ s2 z => wpAny_pure z) fun _ _ z => z
def jS_ (q : Str) (c : Addr) : HO := .ext fun h => h.CodeRec (.ref c) q
def FunO (fa : Addr) (fd : FuncData) : HO := .ext fun h => h.get? fa = some { cls := .type "function",data := .func fd }
structure TabK (X : Cx) (c P : Addr) : Prop where
 cd : X.env.code = .ref c
 hd : PySem.W.codeHdIn X.K c P = true
 blt : X.base.BuiltinsAt X.mg P
 ne : mainGlobals ≠ P
section
variable {X : Cx} {pins : List (Addr × Obj)} {σ : St} {H : Hp} {s : Shared}
theorem qg0_ {P : Program} {w : World} {h : Heap} {c : Addr} {q : Str} (e : h.CodeRec (.ref c) q) : ObjOk P w H h c (jS_ q c) := by
 refine ⟨e,?_,fun h1 h2 e1 k => ?_⟩
 ·obtain ⟨c',o,vs,t,e1,e2,_⟩ := e
  cases e1
  exact ⟨o,e2⟩
 ·obtain ⟨c',o,vs,t,e1,e2,e3⟩ := e1
  cases e1
  exact ⟨c,o,vs,t,rfl,k o e2,e3⟩
theorem qcn_ {P : Program} {w : World} {h : Heap} {fa : Addr} {fd : FuncData} (e : h.get? fa = some { cls := .type "function",data := .func fd }) : ObjOk P w H h fa (FunO fa fd) := ⟨e,⟨_,e⟩,fun h1 h2 e1 k => k _ e1⟩
theorem Inv.fnew {P c' : Addr} {ps more : Array Value} {q : Str} {h' : Heap} {fd : FuncData} {tk : Nat} (I : Inv X pins σ H s) (hP : H P = some (.tbl ps)) (x : Heap.ExtBut P s.heap h') (h1 : s.heap.objs.size <= c') (h2 : c' < h'.objs.size) (cr : h'.CodeRec (.ref c') q) (ht : h'.get? P = some (PySem.W.tabObj (ps ++ more))) :
  Inv X pins σ (upd (upd (upd H P (.tbl (ps ++ more))) c' (jS_ q c')) h'.objs.size (FunO h'.objs.size fd)) { s with heap := h'.push { cls := .type "function",data := .func fd },toks := tk } := by
 have ltP : P < s.heap.objs.size := (I.hok P _ hP).lt
 have le' : s.heap.objs.size <= h'.objs.size := Nat.le_trans h1 (Nat.le_of_lt h2)
 have nP : ∀ b,H b = none -> b ≠ P := fun b e z => by rw [z,hP] at e; cases e
 have old : ∀ b o,s.heap.get? b = some o -> b ≠ c' /\ b ≠ h'.objs.size := fun b o e => ⟨Nat.ne_of_lt (Nat.lt_of_lt_of_le (Heap.lt_size e) h1),Nat.ne_of_lt (Nat.lt_of_lt_of_le (Heap.lt_size e) le')⟩
 have oldH : ∀ b u,H b = some u -> b ≠ c' /\ b ≠ h'.objs.size := fun b u e => ⟨Nat.ne_of_lt (Nat.lt_of_lt_of_le (I.hok b u e).lt h1),Nat.ne_of_lt (Nat.lt_of_lt_of_le (I.hok b u e).lt le')⟩
 have keepN : ∀ b o,b ≠ P → s.heap.get? b = some o → (h'.push { cls := .type "function",data := .func fd }).get? b = some o := fun b o hb e => Heap.get?_push_of_some _ (x b o hb e)
 have at_ : ∀ b u,b ≠ P -> H b = some u -> upd (upd (upd H P (.tbl (ps ++ more))) c' (jS_ q c')) h'.objs.size (FunO h'.objs.size fd) b = some u := fun b u hb e => by
  rw [qe_ (oldH b u e).2,qe_ (oldH b u e).1,qe_ hb]
  exact e
 have isP : upd (upd (upd H P (.tbl (ps ++ more))) c' (jS_ q c')) h'.objs.size (FunO h'.objs.size fd) P = some (.tbl (ps ++ more)) := by
  rw [qe_ (oldH P _ hP).2,qe_ (oldH P _ hP).1]
  exact qd_
 refine I.step (g' := s.gens) (d' := s.drawn) (ch := []) (fun _ z => nomatch z) (fun b o _ _ _ e n => keepN b o (nP b n) e) (fun b o _ _ _ e n => ⟨o.slots,keepN b o (nP b n) e⟩) (fun b o _ e n => ?_) (fun b o _ e => ?_) (fun b xs e => at_ b _ (fun z => by rw [z,hP] at e; cases e) e) (fun b o u e => at_ b _ (fun z => by rw [z,hP] at e; cases e) e) (fun b ps' e => ?_) (fun m hm => ?_) (fun b u e => ?_) I.bare
 ·rw [qe_ (old b o e).2,qe_ (old b o e).1,qe_ (nP b n)]
  exact n
 ·by_cases z : b = P
  ·rw [z]
   exact ⟨_,Heap.get?_push_of_some _ ht⟩
  ·exact ⟨o,keepN b o z e⟩
 ·by_cases z : b = P
  ·subst z
   rw [hP] at e
   cases e
   exact ⟨more,isP⟩
  ·exact ⟨#[],by rw [at_ b _ z e]; simp⟩
 ·obtain ⟨o,es,ep,ho,r⟩ := hm
  exact ⟨o,es,ep,keepN _ o (nP _ I.free) ho,r⟩
 ·by_cases z1 : b = h'.objs.size
  ·rw [z1,qd_] at e
   cases e
   rw [z1]
   exact qcn_ (Heap.get?_push_size _ rfl)
  rw [qe_ z1] at e
  by_cases z2 : b = c'
  ·rw [z2,qd_] at e
   cases e
   rw [z2]
   refine qg0_ ?_
   obtain ⟨c'',o,vs,t,e1,e2,e3⟩ := cr
   exact ⟨c'',o,vs,t,e1,Heap.get?_push_of_some _ e2,e3⟩
  rw [qe_ z2] at e
  by_cases z3 : b = P
  ·rw [z3,qd_] at e
   cases e
   rw [z3]
   exact Heap.get?_push_of_some _ ht
  rw [qe_ z3] at e
  refine (I.hok b u e).stay (fun c v hc q => keepN c v ?_ q) (fun c q => at_ c _ (fun z => by rw [z,hP] at q; cases q) q) fun c xs q => at_ c _ (fun z => by rw [z,hP] at q; cases q) q
  rcases hc with z | z
  ·rw [z]; exact z3
  ·exact fun y => by rw [y,hP] at z; cases z
theorem Inv.fhit {h' : Heap} {fd : FuncData} {tk : Nat} (I : Inv X pins σ H s) (x : ∀ b o,s.heap.get? b = some o -> h'.get? b = some o) (le' : s.heap.objs.size <= h'.objs.size) :
  Inv X pins σ (upd H h'.objs.size (FunO h'.objs.size fd)) { s with heap := h'.push { cls := .type "function",data := .func fd },toks := tk } :=
 I.laid (t' := tk) (fun b u e => Heap.get?_push_of_some _ (x b u e)) le' (qcn_ (Heap.get?_push_size _ rfl))
def tFn (P : Addr) (pos : Pos) (q : Str) (mk : Value -> Value -> Value -> Value -> FuncData) : TE := fun σ H Q => ∃ ps,H P = some (.tbl ps) /\ TriplesOk ps.toList ∧
 ((codeAmong pos ps.toList = none /\ ∀ (c' fa : Addr) (doc pm ctv : Value),H c' = none -> H fa = none -> fa ≠ c' -> Q (.ref fa) (upd (upd (upd H P (.tbl (ps ++ #[rawInt pos.line,rawInt pos.col,.ref c']))) c' (jS_ q c')) fa (FunO fa (mk doc pm (.ref c') ctv)))) ∨
   ∃ c',codeAmong pos ps.toList = some (.ref c') /\ H c' = some (jS_ q c') /\ ∀ (fa : Addr) (doc pm ctv : Value),H fa = none -> Q (.ref fa) (upd H fa (FunO fa (mk doc pm (.ref c') ctv))))
theorem Inv.blt {P : Addr} (I : Inv X pins σ H s) (b : X.base.BuiltinsAt X.mg P) : s.heap.BuiltinsAt X.mg P := by
 obtain ⟨bm,o,e1,e2,e3,e4,e5,e6,e7,e8⟩ := b
 exact ⟨bm,o,e1,e2,e3,e4,I.bk _ _ e5,e6,e7,e8⟩
theorem Inv.nsg (I : Inv X pins σ H s) : s.heap.Ns mainGlobals X.mg := by
 obtain ⟨o,es,ep,ho,r⟩ := I.mod.glob
 exact ⟨o,es,ep,I.bk _ _ ho,r⟩
theorem qg1_ {c P : Addr} {name q : Str} {params : Arguments} {body : List Stmt} {scope : Scope} {pos : Pos} {ln : Nat} {clos : List (Str × Addr)} {Q : VK} (T : TabK X c P) (hcl : closureFor scope X.env = pure clos) (I : Inv X pins σ H s)
  (h : tFn P pos q (fun doc pm cdv ctv => PySem.W.fnX name q params body scope clos .none .none doc pm none cdv ctv) σ H Q) :
  wpAny (model X.prog X.w) X.A (makeFunction name q params (.stmts body) scope X.env [] [] [] pos ln) (EP X pins σ Q) X.xe s := by
 obtain ⟨ps,hP,tr,h⟩ := h
 have hd := PySem.W.codeHd_of_K I.kIn T.hd
 have tb : s.heap.get? P = some (PySem.W.tabObj ps) := I.hok P _ hP
 rcases h with ⟨hn,h⟩ | ⟨c',hs,hc,h⟩
 ·refine PySem.W.makeFunction_K hcl I.ok.glob I.nsg T.cd hd tb tr hn T.ne (I.blt T.blt) fun c' ctv doc h' tk x h1 h2 cr ht => ?_
  refine ⟨.ref h'.objs.size,_,I.fnew (more := #[rawInt pos.line,rawInt pos.col,.ref c']) hP x h1 h2 cr ht,rfl,h c' h'.objs.size doc _ ctv (I.hok.fresh h1) (I.hok.fresh (Nat.le_trans h1 (Nat.le_of_lt h2))) (Nat.ne_of_gt h2)⟩
 ·refine PySem.W.makeFunction_hit hcl I.ok.glob I.nsg T.cd hd tb tr hs (I.blt T.blt) fun ctv doc h' tk x le' => ?_
  exact ⟨.ref h'.objs.size,_,I.fhit x le',rfl,h h'.objs.size doc _ ctv (I.hok.fresh le')⟩
theorem qg2_ {c P : Addr} {name q : Str} {params : Arguments} {body : Expr} {scope : Scope} {pos : Pos} {ln : Nat} {clos : List (Str × Addr)} {Q : VK} (T : TabK X c P) (hcl : closureFor scope X.env = pure clos) (I : Inv X pins σ H s)
  (h : tFn P pos q (fun _ pm cdv ctv => PySem.W.kla_fn name q params body scope clos pm cdv ctv) σ H Q) :
  wpAny (model X.prog X.w) X.A (makeFunction name q params (.expr body) scope X.env [] [] [] pos ln) (EP X pins σ Q) X.xe s := by
 obtain ⟨ps,hP,tr,h⟩ := h
 have hd := PySem.W.codeHd_of_K I.kIn T.hd
 have tb : s.heap.get? P = some (PySem.W.tabObj ps) := I.hok P _ hP
 rcases h with ⟨hn,h⟩ | ⟨c',hs,hc,h⟩
 ·refine PySem.W.kla_makeFunction hcl I.ok.glob I.nsg T.cd hd tb tr hn T.ne (I.blt T.blt) fun c' ctv h' tk x h1 h2 cr ht => ?_
  refine ⟨.ref h'.objs.size,_,I.fnew (more := #[rawInt pos.line,rawInt pos.col,.ref c']) hP x h1 h2 cr ht,rfl,h c' h'.objs.size .none _ ctv (I.hok.fresh h1) (I.hok.fresh (Nat.le_trans h1 (Nat.le_of_lt h2))) (Nat.ne_of_gt h2)⟩
 ·refine PySem.W.kla_makeFunctionHit hcl I.ok.glob I.nsg T.cd hd tb tr hs (I.blt T.blt) fun ctv h' tk x le' => ?_
  exact ⟨.ref h'.objs.size,_,I.fhit x le',rfl,h h'.objs.size .none _ ctv (I.hok.fresh le')⟩
theorem qki_ {c P : Addr} {i : Nat} {name : Str} {params : Arguments} {body : List Stmt} {scope : Scope} {pos : Pos} {clos : List (Str × Addr)} (T : TabK X c P) (hcl : closureFor scope X.env = pure clos) (hN : X.N.Nodup) (hi : X.N[i]? = some name) (hx : Loc X.env.scope name)
  (h1 : defaultsOf params X.env = ([],[]) := by rfl) (h2 : annotationsOf (params.args ++ params.posonlyargs ++ params.vararg.toList ++ params.kwonlyargs ++ params.kwarg.toList) X.env = [] := by rfl) (hf : X.fn name = true \/ X.env.scope.names.lookup name = some .local := by first | exact .inl rfl | exact .inr rfl) :
  PS X (.FunctionDef name params body [] none [] scope none name pos) (tAsg (tFn P pos (qualnameIn X.env name name) (fun doc pm cdv ctv => PySem.W.fnX name (qualnameIn X.env name name) params body scope clos .none .none doc pm none cdv ctv)) (qT_ i)) := by
 intro pins s σ H D I h
 refine qgz_ h1 h2 (thn (qg1_ T hcl I h) fun v s1 ⟨y,H1,I1,r1,q1⟩ => ?_)
 exact zp_ I1 hN hi hx r1 (fun s2 I2 => ⟨_,H1,I2,q1⟩) hf
end
def CelO (c : Addr) (v : V) : HO := .ext fun h => ∃ u,RelV v u /\ h.IsCell c (some u)
def trC (cvs : List (Addr × V)) (H : Hp) : Hp := fun b => match cvs.lookup b with
 | some v => some (CelO b v)
 | none => H b
def untr (cvs : List (Addr × V)) (H : Hp) : Hp := fun b => match cvs.lookup b with
 | some _ => none
 | none => H b
section
variable {cvs : List (Addr × V)} {H : Hp} {b : Addr} {v : V}
theorem zY_ (e : cvs.lookup b = some v) : trC cvs H b = some (CelO b v) := by unfold trC; rw [e]
theorem ji_ (e : cvs.lookup b = none) : trC cvs H b = H b := by unfold trC; rw [e]
theorem ya_ (e : cvs.lookup b = some v) : untr cvs H b = none := by unfold untr; rw [e]
theorem q1_ (e : cvs.lookup b = none) : untr cvs H b = H b := by unfold untr; rw [e]
theorem qi0_ {P : Program} {w : World} {h : Heap} {c : Addr} {u : Value} (r : RelV v u) (e : h.IsCell c (some u)) : ObjOk P w H h c (CelO c v) := by
 obtain ⟨o,e1,e2⟩ := e
 refine ⟨⟨u,r,o,e1,e2⟩,⟨o,e1⟩,fun h1 h2 ⟨u',r',o',e1',e2'⟩ k => ⟨u',r',o',k _ e1',e2'⟩⟩
theorem qco_ {P : Program} {w : World} {h : Heap} (x : HOk P w H h) (free : ∀ c v,cvs.lookup c = some v -> H c = none) (cel : ∀ c v,cvs.lookup c = some v -> ∃ u,RelV v u /\ h.IsCell c (some u)) : HOk P w (trC cvs H) h := fun b o e => by
 have out : ∀ c u,H c = some u -> cvs.lookup c = none := fun c u e => by
  cases q : cvs.lookup c with
  | none => rfl
  | some v => rw [free c v q] at e; cases e
 cases q : cvs.lookup b with
 | some v =>
  rw [zY_ q] at e
  cases e
  obtain ⟨u,r,z⟩ := cel b v q
  exact qi0_ r z
 | none =>
  rw [ji_ q] at e
  exact (x b o e).stay (fun _ _ _ z => z) (fun c z => by rw [ji_ (out c _ z)]; exact z) fun c xs z => by rw [ji_ (out c _ z)]; exact z
theorem qg3_ {P : Program} {w : World} {h : Heap} (x : HOk P w H h) (cel : ∀ c v,cvs.lookup c = some v -> H c = some (CelO c v)) : HOk P w (untr cvs H) h := fun b o e => by
 cases q : cvs.lookup b with
 | some v => rw [ya_ q] at e; cases e
 | none =>
  rw [q1_ q] at e
  refine (x b o e).stay (fun _ _ _ z => z) (fun c z => ?_) fun c xs z => ?_
  ·cases q2 : cvs.lookup c with
   | none => rw [q1_ q2]; exact z
   | some v => rw [cel c v q2] at z; cases z
  ·cases q2 : cvs.lookup c with
   | none => rw [q1_ q2]; exact z
   | some v => rw [cel c v q2] at z; cases z
end
structure CloScope (N P : List Str) (sc : Scope) : Prop where
 kind : sc.kind = .function
 co : sc.isCoroutine = false
 gen : sc.isGenerator = false
 nd : N.Nodup
 pre : N.take P.length = P
 par : ∀ x ∈ P,sc.names.lookup x = some .local
 nocell : ∀ y ∈ sc.names,y.2 ≠ .cell
def envC (q : Str) (scope : Scope) (L fa : Addr) (cd : Value) (clos : List (Str × Addr)) : Env := newEnv scope L mainGlobals clos (q ++ Str.ofString ".<locals>.") (some fa) cd none builtinsNs
def cxC (P : Program) (w : World) (K : PySem.W.Frag) (mg : Str -> Option Value) (base : Heap) (N : List Str) (env : Env) (A : Around) (outer : List Env) (s : Shared) (H : Hp) : Cx where
 prog := P
 w := w
 K := K
 mg := mg
 base := base
 A := A.deeper env
 N := N
 s₀ := s
 H₀ := H
 env := env
 outer := outer
 stack := env :: outer
 ex := []
 calm := true
 fn := fun _ => false
 pn := []
 xe := fun _ _ => False
def qig_ (ps : List Str) (vs : List V) (scope : Scope) (clos : List (Str × Addr)) (cvs : List (Addr × V)) (N : List Str) (σ : St) : Prop :=
 σ.length = N.length /\ ∀ (i : Nat) (x : Str) (v : V),N[i]? = some x -> σ[i]? = some (some v) -> (ps[i]? = some x /\ vs[i]? = some v) \/ (scope.names.lookup x = some .free /\ ∃ c,clos.lookup x = some c /\ cvs.lookup c = some v)
structure Clos (scope : Scope) (clos : List (Str × Addr)) (cvs : List (Addr × V)) (H : Hp) : Prop where
 inj : ∀ x y c,clos.lookup x = some c -> clos.lookup y = some c -> x = y
 has : ∀ x,scope.names.lookup x = some .free -> ∃ c,clos.lookup x = some c
 val : ∀ x c,clos.lookup x = some c -> ∃ v,cvs.lookup c = some v
 at_ : ∀ c v,cvs.lookup c = some v -> H c = some (CelO c v)
section
variable {P : Program} {w : World} {K : PySem.W.Frag} {mg : Str -> Option Value} {base : Heap} {A : Around} {outer : List Env} {s : Shared} {H : Hp} {N ps : List Str} {scope : Scope} {fa : Addr} {q : Str} {cd : Value} {clos : List (Str × Addr)} {cvs : List (Addr × V)} {vs : List V} {us : List Value} {σ0 : St} {h' : Heap} {tk : Nat}
theorem qcp_ : ∀ {ps : List Str} {us : List Value} {i : Nat} {x : Str} {u : Value},ps.Nodup -> ps[i]? = some x -> us[i]? = some u -> (ps.zip us).reverse.lookup x = some u
 | ps,us,i,x,u,nd,e1,e2 => by
  have hm : (x,u) ∈ (ps.zip us).reverse := List.mem_reverse.mpr (List.mem_of_getElem? (i := i) (List.getElem?_zip_eq_some (z := (x,u)).mpr ⟨e1,e2⟩))
  have uq : ∀ v,(x,v) ∈ (ps.zip us).reverse -> v = u := fun v hv => by
   obtain ⟨j,hj⟩ := List.getElem?_of_mem (List.mem_reverse.mp hv)
   obtain ⟨j1,j2⟩ := List.getElem?_zip_eq_some.mp hj
   have : i = j := vE_ nd e1 j1
   subst this
   rw [e2] at j2
   exact (Option.some.inj j2).symm
  generalize (ps.zip us).reverse = l at hm uq
  induction l with
  | nil => exact absurd hm List.not_mem_nil
  | cons p l ih =>
   obtain ⟨y,v⟩ := p
   rw [List.lookup_cons]
   by_cases e : x = y
   ·subst e
    simp only [beq_self_eq_true]
    rw [uq v List.mem_cons_self]
   ·have : (x == y) = false := beq_eq_false_iff_ne.mpr e
    rw [this]
    refine ih ?_ fun v hv => uq v (List.mem_cons_of_mem _ hv)
    rcases List.mem_cons.mp hm with z | z
    ·exact absurd (Prod.mk.inj z).1 e
    ·exact z
theorem qi1_ (S : CloScope N ps scope) (hd : A.handled = none) (e0 : Env0 P w K mg base A outer s H) (r : Vals vs us) (C : Clos scope clos cvs H) (h0 : qig_ ps vs scope clos cvs N σ0)
  (hn : h'.Ns s.heap.objs.size fun x => (ps.zip us).reverse.lookup x) (hs : Heap.SameBut s.heap.objs.size (s.heap.push { cls := .type "frame",data := .dict #[] }) h') :
  Inv (cxC P w K mg base N (envC q scope s.heap.objs.size fa cd clos) A outer s (untr cvs H)) [] σ0 (untr cvs H) { s with heap := h',toks := tk } := by
 have hk : ∀ b o,s.heap.get? b = some o -> h'.get? b = some o := fun b o e => by
  rw [hs.2 b (Nat.ne_of_lt (Heap.lt_size e))]
  exact Heap.get?_push_of_some _ e
 have noA : ∀ b : Addr,b ∉ ([] : List Addr) := fun b => List.not_mem_nil
 have cel : ∀ x c,clos.lookup x = some c -> ∃ v u,cvs.lookup c = some v /\ RelV v u /\ s.heap.IsCell c (some u) := fun x c e => by
  obtain ⟨v,hv⟩ := C.val x c e
  obtain ⟨⟨u,r,z⟩,_⟩ := (show ObjOk P w H s.heap c (CelO c v) from e0.hok c _ (C.at_ c v hv))
  exact ⟨v,u,hv,r,z⟩
 have ik : ∀ {c u},s.heap.IsCell c (some u) -> h'.IsCell c (some u) := fun ⟨o,e1,e2⟩ => ⟨o,hk _ _ e1,e2⟩
 refine ⟨⟨e0.mod,S.kind,rfl,rfl,Nat.le_refl _,C.inj,fun x hx => ?_,(fun x c z => Bool.noConfusion z),fun _ => hd,Around.frames_deeper e0.frames,.inr ⟨rfl,rfl⟩,fun b z => absurd z (noA b),fun b o e => ⟨(e0.bs b o e).1,?_⟩,e0.bsz,fun b _ _ => noA b,fun b z => absurd z (noA b),e0.funs,fun b hb => ?_⟩,
  rfl,e0.bare,Un.kept hk,⟨_,hn,fun i x v h1 h2 h3 => ?_⟩,fun x c e => ?_,?_,fun x c e => ?_,fun p hp => absurd (show p ∈ ([] : List (Addr × Obj)) from hp) (by simp),(qg3_ e0.hok C.at_).kept hk,h0.1⟩
 ·rcases hx with hx | hx
  ·exact absurd rfl (S.nocell _ (PySem.mem_of_lookup (show scope.names.lookup x = some .cell from hx)))
  ·exact C.has x hx
 ·have := (e0.bs b o e).2
  cases z : cvs.lookup b with
  | none => exact (q1_ z).trans this
  | some v => exact ya_ z
 ·have := e0.frf b hb
  cases z : cvs.lookup b with
  | none => exact (q1_ z).trans this
  | some v => exact ya_ z
 ·rcases h0.2 i x v h1 h2 with ⟨hp,hv⟩ | ⟨hf,c,hc,hv⟩
  ·obtain ⟨u,hu,rv⟩ := r.get hv
   have ndP : ps.Nodup := by rw [<- S.pre]; exact S.nd.sublist (List.take_sublist _ _)
   exact ⟨u,rv,.inl ⟨S.par x (List.mem_of_getElem? hp),qcp_ ndP hp hu⟩⟩
  ·obtain ⟨v',u,hv',ru,z⟩ := cel x c hc
   rw [hv] at hv'
   cases hv'
   exact ⟨u,ru,.inr ⟨.inr hf,c,hc,ik z⟩⟩
 ·obtain ⟨v',u,hv',ru,z⟩ := cel x c e
  exact ⟨_,ik z⟩
 ·have := e0.hok.fresh (Nat.le_refl _)
  show untr cvs H s.heap.objs.size = none
  cases z : cvs.lookup s.heap.objs.size with
  | none => exact (q1_ z).trans this
  | some v => exact ya_ z
 ·obtain ⟨v',u,hv',_⟩ := cel x c e
  exact ya_ hv'
theorem qcq_ {s' : Shared} {H' : Hp} {σ' : St} {env : Env} {v : V} {u : Value} {Q : VK} (C : Clos scope clos cvs H) (e0 : Env0 P w K mg base A outer s H) (J : Inv (cxC P w K mg base N env A outer s (untr cvs H)) [] σ' H' s') (rv : RelV v u) (hq : Q v (trC cvs H')) : CE outer P w H s Q u s' := by
 have B : Un (frs outer) [] (untr cvs H) H' s.heap s'.heap := J.base
 have out : ∀ b,(∀ v,H b ≠ some (CelO b v)) -> cvs.lookup b = none := fun b hb => by
  cases z : cvs.lookup b with
  | none => rfl
  | some v => exact absurd (C.at_ b v z) (hb v)
 have outN : ∀ b,H b = none -> cvs.lookup b = none := fun b hb => out b fun v z => by rw [hb] at z; cases z
 have noA : ∀ b : Addr,b ∉ ([] : List Addr) := fun b => List.not_mem_nil
 have nfr : ∀ c v,cvs.lookup c = some v -> c ∉ frs outer := fun c v e z => by
  have := e0.frf c z
  rw [C.at_ c v e] at this
  cases this
 have cell : ∀ c v,cvs.lookup c = some v -> H' c = none /\ ∃ u,RelV v u /\ s'.heap.IsCell c (some u) := fun c v e => by
  obtain ⟨⟨u,r,o,e1,e2⟩,_⟩ := (show ObjOk P w H s.heap c (CelO c v) from e0.hok c _ (C.at_ c v e))
  exact ⟨B.free c o e1 (ya_ e) (noA c),u,r,o,B.keep c o e1 (ya_ e) (nfr c v e) (noA c),e2⟩
 refine ⟨v,trC cvs H',J.os,J.bare,⟨fun b o e n hb hx => ?_,fun b o e n hb hx => ?_,fun b o e n hx => ?_,fun b o e hx => B.there b o e hx,fun b xs e => ?_,fun b o x e => ?_,fun b ps e => ?_⟩,qco_ J.hok (fun c v e => (cell c v e).1) (fun c v e => (cell c v e).2),rv,hq⟩
 ·exact B.keep b o e ((q1_ (outN b n)).trans n) hb hx
 ·exact B.slot b o e ((q1_ (outN b n)).trans n) hb hx
 ·exact (ji_ (outN b n)).trans (B.free b o e ((q1_ (outN b n)).trans n) hx)
 ·have z := out b fun v y => by rw [e] at y; cases y
  exact (ji_ z).trans (B.tups b xs ((q1_ z).trans e))
 ·have z := out b fun v y => by rw [e] at y; cases y
  exact (ji_ z).trans (B.frzs b o x ((q1_ z).trans e))
 ·have z := out b fun v y => by rw [e] at y; cases y
  obtain ⟨more,y⟩ := B.tbls b ps ((q1_ z).trans e)
  exact ⟨more,(ji_ z).trans y⟩
theorem qi2_ {k : Nat} {name : Str} {params : Arguments} {body : List Stmt} {doc pm ctv : Value} {c' : Addr} {Q : VK} {E : XK} {t : TS} (S : CloScope N ps scope) (hr : Room (k + 1) A) (e0 : Env0 P w K mg base A outer s H) (r : Vals vs us)
  (hf : H fa = some (FunO fa (PySem.W.fnX name q params body scope clos .none .none doc pm none (.ref c') ctv))) (hc : H c' = some (jS_ q c')) (hb : bindArgs (PySem.W.fnX name q params body scope clos .none .none doc pm none (.ref c') ctv) ⟨us,[]⟩ = pure (ps.zip us))
  (C : Clos scope clos cvs H) (h0 : qig_ ps vs scope clos cvs N σ0)
  (ht : PSs (cxC P w K mg base N (envC q scope s.heap.objs.size fa (.ref c') clos) A outer s (untr cvs H)) body t) (hq : t { nx := fun _ H' => Q .non (trC cvs H'),rt := fun v H' => Q v (trC cvs H') } σ0 (untr cvs H)) :
  codeAny (model P w) A (.call (.ref fa) ⟨us,[]⟩) (CR CX0 outer P w H s Q E) s := by
 have lim : s.heap.NoLimit := e0.mod.nolimit.keeps fun b o e => (e0.bs b o e).1
 have ho : s.heap.get? fa = some { cls := .type "function",data := .func (PySem.W.fnX name q params body scope clos .none .none doc pm none (.ref c') ctv) } := (e0.hok fa _ hf).1
 have hcr : s.heap.CodeRec (.ref c') q := (e0.hok c' _ hc).1
 refine codeAny_call_function hr.depth ho rfl S.co S.gen rfl hcr ?_
 rw [hb]
 refine wpAny_pure ?_
 refine wpAny_newFunctionEnv S.nocell (fun x hx => S.par x.1 (List.of_mem_zip hx).1) (fun h' hn hs => ?_) S.kind
 have hk : ∀ b o,s.heap.get? b = some o -> h'.get? b = some o := fun b o e => by
  rw [hs.2 b (Nat.ne_of_lt (Heap.lt_size e))]
  exact Heap.get?_push_of_some _ e
 refine ⟨lim.keeps hk,codeAny_func ?_⟩
 have I := qi1_ (q := q) (fa := fa) (cd := .ref c') (tk := s.toks + (ps.zip us).length) S hr.hd e0 r C h0 hn hs
 refine wpAny_mono (ht [] _ σ0 _ _ I hq) (fun fl s' hs' => ?_) fun e s' hs' => False.elim hs'
 cases fl with
 | ret u =>
  obtain ⟨v,σ',H',J,rv,q⟩ := hs'
  exact qcq_ C e0 J rv q
 | next =>
  obtain ⟨σ',H',J,q⟩ := hs'
  exact qcq_ (v := V.non) (u := Value.none) C e0 J rfl q
 | brk =>
  obtain ⟨_,_,_,q⟩ := hs'
  exact False.elim q
 | cont =>
  obtain ⟨_,_,_,q⟩ := hs'
  exact False.elim q
end
abbrev TR := (V -> St -> Hp -> Prop) -> St -> Hp -> Prop
def PSR (X : Cx) (body : List Stmt) (t : TR) : Prop := ∀ (pins : List (Addr × Obj)) (s : Shared) (σ : St) (H : Hp) (R : V -> St -> Hp -> Prop),Inv X pins σ H s -> t R σ H →
 wpAny (model X.prog X.w) X.A (execs body X.env) (fun f s' => ∃ v σ' H' u,f = .ret u /\ Inv X pins σ' H' s' /\ RelV v u /\ R v σ' H') X.xe s
def tRC (t : TS) (u : TR) : TR := fun R σ H => t { nx := u R,rt := fun _ _ => False } σ H
def tRR (te : TE) : TR := fun R σ H => te σ H fun v H' => R v σ H'
section
variable {X : Cx} {st : Stmt} {rest : List Stmt} {t : TS} {u : TR} {e : Expr} {te : TE} {pos : Pos}
theorem qg4_ (h1 : PS X st t) (h2 : PSR X rest u) : PSR X (st :: rest) (tRC t u) := by
 intro pins s σ H R I h
 refine wpAny_execs_cons (thn (h1 pins s σ H { nx := u R,rt := fun _ _ => False } I h) fun f s1 q => ?_)
 cases f with
 | next =>
  obtain ⟨σ',H',I',q⟩ := q
  exact h2 pins s1 σ' H' R I' q
 | ret v => obtain ⟨_,_,_,_,_,q⟩ := q; exact False.elim q
 | brk => obtain ⟨_,_,_,q⟩ := q; exact False.elim q
 | cont => obtain ⟨_,_,_,q⟩ := q; exact False.elim q
theorem qi3_ (he : PE X e te) : PSR X [.Return (some e) pos] (tRR te) := by
 intro pins s σ H R I h
 refine wpAny_execs_cons (wpAny_Return_some (thn (he pins s σ H _ I h) fun v s1 ⟨x,H1,I1,r1,q1⟩ => ?_))
 exact ⟨x,σ,H1,v,rfl,I1,r1,q1⟩
end
def qe7_ (N : List Str) (scope : Scope) (cs : List (Str × Addr)) (σ : St) (cvs : List (Addr × V)) : Prop := ∀ c v,cvs.lookup c = some v -> ∃ (i : Nat) (y : Str),N[i]? = some y /\ σ[i]? = some (some v) /\ cs.lookup y = some c /\ scope.names.lookup y = some .cell
section
variable {P : Program} {w : World} {K : PySem.W.Frag} {mg : Str -> Option Value} {base : Heap}
end
abbrev SpV := V -> List V -> Hp -> VK -> Prop
def ua_ (P : Program) (w : World) (K : PySem.W.Frag) (mg : Str -> Option Value) (base : Heap) (k : Nat) (sp : SpV) : Prop :=
 ∀ (A : Around) (outer : List Env) (s : Shared) (H : Hp) (f : V) (us : List Value) (vs : List V) (Q : VK),Room k A -> Env0 P w K mg base A outer s H -> Vals vs us -> sp f vs H Q →
  ∃ fa fd,f = .ref fa /\ H fa = some (FunO fa fd) /\ codeAny (model P w) A (.call (.ref fa) ⟨us,[]⟩) (CR CX0 outer P w H s Q E0) s
section
variable {X : Cx} {k : Nat} {sp : SpV} {x m : Str} {p pos apos : Pos} {e o : Expr} {es : List Expr} {ta : TE} {t : TA} {i : Nat} {pins : List (Addr × Obj)} {σ : St} {H : Hp} {s : Shared} {Q : VK} {us : List Value} {vs : List V} {f : V}
theorem qi4_ {u : Value} (F : ua_ X.prog X.w X.K X.mg X.base k sp) (hr : Room k X.A) (I : Inv X pins σ H s) (rf : RelV f u) (r : Vals vs us) (h : sp f vs H Q) :
  ∃ fa ob fd,u = .ref fa /\ s.heap.get? fa = some ob /\ ob.data = .func fd /\ wpAny (model X.prog X.w) X.A (call (.ref fa) us) (EP X pins σ Q) X.xe s := by
 obtain ⟨fa,fd,rfl,hf,hc⟩ := F X.A X.stack s H f us vs Q hr I.env0 r h
 obtain rfl : u = .ref fa := rf
 refine ⟨fa,_,fd,rfl,(I.hok fa _ hf).1,rfl,?_⟩
 refine wpAny_call (codeAny_mono hc fun r s' hq => ?_)
 cases r with
 | error e => exact False.elim hq
 | ok fl =>
  cases fl with
  | ret u => exact I.after hq
  | next => exact False.elim hq
  | brk => exact False.elim hq
  | cont => exact False.elim hq
def qkj_ (K : PySem.W.Frag) (m : Str) (sp : SpV) (ta : TE) (t : TA) : TE := fun σ H Q => ta σ H fun x H1 => ∃ a C dx fs fa fd,x = .ref a /\ H1 a = some (.ins C dx fs) /\ Cls K C /\ NoAttr K C m /\ fs.lookup m = some (.ref fa) /\ H1 fa = some (FunO fa fd) /\ t σ H1 fun vs H2 => H2 fa = some (FunO fa fd) /\ sp (.ref fa) vs H2 Q
theorem qg5_ {pl : Sem Bool} (F : ua_ X.prog X.w X.K X.mg X.base k sp) (hr : Room k X.A) (ho : PE X o ta) (ha : PA X (e :: es) t) (he : starEach (e :: es) X.env = (false,eval e X.env) :: starEach es X.env := by rfl)
  (ht : eval (.Call (.Attribute o m apos) (e :: es) [] pos) X.env = (do
   let ov ← eval o X.env
   standAt apos.atName
   let (f,first) ← holding [ov] (getMethod ov m pl)
   callWith pos f first (backTo pos (starEach (e :: es) X.env)) (backToKw pos (keywordEach [] X.env))) := by rfl) :
  PE X (.Call (.Attribute o m apos) (e :: es) [] pos) (qkj_ X.K m sp ta t) := by
 intro pins s σ H Q I h
 refine PySem.W.methodCall_KW (pl := pl) (thn (ho pins s σ H _ I h) fun u s1 ⟨x,H1,I1,rx,a,C,dx,fs,fa,fd,ex,ea,cl,na,l,hf,q⟩ => ?_) ht
 subst ex
 obtain rfl : u = Value.ref a := rx
 obtain ⟨mA,O,_⟩ := zd_ I1.hok ea
 obtain ⟨od,J,_⟩ := O.look
 refine PySem.W.method_usual I1.kIn J (PySem.W.plainGet_of (cl.get m)).1 (PySem.W.plainGet_of (cl.get m)).2 na rfl ?_
 refine vZ_ I1 ea cl na l fun u2 s2 I2 ru => ?_
 obtain rfl : u2 = Value.ref fa := ru
 refine callWith_def (fd := fd) (o := { cls := .type "function",data := .func fd }) rfl (thn (ha pos pins s2 σ H1 _ I2 q) fun us s3 ⟨vs,H2,I3,r,hf2,q2⟩ => ?_) he
 obtain ⟨fa',ob,fd',e1,e2,e3,e4⟩ := qi4_ (f := .ref fa) (u := .ref fa) F hr I3 rfl r q2
 cases e1
 exact ⟨(I3.hok fa _ hf2).1,e4⟩
end
theorem qe8_ {P : Program} {w : World} {K : PySem.W.Frag} {mg mb : Str -> Option Value} {CX : CXT} {k : Nat} {fa a : Addr} {fd : FuncData} {x : Str} {sp : Sp} {s₁ : Shared} {vs : List Value} {ns : List Int} {ts : List Addr}
  (KX : K.In s₁.heap) (hns : s₁.heap.Ns mainGlobals mg) (hb : s₁.heap.Ns builtinsNs mb) (hbb : ∀ x : Str,x ≠ "__name__" → mb x = bootBuiltins x) (hlim : s₁.heap.NoLimit) (hg : s₁.gens = #[])
  (ha : s₁.heap.get? a = some { cls := .type "list",data := .seq vs.toArray }) (hi : IntsAre vs ns) (hl : ns.length ≤ sizeLine) (hr : Room k callerA)
  (hT : ∀ p ∈ ts,s₁.heap.get? p = some (PySem.W.tabObj #[])) (hTK : ∀ p ∈ ts,K.lookup p = none) (hTc : ∀ p ∈ ts,∃ c,PySem.W.codeHdIn K c p = true)
  (hbm : ∃ bm ob,mg "__builtins__" = some (.ref bm) ∧ bm ≠ builtinsNs ∧ s₁.heap.get? bm = some ob ∧ ob.cls = .type "module" ∧ ob.dict = some builtinsNs ∧ ob.data = .plain)
  (F : ∀ base : Heap,K.In base -> base.Ns mainGlobals mg -> (∀ p ∈ ts,mainGlobals ≠ p /\ base.BuiltinsAt mg p) -> FnOk P w K mg base CX k fa fd [x] sp) (hbind : ∀ (s : Shared) (u : Value),BindsTo s fd ⟨[u],[]⟩ [(x,u)])
  (hsp : ∀ H : Hp,SqL K H a (ns.map V.int) -> (∀ p ∈ ts,H p = some (.tbl #[])) -> sp [.ref a] H (fun v _ => v = .bl true) fun _ _ _ => False)
  (hCX : ∀ H e s',CX [] H s₁ (fun _ _ _ => False) e s' -> False) :
  codeAny (model P w) callerA (.call (.ref fa) ⟨[.ref a],[]⟩) (fun r s' => r = .ok (.ret (.bool true)) /\ OldK s₁.heap s'.heap /\ s'.os = s₁.os /\ AllBare s'.gens) s₁ := by
 have rv := uP_ hi
 have lenV := hi.length
 have aT : a ∉ ts := fun z => by
  have := hT a z
  rw [ha] at this
  cases this
 have core : ∀ H : Hp,(∀ b,b ∉ ts -> H b = none \/ ∃ o xs,H b = some (.frz o (.lst xs))) -> (∀ p ∈ ts,H p = some (.tbl #[])) -> SqL K H a (ns.map V.int) -> HOk P w H s₁.heap -> (∀ b,H b ≠ none -> b = a \/ b ∈ ts) -> (H a ≠ none -> K.lookup a = none) →
   codeAny (model P w) callerA (.call (.ref fa) ⟨[.ref a],[]⟩) (fun r s' => r = .ok (.ret (.bool true)) /\ OldK s₁.heap s'.heap /\ s'.os = s₁.os /\ AllBare s'.gens) s₁ := by
  intro H hO hTb hS hok hA hK
  have base_of : ∀ {b : Addr} {o : Obj},s₁.heap.get? b = some o -> H b = none -> (hidT s₁.heap H).get? b = some o := fun e n => qgl_ e n
  have noA : ∀ {b : Addr} {o : Obj} {es : Array DictEntry} {ep : Nat},s₁.heap.get? b = some o -> o.data = .dict es ep -> H b = none := fun {b o es ep} e d => by
   cases q : H b with
   | none => rfl
   | some u =>
    rcases hA b (by rw [q]; simp) with e' | e'
    ·subst e'
     rw [ha] at e; cases e
     have d' : Data.seq vs.toArray _ = Data.dict es ep := d
     cases d'
    ·rw [hT b e'] at e; cases e
     cases d
  have nsK : ∀ {b : Addr} {m : Str -> Option Value},s₁.heap.Ns b m -> (hidT s₁.heap H).Ns b m := fun {b m} ⟨o,es,ep,e,d,r⟩ => ⟨o,es,ep,base_of e (noA e d),d,r⟩
  have hKb : K.In (hidT s₁.heap H) := fun b o e => base_of (KX b o e) (by
   cases q : H b with
   | none => rfl
   | some u =>
    rcases hA b (by rw [q]; simp) with e' | e'
    ·subst e'
     rw [hK (by rw [q]; simp)] at e; cases e
    ·rw [hTK b e'] at e; cases e)
  have hM : Mod K mg (hidT s₁.heap H) := ⟨hKb,nsK hns,⟨mb,nsK hb,hbb⟩,let ⟨mc,h1,h2⟩ := hlim; ⟨mc,nsK h1,h2⟩⟩
  have e0 : Env0 P w K mg (hidT s₁.heap H) callerA [] s₁ H := ⟨rfl,hM,fun b o e => qij_ e,Nat.le_of_eq (qeb_ _ _),trivial,fun b hb => absurd (show b ∈ ([] : List Addr) from hb) (by simp),hok,.of_eq hg⟩
  have hBl : ∀ p ∈ ts,mainGlobals ≠ p /\ (hidT s₁.heap H).BuiltinsAt mg p := fun p hp => by
   refine ⟨fun z => ?_,?_⟩
   ·obtain ⟨o,es,ep,ho,hd,_⟩ := hns
    rw [z,hT p hp] at ho
    cases ho
    cases hd
   obtain ⟨bm,ob,b1,b2,b3,b4,b5,b6⟩ := hbm
   refine ⟨bm,ob,b1,b2,fun z => ?_,fun z => ?_,base_of b3 ?_,b4,b5,b6⟩
   ·obtain ⟨o,es,ep,ho,hd,_⟩ := hns
    rw [z,ho] at b3
    cases b3
    rw [b6] at hd
    cases hd
   ·rw [z,hT p hp] at b3
    cases b3
    cases b6
   ·cases q : H bm with
    | none => rfl
    | some u =>
     rcases hA bm (by rw [q]; simp) with e' | e'
     ·rw [e',ha] at b3
      cases b3
      cases b6
     ·rw [hT bm e'] at b3
      cases b3
      cases b6
  refine codeAny_mono ((F _ hKb (nsK hns) hBl).run callerA [] s₁ H ⟨[.ref a],[]⟩ [.ref a] [.ref a] _ _ hr e0 (hbind s₁ (.ref a)) (.cons rfl .nil) (hsp H hS hTb)) fun r s' h => ?_
  cases r with
  | error e => exact (hCX H e s' h).elim
  | ok fl =>
   cases fl with
   | next => exact False.elim h
   | brk => exact False.elim h
   | cont => exact False.elim h
   | ret u =>
    obtain ⟨v,H',os,bare,un,hok',r',q⟩ := h
    have q' : v = .bl true := q
    subst q'
    obtain rfl : u = Value.bool true := r'
    refine ⟨rfl,⟨fun b o e => ?_,fun b o e => un.there b o e (by simp)⟩,os,bare⟩
    by_cases hb : b ∈ ts
    ·obtain ⟨more,z⟩ := un.tbls b _ (hTb b hb)
     have z2 : s'.heap.get? b = some _ := hok' b _ z
     rw [hT b hb] at e
     cases e
     obtain ⟨cc,hcc⟩ := hTc b hb
     exact .inr (.inl ⟨((PySem.W.codeHd_of_K KX hcc).tab (hT b hb)).isCodeTable,rfl,#[],more,rfl,z2⟩)
    refine .inl ?_
    cases q : H b with
    | none => exact un.keep b o e q (by intro z; exact absurd (show b ∈ ([] : List Addr) from z) (by simp)) (by simp)
    | some u =>
     rcases hO b hb with z | ⟨ob,xs,z⟩
     ·rw [q] at z; cases z
     ·have z2 := un.frzs b ob _ z
      obtain ⟨e1,_⟩ := hok b _ z
      obtain ⟨e2,_⟩ := hok' b _ z2
      rw [e] at e1; cases e1
      exact e2
 have tab : ∀ (H : Hp) b,b ∈ ts -> ObjOk P w H s₁.heap b (.tbl #[]) := fun H b hb => hT b hb
 cases hk : K.lookup a with
 | some o =>
  have e := KX a o hk
  rw [ha] at e
  cases e
  refine core (fun b => if b ∈ ts then some (.tbl #[]) else none) (fun b hb => .inl (if_neg hb)) (fun p hp => if_pos hp) (.inr ⟨_,vs.toArray,_,hk,rfl,rfl,rfl,by rw [List.size_toArray,lenV]; exact hl,by simpa using rv⟩) (fun b u z => ?_) (fun b z => ?_) fun z => absurd (if_neg aT) z
  ·by_cases hb : b ∈ ts
   ·have z' := (if_pos hb).symm.trans z
    cases z'
    exact tab _ b hb
   ·have z' := (if_neg hb).symm.trans z
    cases z'
  ·by_cases hb : b ∈ ts
   ·exact .inr hb
   ·exact absurd (if_neg hb) z
 | none =>
  refine core (fun b => if b ∈ ts then some (.tbl #[]) else if b = a then some (.frz { cls := .type "list",data := .seq vs.toArray } (.lst (ns.map V.int))) else none) (fun b hb => ?_) (fun p hp => if_pos hp) (.inl (.inr ⟨{ cls := .type "list",data := .seq vs.toArray },(if_neg aT).trans (if_pos rfl)⟩)) (fun b u z => ?_) (fun b z => ?_) fun _ => hk
  ·by_cases hb2 : b = a
   ·exact .inr ⟨_,_,(if_neg hb).trans (if_pos hb2)⟩
   ·exact .inl ((if_neg hb).trans (if_neg hb2))
  ·by_cases hb : b ∈ ts
   ·have z' := (if_pos hb).symm.trans z
    cases z'
    exact tab _ b hb
   ·have z' := (if_neg hb).symm.trans z
    by_cases hb2 : b = a
    ·have z'' := (if_pos hb2).symm.trans z'
     cases z''
     subst hb2
     exact ⟨ha,by rw [List.length_map]; exact hl,vs,_,rv,ha⟩
    ·have z'' := (if_neg hb2).symm.trans z'
     cases z''
  ·by_cases hb : b ∈ ts
   ·exact .inr hb
   ·by_cases hb2 : b = a
    ·exact .inl hb2
    ·exact absurd ((if_neg hb).trans (if_neg hb2)) z
theorem walk_ofT {l : PySem.W.OpenLaw} {n k : Nat} {q : Program} {loose : List Str} {XP : (Str -> Option Value) -> Heap -> Prop} {YP : World -> Heap -> Prop} {d : DefRec} {K : Params -> PySem.W.Frag} {CX : World -> CXT} {sp : World -> Sp} {x : Str} {ts : List Addr}
  (hn : l.most = some n) (hn2 : n <= sizeLine) (hdf : d.params.defaults = []) (hr : Room k callerA)
  (hY : ∀ (w : World) (h : Heap),YP w h -> (K w.params).In h /\ ∀ p ∈ ts,h.get? p = some (PySem.W.tabObj #[]))
  (F : ∀ (w : World) (mg : Str -> Option Value) (fa : Addr) (h : Heap),(K w.params).In h -> h.Ns mainGlobals mg -> mg d.name = some (.ref fa) →
   ∃ fd : FuncData,(∀ (s : Shared) (u : Value),BindsTo s fd ⟨[u],[]⟩ [(x,u)]) /\ (∀ p ∈ ts,(K w.params).lookup p = none) /\ (∀ p ∈ ts,∃ c,PySem.W.codeHdIn (K w.params) c p = true) ∧
    ∀ base : Heap,(K w.params).In base -> base.Ns mainGlobals mg -> (∀ p ∈ ts,mainGlobals ≠ p /\ base.BuiltinsAt mg p) -> FnOk l.prog w (K w.params) mg base (CX w) k fa fd [x] (sp w))
  (hsp : ∀ (w : World) (H : Hp) (a : Addr) (ns : List Int),ns.length <= n -> SqL (K w.params) H a (ns.map V.int) -> (∀ p ∈ ts,H p = some (.tbl #[])) -> sp w [.ref a] H (fun v _ => v = .bl true) fun _ _ _ => False)
  (hCX : ∀ (w : World) (H : Hp) (s : Shared) (e : Value) (s' : Shared),CX w [] H s (fun _ _ _ => False) e s' -> False) :
  PySem.W.WalkO q loose XP YP l.row.toRowW d [] (fun f vs => PySem.call f vs) := by
 refine Att.attach_call hn hdf fun w s₀ s₁ mg mb fa o pm cd doc a vs ns G Y ho hd hcd hmg hobj hints hlen hg => ?_
 obtain ⟨KX,hT⟩ := hY w _ Y
 obtain ⟨fd,hb,hTK,hTc,hF⟩ := F w mg fa _ KX G.T.g hmg
 exact qe8_ KX G.T.g G.T.b G.T.builtins G.T.nolimit hg hobj hints (Nat.le_trans hlen hn2) hr hT hTK hTc G.T.bmain hF hb (fun H hS hTb => hsp w H a ns hlen hS hTb) fun H e s' => hCX w H s₁ e s'
end L2
namespace L2
open PySem PySem.W PyProof.Rows
section
variable {α β : Type} {n : Nat} {lt : Nat -> Nat -> Bool}
def KWl (n : Nat) (lt : Nat -> Nat -> Bool) : KasT α -> (α -> Prop) -> Prop
 | .ret a,Q => Q a
 | .ask i j k,Q => i < n /\ j < n /\ KWl n lt (k (lt i j)) Q
theorem KWl.bind {f : α -> KasT β} {Q : β -> Prop} : ∀ (t : KasT α),KWl n lt t (fun a => KWl n lt (f a) Q) -> KWl n lt (t.bind f) Q
 | .ret _,h => h
 | .ask _ _ k,h => ⟨h.1,h.2.1,KWl.bind (k _) h.2.2⟩
theorem KWl.mono {Q Q' : α -> Prop} (hq : ∀ a,Q a -> Q' a) : ∀ (t : KasT α),KWl n lt t Q -> KWl n lt t Q'
 | .ret a,h => hq a h
 | .ask _ _ k,h => ⟨h.1,h.2.1,KWl.mono hq (k _) h.2.2⟩
theorem KWl.wp {cmp : Nat -> Nat -> (Bool -> Shared -> Prop) -> Shared -> Prop} {R : α -> Shared -> Prop} {s : Shared} (hc : ∀ i j (C : Bool -> Shared -> Prop),i < n -> j < n -> C (lt i j) s -> cmp i j C s) : ∀ (t : KasT α),KWl n lt t (fun a => R a s) -> t.kasWp cmp R s
 | .ret _,h => h
 | .ask i j k,h => hc i j _ h.1 h.2.1 (KWl.wp hc (k (lt i j)) h.2.2)
end
structure Pm (n : Nat) (p : Array Nat) : Prop where
 pm : p.Perm (List.range n).toArray
section
variable {n : Nat} {p : Array Nat} {z : Nat -> Int}
theorem Pm.size (h : Pm n p) : p.size = n := by rw [h.pm.size_eq]; simp
theorem Pm.lt (h : Pm n p) (hn : 0 < n) (i : Nat) : p.getD i 0 < n := by
 by_cases hi : i < p.size
 ·have e : p.getD i 0 = p[i] := by simp [Array.getD,hi]
  rw [e]
  have := (Array.perm_iff_toList_perm.mp h.pm).mem_iff.mp (show p[i] ∈ p.toList by simp)
  simpa using this
 ·have e : p.getD i 0 = 0 := by simp [Array.getD,hi]
  rw [e]; exact hn
theorem Pm.inj (h : Pm n p) {i j : Nat} (hi : i < n) (hj : j < n) (e : p.getD i 0 = p.getD j 0) : i = j := by
 have hs := h.size
 have nd : p.toList.Nodup := (Array.perm_iff_toList_perm.mp h.pm).nodup_iff.mpr (by simpa using List.nodup_range)
 have e1 : p.getD i 0 = p.toList[i]'(by simpa [hs] using hi) := by simp [Array.getD,hs,hi]
 have e2 : p.getD j 0 = p.toList[j]'(by simpa [hs] using hj) := by simp [Array.getD,hs,hj]
 rw [e1,e2] at e
 by_cases q : i = j
 ·exact q
 ·exact absurd e (by
   rcases Nat.lt_or_gt_of_ne q with q | q
   ·exact List.pairwise_iff_getElem.mp nd i j _ _ q
   ·exact fun z => List.pairwise_iff_getElem.mp nd j i _ _ q z.symm)
def Kz (z : Nat -> Int) (p : Array Nat) (i : Nat) : Int := z (p.getD i 0)
def Up (z : Nat -> Int) (p : Array Nat) (m : Nat) : Prop := ∀ i j,i < j -> j < m -> Kz z p i < Kz z p j
def Dn (z : Nat -> Int) (p : Array Nat) (m : Nat) : Prop := ∀ i j,i < j -> j < m -> Kz z p j < Kz z p i
theorem qap_ {p q : Array Nat} {i j : Nat} (h : p[i]? = q[j]?) : Kz z p i = Kz z q j := by
 unfold Kz
 rw [Array.getD_eq_getD_getElem?,Array.getD_eq_getD_getElem?,h]
theorem Pm.ne (h : Pm n p) (hn : 0 < n) (hz : ∀ i j,i < n -> j < n -> z i = z j -> i = j) {i j : Nat} (hi : i < n) (hj : j < n) (ij : i ≠ j) : Kz z p i ≠ Kz z p j := fun e => ij (h.inj hi hj (hz _ _ (h.lt hn _) (h.lt hn _) e))
theorem Pm.rev (h : Pm n p) (i j : Nat) : Pm n (kas_rev p i j) := ⟨(mirror_perm p i j _).trans h.pm⟩
theorem Pm.bub (h : Pm n p) (i j : Nat) : Pm n (bubble p i j) := ⟨(bubble_perm p i j).trans h.pm⟩
variable (z) in
abbrev ltz : Nat -> Nat -> Bool := fun i j => decide (z i < z j)
theorem qa7_ (h : Pm n p) (hn : 0 < n) (hz : ∀ i j,i < n -> j < n -> z i = z j -> i = j) : ∀ (f m : Nat),1 <= m -> m + f <= n -> Up z p m -> KWl n (ltz z) (kas_asc p f m) fun m' => m <= m' /\ m' <= m + f /\ Up z p m' /\ (m' = m + f \/ Kz z p m' < Kz z p (m' - 1))
 | 0,m,_,_,u => ⟨Nat.le_refl _,Nat.le_refl _,u,.inl rfl⟩
 | f + 1,m,h1,hm,u => by
  refine ⟨h.lt hn _,h.lt hn _,?_⟩
  by_cases c : Kz z p m < Kz z p (m - 1)
  ·rw [show ltz z (p.getD m 0) (p.getD (m - 1) 0) = true from decide_eq_true c]
   dsimp only
   rw [if_pos rfl]
   exact ⟨Nat.le_refl _,by omega,u,.inr c⟩
  ·rw [show ltz z (p.getD m 0) (p.getD (m - 1) 0) = false from decide_eq_false c]
   dsimp only
   rw [if_neg (by decide)]
   have c' : Kz z p (m - 1) < Kz z p m := by
    have := h.ne hn hz (show m < n by omega) (show m - 1 < n by omega) (by omega)
    omega
   refine KWl.mono (fun m' q => ⟨by omega,by omega,q.2.2.1,?_⟩) _ (qa7_ h hn hz f (m + 1) (by omega) (by omega) fun i j hij hj => ?_)
   ·rcases q.2.2.2 with q | q
    ·exact .inl (by omega)
    ·exact .inr q
   ·by_cases hjm : j < m
    ·exact u i j hij hjm
    ·obtain rfl : j = m := by omega
     by_cases him : i = j - 1
     ·rw [him]; exact c'
     ·exact Int.lt_trans (u i (j - 1) (by omega) (by omega)) c'
theorem qcr_ (h : Pm n p) (hn : 0 < n) (hz : ∀ i j,i < n -> j < n -> z i = z j -> i = j) : ∀ (f m : Nat),1 <= m -> m + f <= n -> Dn z p m -> KWl n (ltz z) (kas_desc f p m 0) fun r => r.1 = p /\ r.2.2 = 0 /\ m <= r.2.1 /\ r.2.1 <= m + f /\ Dn z p r.2.1
 | 0,m,_,_,u => ⟨rfl,rfl,Nat.le_refl _,Nat.le_refl _,u⟩
 | f + 1,m,h1,hm,u => by
  refine ⟨h.lt hn _,h.lt hn _,?_⟩
  by_cases c : Kz z p m < Kz z p (m - 1)
  ·rw [show ltz z (p.getD m 0) (p.getD (m - 1) 0) = true from decide_eq_true c]
   dsimp only
   rw [if_pos rfl,if_neg (by decide)]
   refine KWl.mono (fun r q => ⟨q.1,q.2.1,by omega,by omega,q.2.2.2.2⟩) _ (qcr_ h hn hz f (m + 1) (by omega) (by omega) fun i j hij hj => ?_)
   by_cases hjm : j < m
   ·exact u i j hij hjm
   ·obtain rfl : j = m := by omega
    by_cases him : i = j - 1
    ·rw [him]; exact c
    ·exact Int.lt_trans c (u i (j - 1) (by omega) (by omega))
  ·rw [show ltz z (p.getD m 0) (p.getD (m - 1) 0) = false from decide_eq_false c]
   dsimp only
   rw [if_neg (by decide)]
   have c' : Kz z p (m - 1) < Kz z p m := by
    have := h.ne hn hz (show m < n by omega) (show m - 1 < n by omega) (by omega)
    omega
   refine ⟨h.lt hn _,h.lt hn _,?_⟩
   rw [show ltz z (p.getD (m - 1) 0) (p.getD m 0) = true from decide_eq_true c']
   dsimp only
   rw [if_pos rfl]
   exact ⟨rfl,rfl,Nat.le_refl _,Nat.le_add_right _ _,u⟩
theorem qkk_ (h : Pm n p) {m : Nat} (hm : m <= n) (u : Dn z p m) : Up z (kas_rev p 0 m) m := by
 intro i j hij hj
 have g : ∀ k,k < m -> Kz z (kas_rev p 0 m) k = Kz z p (m - 1 - k) := fun k hk => by
  refine qap_ ?_
  unfold kas_rev
  rw [getElem?_mirror_all (by rw [h.size]; exact hm),if_pos ⟨Nat.zero_le _,hk⟩,Nat.zero_add]
 rw [g i (by omega),g j hj]
 exact u _ _ (by omega) (by omega)
theorem qg6_ (h : Pm n p) (hn : 0 < n) (hz : ∀ i j,i < n -> j < n -> z i = z j -> i = j) {m : Nat} (h1 : 1 <= m) (hm : m <= n) (u : Dn z p m) : KWl n (ltz z) (kas_tail3 m n p) fun r => Pm n r.2 /\ 1 <= r.1 /\ r.1 <= n /\ Up z r.2 r.1 := by
 unfold kas_tail3
 refine KWl.bind _ (KWl.mono (fun m' q => ?_) _ (qa7_ (h.rev 0 m) hn hz (n - m) m h1 (by omega) (qkk_ h hm u)))
 exact ⟨h.rev 0 m,by omega,by omega,q.2.2.1⟩
theorem qg7_ (h : Pm n p) (h2 : 2 <= n) (hz : ∀ i j,i < n -> j < n -> z i = z j -> i = j) : KWl n (ltz z) (kas_count n p) fun r => Pm n r.2 /\ 1 <= r.1 /\ r.1 <= n /\ Up z r.2 r.1 := by
 have hn : 0 < n := by omega
 unfold kas_count
 refine KWl.bind _ (KWl.mono (fun m q => ?_) _ (qa7_ h hn hz (n - 1) 1 (Nat.le_refl 1) (by omega) fun i j _ _ => by omega))
 by_cases e : m = n
 ·rw [if_pos (by simpa using e)]
  exact ⟨h,by omega,by omega,q.2.2.1⟩
 ·rw [if_neg (by simpa using e)]
  by_cases e1 : m > 1
  ·rw [if_pos e1]
   refine ⟨h.lt hn _,h.lt hn _,?_⟩
   rw [show ltz z (p.getD 0 0) (p.getD (m - 1) 0) = true from decide_eq_true (q.2.2.1 0 (m - 1) (by omega) (by omega))]
   dsimp only
   rw [if_pos rfl]
   exact ⟨h,by omega,by omega,q.2.2.1⟩
  ·rw [if_neg e1]
   obtain rfl : m = 1 := by omega
   have c : Kz z p 1 < Kz z p 0 := by
    rcases q.2.2.2 with c | c
    ·omega
    ·exact c
   unfold kas_descPart
   refine KWl.bind _ (KWl.mono (fun r q' => ?_) _ (qcr_ h hn hz (n - (1 + 1)) (1 + 1) (by omega) (by omega) fun i j hij hj => ?_))
   ·obtain ⟨p',m',q0⟩ := r
    obtain ⟨e1,e2,e3,e4,e5⟩ := q'
    dsimp only at e1 e2 e3 e4 e5 ⊢
    subst e1 e2
    rw [if_neg (by decide)]
    exact qg6_ h hn hz (by omega) (by omega) e5
   ·obtain rfl : j = 1 := by omega
    obtain rfl : i = 0 := by omega
    exact c
theorem vH_ (h : Pm n p) (hn : 0 < n) (hz : ∀ i j,i < n -> j < n -> z i = z j -> i = j) {k : Nat} (hk : k < n) (u : Up z p k) : ∀ (f l r : Nat),r <= l + f -> l <= r -> r <= k -> (∀ i,i < l -> Kz z p i < Kz z p k) -> (∀ i,r <= i -> i < k -> Kz z p k < Kz z p i) →
  KWl n (ltz z) (kas_place p k f l r) fun l' => l' <= k /\ (∀ i,i < l' -> Kz z p i < Kz z p k) /\ (∀ i,l' <= i -> i < k -> Kz z p k < Kz z p i)
 | 0,l,r,hf,hl,hr,h1,h2 => by
  obtain rfl : l = r := by omega
  exact ⟨hr,h1,h2⟩
 | f + 1,l,r,hf,hl,hr,h1,h2 => by
  unfold kas_place
  by_cases e : l ≥ r
  ·rw [if_pos e]
   obtain rfl : l = r := by omega
   exact ⟨hr,h1,h2⟩
  ·rw [if_neg e]
   refine ⟨h.lt hn _,h.lt hn _,?_⟩
   by_cases c : Kz z p k < Kz z p ((l + r) / 2)
   ·rw [show ltz z (p.getD k 0) (p.getD ((l + r) / 2) 0) = true from decide_eq_true c]
    dsimp only
    rw [if_pos rfl]
    refine vH_ h hn hz hk u f l ((l + r) / 2) (by omega) (by omega) (by omega) h1 fun i hi hik => ?_
    by_cases q : i = (l + r) / 2
    ·rw [q]; exact c
    ·exact Int.lt_trans c (u _ _ (by omega) hik)
   ·rw [show ltz z (p.getD k 0) (p.getD ((l + r) / 2) 0) = false from decide_eq_false c]
    dsimp only
    rw [if_neg (by decide)]
    have c' : Kz z p ((l + r) / 2) < Kz z p k := by
     have := h.ne hn hz (show k < n by omega) (show (l + r) / 2 < n by omega) (by omega)
     omega
    refine vH_ h hn hz hk u f ((l + r) / 2 + 1) r (by omega) (by omega) hr (fun i hi => ?_) h2
    by_cases q : i = (l + r) / 2
    ·rw [q]; exact c'
    ·exact Int.lt_trans (u _ _ (by omega) (by omega)) c'
theorem qe9_ (hn : 0 < n) (hz : ∀ i j,i < n -> j < n -> z i = z j -> i = j) : ∀ (f : Nat) (p : Array Nat) (k : Nat),Pm n p -> k + f <= n -> Up z p k -> KWl n (ltz z) (kas_bin f p k) fun p' => Pm n p' /\ Up z p' (k + f)
 | 0,p,k,h,_,u => ⟨h,u⟩
 | f + 1,p,k,h,hk,u => by
  unfold kas_bin
  refine KWl.bind _ (KWl.mono (fun l q => ?_) _ (vH_ h hn hz (show k < n by omega) u k 0 k (by omega) (by omega) (Nat.le_refl _) (fun i hi => absurd hi (Nat.not_lt_zero i)) fun i h1 h2 => by omega))
  obtain ⟨q1,q2,q3⟩ := q
  refine KWl.mono (fun p' q' => ⟨q'.1,by rw [show k + (f + 1) = k + 1 + f by omega]; exact q'.2⟩) _ (qe9_ hn hz f _ (k + 1) (h.bub k (k - l)) (by omega) fun i j hij hj => ?_)
  have g : ∀ i,Kz z (bubble p k (k - l)) i = if i = l then Kz z p k else if l < i /\ i <= k then Kz z p (i - 1) else Kz z p i := fun i => by
   have e := getElem?_bubble (xs := p) (src := k) (by rw [h.size]; omega) (k - l) (by omega) i
   rw [show k - (k - l) = l by omega] at e
   by_cases c1 : i = l
   ·rw [if_pos c1] at e ⊢; exact qap_ e
   ·rw [if_neg c1] at e ⊢
    by_cases c2 : l < i /\ i <= k
    ·rw [if_pos c2] at e ⊢; exact qap_ e
    ·rw [if_neg c2] at e ⊢; exact qap_ e
  rw [g i,g j]
  repeat' split
  all_goals first
   | (exfalso; omega)
   | exact q2 _ (by omega)
   | exact q3 _ (by omega) (by omega)
   | exact u _ _ (by omega) (by omega)
theorem qcs_ (h2 : 2 <= n) (hz : ∀ i j,i < n -> j < n -> z i = z j -> i = j) : KWl n (ltz z) (kas_sort n) fun p => Pm n p /\ Up z p n := by
 unfold kas_sort
 refine KWl.bind _ (KWl.mono (fun r q => ?_) _ (qg7_ (p := (List.range n).toArray) ⟨Array.Perm.refl _⟩ h2 hz))
 obtain ⟨m,p⟩ := r
 obtain ⟨q1,q2,q3,q4⟩ := q
 dsimp only at q1 q2 q3 q4 ⊢
 by_cases c : m < n
 ·rw [if_pos c]
  have e : max m 1 = m := by omega
  rw [e]
  refine KWl.mono (fun p' q' => ⟨q'.1,?_⟩) _ (qe9_ (by omega) hz (n - m) p m q1 (by omega) q4)
  have := q'.2
  rwa [show m + (n - m) = n by omega] at this
 ·rw [if_neg c]
  obtain rfl : m = n := by omega
  exact ⟨q1,q4⟩
end
end L2
namespace L2
open PySem PySem.Spec PySem.W PyProof.Rows
section
variable {P : Program} {w : World} {K : PySem.W.Frag} {mg : Str -> Option Value} {base : Heap} {A A' : Around} {outer : List Env} {s s' : Shared} {H H' : Hp}
theorem Env0.nofr (e0 : Env0 P w K mg base A outer s H) {b : Addr} {o : Obj} (e : base.get? b = some o) : b ∉ frs outer := fun hb => by
 have := (e0.funs.mem hb).1
 rw [e] at this; cases this
theorem Env0.after (e0 : Env0 P w K mg base A outer s H) (hA : A'.frames = A.frames) (un : Un (frs outer) [] H H' s.heap s'.heap) (hok : HOk P w H' s'.heap) (bare : AllBare s'.gens) (hsz : s.heap.objs.size <= s'.heap.objs.size) : Env0 P w K mg base A' outer s' H' := by
 have noA : ∀ b : Addr,b ∉ ([] : List Addr) := fun b => List.not_mem_nil
 refine ⟨hA.trans e0.frames,e0.mod,fun b o e => ?_,Nat.le_trans e0.bsz hsz,?_,fun b hb => ?_,hok,bare⟩
 ·obtain ⟨h1,h2⟩ := e0.bs b o e
  exact ⟨un.keep b o h1 h2 (e0.nofr e) (noA b),un.free b o h1 h2 (noA b)⟩
 ·have all : ∀ (l : List Env),(∀ b ∈ frs l,b ∈ frs outer) -> s.heap.FunFrames base l -> s'.heap.FunFrames base l := by
   intro l
   induction l with
   | nil => intro _ _; trivial
   | cons env r ih =>
    intro hs hl
    obtain ⟨hk,⟨L,o,hf,hn,ho,hd⟩,hr⟩ := hl
    have hL : L ∈ frs outer := hs L (by unfold frs; rw [List.filterMap_cons,hf]; exact List.mem_cons_self)
    obtain ⟨sl,e⟩ := un.slot L o ho (e0.frf L hL) hL (noA L)
    exact ⟨hk,⟨L,_,hf,hn,e,hd⟩,ih (fun b hb => hs b (by unfold frs; rw [List.filterMap_cons,hf]; exact List.mem_cons_of_mem _ hb)) hr⟩
  exact all outer (fun _ hb => hb) e0.funs
 ·obtain ⟨_,o,ho,_⟩ := e0.funs.mem hb
  exact un.free b o ho (e0.frf b hb) (noA b)
theorem Env0.lt (e0 : Env0 P w K mg base A outer s H) {b : Addr} (hb : b ∈ frs outer) : b < s.heap.objs.size := by
 obtain ⟨_,o,ho,_⟩ := e0.funs.mem hb
 exact Heap.lt_size ho
end
def keyV (c : Int) (n : Nat) : HO := .tup [.int c,.int (n : Nat)]
section
variable {P : Program} {w : World} {A : Around} {s : Shared} {H : Hp}
theorem qct_ {t u : Addr} {c d : Int} {m n : Nat} {Q : Bool -> Shared -> Prop} {E : Value -> Shared -> Prop} (hok : HOk P w H s.heap) (h1 : H t = some (keyV c m)) (h2 : H u = some (keyV d n)) (hcalm : A.handled = none) (hu : A.units + 64 < cLine) (q : Q (decide (c < d \/ c = d /\ m < n)) s) :
  wpAny (model P w) A (keyLt' (tuples' true) (.ref t) (.ref u)) Q E s := by
 obtain ⟨_,its,r,ot,e1,e2,n1,e3⟩ := hok t _ h1
 obtain ⟨_,its',r',ou,e1',e2',n1',e3'⟩ := hok u _ h2
 obtain ⟨x,y,rfl,⟨t1,rfl⟩,⟨t2,rfl⟩⟩ := zr_ r
 obtain ⟨x',y',rfl,⟨t3,rfl⟩,⟨t4,rfl⟩⟩ := zr_ r'
 refine kat_lt e1 e3 e1' e3' ?_
 refine kat_cons (wpAny_eqBool_int ?_)
 by_cases h : c = d
 ·rw [show (c == d) = true from by simpa using h]
  refine kat_yes (kat_cons (wpAny_eqBool_int ?_))
  by_cases h' : m = n
  ·subst h h'
   rw [show (((m : Nat) : Int) == ((m : Nat) : Int)) = true from by simp]
   refine kat_yes (kat_nil ?_)
   have e : decide (c < c \/ c = c /\ m < m) = false := decide_eq_false (by omega)
   rw [e] at q
   exact q
  ·rw [show (((m : Nat) : Int) == ((n : Nat) : Int)) = false from by
    have : ((m : Nat) : Int) ≠ ((n : Nat) : Int) := by omega
    simpa using this]
   refine kat_no ?_
   rw [show (true && (0 + 1 == 0)) = false from rfl]
   refine kat_one _ _ ?_
   refine lt_int ?_
   have e : decide (c < d \/ c = d /\ m < n) = decide (((m : Nat) : Int) < ((n : Nat) : Int)) := by
    by_cases z : m < n
    ·rw [decide_eq_true (by omega : ((m : Nat) : Int) < (n : Nat)),decide_eq_true (.inr ⟨h,z⟩)]
    ·rw [decide_eq_false (by omega : ¬ ((m : Nat) : Int) < (n : Nat)),decide_eq_false (by omega)]
   rw [e] at q
   exact q
 ·rw [show (c == d) = false from by simpa using h]
  refine kat_no ?_
  rw [show (true && (0 == 0)) = true from rfl]
  refine oneLt_int ?_
  have e : decide (c < d \/ c = d /\ m < n) = decide (c < d) := by
   by_cases z : c < d
   ·rw [decide_eq_true z,decide_eq_true (.inl z)]
   ·rw [decide_eq_false z,decide_eq_false (by omega)]
  rw [e] at q
  exact q
def klt (ck : Nat -> Int) (m n : Nat) : Prop := ck m < ck n \/ ck m = ck n /\ m < n
instance (ck : Nat -> Int) (m n : Nat) : Decidable (klt ck m n) := inferInstanceAs (Decidable (_ \/ _ /\ _))
def Keys (H : Hp) (ck : Nat -> Int) : List Nat -> List Value -> Prop
 | [],[] => True
 | n :: ns,k :: ks => (∃ t,k = .ref t /\ H t = some (keyV (ck n) n)) /\ Keys H ck ns ks
 | _,_ => False
theorem Keys.snoc {ck : Nat -> Int} {n : Nat} {t : Addr} (h : H t = some (keyV (ck n) n)) : ∀ {ns : List Nat} {ks : List Value},Keys H ck ns ks -> Keys H ck (ns ++ [n]) (ks ++ [.ref t])
 | [],[],_ => ⟨⟨t,rfl,h⟩,trivial⟩
 | [],_ :: _,z => z.elim
 | _ :: _,[],z => z.elim
 | _ :: _,_ :: _,z => ⟨z.1,Keys.snoc h z.2⟩
theorem Keys.imp {H' : Hp} {ck : Nat -> Int} (h : ∀ t xs,H t = some (.tup xs) -> H' t = some (.tup xs)) : ∀ {ns : List Nat} {ks : List Value},Keys H ck ns ks -> Keys H' ck ns ks
 | [],[],_ => trivial
 | [],_ :: _,z => z.elim
 | _ :: _,[],z => z.elim
 | _ :: _,_ :: _,⟨⟨t,e,z⟩,r⟩ => ⟨⟨t,e,h t _ z⟩,Keys.imp h r⟩
theorem Keys.length {ck : Nat -> Int} : ∀ {ns : List Nat} {ks : List Value},Keys H ck ns ks -> ks.length = ns.length
 | [],[],_ => rfl
 | [],_ :: _,z => z.elim
 | _ :: _,[],z => z.elim
 | _ :: _,_ :: _,z => by rw [List.length_cons,List.length_cons,Keys.length z.2]
theorem Keys.get {ck : Nat -> Int} : ∀ {ns : List Nat} {ks : List Value} {i : Nat},Keys H ck ns ks -> i < ns.length -> ∃ t,ks.getD i Value.none = .ref t /\ H t = some (keyV (ck (ns.getD i 0)) (ns.getD i 0))
 | [],_,i,_,hi => absurd hi (Nat.not_lt_zero i)
 | _ :: _,[],_,z,_ => z.elim
 | _ :: _,_ :: _,0,⟨⟨t,e,z⟩,_⟩,_ => ⟨t,e,z⟩
 | _ :: ns,_ :: ks,i + 1,z,hi => Keys.get (ns := ns) (ks := ks) (i := i) z.2 (by simpa using hi)
theorem Keys.tups {ck : Nat -> Int} (hok : HOk P w H s.heap) : ∀ {ns : List Nat} {ks : List Value},Keys H ck ns ks -> ∃ fs : List Value,KatTups s.heap ks fs /\ fs.length = ns.length /\ ∀ v ∈ fs,∃ i t,v = Value.int i t
 | [],[],_ => ⟨[],KatTups.nil,rfl,fun _ h => absurd h List.not_mem_nil⟩
 | [],_ :: _,z => z.elim
 | _ :: _,[],z => z.elim
 | _ :: ns,_ :: ks,⟨⟨t,e,z⟩,r⟩ => by
  obtain ⟨fs,h1,h2,h3⟩ := Keys.tups hok r
  obtain ⟨_,its,rv,ot,e1,e2,n1,e3⟩ := hok t _ z
  obtain ⟨x,y,rfl,⟨t1,rfl⟩,⟨t2,rfl⟩⟩ := zr_ rv
  subst e
  refine ⟨_ :: fs,KatTups.cons e1 e2 e3 rfl h1,by rw [List.length_cons,List.length_cons,h2],fun v hv => ?_⟩
  rcases List.mem_cons.mp hv with rfl | hv
  ·exact ⟨_,_,rfl⟩
  ·exact h3 v hv
def kzz (ck : Nat -> Int) (ns : List Nat) (B : Int) (i : Nat) : Int := ck (ns.getD i 0) * B + (ns.getD i 0 : Nat)
theorem yo_ {ck : Nat -> Int} {ns : List Nat} {B : Nat} (hB : ∀ n ∈ ns,n < B) {i j : Nat} (hi : i < ns.length) (hj : j < ns.length) : kzz ck ns B i < kzz ck ns B j ↔ klt ck (ns.getD i 0) (ns.getD j 0) := by
 have mem : ∀ i,i < ns.length -> ns.getD i 0 < B := fun i h => hB _ (by rw [List.getD_eq_getElem?_getD,List.getElem?_eq_getElem h]; exact List.getElem_mem h)
 have a := mem i hi
 have b := mem j hj
 unfold kzz klt
 generalize ns.getD i 0 = m at a
 generalize ns.getD j 0 = n at b
 generalize ck m = c
 generalize ck n = d
 constructor
 ·intro h
  rcases Int.lt_trichotomy c d with z | z | z
  ·exact .inl z
  ·subst z; exact .inr ⟨rfl,by omega⟩
  ·exfalso
   have : (d + 1) * (B : Int) <= c * B := Int.mul_le_mul_of_nonneg_right (by omega) (by omega)
   rw [Int.add_mul] at this
   omega
 ·intro h
  rcases h with z | ⟨rfl,z⟩
  ·have : (c + 1) * (B : Int) <= d * B := Int.mul_le_mul_of_nonneg_right (by omega) (by omega)
   rw [Int.add_mul] at this
   omega
  ·omega
end
end L2
namespace L2
open PySem PySem.Spec PySem.W PyProof.Rows
section
variable {fs ex : List Addr} {H H' : Hp} {h h' h'' : Heap} {x : Addr} {P : Program} {w : World}
theorem Un.turn (u : Un fs ex H H' h h') (hx : h.objs.size <= x) (k : ∀ b o,b ≠ x -> h'.get? b = some o -> h''.get? b = some o) : Un fs ex H H' h h'' where
 keep := fun b o e n hb he => k b o (Nat.ne_of_lt (Nat.lt_of_lt_of_le (Heap.lt_size e) hx)) (u.keep b o e n hb he)
 slot := fun b o e n hb he => let ⟨sl,z⟩ := u.slot b o e n hb he; ⟨sl,k b _ (Nat.ne_of_lt (Nat.lt_of_lt_of_le (Heap.lt_size e) hx)) z⟩
 free := u.free
 there := fun b o e he => let ⟨o',z⟩ := u.there b o e he; ⟨o',k b _ (Nat.ne_of_lt (Nat.lt_of_lt_of_le (Heap.lt_size e) hx)) z⟩
 tups := u.tups
 frzs := u.frzs
 tbls := u.tbls
theorem HOk.turn (ok : HOk P w H h) (hx : H x = none) (k : ∀ b o,b ≠ x -> h.get? b = some o -> h'.get? b = some o) : HOk P w H h' := fun b o e => by
 have ne : ∀ c u,H c = some u -> c ≠ x := fun c u e z => by rw [z,hx] at e; cases e
 refine (ok b o e).stay (fun c v hc q => k c v ?_ q) (fun _ q => q) fun _ _ q => q
 rcases hc with z | z
 ·rw [z]; exact ne b o e
 ·exact ne c _ z
theorem Un.trk {o : HO} (u : Un fs ex H H' h h') (hx : h.objs.size <= x) (n : H' x = none) : Un fs ex H (upd H' x o) h h' where
 keep := u.keep
 slot := u.slot
 free := fun b q e m he => by
  rw [qe_ (Nat.ne_of_lt (Nat.lt_of_lt_of_le (Heap.lt_size e) hx))]
  exact u.free b q e m he
 there := u.there
 tups := fun b xs e => by
  have z := u.tups b xs e
  rw [qe_ (ql_ z n)]; exact z
 frzs := fun b q v e => by
  have z := u.frzs b q v e
  rw [qe_ (ql_ z n)]; exact z
 tbls := fun b ps e => by
  obtain ⟨m,z⟩ := u.tbls b ps e
  exact ⟨m,by rw [qe_ (ql_ z n)]; exact z⟩
theorem HOk.trk {o : HO} (ok : HOk P w H h) (n : H x = none) (new : ObjOk P w (upd H x o) h x o) : HOk P w (upd H x o) h := fun b u e => by
 by_cases hb : b = x
 ·subst hb; rw [qd_] at e; cases e; exact new
 ·rw [qe_ hb] at e
  exact (ok b u e).stay (fun _ _ _ q => q) (fun c q => by rw [qe_ (ql_ q n)]; exact q) fun c xs q => by rw [qe_ (ql_ q n)]; exact q
end
def jB_ (ns : List Nat) : List V := ns.map fun n => .int ((n : Nat) : Int)
theorem zx_ {ns : List Nat} {vs : List Value} (r : Vals (jB_ ns) vs) : vs.length = ns.length /\ ∀ i,i < ns.length -> ∃ t,vs.getD i Value.none = Value.int (ns.getD i 0 : Nat) t := by
 have hl := r.length
 unfold jB_ at hl
 rw [List.length_map] at hl
 refine ⟨hl.symm,fun i hi => ?_⟩
 obtain ⟨u,h1,t,rfl⟩ := r.get (i := i) (x := .int ((ns.getD i 0 : Nat) : Int)) (by
  unfold jB_
  rw [List.getElem?_map,List.getElem?_eq_getElem hi,List.getD_eq_getElem?_getD,List.getElem?_eq_getElem hi]
  rfl)
 exact ⟨t,by rw [List.getD_eq_getElem?_getD,h1]; rfl⟩
section
variable {P : Program} {w : World} {K : PySem.W.Frag} {mg : Str -> Option Value} {base : Heap} {A : Around} {outer : List Env} {s : Shared} {H : Hp} {k : Nat} {sp : SpV} {l fa : Addr} {vs : List Value} {ns : List Nat} {ck : Nat -> Int} {B : Nat} {Q : VK} {E : Value -> Shared -> Prop}
theorem qfa_ {s' : Shared} {H' : Hp} {D kS : Addr} {ks : List Value} {e e1 : Nat} {R : PySem.Fin -> Shared -> Prop} (hA : A.handled = none) (hAu : A.units + 64 < cLine) (r : Vals (jB_ ns) vs) (nd : ns.Nodup) (hB : ∀ n ∈ ns,n < B) (h64 : ns.length < 64)
  (hok : HOk P w H' s'.heap) (hD : s'.heap.get? D = some (seqObj "list" #[] e1)) (hk : s'.heap.get? kS = some (seqObj "list" ks.toArray e)) (hDk : D ≠ kS) (hK : Keys H' ck ns ks)
  (fin : ∀ (h' : Heap) (ms : List Nat) (out : List Value) (c : Nat),(∀ b o,b ≠ D → b ≠ kS → s'.heap.get? b = some o → h'.get? b = some o) → h'.get? D = some (seqObj "list" out.toArray c) → Vals (jB_ ms) out → ms.Perm ns → ms.Pairwise (klt ck) → R (.done (.ret .none)) { s' with heap := h' }) :
  wpAny (model P w) A (ksk_end D false vs.toArray e1 (.ref kS) ks.toArray) R E s' := by
 obtain ⟨hvl,hvi⟩ := zx_ r
 have hkl := hK.length
 have tail : ∀ (st : SortSt) (p : Array Nat),Pm ns.length p -> arrOf st = p.map (kas_item (ks.toArray.zip vs.toArray)) -> failedOf st = none -> (∀ i j,i < j -> j < ns.length -> klt ck (ns.getD (p.getD i 0) 0) (ns.getD (p.getD j 0) 0)) -> wpAny (model P w) A (ksk_tail D false e1 (.ref kS) st) R E s' := by
  intro st p hp har hf hord
  have hsn := kat_snds (ks := ks) (vs := vs) (by omega) har
  have hps := hp.size
  have s1 := Heap.SameBut.update s'.heap kS (Obj.mapSeq fun _ => (#[] : Array Value))
  have na1 : (s'.heap.update kS (Obj.mapSeq fun _ => (#[] : Array Value))).get? D = some (seqObj "list" #[] e1) := (s1.2 D hDk).trans hD
  have s2 := Heap.SameBut.update (s'.heap.update kS (Obj.mapSeq fun _ => (#[] : Array Value))) D (Obj.mapSeq fun _ => (arrOf st).map (·.2))
  obtain ⟨c2,hc2⟩ : ∃ c2,((s'.heap.update kS (Obj.mapSeq fun _ => (#[] : Array Value))).update D (Obj.mapSeq fun _ => (arrOf st).map (·.2))).get? D = some (seqObj "list" ((arrOf st).map (·.2)) c2) := ⟨_,get?_update_seq na1 fun _ => (arrOf st).map (·.2)⟩
  unfold ksk_tail
  try dsimp only
  refine wpAny_bind (listUpdate_at hk rfl ?_ (by rw [List.size_toArray,sizeLine_eq]; omega) (Nat.zero_le _))
  refine wpAny_bind (wpAny_letGo ?_)
  refine wpAny_bind (seqEpoch_at na1 rfl ?_)
  simp only [Bool.false_eq_true,if_false]
  refine wpAny_bind (listUpdate_at na1 rfl ?_ (Nat.zero_le _) (by
   show ((arrOf st).map (·.2)).size <= _
   rw [hsn,List.size_toArray,List.length_map,Array.length_toList,hps,sizeLine_eq]; omega))
  rw [hf]
  simp only [bne_self_eq_false,Bool.false_eq_true,if_false]
  have hc2 := hc2.trans (congrArg (fun z => some (seqObj "list" z c2)) hsn)
  have pl : p.toList.Perm (List.range ns.length) := by simpa using Array.perm_iff_toList_perm.mp hp.pm
  have pin : ∀ i ∈ p.toList,i < ns.length := fun i hi => List.mem_range.mp (pl.mem_iff.mp hi)
  refine wpAny_pure (fin _ (p.toList.map fun i => ns.getD i 0) _ c2 (fun b o hb hb' q => ?_) hc2 ?_ ?_ ?_)
  ·rw [s2.2 b hb,s1.2 b hb']; exact q
  ·unfold jB_
   rw [List.map_map]
   have : ∀ (ls : List Nat),(∀ i ∈ ls,i < ns.length) -> Vals (ls.map ((fun n : Nat => V.int ((n : Nat) : Int)) ∘ fun i => ns.getD i 0)) (ls.map fun i => vs.getD i Value.none) := by
    intro ls
    induction ls with
    | nil => intro _; exact .nil
    | cons i ls ih =>
     intro hl
     obtain ⟨t,e⟩ := hvi i (hl i (.head _))
     exact .cons ⟨t,e⟩ (ih fun j hj => hl j (.tail _ hj))
   exact this _ pin
  ·have e0 : (List.range ns.length).map (fun i => ns.getD i 0) = ns := by
    apply List.ext_getElem?
    intro i
    rw [List.getElem?_map]
    by_cases hi : i < ns.length
    ·rw [List.getElem?_range hi,List.getElem?_eq_getElem hi,Option.map_some,List.getD_eq_getElem?_getD,List.getElem?_eq_getElem hi]
     rfl
    ·rw [List.getElem?_eq_none (by rw [List.length_range]; omega),List.getElem?_eq_none (by omega)]
     rfl
   have := pl.map fun i => ns.getD i 0
   rwa [e0] at this
  ·rw [List.pairwise_map,List.pairwise_iff_getElem]
   intro i j hi hj hij
   have := hord i j hij (by rw [Array.length_toList,hps] at hj; exact hj)
   have g : ∀ m (hm : m < p.toList.length),p.getD m 0 = p.toList[m] := fun m hm => by
    have : m < p.size := by simpa using hm
    simp [Array.getD,this]
   rw [g i hi,g j hj] at this
   exact this
 unfold ksk_end
 try dsimp only
 simp only [Bool.false_eq_true,if_false]
 by_cases h2 : vs.toArray.size < 2
 ·rw [if_pos h2,if_pos h2]
  rw [List.size_toArray,hvl] at h2
  refine wpAny_bind (wpAny_pure ?_)
  rw [StateT.run_pure]
  refine wpAny_bind (wpAny_pure ?_)
  try dsimp only
  refine tail _ (List.range ns.length).toArray ⟨Array.Perm.refl _⟩ ?_ rfl (fun i j hij hj => by omega)
  have e := kas_range (ks.toArray.zip vs.toArray)
  rw [show (ks.toArray.zip vs.toArray).size = ns.length by simp [hkl,hvl]] at e
  rw [e]
 ·rw [if_neg h2,if_neg h2]
  rw [List.size_toArray,hvl] at h2
  obtain ⟨fs,t1,t2,t3⟩ := hK.tups hok
  refine wpAny_bind (kat_kind (T := .type "int") t1 (by omega) (fun v hv => ?_) rfl ?_)
  ·obtain ⟨i,t,rfl⟩ := t3 v hv
   exact Looks.of_pure rfl
  rw [show ((Value.type "int") != Value.type "tuple") = true from rfl]
  have hz : ∀ i j,i < ns.length -> j < ns.length -> kzz ck ns B i = kzz ck ns B j -> i = j := fun i j hi hj e => by
   have n1 : ¬ klt ck (ns.getD i 0) (ns.getD j 0) := fun z => by have := (yo_ hB hi hj).mpr z; omega
   have n2 : ¬ klt ck (ns.getD j 0) (ns.getD i 0) := fun z => by have := (yo_ hB hj hi).mpr z; omega
   have e3 : ns.getD i 0 = ns.getD j 0 := by
    unfold klt at n1 n2
    generalize ck (ns.getD i 0) = c at n1 n2
    generalize ck (ns.getD j 0) = d at n1 n2
    omega
   rw [List.getD_eq_getElem?_getD,List.getElem?_eq_getElem hi,List.getD_eq_getElem?_getD,List.getElem?_eq_getElem hj] at e3
   exact (List.getElem_inj nd).mp e3
  have ask : (kas_sort vs.length).kasWp (kas_ask P w A (tuples' true) ks) (fun p s'' => s'' = s' /\ Pm ns.length p /\ Up (kzz ck ns B) p ns.length) s' := by
   rw [hvl]
   refine KWl.wp (lt := ltz (kzz ck ns B)) (n := ns.length) (fun i j C hi hj q => ?_) _ (KWl.mono (fun p q => ⟨rfl,q⟩) _ (qcs_ (by omega) hz))
   obtain ⟨t,e1,e2⟩ := hK.get hi
   obtain ⟨u,e3,e4⟩ := hK.get hj
   unfold kas_ask
   rw [e1,e3]
   refine qct_ hok e2 e4 hA hAu ?_
   have e5 : decide (ck (ns.getD i 0) < ck (ns.getD j 0) \/ ck (ns.getD i 0) = ck (ns.getD j 0) /\ ns.getD i 0 < ns.getD j 0) = ltz (kzz ck ns B) i j := by
    show _ = decide _
    rw [decide_eq_decide]
    exact (yo_ hB hi hj).symm
   rw [e5]
   exact q
  refine wpAny_bind (wpAny_mono (kat_run (Q := fun st' s'' => ∃ p : Array Nat,arrOf st' = p.map (kas_item (ks.toArray.zip vs.toArray)) /\ failedOf st' = none /\ s'' = s' /\ Pm ns.length p /\ Up (kzz ck ns B) p ns.length) (by omega) (by omega) (by omega) (fun p' st' s'' a1 a2 a3 a4 => ⟨p',a2,a3,a4⟩) ask) ?_ fun _ _ x => x)
  rintro ⟨⟨⟩,st'⟩ s'' ⟨p,har,hf,rfl,hp,hu⟩
  try dsimp only
  refine tail st' p hp har hf fun i j hij hj => ?_
  have := hu i j hij hj
  exact (yo_ hB (hp.lt (by omega) i) (hp.lt (by omega) j)).mp this
end
end L2
namespace L2
open PySem PySem.Spec PySem.W PyProof.Rows
section
variable {P : Program} {w : World} {K : PySem.W.Frag} {mg : Str -> Option Value} {base : Heap} {A : Around} {outer : List Env} {s : Shared} {H : Hp} {k : Nat} {sp : SpV} {l fa : Addr} {vs : List Value} {ns : List Nat} {ck : Nat -> Int} {B : Nat} {Q : VK} {E : Value -> Shared -> Prop}
structure SortAt (P : Program) (w : World) (outer : List Env) (s : Shared) (H : Hp) (D kS : Addr) (e1 : Nat) (ck : Nat -> Int) (ns : List Nat) (s' : Shared) (H' : Hp) (ks : List Value) (e : Nat) : Prop where
 os : s'.os = s.os
 bare : AllBare s'.gens
 un : Un (frs outer) [] H H' s.heap s'.heap
 hok : HOk P w H' s'.heap
 same : Same H H'
 hD : s'.heap.get? D = some (seqObj "list" #[] e1)
 nD : H' D = none
 hk : s'.heap.get? kS = some (seqObj "list" ks.toArray e)
 nk : H' kS = none
 keys : Keys H' ck ns ks
theorem qds_ {D kS : Addr} {e1 : Nat} {s5 : Shared} {R : PySem.Fin -> Shared -> Prop} (hr : Room k A) (e0 : Env0 P w K mg base A outer s H) (r : Vals (jB_ ns) vs) (nd : ns.Nodup) (hB : ∀ n ∈ ns,n < B) (h64 : ns.length < 64)
  (hf : ∀ (s' : Shared) (H' : Hp) (n : Nat) (x : Value),n ∈ ns -> Same H H' -> Env0 P w K mg base A outer s' H' -> Un (frs outer) [] H H' s.heap s'.heap -> RelV (.int ((n : Nat) : Int)) x -> codeAny (model P w) A (.call (.ref fa) ⟨[x],[]⟩) (CR CX0 outer P w H' s' (fun v H'' => ∃ t,v = .ref t /\ H'' t = some (keyV (ck n) n) /\ Same H' H'') E0) s')
  (nDs : s.heap.objs.size <= D) (nks : s.heap.objs.size <= kS) (hDk : D ≠ kS) (S5 : SortAt P w outer s H D kS e1 ck [] s5 H [] 0)
  (fin : ∀ (s' : Shared) (H' : Hp) (ms : List Nat),s'.os = s.os -> AllBare s'.gens -> Un (frs outer) [] H (upd H' D (.lst (jB_ ms))) s.heap s'.heap -> HOk P w (upd H' D (.lst (jB_ ms))) s'.heap -> Same H H' -> H' D = none -> ms.Perm ns -> ms.Pairwise (klt ck) -> R (.done (.ret .none)) s') :
  wpAny (model P w) A (ksk_rest D (.ref fa) false vs.toArray e1 (.ref kS)) R E s5 := by
 obtain ⟨hvl,hvi⟩ := zx_ r
 have noA : ∀ b : Addr,b ∉ ([] : List Addr) := fun b => List.not_mem_nil
 have hsz : ∀ {s' : Shared},(∃ o,s'.heap.get? D = some o) -> s.heap.objs.size <= s'.heap.objs.size := fun {s'} ⟨o,z⟩ => Nat.le_trans nDs (Nat.le_of_lt (Heap.lt_size z))
 have nfD : D ∉ frs outer := fun z => absurd (e0.lt z) (Nat.not_lt.mpr nDs)
 have nfk : kS ∉ frs outer := fun z => absurd (e0.lt z) (Nat.not_lt.mpr nks)
 unfold ksk_rest
 refine wpAny_bind (wpAny_rule ?_)
 rw [<- Array.forIn_toList]
 refine wpAny_bind (ksk_fold (I := fun j s' => ∃ H' ks e,SortAt P w outer s H D kS e1 ck (ns.take j) s' H' ks e) vs 0 s5 ⟨H,[],0,S5⟩ (fun j x s' hx hI => ?_) fun s' hI => ?_)
 ·obtain ⟨H',ks,e,S⟩ := hI
  rw [Nat.zero_add] at S ⊢
  have hj : j < ns.length := by rw [<- hvl]; exact (List.getElem?_eq_some_iff.mp hx).1
  have hn : ns.getD j 0 ∈ ns := by rw [List.getD_eq_getElem?_getD,List.getElem?_eq_getElem hj]; exact List.getElem_mem hj
  obtain ⟨t,ex⟩ := hvi j hj
  rw [List.getD_eq_getElem?_getD,hx] at ex
  have ex : x = _ := ex
  have e0' := e0.after (A' := A) rfl S.un S.hok S.bare (hsz ⟨_,S.hD⟩)
  have hc := hf s' H' _ x hn S.same e0' S.un ⟨t,ex⟩
  refine wpAny_bind (wpAny_attempt (wpAny_call (codeAny_mono hc fun rs s'' hq => ?_)))
  cases rs with
  | error _ => exact False.elim hq
  | ok fl =>
   cases fl with
   | next => exact False.elim hq
   | brk => exact False.elim hq
   | cont => exact False.elim hq
   | ret u =>
    obtain ⟨v,H'',os,bare,un,hok,rv,q⟩ := hq
    obtain ⟨ta,rfl,hta,sm⟩ := q
    obtain rfl : u = .ref ta := rv
    have hD2 := un.keep D _ S.hD S.nD nfD (noA D)
    have hk2 := un.keep kS _ S.hk S.nk nfk (noA kS)
    have nD2 := un.free D _ S.hD S.nD (noA D)
    have nk2 := un.free kS _ S.hk S.nk (noA kS)
    have s1 := Heap.SameBut.update s''.heap kS (Obj.mapSeq (·.push (.ref ta)))
    have k1 : ∀ b o,b ≠ kS -> s''.heap.get? b = some o -> (s''.heap.update kS (Obj.mapSeq (·.push (.ref ta)))).get? b = some o := fun b o hb z => (s1.2 b hb).trans z
    have ea : (List.toArray ks).push (.ref ta) = List.toArray (ks ++ [.ref ta]) := by simp
    have hkl := S.keys.length
    rw [List.length_take,Nat.min_eq_left (by omega)] at hkl
    obtain ⟨c2,hc2⟩ : ∃ c2,(s''.heap.update kS (Obj.mapSeq (·.push (.ref ta)))).get? kS = some (seqObj "list" (List.toArray (ks ++ [.ref ta])) c2) := ⟨_,by rw [← ea]; exact get?_update_seq hk2 (·.push (.ref ta))⟩
    show wpAny _ _ (do Builtin.List.listUpdate (.ref kS) (·.push (.ref ta)); pure (ForInStep.yield PUnit.unit)) _ _ _
    refine wpAny_bind (listUpdate_at hk2 rfl ?_ (by rw [List.size_toArray,sizeLine_eq]; omega) (Nat.le_trans (Nat.le_of_eq (Array.size_push ..)) (by rw [List.size_toArray,sizeLine_eq]; omega)))
    refine wpAny_pure ⟨rfl,H'',ks ++ [.ref ta],c2,os.trans S.os,bare,(S.un.trans un).turn nks k1,hok.turn nk2 k1,fun b o z => sm b o (S.same b o z),(k1 D _ hDk hD2),nD2,hc2,nk2,?_⟩
    rw [List.take_succ,List.getElem?_eq_getElem hj]
    have eg : ns.getD j 0 = ns[j] := by rw [List.getD_eq_getElem?_getD,List.getElem?_eq_getElem hj]; rfl
    rw [eg] at hta
    exact Keys.snoc hta (S.keys.imp fun t xs z => un.tups t xs z)
 ·obtain ⟨H',ks,e,S⟩ := hI
  rw [Nat.zero_add,hvl,List.take_length] at S
  have hkl := S.keys.length
  refine wpAny_bind (listItems_at S.hk rfl ?_)
  refine qfa_ hr.hd hr.units r nd hB h64 S.hok S.hD S.hk hDk S.keys fun h' ms out c kp hD rv pm pw => ?_
  have u1 : Un (frs outer) [] H H' s.heap h' := ⟨fun b o z n hb he => ?_,fun b o z n hb he => ?_,S.un.free,fun b o z he => ?_,S.un.tups,S.un.frzs,S.un.tbls⟩
  have ok1 : HOk P w H' h' := fun b o z => by
   have ne : ∀ c u x,H' x = none -> H' c = some u -> c ≠ x := fun c u x n z y => by rw [y,n] at z; cases z
   refine (S.hok b o z).stay (fun c v hc q => ?_) (fun _ q => q) fun _ _ q => q
   rcases hc with rfl | y
   ·exact kp c v (ne c o _ S.nD z) (ne c o _ S.nk z) q
   ·exact kp c v (ne c _ _ S.nD y) (ne c _ _ S.nk y) q
  refine fin _ H' ms S.os S.bare (u1.trk nDs S.nD) (ok1.trk S.nD ⟨?_,out,c,rv,hD⟩) S.same S.nD pm pw
  ·unfold jB_
   rw [List.length_map,pm.length_eq,sizeLine_eq]
   omega
  ·exact kp b o (Nat.ne_of_lt (Nat.lt_of_lt_of_le (Heap.lt_size z) nDs)) (Nat.ne_of_lt (Nat.lt_of_lt_of_le (Heap.lt_size z) nks)) (S.un.keep b o z n hb he)
  ·obtain ⟨sl,y⟩ := S.un.slot b o z n hb he
   exact ⟨sl,kp b _ (Nat.ne_of_lt (Nat.lt_of_lt_of_le (Heap.lt_size z) nDs)) (Nat.ne_of_lt (Nat.lt_of_lt_of_le (Heap.lt_size z) nks)) y⟩
  ·obtain ⟨o',y⟩ := S.un.there b o z he
   exact ⟨o',kp b _ (Nat.ne_of_lt (Nat.lt_of_lt_of_le (Heap.lt_size z) nDs)) (Nat.ne_of_lt (Nat.lt_of_lt_of_le (Heap.lt_size z) nks)) y⟩
theorem qfb_ (hr : Room (k + 2) A) (e0 : Env0 P w K mg base A outer s H) (hl : s.heap.IsList l vs.toArray) (r : Vals (jB_ ns) vs) (nd : ns.Nodup) (hB : ∀ n ∈ ns,n < B) (h64 : ns.length < 64)
  (hf : ∀ (s' : Shared) (H' : Hp) (n : Nat) (x : Value),n ∈ ns -> Same H H' -> Env0 P w K mg base A.in1.in1 outer s' H' -> Un (frs outer) [] H H' s.heap s'.heap -> RelV (.int ((n : Nat) : Int)) x -> codeAny (model P w) A.in1.in1 (.call (.ref fa) ⟨[x],[]⟩) (CR CX0 outer P w H' s' (fun v H'' => ∃ t,v = .ref t /\ H'' t = some (keyV (ck n) n) /\ Same H' H'') E0) s')
  (hq : ∀ (D : Addr) (H' : Hp) (ms : List Nat),H D = none -> H' D = none -> Same H H' -> ms.Perm ns -> ms.Pairwise (klt ck) -> Q (.ref D) (upd H' D (.lst (jB_ ms)))) :
  wpAny (model P w) A (call (.builtin "sorted") [.ref l] [(Str.ofString "key",.ref fa)]) (fun u s' => CE outer P w H s Q u s') E s := by
 obtain ⟨hvl,hvi⟩ := zx_ r
 refine call_function_entry_kw kind_sorted plain_sorted entry_sorted (ksk_s1 _ _) ?_
 unfold Builtin.«sorted»
 refine wpAny_bind (m := checkCount "sorted" 1 1 _) (wpAny_pure ?_)
 refine wpAny_bind (collect_list hl ?_ (by rw [sizeLine_eq]; omega))
 refine wpAny_bind (wpAny_newList ?_ (by rw [sizeLine_eq]; omega))
 have hsz : ((s.heap.push (seqObj "list" #[] 0)).update s.heap.objs.size (Obj.mapSeq (· ++ vs.toArray))).objs.size = s.heap.objs.size + 1 := by
  rw [Heap.size_update,size_push']
 have hoL : (((s.heap.push (seqObj "list" #[] 0)).update s.heap.objs.size (Obj.mapSeq (· ++ vs.toArray))).push (seqObj "list" vs.toArray 0)).get? (s.heap.objs.size + 1) = some (seqObj "list" vs.toArray 0) := by
  rw [<- hsz]; exact Heap.get?_push_size _ rfl
 have keep : ∀ b o,s.heap.get? b = some o → (((s.heap.push (seqObj "list" #[] 0)).update s.heap.objs.size (Obj.mapSeq (· ++ vs.toArray))).push (seqObj "list" vs.toArray 0)).get? b = some o := fun b o q => by
  have hlt : b < s.heap.objs.size := Heap.lt_size q
  rw [Heap.get?_push_ne _ _ _ (by rw [hsz]; exact Nat.ne_of_lt (Nat.lt_succ_of_lt hlt)),Heap.get?_update_ne _ _ _ _ (Nat.ne_of_lt hlt),Heap.get?_push_ne _ _ _ (Nat.ne_of_lt hlt)]
  exact q
 show wpAny _ _ _ _ _ { s with heap := ((s.heap.push (seqObj "list" #[] 0)).update s.heap.objs.size (Obj.mapSeq (· ++ vs.toArray))).push (seqObj "list" vs.toArray 0) }
 rw [hsz]
 generalize (((s.heap.push (seqObj "list" #[] 0)).update s.heap.objs.size (Obj.mapSeq (· ++ vs.toArray))).push (seqObj "list" vs.toArray 0)) = h2 at hoL keep
 refine wpAny_bind (wpAny_holding (wpAny_call_entry_kw slot_list_sort ⟨_,hoL,rfl⟩ entry_list_sort ?body (ksk_l1 _ _)))
 show wpAny (model P w) A.in1.in1 (Builtin.«list.sort» ⟨[.ref (s.heap.objs.size + 1)],[(Str.ofString "key",.ref fa)]⟩) _ _ _
 rw [ksk_t1]
 unfold ksk_tree
 have s1 := Heap.SameBut.update h2 (s.heap.objs.size + 1) (Obj.mapSeq fun _ => (#[] : Array Value))
 obtain ⟨e1,ho1⟩ : ∃ e1,(h2.update (s.heap.objs.size + 1) (Obj.mapSeq fun _ => (#[] : Array Value))).get? (s.heap.objs.size + 1) = some (seqObj "list" #[] e1) := ⟨_,get?_update_seq hoL fun _ => #[]⟩
 refine wpAny_bind (listItems_at hoL rfl ?_)
 refine wpAny_bind (listUpdate_at hoL rfl ?_ (by rw [List.size_toArray,sizeLine_eq]; omega) (Nat.zero_le _))
 refine wpAny_bind (seqEpoch_at ho1 rfl ?_)
 refine wpAny_bind (wpAny_newTuple ?_ (by show vs.length <= _; rw [sizeLine_eq]; omega))
 refine wpAny_bind (wpAny_newList ?_ (Nat.zero_le _))
 refine wpAny_holding ?_
 have kp5 : ∀ b o,s.heap.get? b = some o → (((h2.update (s.heap.objs.size + 1) (Obj.mapSeq fun _ => (#[] : Array Value))).push (seqObj "tuple" vs.toArray 0)).push (seqObj "list" #[] 0)).get? b = some o := fun b o q => by
  refine Heap.get?_push_of_some _ (Heap.get?_push_of_some _ ?_)
  rw [s1.2 b (Nat.ne_of_lt (Nat.lt_succ_of_lt (Heap.lt_size q)))]
  exact keep b o q
 have hlt2 : s.heap.objs.size + 1 < h2.objs.size := Heap.lt_size hoL
 have hkS : ((h2.update (s.heap.objs.size + 1) (Obj.mapSeq fun _ => (#[] : Array Value))).push (seqObj "tuple" vs.toArray 0)).objs.size = h2.objs.size + 1 := by rw [size_push',Heap.size_update]
 have fr : ∀ a,s.heap.objs.size <= a -> H a = none := fun a z => e0.hok.fresh z
 refine qds_ (D := s.heap.objs.size + 1) (A := A.in1.in1) (outer := outer) (s := s) (H := H) (s5 := { s with heap := ((h2.update (s.heap.objs.size + 1) (Obj.mapSeq fun _ => (#[] : Array Value))).push (seqObj "tuple" vs.toArray 0)).push (seqObj "list" #[] 0) }) (kS := ((h2.update (s.heap.objs.size + 1) (Obj.mapSeq fun _ => (#[] : Array Value))).push (seqObj "tuple" vs.toArray 0)).objs.size) hr.in1.in1 (e0.after rfl Un.refl e0.hok e0.bare (Nat.le_refl _)) r nd hB h64 hf (Nat.le_succ _) (by have := hkS; omega) (Nat.ne_of_lt (by have := hkS; omega))
  ⟨rfl,e0.bare,Un.kept kp5,e0.hok.kept kp5,fun _ _ z => z,Heap.get?_push_of_some _ (Heap.get?_push_of_some _ ho1),fr _ (by omega),Heap.get?_push_size _ rfl,fr _ (by rw [hkS]; omega),trivial⟩ ?_
 intro s' H' ms os bare un hok sm nD pm pw
 exact ⟨_,rfl,wpAny_pure ⟨_,rfl,.ref (s.heap.objs.size + 1),_,os,bare,un,hok,rfl,hq _ H' ms (fr _ (by omega)) nD sm pm pw⟩⟩
end
def qfc_ (ps : List Str) (vs : List V) (scope : Scope) (clos : List (Str × Addr)) (cv : List (Str × V)) (N : List Str) (σ : St) : Prop :=
 σ.length = N.length /\ ∀ (i : Nat) (x : Str) (v : V),N[i]? = some x -> σ[i]? = some (some v) -> (ps[i]? = some x /\ vs[i]? = some v) \/ (scope.names.lookup x = some .free /\ (∃ c,clos.lookup x = some c) /\ cv.lookup x = some v)
structure CloL (scope : Scope) (clos : List (Str × Addr)) (cv : List (Str × V)) (H : Hp) (h : Heap) : Prop where
 inj : ∀ x y c,clos.lookup x = some c -> clos.lookup y = some c -> x = y
 has : ∀ x,scope.names.lookup x = some .free -> ∃ c,clos.lookup x = some c
 val : ∀ x c,clos.lookup x = some c -> ∃ v u,cv.lookup x = some v /\ RelV v u /\ h.IsCell c (some u) /\ H c = none
section
variable {P : Program} {w : World} {K : PySem.W.Frag} {mg : Str -> Option Value} {base : Heap} {A : Around} {outer : List Env} {s : Shared} {H : Hp} {N ps : List Str} {scope : Scope} {fa : Addr} {q : Str} {cd : Value} {clos : List (Str × Addr)} {cv : List (Str × V)} {vs : List V} {us : List Value} {σ0 : St} {h' : Heap} {tk : Nat}
theorem qg8_ (S : CloScope N ps scope) (hd : A.handled = none) (e0 : Env0 P w K mg base A outer s H) (r : Vals vs us) (C : CloL scope clos cv H s.heap) (h0 : qfc_ ps vs scope clos cv N σ0)
  (hn : h'.Ns s.heap.objs.size fun x => (ps.zip us).reverse.lookup x) (hs : Heap.SameBut s.heap.objs.size (s.heap.push { cls := .type "frame",data := .dict #[] }) h') :
  Inv (cxC P w K mg base N (envC q scope s.heap.objs.size fa cd clos) A outer s H) [] σ0 H { s with heap := h',toks := tk } := by
 have hk : ∀ b o,s.heap.get? b = some o -> h'.get? b = some o := fun b o e => by
  rw [hs.2 b (Nat.ne_of_lt (Heap.lt_size e))]
  exact Heap.get?_push_of_some _ e
 have noA : ∀ b : Addr,b ∉ ([] : List Addr) := fun b => List.not_mem_nil
 have ik : ∀ {c u},s.heap.IsCell c (some u) -> h'.IsCell c (some u) := fun ⟨o,e1,e2⟩ => ⟨o,hk _ _ e1,e2⟩
 refine ⟨⟨e0.mod,S.kind,rfl,rfl,Nat.le_refl _,C.inj,fun x hx => ?_,(fun x c z => Bool.noConfusion z),fun _ => hd,Around.frames_deeper e0.frames,.inr ⟨rfl,rfl⟩,fun b z => absurd z (noA b),e0.bs,e0.bsz,fun b _ _ => noA b,fun b z => absurd z (noA b),e0.funs,e0.frf⟩,
  rfl,e0.bare,Un.kept hk,⟨_,hn,fun i x v h1 h2 h3 => ?_⟩,fun x c e => ?_,?_,fun x c e => ?_,fun p hp => absurd (show p ∈ ([] : List (Addr × Obj)) from hp) (by simp),e0.hok.kept hk,h0.1⟩
 ·rcases hx with hx | hx
  ·exact absurd rfl (S.nocell _ (PySem.mem_of_lookup (show scope.names.lookup x = some .cell from hx)))
  ·exact C.has x hx
 ·rcases h0.2 i x v h1 h2 with ⟨hp,hv⟩ | ⟨hf,⟨c,hc⟩,hv⟩
  ·obtain ⟨u,hu,rv⟩ := r.get hv
   have ndP : ps.Nodup := by rw [<- S.pre]; exact S.nd.sublist (List.take_sublist _ _)
   exact ⟨u,rv,.inl ⟨S.par x (List.mem_of_getElem? hp),qcp_ ndP hp hu⟩⟩
  ·obtain ⟨v',u,hv',ru,z,_⟩ := C.val x c hc
   rw [hv] at hv'
   cases hv'
   exact ⟨u,ru,.inr ⟨.inr hf,c,hc,ik z⟩⟩
 ·obtain ⟨v',u,hv',ru,z,_⟩ := C.val x c e
  exact ⟨_,ik z⟩
 ·exact e0.hok.fresh (Nat.le_refl _)
 ·obtain ⟨v',u,hv',_,_,n⟩ := C.val x c e
  exact n
theorem qg9_ {k : Nat} {name : Str} {params : Arguments} {body : Expr} {pm ctv : Value} {c' : Addr} {Q : VK} {E : XK} {t : TE} (S : CloScope N ps scope) (hr : Room (k + 1) A) (e0 : Env0 P w K mg base A outer s H) (r : Vals vs us)
  (hf : H fa = some (FunO fa (PySem.W.kla_fn name q params body scope clos pm (.ref c') ctv))) (hc : H c' = some (jS_ q c')) (hb : bindArgs (PySem.W.kla_fn name q params body scope clos pm (.ref c') ctv) ⟨us,[]⟩ = pure (ps.zip us))
  (C : CloL scope clos cv H s.heap) (h0 : qfc_ ps vs scope clos cv N σ0)
  (ht : PE (cxC P w K mg base N (envC q scope s.heap.objs.size fa (.ref c') clos) A outer s H) body t) (hq : t σ0 H Q) :
  codeAny (model P w) A (.call (.ref fa) ⟨us,[]⟩) (CR CX0 outer P w H s Q E) s := by
 have lim : s.heap.NoLimit := e0.mod.nolimit.keeps fun b o e => (e0.bs b o e).1
 have ho : s.heap.get? fa = some { cls := .type "function",data := .func (PySem.W.kla_fn name q params body scope clos pm (.ref c') ctv) } := (e0.hok fa _ hf).1
 have hcr : s.heap.CodeRec (.ref c') q := (e0.hok c' _ hc).1
 refine PySem.W.kla_callFunE hr.depth ho rfl S.co S.gen rfl hcr ?_
 rw [hb]
 refine wpAny_pure ?_
 refine wpAny_newFunctionEnv S.nocell (fun x hx => S.par x.1 (List.of_mem_zip hx).1) (fun h' hn hs => ?_) S.kind
 have hk : ∀ b o,s.heap.get? b = some o -> h'.get? b = some o := fun b o e => by
  rw [hs.2 b (Nat.ne_of_lt (Heap.lt_size e))]
  exact Heap.get?_push_of_some _ e
 refine ⟨lim.keeps hk,PySem.W.kla_codeExpr ?_⟩
 have I := qg8_ (q := q) (fa := fa) (cd := .ref c') (tk := s.toks + (ps.zip us).length) S hr.hd e0 r C h0 hn hs
 refine wpAny_mono (ht [] _ σ0 _ _ I hq) (fun u s' ⟨v,H',J,rv,q⟩ => ?_) fun e s' hs' => False.elim hs'
 exact ⟨v,H',J.os,J.bare,J.base,J.hok,rv,q⟩
end
section
variable {X : Cx} {pins : List (Addr × Obj)} {σ : St} {H : Hp} {s : Shared}
theorem qha_ {P : Addr} {pos : Pos} {q : Str} {mk : Value -> Value -> Value -> Value -> FuncData} {Q : VK} (h : tFn P pos q mk σ H Q) : tFn P pos q mk σ H fun v H2 => Q v H2 /\ ∃ fa c' doc pm ctv,v = .ref fa /\ H2 fa = some (FunO fa (mk doc pm (.ref c') ctv)) /\ H2 c' = some (jS_ q c') := by
 obtain ⟨ps,hP,tr,h⟩ := h
 refine ⟨ps,hP,tr,?_⟩
 rcases h with ⟨hn,h⟩ | ⟨c',hs,hc,h⟩
 ·refine .inl ⟨hn,fun c' fa doc pm ctv n1 n2 ne => ⟨h c' fa doc pm ctv n1 n2 ne,fa,c',doc,pm,ctv,rfl,qd_,?_⟩⟩
  rw [qe_ ne.symm]
  exact qd_
 ·refine .inr ⟨c',hs,hc,fun fa doc pm ctv n => ⟨h fa doc pm ctv n,fa,c',doc,pm,ctv,rfl,qd_,?_⟩⟩
  rw [qe_ (ql_ hc n)]
  exact hc
def qfd_ (K : PySem.W.Frag) (j : Nat) (tb : TE) (σ : St) (Q : VK) (x : V) (H2 : Hp) : Prop :=
 ∃ (l : Addr) (ns : List Nat) (ck : Nat -> Int) (B : Nat) (vy : V),x = .ref l /\ SqL K H2 l (jB_ ns) /\ ns.Nodup /\ (∀ n ∈ ns,n < B) /\ ns.length < 64 /\ σ[j]? = some (some vy) ∧
  (∀ (n : Nat) (H' : Hp),n ∈ ns -> Same H2 H' -> tb [some (.int ((n : Nat) : Int)),some vy] H' fun v H'' => ∃ t,v = .ref t /\ H'' t = some (keyV (ck n) n) /\ Same H' H'') ∧
  ∀ (D : Addr) (H' : Hp) (ms : List Nat),H2 D = none -> H' D = none -> Same H2 H' -> ms.Perm ns -> ms.Pairwise (klt ck) -> Q (.ref D) (upd H' D (.lst (jB_ ms)))
def qkl_ (K : PySem.W.Frag) (P : Addr) (lpos : Pos) (q : Str) (mk : Value -> Value -> Value -> Value -> FuncData) (j : Nat) (te tb : TE) : TE := fun σ H Q => te σ H fun x H1 => tFn P lpos q mk σ H1 fun _ H2 => qfd_ K j tb σ Q x H2
theorem qhb_ {c P cy : Addr} {p y : Str} {j k : Nat} {e : Expr} {te tb : TE} {params : Arguments} {body : Expr} {scope : Scope} {lpos kp p0 pos : Pos} (T : TabK X c P) (hcl : closureFor scope X.env = pure [(y,cy)]) (hr : Room (k + 3) X.A) (hg : Gl X "sorted") (hm : X.mg "sorted" = none) (he : PE X e te)
  (S : CloScope [p,y] [p] scope) (hyf : scope.names.lookup y = some .free) (hfr : ∀ q ∈ scope.names,q.2 = .free -> q.1 = y) (hcy : X.env.cells.lookup y = some cy) (hky : X.env.kindOf y = some .cell) (hfn : X.fn y = true) (hj : X.N[j]? = some y)
  (hb : ∀ (pm cdv ctv u : Value),bindArgs (PySem.W.kla_fn (Str.ofString "<lambda>") (X.env.qual ++ Str.ofString "<lambda>") params body scope [(y,cy)] pm cdv ctv) ⟨[u],[]⟩ = pure [(p,u)])
  (hbody : ∀ (A : Around) (outer : List Env) (s : Shared) (H : Hp) (fa c' : Addr),Room k (A.deeper (envC (X.env.qual ++ Str.ofString "<lambda>") scope s.heap.objs.size fa (.ref c') [(y,cy)])) → PE (cxC X.prog X.w X.K X.mg X.base [p,y] (envC (X.env.qual ++ Str.ofString "<lambda>") scope s.heap.objs.size fa (.ref c') [(y,cy)]) A outer s H) body tb)
  (h1 : defaultsOf params X.env = ([],[]) := by rfl) (hs : starEach [e] X.env = (false,eval e X.env) :: starEach [] X.env := by rfl) (hs2 : backTo pos (starEach [e] X.env) = (false,eval e X.env) :: backTo pos (starEach [] X.env) := by rfl) (hs3 : (backTo pos (starEach [e] X.env)).any (·.1) = false := by rfl) :
  PE X (.Call (.Name "sorted" p0) [e] [⟨some "key",.Lambda params body scope lpos,kp⟩] pos) (qkl_ X.K P lpos (X.env.qual ++ Str.ofString "<lambda>") (fun _ pm cdv ctv => PySem.W.kla_fn (Str.ofString "<lambda>") (X.env.qual ++ Str.ofString "<lambda>") params body scope [(y,cy)] pm cdv ctv) j te tb) := by
 intro pins s σ H Q I h
 refine wpAny_Call_Name_kw (jY_ I hg hm PyProof.Rows.Boot.sorted ?_ (by decide) (by decide))
 refine callWith_kw ?_ hs2 hs3 rfl rfl
 refine thn ((qa_ he qc_ hs) pos pins s σ H (fun vs H1 => match vs with
  | [x] => tFn P lpos (X.env.qual ++ Str.ofString "<lambda>") (fun _ pm cdv ctv => PySem.W.kla_fn (Str.ofString "<lambda>") (X.env.qual ++ Str.ofString "<lambda>") params body scope [(y,cy)] pm cdv ctv) σ H1 (fun _ H2 => qfd_ X.K j tb σ Q x H2)
  | _ => False) I h) ?_
 rintro us s1 ⟨vs,H1,I1,rv,q1⟩
 match vs,rv,q1 with
 | [x],rv,q1 =>
  obtain ⟨u,rfl,rx⟩ := jJ_ rv
  refine kws_cons (PySem.W.kla_eval h1 (thn (qg2_ T hcl I1 (qha_ q1)) fun f s2 ⟨vf,H2,I2,rf,q2,fa,c',_,pm,ctv,evf,hfa,hcc⟩ => ?_))
  subst evf
  obtain rfl : f = Value.ref fa := rf
  obtain ⟨l,ns,ck,B,vy,rfl,hsq,nd,hB,h64,hσ,hbd,hq⟩ := q2
  obtain rfl : u = Value.ref l := rx
  refine kws_nil ?_
  obtain ⟨its,ri,pl,_⟩ := I2.list hsq
  refine wpAny_mono (qfb_ (K := X.K) (mg := X.mg) (base := X.base) (ck := ck) (B := B) (ns := ns) (Q := Q) hr I2.env0 pl.isList ri nd hB h64 (fun s3 H3 n xv hn sm e0 un rxv => ?_) hq) (fun u s' ce => I2.after ce) fun _ _ z => z
  obtain ⟨m,hns,hl⟩ := I2.loc
  obtain ⟨uy,ruy,lk⟩ := hl j y vy hj hσ (.inr (.inl hky))
  have hce : s2.heap.IsCell cy (some uy) := by
   rcases lk with ⟨z,_⟩ | ⟨_,c2,ec,z⟩
   ·rw [hky] at z; cases z
   ·rw [hcy] at ec; cases ec; exact z
  obtain ⟨oc,ho,hd⟩ := id hce
  have ncy := I2.freeC y cy hcy
  have nf : cy ∉ frs X.stack := fun z => by
   rcases List.mem_cons.mp (I2.stkSub cy z) with e | hb2
   ·exact I2.cne y cy hcy e
   ·obtain ⟨_,o2,ho2,_⟩ := I2.ok.funs.mem hb2
    exact absurd (Heap.lt_size ho2) (Nat.not_lt.mpr (I2.ok.cab y cy hfn hcy))
  have ho3 := un.keep cy oc ho ncy nf List.not_mem_nil
  have ncy3 := un.free cy oc ho ncy List.not_mem_nil
  have L1 : ∀ x c,[(y,cy)].lookup x = some c -> x = y /\ c = cy := fun x c e => by
   rw [List.lookup_cons] at e
   split at e
   ·rename_i hxy
    cases e
    exact ⟨eq_of_beq hxy,rfl⟩
   ·cases e
  have L2' : [(y,cy)].lookup y = some cy := by rw [List.lookup_cons]; simp
  have L3 : [(y,vy)].lookup y = some vy := by rw [List.lookup_cons]; simp
  refine qg9_ (cv := [(y,vy)]) (vs := [.int ((n : Nat) : Int)]) (us := [xv]) (σ0 := [some (.int ((n : Nat) : Int)),some vy]) S (k := k) hr.in1.in1 e0 (.cons rxv .nil) (sm _ _ hfa) (sm _ _ hcc) (hb _ _ _ _) ⟨fun x z c e1 e2 => ((L1 x c e1).1).trans ((L1 z c e2).1).symm,fun x hx => ⟨cy,by have e : x = y := hfr (x,.free) (PySem.mem_of_lookup hx) rfl; rw [e]; exact L2'⟩,fun x c e => ?_⟩ ⟨rfl,fun i x v e1 e2 => ?_⟩ (hbody _ _ _ _ _ _ ((hr.in1.in1).deeper _)) (hbd n H3 hn sm)
  ·obtain ⟨rfl,rfl⟩ := L1 x c e
   exact ⟨vy,uy,L3,ruy,⟨oc,ho3,hd⟩,ncy3⟩
  ·match i,e1,e2 with
   | 0,e1,e2 => exact .inl ⟨e1,by cases e2; rfl⟩
   | 1,e1,e2 =>
    cases e1
    cases e2
    exact .inr ⟨hyf,⟨cy,L2'⟩,L3⟩
end
structure FunT (K : PySem.W.Frag) (x qual : Str) (st : Stmt) (f : Addr) (fd : FuncData) (c t : Addr) : Prop where
 ex : ∃ (oc : Value) (od : Option Addr) (kV doc pm : Value) (an : Option Addr) (ct : Value) (osl : Array (Option Value)),
  fd = PySem.W.fnOf x qual (q8_ st) (qR_ st) (qh_ st) .none kV doc pm an (.ref c) ct /\ K.lookup f = some ⟨oc,od,.func fd,osl⟩ /\ PySem.W.codeIn K (.ref c) qual = true
 kp : PySem.W.keepIn K (.ref f) = true
 hd : PySem.W.codeHdIn K c t = true
section
variable {P : Program} {w : World} {K : PySem.W.Frag} {mg : Str -> Option Value} {base : Heap} {x qual : Str} {st : Stmt} {f c t : Addr} {fd : FuncData} {N ps : List Str} {k : Nat} {sp : Sp}
theorem FunT.fun (F : FunT K x qual st f fd c t) : Fun K x qual st f fd := by
 obtain ⟨oc,od,kV,doc,pm,an,ct,osl,e,lk,hcd⟩ := F.ex
 exact ⟨⟨oc,od,kV,doc,pm,an,_,ct,osl,e,lk,hcd⟩,F.kp⟩
theorem FunT.ok (F : FunT K x qual st f fd c t) (S : FnScope N ps (qh_ st)) (len : ∀ vs H Q E,sp vs H Q E -> vs.length = ps.length)
  (hbody : ∀ (A : Around) (outer : List Env) (s : Shared) (H : Hp) (vs : List V) (Q : VK) (E : XK),Room k (A.deeper (envOfC qual (qh_ st) s.heap.objs.size f (.ref c))) -> sp vs H Q E →
   ∃ t,PSs (cxOf CX0 P w K mg base N qual (qh_ st) f (.ref c) A outer s H E).nox (qR_ st) t /\ t { nx := fun _ H' => Q .non H',rt := Q } (start N vs) H) : FnOk P w K mg base CX0 (k + 1) f fd ps sp := by
 obtain ⟨oc,od,kV,doc,pm,an,ct,osl,rfl,lk,hcd⟩ := F.ex
 refine qif_ lk hcd S len fun A outer s H vs Q E hr hsp => ?_
 obtain ⟨t,h,q⟩ := hbody A outer s H vs Q E hr hsp
 exact ⟨t,h.nox,q⟩
theorem qcu_ {oc : Value} {od an : Option Addr} {osl : Array (Option Value)} {kV doc pm ct : Value} (l : K.lookup f = some ⟨oc,od,.func (PySem.W.fnOf x qual (q8_ st) (qR_ st) (qh_ st) .none kV doc pm an (.ref c) ct),osl⟩)
  (hc : PySem.W.codeIn K (.ref c) qual = true) (hk : PySem.W.keepIn K (.ref f) = true) (hd : PySem.W.codeHdIn K c t = true) : FunT K x qual st f (PySem.W.fnOf x qual (q8_ st) (qR_ st) (qh_ st) .none kV doc pm an (.ref c) ct) c t := ⟨⟨oc,od,kV,doc,pm,an,ct,osl,rfl,l,hc⟩,hk,hd⟩
theorem FunT.tab {A : Around} {outer : List Env} {s : Shared} {H : Hp} {E : XK} {sc : Scope} (F : FunT K x qual st f fd c t) (hb : base.BuiltinsAt mg t) (ne : mainGlobals ≠ t) : TabK (cxOf CX0 P w K mg base N qual sc f (.ref c) A outer s H E).nox c t := ⟨rfl,F.hd,hb,ne⟩
end
end L2
namespace L2
open PySem PySem.Spec PySem.W PyProof.Rows
def PrsAt (H : Hp) (ck : Nat -> Int) (ns : List Nat) (ts : List Addr) : Prop := ts.length = ns.length /\ ∀ i t,ts[i]? = some t -> H t = some (keyV (ck (ns.getD i 0)) (ns.getD i 0))
theorem PrsAt.keys {H : Hp} {ck : Nat -> Int} : ∀ {ns : List Nat} {ts : List Addr},PrsAt H ck ns ts -> Keys H ck ns (ts.map Value.ref)
 | [],[],_ => trivial
 | [],_ :: _,z => by cases z.1
 | _ :: _,[],z => by cases z.1
 | n :: ns,t :: ts,⟨h1,h2⟩ => ⟨⟨t,rfl,h2 0 t rfl⟩,PrsAt.keys (ns := ns) (ts := ts) ⟨Nat.succ.inj h1,fun i u e => h2 (i + 1) u e⟩⟩
theorem uZ_ : ∀ {ts : List Addr} {us : List Value},Vals (ts.map V.ref) us -> us = ts.map Value.ref
 | [],_,.nil => rfl
 | t :: ts,_,.cons h r => by rw [List.map_cons,← uZ_ r]; cases h; rfl
theorem u0_ : ∀ (ts : List Addr),Vals (ts.map V.ref) (ts.map Value.ref)
 | [] => .nil
 | t :: ts => .cons rfl (u0_ ts)
section
variable {X : Cx}
theorem qa8_ (hc : X.calm = true) (hu : X.A.in1.in1.units + 64 < cLine) : jz_ X (.builtin "sorted") (fun xs H Q => ∃ (p : Addr) (ts : List Addr) (ns : List Nat) (ck : Nat → Int) (B : Nat),xs = [.ref p] ∧ SqL X.K H p (ts.map V.ref) ∧ PrsAt H ck ns ts ∧ ns.Nodup ∧ (∀ n ∈ ns,n < B) ∧ ns.length < 64 ∧ ∀ l ts' ms,H l = none → PrsAt H ck ms ts' → ms.Perm ns → ms.Pairwise (klt ck) → Q (.ref l) (upd H l (.lst (ts'.map V.ref)))) := by
 intro pins s σ H xs us Q I r h
 obtain ⟨p,ts,ns,ck,B,rfl,hq,hp,nd,hB,h64,q⟩ := h
 obtain ⟨u,rfl,rx⟩ := jJ_ r
 cases rx
 obtain ⟨its,r',pl,hz⟩ := I.list hq
 obtain rfl := uZ_ r'
 have hvl : (ts.map Value.ref).length = ns.length := by rw [List.length_map,hp.1]
 have hK := hp.keys
 have hl := pl.isList
 generalize hvs : ts.map Value.ref = vs at hvl hK hl
 refine Calls.call_function_entry kind_sorted plain_sorted entry_sorted (args_sorted1 _) ?_
 unfold Builtin.«sorted»
 refine wpAny_bind (m := checkCount "sorted" 1 1 _) (wpAny_pure ?_)
 refine wpAny_bind (collect_list hl ?_ (by rw [sizeLine_eq]; omega))
 refine wpAny_bind (wpAny_newList ?_ (by rw [sizeLine_eq]; omega))
 have hsz : ((s.heap.push (seqObj "list" #[] 0)).update s.heap.objs.size (Obj.mapSeq (· ++ vs.toArray))).objs.size = s.heap.objs.size + 1 := by
  rw [Heap.size_update,size_push']
 have hoL : (((s.heap.push (seqObj "list" #[] 0)).update s.heap.objs.size (Obj.mapSeq (· ++ vs.toArray))).push (seqObj "list" vs.toArray 0)).get? (s.heap.objs.size + 1) = some (seqObj "list" vs.toArray 0) := by
  rw [<- hsz]; exact Heap.get?_push_size _ rfl
 have keep : ∀ b o,s.heap.get? b = some o → (((s.heap.push (seqObj "list" #[] 0)).update s.heap.objs.size (Obj.mapSeq (· ++ vs.toArray))).push (seqObj "list" vs.toArray 0)).get? b = some o := fun b o q => by
  have hlt : b < s.heap.objs.size := Heap.lt_size q
  rw [Heap.get?_push_ne _ _ _ (by rw [hsz]; exact Nat.ne_of_lt (Nat.lt_succ_of_lt hlt)),Heap.get?_update_ne _ _ _ _ (Nat.ne_of_lt hlt),Heap.get?_push_ne _ _ _ (Nat.ne_of_lt hlt)]
  exact q
 show wpAny _ _ _ _ _ { s with heap := ((s.heap.push (seqObj "list" #[] 0)).update s.heap.objs.size (Obj.mapSeq (· ++ vs.toArray))).push (seqObj "list" vs.toArray 0) }
 rw [hsz]
 generalize (((s.heap.push (seqObj "list" #[] 0)).update s.heap.objs.size (Obj.mapSeq (· ++ vs.toArray))).push (seqObj "list" vs.toArray 0)) = h2 at hoL keep
 refine wpAny_bind (wpAny_holding (wpAny_call_entry slot_list_sort ⟨_,hoL,rfl⟩ entry_list_sort ?body (args_list_sort _)))
 show wpAny (model X.prog X.w) X.A.in1.in1 (Builtin.«list.sort» ⟨[.ref (s.heap.objs.size + 1)],[]⟩) _ _ _
 rw [list_sort_plain]
 have s1 := Heap.SameBut.update h2 (s.heap.objs.size + 1) (Obj.mapSeq fun _ => (#[] : Array Value))
 obtain ⟨e1,ho1⟩ : ∃ e1,(h2.update (s.heap.objs.size + 1) (Obj.mapSeq fun _ => (#[] : Array Value))).get? (s.heap.objs.size + 1) = some (seqObj "list" #[] e1) := ⟨_,get?_update_seq hoL fun _ => #[]⟩
 refine wpAny_bind (listItems_at hoL rfl ?_)
 refine wpAny_bind (listUpdate_at hoL rfl ?_ (by rw [List.size_toArray,sizeLine_eq]; omega) (Nat.zero_le _))
 refine wpAny_bind (seqEpoch_at ho1 rfl ?_)
 refine wpAny_bind (wpAny_newTuple ?_ (by show vs.length <= _; rw [sizeLine_eq]; omega))
 refine wpAny_bind (wpAny_newList ?_ (Nat.zero_le _))
 refine wpAny_holding ?_
 have kp5 : ∀ b o,s.heap.get? b = some o → (((h2.update (s.heap.objs.size + 1) (Obj.mapSeq fun _ => (#[] : Array Value))).push (seqObj "tuple" vs.toArray 0)).push (seqObj "list" #[] 0)).get? b = some o := fun b o q => by
  refine Heap.get?_push_of_some _ (Heap.get?_push_of_some _ ?_)
  rw [s1.2 b (Nat.ne_of_lt (Nat.lt_succ_of_lt (Heap.lt_size q)))]
  exact keep b o q
 have hD5 : (((h2.update (s.heap.objs.size + 1) (Obj.mapSeq fun _ => (#[] : Array Value))).push (seqObj "tuple" vs.toArray 0)).push (seqObj "list" #[] 0)).get? (s.heap.objs.size + 1) = some (seqObj "list" #[] e1) := Heap.get?_push_of_some _ (Heap.get?_push_of_some _ ho1)
 show wpAny (model X.prog X.w) X.A.in1.in1 _ _ _ { s with heap := ((h2.update (s.heap.objs.size + 1) (Obj.mapSeq fun _ => (#[] : Array Value))).push (seqObj "tuple" vs.toArray 0)).push (seqObj "list" #[] 0) }
 generalize (((h2.update (s.heap.objs.size + 1) (Obj.mapSeq fun _ => (#[] : Array Value))).push (seqObj "tuple" vs.toArray 0)).push (seqObj "list" #[] 0)) = h5 at kp5 hD5
 dsimp only
 have fr : H (s.heap.objs.size + 1) = none := I.hok.fresh (Nat.le_succ _)
 have hok : HOk X.prog X.w H h5 := I.hok.kept kp5
 by_cases h2 : vs.toArray.size < 2
 case' pos =>
  rw [if_pos h2,if_pos h2]
  rw [List.size_toArray,hvl] at h2
  refine wpAny_bind (wpAny_pure ?_)
  rw [StateT.run_pure]
  refine wpAny_bind (wpAny_pure ?_)
  dsimp only
  have hp' : Pm ns.length (List.range ns.length).toArray := ⟨Array.Perm.refl _⟩
  have har : arrOf (SortSt.mk' general' (vs.toArray.zip vs.toArray) #[] 7 none) = (List.range ns.length).toArray.map (kas_item (vs.toArray.zip vs.toArray)) := by
   have e := kas_range (vs.toArray.zip vs.toArray)
   rw [show (vs.toArray.zip vs.toArray).size = ns.length by simp [hvl]] at e
   rw [e]
  have hf : failedOf (SortSt.mk' general' (vs.toArray.zip vs.toArray) #[] 7 none) = none := rfl
  have hord : ∀ i j,i < j -> j < ns.length -> klt ck (ns.getD ((List.range ns.length).toArray.getD i 0) 0) (ns.getD ((List.range ns.length).toArray.getD j 0) 0) := fun i j hij hj => by omega
  generalize SortSt.mk' general' (vs.toArray.zip vs.toArray) #[] 7 none = st at har hf
  generalize (List.range ns.length).toArray = p' at hp' har hord
 case' neg =>
  rw [if_neg h2,if_neg h2]
  rw [List.size_toArray,hvl] at h2
  obtain ⟨fs,t1,t2,t3⟩ := hK.tups (s := { s with heap := h5 }) hok
  refine wpAny_bind (kat_kind (T := .type "int") t1 (by omega) (fun v hv => ?_) rfl ?_)
  ·obtain ⟨i,t,rfl⟩ := t3 v hv
   exact Looks.of_pure rfl
  rw [show ((Value.type "int") != Value.type "tuple") = true from rfl]
  have hz : ∀ i j,i < ns.length -> j < ns.length -> kzz ck ns B i = kzz ck ns B j -> i = j := fun i j hi hj e => by
   have n1 : ¬ klt ck (ns.getD i 0) (ns.getD j 0) := fun z => by have := (yo_ hB hi hj).mpr z; omega
   have n2 : ¬ klt ck (ns.getD j 0) (ns.getD i 0) := fun z => by have := (yo_ hB hj hi).mpr z; omega
   have e3 : ns.getD i 0 = ns.getD j 0 := by
    unfold klt at n1 n2
    generalize ck (ns.getD i 0) = c at n1 n2
    generalize ck (ns.getD j 0) = d at n1 n2
    omega
   rw [List.getD_eq_getElem?_getD,List.getElem?_eq_getElem hi,List.getD_eq_getElem?_getD,List.getElem?_eq_getElem hj] at e3
   exact (List.getElem_inj nd).mp e3
  have ask : (kas_sort vs.length).kasWp (kas_ask X.prog X.w X.A.in1.in1 (tuples' true) vs) (fun p s'' => s'' = { s with heap := h5 } /\ Pm ns.length p /\ Up (kzz ck ns B) p ns.length) { s with heap := h5 } := by
   rw [hvl]
   refine KWl.wp (lt := ltz (kzz ck ns B)) (n := ns.length) (fun i j C hi hj q => ?_) _ (KWl.mono (fun p q => ⟨rfl,q⟩) _ (qcs_ (by omega) hz))
   obtain ⟨t,e1,e2⟩ := hK.get hi
   obtain ⟨u,e3,e4⟩ := hK.get hj
   unfold kas_ask
   rw [e1,e3]
   refine qct_ (s := { s with heap := h5 }) hok e2 e4 (I.ok.hd hc) hu ?_
   have e5 : decide (ck (ns.getD i 0) < ck (ns.getD j 0) \/ ck (ns.getD i 0) = ck (ns.getD j 0) /\ ns.getD i 0 < ns.getD j 0) = ltz (kzz ck ns B) i j := by
    show _ = decide _
    rw [decide_eq_decide]
    exact (yo_ hB hi hj).symm
   rw [e5]
   exact q
  refine wpAny_bind (wpAny_mono (kat_run (Q := fun st' s'' => ∃ p : Array Nat,arrOf st' = p.map (kas_item (vs.toArray.zip vs.toArray)) /\ failedOf st' = none /\ s'' = { s with heap := h5 } /\ Pm ns.length p /\ Up (kzz ck ns B) p ns.length) rfl (by omega) (by omega) (fun p' st' s'' a1 a2 a3 a4 => ⟨p',a2,a3,a4⟩) ask) ?_ fun _ _ x => x)
  rintro ⟨⟨⟩,st⟩ s'' ⟨p',har,hf,rfl,hp',hu⟩
  dsimp only
  have hord : ∀ i j,i < j -> j < ns.length -> klt ck (ns.getD (p'.getD i 0) 0) (ns.getD (p'.getD j 0) 0) := fun i j hij hj => by
   have := hu i j hij hj
   exact (yo_ hB (hp'.lt (by omega) i) (hp'.lt (by omega) j)).mp this
 all_goals
  have hsn := kat_snds (ks := vs) (vs := vs) rfl har
  have hps := hp'.size
  have s2 := Heap.SameBut.update h5 (s.heap.objs.size + 1) (Obj.mapSeq fun _ => (arrOf st).map (·.2))
  obtain ⟨c2,hc2⟩ : ∃ c2,(h5.update (s.heap.objs.size + 1) (Obj.mapSeq fun _ => (arrOf st).map (·.2))).get? (s.heap.objs.size + 1) = some (seqObj "list" ((arrOf st).map (·.2)) c2) := ⟨_,get?_update_seq hD5 fun _ => (arrOf st).map (·.2)⟩
  refine wpAny_bind (seqEpoch_at hD5 rfl ?_)
  refine wpAny_bind (listUpdate_at hD5 rfl ?_ (Nat.zero_le _) (by
   show ((arrOf st).map (·.2)).size <= _
   rw [hsn,List.size_toArray,List.length_map,Array.length_toList,hps,sizeLine_eq]; omega))
  try rw [hf]
  simp only [bne_self_eq_false,Bool.false_eq_true,if_false]
  have hc2 := hc2.trans (congrArg (fun z => some (seqObj "list" z c2)) hsn)
  have pl : p'.toList.Perm (List.range ns.length) := by simpa using Array.perm_iff_toList_perm.mp hp'.pm
  have pin : ∀ i ∈ p'.toList,i < ns.length := fun i hi => List.mem_range.mp (pl.mem_iff.mp hi)
  have eo : (p'.toList.map fun i => vs.getD i Value.none) = (p'.toList.map fun i => ts.getD i 0).map Value.ref := by
   rw [List.map_map]
   refine List.map_congr_left fun i hi => ?_
   have hi' : i < ts.length := by rw [hp.1]; exact pin i hi
   rw [<- hvs,List.getD_eq_getElem?_getD,List.getElem?_map,List.getElem?_eq_getElem hi']
   show _ = Value.ref (ts.getD i 0)
   rw [List.getD_eq_getElem?_getD,List.getElem?_eq_getElem hi']
   rfl
  rw [eo] at hc2
  refine wpAny_pure ⟨_,rfl,wpAny_pure ⟨_,rfl,?_⟩⟩
  refine ⟨.ref (s.heap.objs.size + 1),_,I.laid (t' := s.toks) (fun b o' z => ?_) (Nat.le_succ _) (show ObjOk X.prog X.w _ _ _ (.lst ((p'.toList.map fun i => ts.getD i 0).map V.ref)) from ⟨?_,_,c2,u0_ _,hc2⟩),rfl,q _ _ (p'.toList.map fun i => ns.getD i 0) fr ⟨?_,fun i t e => ?_⟩ ?_ ?_⟩
  ·exact (s2.2 b (Nat.ne_of_lt (Nat.lt_succ_of_lt (Heap.lt_size z)))).trans (kp5 b o' z)
  ·rw [List.length_map,List.length_map,Array.length_toList,hps,sizeLine_eq]; omega
  ·rw [List.length_map,List.length_map]
  ·rw [List.getElem?_map] at e
   cases ej : p'.toList[i]? with
   | none => rw [ej] at e; cases e
   | some j =>
    rw [ej] at e
    cases Option.some.inj e
    have hj := pin j (List.mem_of_getElem? ej)
    have hj' : j < ts.length := by rw [hp.1]; exact hj
    have := hp.2 j (ts.getD j 0) (by rw [List.getD_eq_getElem?_getD,List.getElem?_eq_getElem hj']; rfl)
    have e2 : (p'.toList.map fun i => ns.getD i 0).getD i 0 = ns.getD j 0 := by rw [List.getD_eq_getElem?_getD,List.getElem?_map,ej]; rfl
    rw [e2]
    exact this
  ·have e0 : (List.range ns.length).map (fun i => ns.getD i 0) = ns := by
    apply List.ext_getElem?
    intro i
    rw [List.getElem?_map]
    by_cases hi : i < ns.length
    ·rw [List.getElem?_range hi,List.getElem?_eq_getElem hi,Option.map_some,List.getD_eq_getElem?_getD,List.getElem?_eq_getElem hi]
     rfl
    ·rw [List.getElem?_eq_none (by rw [List.length_range]; omega),List.getElem?_eq_none (by omega)]
     rfl
   have := pl.map fun i => ns.getD i 0
   rwa [e0] at this
  ·rw [List.pairwise_map,List.pairwise_iff_getElem]
   intro i j hi hj hij
   have := hord i j hij (by rw [Array.length_toList,hps] at hj; exact hj)
   have g : ∀ m (hm : m < p'.toList.length),p'.getD m 0 = p'.toList[m] := fun m hm => by
    have : m < p'.size := by simpa using hm
    simp [Array.getD,this]
   rw [g i hi,g j hj] at this
   exact this
end
structure GT (K : PySem.W.Frag) (mg : Str -> Option Value) (x : Str) (st : Stmt) (f : Addr) (ps : List Str) (c t : Addr) : Prop where
 m : mg x = some (.ref f)
 F : FunT K x x st f (fd K f) c t
 b : Binds K (fd K f) ps []
 k : PySem.W.keepIn K (.ref f) = true
 nl : K.lookup t = none
structure MT (K : PySem.W.Frag) (C : Addr) (x q : Str) (st : Stmt) (f : Addr) (ps : List Str) (c t : Addr) : Prop where
 me : Meth K C x f
 F : FunT K x q st f (fd K f) c t
 b : Binds K (fd K f) ps []
 k : PySem.W.keepIn K (.ref f) = true
 nl : K.lookup t = none
section
variable {K : PySem.W.Frag} {h : Heap} {mg : Str -> Option Value} {x q : Str} {st : Stmt} {f C c t : Addr} {ps : List Str} {oc : Value} {od an cod : Option Addr} {osl csl : Array (Option Value)} {cvs : Array Value} {kV doc pm ct : Value}
theorem gt_mk (X : K.In h) (G : h.Ns mainGlobals mg) (a : PySem.W.nsIn K mainGlobals x = some (some (.ref f))) (l : K.lookup f = some ⟨oc,od,.func (PySem.W.fnOf x x (q8_ st) (qR_ st) (qh_ st) .none kV doc pm an (.ref c) ct),osl⟩) (hc : PySem.W.codeIn K (.ref c) x = true) (_ : K.lookup c = some ⟨.type "code",cod,.fields cvs,csl⟩) (_ : cvs[11]? = some (.ref t)) (hd : PySem.W.codeHdIn K c t = true) (nl : K.lookup t = none) (k : PySem.W.keepIn K (.ref f) = true) (hb : BndP x x st ps) : GT K mg x st f ps c t := by
 have F : FunT K x x st f (fd K f) c t := by rw [qao_ l]; exact qcu_ l hc k hd
 exact ⟨PySem.W.mg_of X G a,F,F.fun.binds hb,k,nl⟩
theorem mt_mk (a : PySem.W.findIn K (.ref C) x = some (some (.ref f))) (i : PySem.W.isFn K (.ref f) = true) (l : K.lookup f = some ⟨oc,od,.func (PySem.W.fnOf x q (q8_ st) (qR_ st) (qh_ st) .none kV doc pm an (.ref c) ct),osl⟩) (hc : PySem.W.codeIn K (.ref c) q = true) (_ : K.lookup c = some ⟨.type "code",cod,.fields cvs,csl⟩) (_ : cvs[11]? = some (.ref t)) (hd : PySem.W.codeHdIn K c t = true) (nl : K.lookup t = none) (k : PySem.W.keepIn K (.ref f) = true) (hb : BndP x q st ps) : MT K C x q st f ps c t := by
 have F : FunT K x q st f (fd K f) c t := by rw [qao_ l]; exact qcu_ l hc k hd
 exact ⟨⟨a,i,k⟩,F,F.fun.binds hb,k,nl⟩
end
section
variable {P : Program} {w : World} {K : PySem.W.Frag} {mg : Str -> Option Value} {base : Heap}
theorem FunT.okA {x qual : Str} {st : Stmt} {f c t : Addr} {fd : FuncData} {N ps : List Str} {k : Nat} {sp : Sp} (F : FunT K x qual st f fd c t) (S : FnScope N ps (qh_ st))
  (hbody : ∀ (A : Around) (outer : List Env) (s : Shared) (H : Hp) (vs : List V) (Q : VK) (E : XK),Room k (A.deeper (envOfC qual (qh_ st) s.heap.objs.size f (.ref c))) -> sp vs H Q E →
   ∃ t,PSs (cxOf CX0 P w K mg base N qual (qh_ st) f (.ref c) A outer s H E).nox (qR_ st) t /\ t { nx := fun _ H' => Q .non H',rt := Q } (start N vs) H)
  (len : ∀ vs H Q E,sp vs H Q E -> vs.length = ps.length := by intro vs H Q E h; (repeat (obtain ⟨_,h⟩ := h)); subst_vars; rfl) : FnOk P w K mg base CX0 (k + 1) f fd ps sp := F.ok S len hbody
end
end L2
namespace My
open PySem L2 PyProof.Rows
def top (i : Nat) : Stmt := PySem.Challenge.pw_spareplank_k48_an_asking_step_by_step.main.body.getD i (.Pass ⟨0,0,0,0⟩)
abbrev zZ_ : Stmt := qE_ (top 33) 0
abbrev jH_ : Stmt := qE_ (top 33) 1
abbrev zj_ : Stmt := qE_ (top 33) 2
abbrev zD_ : Stmt := qE_ (top 33) 3
abbrev z0_ : Stmt := qE_ (top 33) 4
abbrev zE_ : Stmt := qE_ (top 33) 5
abbrev qfe_ : Stmt := top 15
abbrev zF_ : Stmt := top 16
abbrev z1_ : Stmt := top 17
abbrev z2_ : Stmt := top 18
abbrev u1_ : Stmt := top 19
abbrev u2_ : Stmt := top 20
abbrev u3_ : Stmt := top 21
abbrev vz_ : Stmt := top 22
abbrev zG_ : Stmt := qE_ (top 13) 0
abbrev yN_ : Stmt := qE_ (top 13) 2
abbrev yX_ : Stmt := qE_ (top 13) 3
abbrev yY_ : Stmt := qE_ (top 13) 5
abbrev yZ_ : Stmt := qE_ (top 13) 6
abbrev y0_ : Stmt := top 26
abbrev y1_ : Stmt := top 27
abbrev zH_ : Stmt := top 28
abbrev vA_ : Stmt := qE_ (top 29) 0
abbrev vB_ : Stmt := qE_ (top 29) 5
abbrev yr_ : Stmt := qE_ (top 29) 12
abbrev z3_ : Stmt := qE_ (top 29) 6
abbrev yO_ : Stmt := qE_ (top 29) 8
abbrev y2_ : Stmt := qE_ (top 29) 7
abbrev vC_ : Stmt := top 2
abbrev zI_ : Stmt := qE_ (top 3) 0
abbrev z4_ : Stmt := qE_ (top 3) 1
abbrev zJ_ : Stmt := qE_ (top 3) 2
abbrev zk_ : Stmt := qE_ (top 3) 4
abbrev zl_ : Stmt := qE_ (top 3) 5
abbrev ys_ : Stmt := qE_ (top 3) 7
abbrev zm_ : Stmt := qE_ (top 3) 9
abbrev y3_ : Stmt := qE_ (top 3) 10
abbrev yt_ : Stmt := qE_ (top 3) 11
abbrev yP_ : Stmt := qE_ (top 3) 6
abbrev zn_ : Stmt := qE_ (top 3) 8
abbrev qff_ : Stmt := top 35
abbrev qcv_ : Stmt := top 36
abbrev qfg_ : Stmt := top 37
abbrev qcw_ : Stmt := top 38
abbrev qa9_ : Stmt := top 39
abbrev qfh_ : Stmt := top 40
abbrev qfi_ : Stmt := top 41
abbrev qba_ : Stmt := top 42
abbrev u4_ : Stmt := top 43
abbrev qcx_ : Stmt := top 44
abbrev qcy_ : Stmt := top 45
abbrev qcz_ : Stmt := top 46
abbrev uu_ : Stmt := top 47
abbrev qc0_ : Stmt := top 48
abbrev qc1_ : Stmt := top 49
abbrev u5_ : Stmt := top 50
abbrev qc2_ : Stmt := top 51
abbrev qbb_ : Stmt := top 52
abbrev qfj_ : Stmt := top 53
abbrev qfk_ : Stmt := top 54
abbrev qc3_ : Stmt := top 55
abbrev qfl_ : Stmt := top 56
abbrev qih_ : Stmt := top 57
theorem sc_Field_init : FnScope ["self", "rule", "after"] ["self", "rule"] (qh_ zZ_) := scM
theorem sc_Field_doublings_of_one : FnScope ["self", "symbol", "after"] ["self"] (qh_ jH_) := scM
theorem sc_Field_double : FnScope ["self", "one", "twice"] ["self", "one"] (qh_ zj_) := scM
theorem sc_Field_times : FnScope ["self", "one", "other", "product", "doubled", "digits"] ["self", "one", "other"] (qh_ zD_) := scM
theorem qah_ : FnScope ["self", "one"] ["self", "one"] (qh_ z0_) := scM
theorem sc_Field_power : FnScope ["self", "one", "many", "product", "square", "digits"] ["self", "one", "many"] (qh_ zE_) := scM
theorem sc_unit : FnScope ["many", "at", "some"] ["many", "at"] (qh_ qfe_) := scM
theorem uv_ : FnScope ["field", "factor", "line"] ["field", "factor", "line"] (qh_ zF_) := scM
theorem qai_ : FnScope ["one", "other"] ["one", "other"] (qh_ z1_) := scM
theorem sc_first_with : FnScope ["lines", "start", "place", "at"] ["lines", "start", "place"] (qh_ z2_) := scM
theorem sc_swapped : FnScope ["lines", "one", "other", "some"] ["lines", "one", "other"] (qh_ u1_) := scM
theorem sc_cleared : FnScope ["field", "lines", "at", "place", "head", "some", "number", "line"] ["field", "lines", "at", "place"] (qh_ u2_) := scM
theorem sc_told_of : FnScope ["field", "lines", "known", "place", "some", "heads", "other", "found", "by"] ["field", "lines", "known", "place"] (qh_ u3_) := scM
theorem sc_free_make : FnScope ["lines", "heads", "many", "place", "make", "head", "line"] ["lines", "heads", "many", "place"] (qh_ vz_) := scM
theorem sc_Blocks_init : FnScope ["self", "field", "many", "step"] ["self", "field", "many"] (qh_ zG_) := scM
theorem sc_Blocks_symbols : FnScope ["self", "block", "base", "some", "rest", "at"] ["self", "block"] (qh_ yN_) := scM
theorem sc_Blocks_joined : FnScope ["self", "some", "base", "block", "symbol"] ["self", "some"] (qh_ yX_) := scM
theorem vI_ : FnScope ["self", "factor", "block"] ["self", "factor", "block"] (qh_ yY_) := scM
theorem sc_Blocks_summed : FnScope ["self", "factors", "some", "total", "factor", "block"] ["self", "factors", "some"] (qh_ yZ_) := scM
theorem sc_check_lengths : FnScope ["weights", "data", "some"] ["weights"] (qh_ y0_) := scM
theorem sc_check_weights : FnScope ["field", "weights", "some", "weight", "role"] ["field", "weights"] (qh_ y1_) := scM
theorem sc_equation_of : FnScope ["weights", "total", "line", "other"] ["weights", "total"] (qh_ zH_) := scM
theorem qbc_ : FnScope ["self", "blocks", "weights"] ["self", "blocks", "weights"] (qh_ vA_) := scM
theorem qbd_ : FnScope ["self", "known", "role"] ["self", "known", "role"] (qh_ vB_) := scM
theorem z5_ : FnScope ["self", "role"] ["self", "role"] (qh_ yr_) := scM
theorem qaj_ : FnScope ["self", "known", "role"] ["self", "known", "role"] (qh_ z3_) := scM
theorem sc_Code_summed_by : FnScope ["self", "by", "row", "line", "factor", "equation", "told"] ["self", "by", "row"] (qh_ yO_) := scM
theorem sc_Code_reckoned : FnScope ["self", "row", "role", "told"] ["self", "row", "role"] (qh_ y2_) := scM
theorem sc_fixes_all : FnScope ["code", "known", "some", "role"] ["code", "known", "some"] (qh_ vC_) := scM
theorem uw_ : FnScope ["self", "code", "ask", "costs"] ["self", "code", "ask", "costs"] (qh_ zI_) := scM
theorem qak_ : FnScope ["self", "role"] ["self", "role"] (qh_ z4_) := scM
theorem ux_ : FnScope ["self", "role"] ["self", "role"] (qh_ zJ_) := scM
theorem ub_ : FnScope ["self"] ["self"] (qh_ zk_) := scM
theorem uc_ : FnScope ["self", "some"] ["self", "some"] (qh_ zl_) := scM
theorem z6_ : FnScope ["self", "some"] ["self", "some"] (qh_ ys_) := scM
theorem sc_Asking_order : FnScope ["self", "free"] ["self"] (qh_ zm_) := scM
theorem sc_Asking_detour : FnScope ["self", "some", "order", "known", "way", "role"] ["self", "some"] (qh_ y3_) := scM
theorem z7_ : FnScope ["self", "role"] ["self", "role"] (qh_ yt_) := scM
theorem sc_Asking_unfixed : FnScope ["self", "some", "known"] ["self", "some"] (qh_ yP_) := scM
theorem sc_Asking_price : FnScope ["self", "some", "left"] ["self", "some"] (qh_ zn_) := scM
theorem sc_cell : FnScope ["_law_script", "_law_k", "_law_number"] ["_law_script", "_law_k"] (qh_ qff_) := scM
theorem qhc_ : FnScope ["_law_found"] ["_law_found"] (qh_ qcv_) := scM
theorem qi5_ : FnScope ["_law_cell_here"] ["_law_cell_here"] (qh_ qfg_) := scM
theorem sc_times : FnScope ["_law_one", "_law_other", "_law_rule_here", "_law_found"] ["_law_one", "_law_other", "_law_rule_here"] (qh_ qcw_) := scM
theorem sc_scaled : FnScope ["_law_factor", "_law_block", "_law_rule_here", "_law_size", "_law_found", "_law_place"] ["_law_factor", "_law_block", "_law_rule_here"] (qh_ qa9_) := scM
theorem sc_make : FnScope ["_law_some_here", "_law_weights_here", "_law_rule_here", "_law_made", "_law_line", "_law_total", "_law_factor", "_law_block"] ["_law_some_here", "_law_weights_here", "_law_rule_here"] (qh_ qfh_) := scM
theorem sc_some : FnScope ["_law_script", "_law_start", "_law_many", "_law_limit", "_law_some_here", "_law_k", "_law_number"] ["_law_script", "_law_start", "_law_many", "_law_limit"] (qh_ qfi_) := scM
theorem sc_stream : FnScope ["_law_cell_here", "_law_many", "_law_number", "_law_found", "_law_k"] ["_law_cell_here", "_law_many"] (qh_ qba_) := scM
theorem sc_weights : FnScope ["_law_cell_here", "_law_data", "_law_sums", "_law_last", "_law_numbers", "_law_lists", "_law_total", "_law_line", "_law_role", "_law_number"] ["_law_cell_here", "_law_data", "_law_sums", "_law_last"] (qh_ u4_) := scM
theorem sc_sizes : FnScope ["_law_cell_here", "_law_sums"] ["_law_cell_here"] (qh_ qcx_) := scM
theorem sc_costs : FnScope ["_law_cell_here", "_law_roles_here", "_law_left", "_law_costs_here", "_law_k"] ["_law_cell_here", "_law_roles_here"] (qh_ qcy_) := scM
theorem sc_kinds : FnScope ["_law_cell_here", "_law_roles_here", "_law_left", "_law_kinds_here", "_law_k"] ["_law_cell_here", "_law_roles_here"] (qh_ qcz_) := scM
theorem sc_asker : FnScope ["_law_row", "_law_seen", "_law_ask"] ["_law_row", "_law_seen"] (qh_ uu_) := scM
theorem sc_along : FnScope ["_law_weights_here", "_law_rule_here", "_law_columns", "_law_along_here", "_law_one", "_law_line", "_law_two"] ["_law_weights_here", "_law_rule_here"] (qh_ qc0_) := scM
theorem sc_fixed : FnScope ["_law_along_here", "_law_held", "_law_role", "_law_others", "_law_other"] ["_law_along_here", "_law_held", "_law_role"] (qh_ qc1_) := scM
theorem qdt_ : FnScope ["_law_along_here", "_law_known", "_law_some_here"] ["_law_along_here", "_law_known", "_law_some_here"] (qh_ u5_) := scM
theorem sc_price : FnScope ["_law_some_here", "_law_known", "_law_costs_here", "_law_seen", "_law_along_here", "_law_total", "_law_role"] ["_law_some_here", "_law_known", "_law_costs_here", "_law_seen", "_law_along_here"] (qh_ qc2_) := scM
theorem sc_detour : FnScope ["_law_some_here", "_law_known", "_law_costs_here", "_law_seen", "_law_along_here", "_law_pairs", "_law_left", "_law_many"] ["_law_some_here", "_law_known", "_law_costs_here", "_law_seen", "_law_along_here"] (qh_ qbb_) := scM
theorem qi6_ : FnScope ["_law_found", "_law_due"] ["_law_found", "_law_due"] (qh_ qfj_) := scM
theorem sc_told : FnScope ["_law_asking", "_law_some_here", "_law_known", "_law_costs_here", "_law_seen", "_law_along_here", "_law_fixed_here", "_law_found", "_law_due"] ["_law_asking", "_law_some_here", "_law_known", "_law_costs_here", "_law_seen", "_law_along_here"] (qh_ qfk_) := scM
theorem sc_roles : FnScope ["_law_asking", "_law_make_here", "_law_known", "_law_costs_here", "_law_seen", "_law_along_here", "_law_role", "_law_may", "_law_due"] ["_law_asking", "_law_make_here", "_law_known", "_law_costs_here", "_law_seen", "_law_along_here"] (qh_ qc3_) := scM
theorem sc_list : FnScope ["_law_cell_here", "_law_roles_here", "_law_left", "_law_some_here", "_law_role"] ["_law_cell_here", "_law_roles_here"] (qh_ qfl_) := scM
theorem sc_law : FnScope ["_law_script", "_law_data", "_law_sums", "_law_rule_here", "_law_many", "_law_width", "_law_weights_here", "_law_along_here", "_law_make_here", "_law_roles_here", "_law_row", "_law_costs_here", "_law_role", "_law_kind", "_law_seen", "_law_asking", "_law_due", "_law_at", "_law_cell_here", "_law_known", "_law_taken"] ["_law_script"] (qh_ qih_) := scM
structure Adr where
 (C_Field C_Blocks C_Code C_Asking f0 f1 f2 f3 f4 f5 f6 f7 f8 f9 f10 f11 f12 f13 f14 f15 f16 f17 f18 f19 f20 f21 f22 f23 f24 f25 f26 f27 f28 f29 f30 f31 f32 f33 f34 f35 f36 f37 f38 f39 f40 f41 f42 f43 f44 f45 f46 f47 f48 f49 f50 f51 f52 f53 f54 f55 f56 f57 f58 f59 f60 f61 f62 c35 t35 c52 t52 : Addr)
 (t_LEAST_RULE t_GREATEST_RULE t_MOST_SYMBOLS t_MOST_ROLES t_MOST_SUMS : Tok)
structure Txt (K : W.Frag) (mg : Str -> Option Value) (a : Adr) : Prop where
 m_Field : mg "Field" = some (.ref a.C_Field)
 cl_Field : Cls K a.C_Field
 no_Field_rule : NoAttr K a.C_Field "rule"
 no_Field_width : NoAttr K a.C_Field "width"
 no_Field_last : NoAttr K a.C_Field "last"
 mk_Field : Mk K a.C_Field a.f0
 m_Blocks : mg "Blocks" = some (.ref a.C_Blocks)
 cl_Blocks : Cls K a.C_Blocks
 no_Blocks_field : NoAttr K a.C_Blocks "field"
 no_Blocks_many : NoAttr K a.C_Blocks "many"
 no_Blocks_limit : NoAttr K a.C_Blocks "limit"
 mk_Blocks : Mk K a.C_Blocks a.f14
 m_Code : mg "Code" = some (.ref a.C_Code)
 cl_Code : Cls K a.C_Code
 no_Code_blocks : NoAttr K a.C_Code "blocks"
 no_Code_sums : NoAttr K a.C_Code "sums"
 no_Code_data : NoAttr K a.C_Code "data"
 no_Code_roles : NoAttr K a.C_Code "roles"
 no_Code_lines : NoAttr K a.C_Code "lines"
 mk_Code : Mk K a.C_Code a.f22
 m_Asking : mg "Asking" = some (.ref a.C_Asking)
 cl_Asking : Cls K a.C_Asking
 no_Asking_code : NoAttr K a.C_Asking "code"
 no_Asking_ask : NoAttr K a.C_Asking "ask"
 no_Asking_costs : NoAttr K a.C_Asking "costs"
 no_Asking_row : NoAttr K a.C_Asking "row"
 no_Asking_asked : NoAttr K a.C_Asking "asked"
 mk_Asking : Mk K a.C_Asking a.f29
 x0 : MD K a.C_Field "__init__" "Field.__init__" zZ_ a.f0 ["self", "rule"]
 x1 : MD K a.C_Field "doublings_of_one" "Field.doublings_of_one" jH_ a.f1 ["self"]
 x2 : MD K a.C_Field "double" "Field.double" zj_ a.f2 ["self", "one"]
 x3 : MD K a.C_Field "times" "Field.times" zD_ a.f3 ["self", "one", "other"]
 x4 : MD K a.C_Field "back" "Field.back" z0_ a.f4 ["self", "one"]
 x5 : MD K a.C_Field "power" "Field.power" zE_ a.f5 ["self", "one", "many"]
 x6 : GD K mg "unit" qfe_ a.f6 ["many", "at"]
 x7 : GD K mg "scaled_line" zF_ a.f7 ["field", "factor", "line"]
 x8 : GD K mg "sum_of_two" z1_ a.f8 ["one", "other"]
 x9 : GD K mg "first_with" z2_ a.f9 ["lines", "start", "place"]
 x10 : GD K mg "swapped" u1_ a.f10 ["lines", "one", "other"]
 x11 : GD K mg "cleared" u2_ a.f11 ["field", "lines", "at", "place"]
 x12 : GD K mg "told_of" u3_ a.f12 ["field", "lines", "known", "place"]
 x13 : GD K mg "free_make" vz_ a.f13 ["lines", "heads", "many", "place"]
 x14 : MD K a.C_Blocks "__init__" "Blocks.__init__" zG_ a.f14 ["self", "field", "many"]
 x15 : MD K a.C_Blocks "symbols" "Blocks.symbols" yN_ a.f15 ["self", "block"]
 x16 : MD K a.C_Blocks "joined" "Blocks.joined" yX_ a.f16 ["self", "some"]
 x17 : MD K a.C_Blocks "scaled" "Blocks.scaled" yY_ a.f17 ["self", "factor", "block"]
 x18 : MD K a.C_Blocks "summed" "Blocks.summed" yZ_ a.f18 ["self", "factors", "some"]
 x19 : GD K mg "check_lengths" y0_ a.f19 ["weights"]
 x20 : GD K mg "check_weights" y1_ a.f20 ["field", "weights"]
 x21 : GD K mg "equation_of" zH_ a.f21 ["weights", "total"]
 x22 : MD K a.C_Code "__init__" "Code.__init__" vA_ a.f22 ["self", "blocks", "weights"]
 x23 : MD K a.C_Code "told" "Code.told" vB_ a.f23 ["self", "known", "role"]
 x24 : MD K a.C_Code "check_role" "Code.check_role" yr_ a.f24 ["self", "role"]
 x25 : MD K a.C_Code "fixes" "Code.fixes" z3_ a.f25 ["self", "known", "role"]
 x26 : MD K a.C_Code "summed_by" "Code.summed_by" yO_ a.f26 ["self", "by", "row"]
 x27 : MD K a.C_Code "reckoned" "Code.reckoned" y2_ a.f27 ["self", "row", "role"]
 x28 : GD K mg "fixes_all" vC_ a.f28 ["code", "known", "some"]
 x29 : MD K a.C_Asking "__init__" "Asking.__init__" zI_ a.f29 ["self", "code", "ask", "costs"]
 x30 : MD K a.C_Asking "may" "Asking.may" z4_ a.f30 ["self", "role"]
 x31 : MD K a.C_Asking "take" "Asking.take" zJ_ a.f31 ["self", "role"]
 x32 : MD K a.C_Asking "known" "Asking.known" zk_ a.f32 ["self"]
 x33 : MD K a.C_Asking "fixes" "Asking.fixes" zl_ a.f33 ["self", "some"]
 x34 : MD K a.C_Asking "cost_sum" "Asking.cost_sum" ys_ a.f34 ["self", "some"]
 x35 : MT K a.C_Asking "order" "Asking.order" zm_ a.f35 ["self"] a.c35 a.t35
 x36 : MD K a.C_Asking "detour" "Asking.detour" y3_ a.f36 ["self", "some"]
 x37 : MD K a.C_Asking "block_of" "Asking.block_of" yt_ a.f37 ["self", "role"]
 x38 : MD K a.C_Asking "unfixed" "Asking.unfixed" yP_ a.f38 ["self", "some"]
 x39 : MD K a.C_Asking "price" "Asking.price" zn_ a.f39 ["self", "some"]
 x40 : GD K mg "_law_cell" qff_ a.f40 ["_law_script", "_law_k"]
 x41 : GD K mg "_law_whole" qcv_ a.f41 ["_law_found"]
 x42 : GD K mg "_law_rule" qfg_ a.f42 ["_law_cell_here"]
 x43 : GD K mg "_law_times" qcw_ a.f43 ["_law_one", "_law_other", "_law_rule_here"]
 x44 : GD K mg "_law_scaled" qa9_ a.f44 ["_law_factor", "_law_block", "_law_rule_here"]
 x45 : GD K mg "_law_make" qfh_ a.f45 ["_law_some_here", "_law_weights_here", "_law_rule_here"]
 x46 : GD K mg "_law_some" qfi_ a.f46 ["_law_script", "_law_start", "_law_many", "_law_limit"]
 x47 : GD K mg "_law_stream" qba_ a.f47 ["_law_cell_here", "_law_many"]
 x48 : GD K mg "_law_weights" u4_ a.f48 ["_law_cell_here", "_law_data", "_law_sums", "_law_last"]
 x49 : GD K mg "_law_sizes" qcx_ a.f49 ["_law_cell_here"]
 x50 : GD K mg "_law_costs" qcy_ a.f50 ["_law_cell_here", "_law_roles_here"]
 x51 : GD K mg "_law_kinds" qcz_ a.f51 ["_law_cell_here", "_law_roles_here"]
 x52 : GT K mg "_law_asker" uu_ a.f52 ["_law_row", "_law_seen"] a.c52 a.t52
 x53 : GD K mg "_law_along" qc0_ a.f53 ["_law_weights_here", "_law_rule_here"]
 x54 : GD K mg "_law_fixed" qc1_ a.f54 ["_law_along_here", "_law_held", "_law_role"]
 x55 : GD K mg "_law_unfixed" u5_ a.f55 ["_law_along_here", "_law_known", "_law_some_here"]
 x56 : GD K mg "_law_price" qc2_ a.f56 ["_law_some_here", "_law_known", "_law_costs_here", "_law_seen", "_law_along_here"]
 x57 : GD K mg "_law_detour" qbb_ a.f57 ["_law_some_here", "_law_known", "_law_costs_here", "_law_seen", "_law_along_here"]
 x58 : GD K mg "_law_same" qfj_ a.f58 ["_law_found", "_law_due"]
 x59 : GD K mg "_law_told" qfk_ a.f59 ["_law_asking", "_law_some_here", "_law_known", "_law_costs_here", "_law_seen", "_law_along_here"]
 x60 : GD K mg "_law_roles" qc3_ a.f60 ["_law_asking", "_law_make_here", "_law_known", "_law_costs_here", "_law_seen", "_law_along_here"]
 x61 : GD K mg "_law_list" qfl_ a.f61 ["_law_cell_here", "_law_roles_here"]
 x62 : GD K mg "law" qih_ a.f62 ["_law_script"]
 n_zip : mg "zip" = none
 n_range : mg "range" = none
 n_len : mg "len" = none
 n_list : mg "list" = none
 n_enumerate : mg "enumerate" = none
 n_reversed : mg "reversed" = none
 n_any : mg "any" = none
 n_sum : mg "sum" = none
 n_sorted : mg "sorted" = none
 n_all : mg "all" = none
 n_isinstance : mg "isinstance" = none
 n_int : mg "int" = none
 n_bool : mg "bool" = none
 n_max : mg "max" = none
 n_min : mg "min" = none
 v_LEAST_RULE : mg "LEAST_RULE" = some (.int 16 a.t_LEAST_RULE)
 v_GREATEST_RULE : mg "GREATEST_RULE" = some (.int 511 a.t_GREATEST_RULE)
 v_MOST_SYMBOLS : mg "MOST_SYMBOLS" = some (.int 16 a.t_MOST_SYMBOLS)
 v_MOST_ROLES : mg "MOST_ROLES" = some (.int 8 a.t_MOST_ROLES)
 v_MOST_SUMS : mg "MOST_SUMS" = some (.int 2 a.t_MOST_SUMS)
structure Tb (base : Heap) (mg : Str -> Option Value) (a : Adr) : Prop where
 b_Asking_order : base.BuiltinsAt mg a.t35
 n_Asking_order : mainGlobals ≠ a.t35
 b_asker : base.BuiltinsAt mg a.t52
 n_asker : mainGlobals ≠ a.t52
 d_Asking_order_asker : a.t35 ≠ a.t52
variable {P : Program} {wo : World} {K : PySem.W.Frag} {mg : Str -> Option Value} {base : Heap} {a : Adr}
def ff (r w : Nat) : List (Str × V) := [("rule",.int r),("width",.int w),("last",.int ((2 ^ w - 1 : Nat) : Int))]
theorem qi7_ (r w : Nat) : (ff r w).lookup ("rule" : Str) = some (.int r) := rfl
theorem yb_ (r w : Nat) : (ff r w).lookup ("last" : Str) = some (.int ((2 ^ w - 1 : Nat) : Int)) := rfl
def FieldAt (C : Addr) (H : Hp) (p : Addr) (r w : Nat) : Prop := ∃ dx,H p = some (.ins C dx (ff r w))
theorem FieldAt.same {C : Addr} {H H' : Hp} {p : Addr} {r w : Nat} (h : FieldAt C H p r w) (s : Same H H') : FieldAt C H' p r w := let ⟨dx,e⟩ := h; ⟨dx,s _ _ e⟩
def vJ_ (a : Adr) : Sp := fun vs H Q _ => ∃ (p : Addr) (r w x : Nat),vs = [.ref p,.int x] /\ FieldAt a.C_Field H p r w /\ x < 2 ^ w /\ Q (.int (GF.dbl r w x : Nat)) H
theorem y4_ (T : Txt K mg a) : FnO P wo K mg base 1 a.f2 ["self", "one"] (vJ_ a) := by
 refine T.x2.F.okA (k := 0) sc_Field_double (fun cdv A outer s H vs Q E hr h => ?_)
 ·obtain ⟨p,r,w,x,rfl,⟨dx,hF⟩,hx,k⟩ := h
  refine ⟨_,(qb_ (qj_ (i := 2) sc_Field_double.nd rfl (Or.inl rfl) (qk_ jl_ qg_ (pv 1)))
   (qb_ (qz_ (qp_ j0_ (pv 2) (qA_ (pv 0) rfl) (qr_ _)) (qf_ (qo_ (qk_ yD_ (pv 2) (qA_ (pv 0) rfl)))) qv_)
   (qf_ (qo_ (pv 2))))),?_⟩
  refine ⟨_,rfl,_,_,rfl,rfl,.inl ⟨by decide,by decide⟩,?_⟩
  refine ⟨_,rfl,_,rfl,p,_,_,_,_,rfl,hF,T.cl_Field,T.no_Field_last,yb_ r w,_,_,rfl,rfl,_,rfl,?_⟩
  have hp : 0 < 2 ^ w := Nat.two_pow_pos w
  refine ite2 (fun h => ?_) (fun h => ?_)
  ·have h' := of_decide_eq_true h
   refine ⟨_,rfl,_,rfl,p,_,_,_,_,rfl,hF,T.cl_Field,T.no_Field_rule,qi7_ r w,_,_,rfl,rfl,?_⟩
   have e : Builtin.bitXor (2 * (x : Int)) (r : Int) = ((GF.dbl r w x : Nat) : Int) := by
    have e0 : (2 * (x : Int)) = ((2 * x : Nat) : Int) := by omega
    rw [e0,jA_]
    unfold GF.dbl
    rw [if_pos (by omega)]
   show Q (.int (Builtin.bitXor (2 * (x : Int)) (r : Int))) H
   rw [e]
   exact k
  ·have h' : ¬ (((2 ^ w - 1 : Nat) : Int) < 2 * (x : Int)) := fun z => h (decide_eq_true z)
   refine ⟨_,rfl,?_⟩
   have e : (2 * (x : Int)) = ((GF.dbl r w x : Nat) : Int) := by
    unfold GF.dbl
    rw [if_neg (by omega)]
    omega
   show Q (.int (2 * (x : Int))) H
   rw [e]
   exact k
def qi8_ (a : Adr) : Sp := fun vs H Q _ => ∃ (p : Addr) (r w x y : Nat),vs = [.ref p,.int x,.int y] /\ FieldAt a.C_Field H p r w /\ GF.Rule r w /\ x < 2 ^ w /\ Q (.int (GF.tm r w x y : Nat)) H
theorem jL_ (T : Txt K mg a) : FnO P wo K mg base 2 a.f3 ["self", "one", "other"] (qi8_ a) := by
 have G_Field_double : FnO P wo K mg base 1 a.f2 ["self", "one"] (vJ_ a) := y4_ T
 refine T.x3.F.okA (k := 1) sc_Field_times (fun cdv A outer s H vs Q E hr h => ?_)
 ·obtain ⟨p,r,w,x,y,rfl,hF,R,hx,k⟩ := h
  refine ⟨_,(qb_ (qj_ (i := 3) sc_Field_times.nd rfl (Or.inl rfl) qg_)
   (qb_ (qj_ (i := 4) sc_Field_times.nd rfl (Or.inl rfl) (pv 1))
   (qb_ (qj_ (i := 5) sc_Field_times.nd rfl (Or.inl rfl) (pv 2))
   (qb_ (j7_ PassesOwn.never (qp_ j0_ (pv 5) qg_ (qr_ _)) (qb_ (qz_ (qp_ q6_ (qk_ qL_ (pv 5) qg_) qg_ (qr_ _)) (qf_ (qj_ (i := 3) sc_Field_times.nd rfl (Or.inl rfl) (qk_ yD_ (pv 3) (pv 4)))) qv_)
   (qb_ (qj_ (i := 4) sc_Field_times.nd rfl (Or.inl rfl) (qB_ (pv 0) T.cl_Field T.x2.me G_Field_double hr.u T.x2.b .nil qn_ (qa_ (pv 4) qc_)))
   (qf_ (qj_ (i := 5) sc_Field_times.nd rfl (Or.inl rfl) (qk_ jo_ (pv 5) qg_))))))
   (qf_ (qo_ (pv 3))))))),?_⟩
  refine ⟨_,rfl,_,rfl,?_⟩
  refine ⟨fun m σ H' => ∃ f d g : Nat,g = m /\ σ = [some (.ref p),some (.int x),some (.int y),some (.int f),some (.int d),some (.int g)] /\ H' = H /\ d < 2 ^ w /\ f ^^^ GF.tm r w d g = GF.tm r w x y,
   ⟨_,0,x,y,rfl,rfl,rfl,hx,Nat.zero_xor _⟩,?_⟩
  rintro m σ H' ⟨f,d,g,rfl,rfl,rfl,hd,inv⟩
  refine ⟨_,rfl,_,_,rfl,rfl,_,rfl,?_⟩
  refine ite2 (fun h => ⟨_,fun _ _ z => z,?_⟩) (fun h => ?_)
  ·have hg : 0 < g := by
    have := of_decide_eq_true h
    omega
   have hm : ((g : Int) % 2) = ((g % 2 : Nat) : Int) := by omega
   have hdv : ((g : Int) / 2) = ((g / 2 : Nat) : Int) := by omega
   have step := GF.tm_step (r := r) (w := w) d g
   refine ⟨_,rfl,_,_,rfl,rfl,p0 (by decide),rfl,_,rfl,?_⟩
   refine ite2 (fun h1 => ?_) (fun h1 => ?_)
   ·have h1' : g % 2 = 1 := by
     have := V.int.inj (of_decide_eq_true h1)
     omega
    refine ⟨_,rfl,_,rfl,_,_,rfl,rfl,?_⟩
    obtain ⟨dx,hF'⟩ := id hF
    refine ⟨_,rfl,p,dx,_,rfl,hF',rfl,_,rfl,p,r,w,d,rfl,hF,hd,?_⟩
    refine ⟨_,rfl,_,_,rfl,rfl,⟨by decide,by decide⟩,?_⟩
    refine ⟨g / 2,Nat.div_lt_self hg (by decide),f ^^^ d,GF.dbl r w d,g / 2,rfl,?_,rfl,GF.dbl_lt R hd,?_⟩
    ·show [some (V.ref p),some (V.int x),some (V.int y),some (V.int (Builtin.bitXor f d)),some (V.int (GF.dbl r w d : Nat)),some (V.int ((g : Int) / 2))] = _
     rw [jA_,hdv]
    ·rw [<- inv,step,if_pos h1',Nat.xor_assoc]
   ·have h1' : ¬ g % 2 = 1 := by
     intro z
     apply h1
     apply decide_eq_true
     show V.int ((g : Int) % 2) = V.int 1
     congr 1
     omega
    obtain ⟨dx,hF'⟩ := id hF
    refine ⟨_,rfl,p,dx,_,rfl,hF',rfl,_,rfl,p,r,w,d,rfl,hF,hd,?_⟩
    refine ⟨_,rfl,_,_,rfl,rfl,⟨by decide,by decide⟩,?_⟩
    refine ⟨g / 2,Nat.div_lt_self hg (by decide),f,GF.dbl r w d,g / 2,rfl,?_,rfl,GF.dbl_lt R hd,?_⟩
    ·show [some (V.ref p),some (V.int x),some (V.int y),some (V.int f),some (V.int (GF.dbl r w d : Nat)),some (V.int ((g : Int) / 2))] = _
     rw [hdv]
    ·rw [<- inv,step,if_neg h1',Nat.zero_xor]
  ·have hg : g = 0 := by
    have : ¬ ((0 : Int) < g) := fun z => h (decide_eq_true z)
    omega
   subst hg
   rw [GF.tm_zero,Nat.xor_zero] at inv
   refine ⟨_,rfl,?_⟩
   show Q (.int (f : Nat)) H'
   rw [inv]
   exact k
def vD_ (a : Adr) : Sp := fun vs H Q _ => ∃ (p : Addr) (r w : Nat),vs = [.ref p] /\ FieldAt a.C_Field H p r w /\ GF.Good r w /\ Q (.int ((2 ^ w - 1 : Nat) : Int)) H
theorem yx_ (T : Txt K mg a) : FnO P wo K mg base 2 a.f1 ["self"] (vD_ a) := by
 have G_Field_double : FnO P wo K mg base 1 a.f2 ["self", "one"] (vJ_ a) := y4_ T
 refine T.x1.F.okA (k := 1) sc_Field_doublings_of_one (fun cdv A outer s H vs Q E hr h => ?_)
 ·obtain ⟨p,r,w,rfl,hF,R,k⟩ := h
  obtain ⟨dx,hF'⟩ := id hF
  refine ⟨_,(qb_ (qj_ (i := 1) sc_Field_doublings_of_one.nd rfl (Or.inl rfl) (qB_ (pv 0) T.cl_Field T.x2.me G_Field_double hr.u T.x2.b .nil qn_ (qa_ qg_ qc_)))
   (qb_ (qj_ (i := 2) sc_Field_doublings_of_one.nd rfl (Or.inl rfl) qg_)
   (qb_ (j7_ PassesOwn.never (qp_ zq_ (pv 1) qg_ (qr_ _)) (qb_ (qj_ (i := 1) sc_Field_doublings_of_one.nd rfl (Or.inl rfl) (qB_ (pv 0) T.cl_Field T.x2.me G_Field_double hr.u T.x2.b .nil qn_ (qa_ (pv 1) qc_)))
   (qf_ (qj7_ (i := 2) sc_Field_doublings_of_one.nd rfl (Or.inl rfl) qg_ qj8_))))
   (qf_ (qo_ (pv 2)))))),?_⟩
  refine ⟨_,rfl,p,dx,_,rfl,hF',rfl,p,r,w,1,rfl,hF,GF.one_lt R.w1,?_⟩
  refine ⟨fun m σ H' => ∃ n : Nat,m = 2 ^ w - 1 - n /\ σ = [some (.ref p),some (.int (GF.it r w n : Nat)),some (.int n)] /\ H' = H /\ 1 <= n /\ n <= 2 ^ w - 1,⟨_,1,rfl,rfl,rfl,Nat.le_refl _,R.last1⟩,?_⟩
  rintro m σ H' ⟨n,rfl,rfl,rfl,h1,hn⟩
  refine ⟨_,rfl,rfl,_,rfl,?_⟩
  refine ite2 (fun h => ⟨_,fun _ _ z => z,?_⟩) (fun h => ?_)
  ·have hne : GF.it r w n ≠ 1 := by
    intro z
    rw [z] at h
    exact absurd h (by decide)
   have hlt : n < 2 ^ w - 1 := Nat.lt_of_le_of_ne hn fun z => hne (by rw [z]; exact R.back)
   refine ⟨_,rfl,p,dx,_,rfl,hF',rfl,_,rfl,p,r,w,_,rfl,hF,GF.it_lt R.rule R.w1 n,?_⟩
   refine ⟨_,rfl,_,_,rfl,rfl,?_⟩
   exact ⟨2 ^ w - 1 - (n + 1),by omega,n + 1,rfl,rfl,rfl,by omega,by omega⟩
  ·have he : GF.it r w n = 1 := by
    refine Classical.byContradiction fun z => h ?_
    have : ¬ (V.int (GF.it r w n : Nat) = V.int 1) := fun q => z (by have := V.int.inj q; omega)
    show (!decide (V.int (GF.it r w n : Nat) = V.int 1)) = true
    rw [decide_eq_false this]
    rfl
   have hnn : n = 2 ^ w - 1 := by
    refine Classical.byContradiction fun z => R.first n h1 (by omega) he
   subst hnn
   exact ⟨_,rfl,k⟩
def qb4_ (a : Adr) : Sp := fun vs H Q _ => ∃ (p dx : Addr) (r w : Nat),vs = [.ref p,.int r] /\ H p = some (.ins a.C_Field dx []) /\ GF.Good r w /\ Q .non (upd H p (.ins a.C_Field dx (ff r w)))
theorem qal_ (T : Txt K mg a) : FnO P wo K mg base 3 a.f0 ["self", "rule"] (qb4_ a) := by
 have G_Field_doublings_of_one : FnO P wo K mg base 2 a.f1 ["self"] (vD_ a) := yx_ T
 refine T.x0.F.okA (k := 2) sc_Field_init (fun cdv A outer s H vs Q E hr h => ?_)
 ·obtain ⟨p,dx,r,w,rfl,hp,R,k⟩ := h
  refine ⟨_,(qb_ (qz_ (PW.pt (jv_ (qp_ yW_ (pv 1) (y9_ (v := .int 16) rfl T.v_LEAST_RULE ⟨_,rfl⟩) (qr_ _)) (jv_ (qp_ j0_ (pv 1) (y9_ (v := .int 511) rfl T.v_GREATEST_RULE ⟨_,rfl⟩) (qr_ _)) (jp_ (qp_ q6_ (qk_ qL_ (pv 1) qg_) qg_ (qr_ _)))))) (qf_ jj_) qv_)
   (qb_ (je_ (pv 0) (pv 1) rfl)
   (qb_ (je_ (pv 0) (qk_ yC_ (yI_ PySem.F.plainAttrs_int PyProof.Rows.slot_int_bit_length PyProof.Rows.type_int_bit_length yl_ (pv 1)) qg_) rfl)
   (qb_ (je_ (pv 0) (qk_ yC_ (qk_ zc_ qg_ (qA_ (pv 0) rfl)) qg_) rfl)
   (qb_ (qj_ (i := 2) sc_Field_init.nd rfl (Or.inl rfl) (yF_ (pv 0) T.cl_Field T.x1.me G_Field_doublings_of_one hr.u T.x1.b .nil qn_))
   (qf_ (qz_ (qp_ zq_ (pv 2) (qA_ (pv 0) rfl) (qr_ _)) (qf_ jj_) qv_))))))),?_⟩
  have h16 := R.lo16
  have h511 := R.hi511
  have hod := R.odd
  refine ⟨_,rfl,_,_,rfl,rfl,_,rfl,?_⟩
  refine ite2 (fun h => absurd (of_decide_eq_true h) (by omega)) (fun _ => ?_)
  refine ⟨_,rfl,_,_,rfl,rfl,_,rfl,?_⟩
  refine ite2 (fun h => absurd (of_decide_eq_true h) (by omega)) (fun _ => ?_)
  refine ⟨_,rfl,_,_,rfl,rfl,p0 (by decide),rfl,_,rfl,?_⟩
  refine ite2 (fun h => absurd (V.int.inj (of_decide_eq_true h)) (by omega)) (fun _ => ?_)
  refine ⟨_,rfl,_,rfl,p,a.C_Field,dx,_,rfl,hp,T.cl_Field,T.no_Field_rule,(by decide),?_⟩
  refine ⟨_,rfl,rfl,_,rfl,rfl,_,_,rfl,rfl,_,rfl,p,a.C_Field,dx,_,rfl,qd_,T.cl_Field,T.no_Field_width,(by show (1 : Nat) < 1000; decide),?_⟩
  have ew : ((Builtin.Int.intBits (r : Int) : Nat) : Int) - 1 = (w : Int) := by
   rw [jD_ R.rule.lo R.rule.hi]
   omega
  dsimp only
  rw [ew,q9_]
  refine ⟨_,rfl,p,_,_,_,_,rfl,qd_,T.cl_Field,T.no_Field_width,rfl,_,_,rfl,rfl,⟨by omega,by have := R.w8; omega,by decide⟩,_,_,rfl,rfl,?_⟩
  refine ⟨_,rfl,p,a.C_Field,dx,_,rfl,qd_,T.cl_Field,T.no_Field_last,(by show (2 : Nat) < 1000; decide),?_⟩
  have el : (1 : Int) * 2 ^ ((w : Int)).toNat - 1 = ((2 ^ w - 1 : Nat) : Int) := by
   have : ((w : Int)).toNat = w := by omega
   rw [this,Int.one_mul]
   have h1 : 0 < 2 ^ w := Nat.two_pow_pos w
   have h2 : ((2 ^ w : Nat) : Int) = (2 : Int) ^ w := by simp
   omega
  dsimp only
  rw [el,q9_]
  have hF : FieldAt a.C_Field (upd H p (.ins a.C_Field dx (ff r w))) p r w := ⟨dx,qd_⟩
  have ef : putF "last" (.int ((2 ^ w - 1 : Nat) : Int)) (putF "width" (.int (w : Int)) (putF "rule" (.int (r : Int)) [])) = ff r w := rfl
  rw [ef]
  refine ⟨_,rfl,p,dx,_,rfl,qd_,rfl,p,r,w,rfl,hF,R,?_⟩
  refine ⟨_,rfl,_,rfl,p,_,_,_,_,rfl,qd_,T.cl_Field,T.no_Field_last,yb_ r w,rfl,_,rfl,?_⟩
  refine ite2 (fun h => ?_) (fun _ => k)
  exact absurd h (by simp)
theorem Same.new {H : Hp} {p : Addr} {o : HO} (h : H p = none) : Same H (upd H p o) := fun b u e => by rw [qe_ (ql_ e h)]; exact e
theorem qi9_ (x k : Nat) : (x : Int) * 2 ^ ((k : Int)).toNat = ((x * 2 ^ k : Nat) : Int) := by
 have : ((k : Int)).toNat = k := by omega
 rw [this]
 simp
theorem vK_ (w : Nat) : (1 : Int) * 2 ^ ((w : Int)).toNat = ((2 ^ w : Nat) : Int) := by
 have := qi9_ 1 w
 rw [Nat.one_mul] at this
 exact this
def cell (ns : List Int) (k : Nat) : Int := ns.getD k 0
def qja_ (K : PySem.W.Frag) : Sp := fun vs H Q _ => ∃ (s : Addr) (ns : List Int) (k : Nat),vs = [.ref s,.int k] /\ SqL K H s (ns.map V.int) /\ k <= 99 /\ ns.length <= 63 /\ ∀ c : Int,Q (.int c) H
theorem jX_ (T : Txt K mg a) : FnO P wo K mg base 1 a.f40 ["_law_script", "_law_k"] (qja_ K) := by
 refine T.x40.F.okA (k := 0) sc_cell (fun cdv A outer s H vs Q E hr h => ?_)
 ·obtain ⟨p,ns,k,rfl,hS,hk9,hn,q⟩ := h
  refine ⟨_,(qb_ (qz_ (qp_ yW_ (pv 1) (qw_ qu_ rfl T.n_len PySem.boot_len (qa_ (pv 0) qc_)) (qr_ _)) (qf_ (qo_ (qx_ qy_ (pv 0) (pv 1) (fun _ _ => rfl)))) qv_)
   (qb_ (qj_ (i := 2) sc_cell.nd rfl (Or.inl rfl) (qk_ qO_ (qk_ jl_ qg_ (pv 1)) qg_))
   (qb_ (qz_ (qp_ j0_ (qw_ qu_ rfl T.n_len PySem.boot_len (qa_ (pv 0) qc_)) qg_ (qr_ _)) (qf_ (qj_ (i := 2) sc_cell.nd rfl (Or.inl rfl) (qk_ qO_ (pv 2) (qk_ jl_ (qk_ qL_ (qx_ qy_ (pv 0) (qk_ qL_ (qk_ jl_ qg_ (pv 1)) (qw_ qu_ rfl T.n_len PySem.boot_len (qa_ (pv 0) qc_))) (fun _ _ => rfl)) qg_) (qk_ qO_ (pv 1) qg_))))) qv_)
   (qf_ (qo_ (qk_ qL_ (qk_ jl_ (pv 2) (pv 2)) qg_)))))),?_⟩
  have el : (ns.map V.int).length = ns.length := List.length_map ..
  refine ⟨_,rfl,_,rfl,p,_,rfl,.inl hS,_,_,rfl,rfl,_,rfl,?_⟩
  refine ite2 (fun h => ?_) (fun h => ?_)
  ·have hk : k < ns.length := by
    have := of_decide_eq_true h
    rw [List.length_map] at this
    omega
   have e : (ns.map V.int)[k]? = some (V.int (ns.getD k 0)) := by
    rw [List.getElem?_map,List.getD_eq_getElem?_getD,List.getElem?_eq_getElem hk]
    rfl
   exact ⟨_,rfl,_,rfl,p,_,_,_,rfl,rfl,hS,qq_ e,q _⟩
  ·refine ⟨_,rfl,_,_,rfl,rfl,.inl ⟨by decide,by decide⟩,_,_,rfl,rfl,?_⟩
   refine ⟨_,rfl,p,_,rfl,.inl hS,_,_,rfl,rfl,_,rfl,?_⟩
   refine ite2 (fun h0 => ?_) (fun h0 => ?_)
   ·have hp : 0 < ns.length := by
     have := of_decide_eq_true h0
     rw [List.length_map] at this
     omega
    obtain ⟨i,hi,ei⟩ : ∃ i : Nat,i < ns.length /\ (7 * (k : Int)) % (((ns.map V.int).length : Nat) : Int) = (i : Int) := by
     rw [el]
     exact ⟨(7 * k) % ns.length,Nat.mod_lt _ hp,by rw [Int.natCast_emod,Int.natCast_mul]; rfl⟩
    have e : (ns.map V.int)[i]? = some (V.int (ns.getD i 0)) := by
     rw [List.getElem?_map,List.getD_eq_getElem?_getD,List.getElem?_eq_getElem hi]
     rfl
    have y1 : ns.getD i 0 % 1000003 < 1000003 := by omega
    have y0 : 0 <= ns.getD i 0 % 1000003 := by omega
    have b1 : ns.getD i 0 % 1000003 * ((k : Int) + 3) <= ns.getD i 0 % 1000003 * 102 := Int.mul_le_mul_of_nonneg_left (by omega) y0
    have b0 : 0 <= ns.getD i 0 % 1000003 * ((k : Int) + 3) := Int.mul_nonneg y0 (by omega)
    refine ⟨_,rfl,_,rfl,_,rfl,_,_,rfl,rfl,.inl ⟨by decide,by decide⟩,_,rfl,p,_,rfl,.inl hS,_,_,rfl,rfl,(by rw [el]; omega),p,_,_,_,rfl,rfl,hS,(by rw [ei]; exact qq_ e),_,_,rfl,rfl,(by show (0 : Int) < 1000003; decide),_,rfl,_,_,rfl,rfl,_,_,rfl,rfl,.inl ⟨by omega,by omega⟩,_,_,rfl,rfl,?_⟩
    exact ⟨_,rfl,_,rfl,_,_,rfl,rfl,.inl ⟨by omega,by omega⟩,_,_,rfl,rfl,(by show (0 : Int) < 1000003; decide),q _⟩
   ·exact ⟨_,rfl,_,rfl,_,_,rfl,rfl,.inl ⟨by omega,by omega⟩,_,_,rfl,rfl,(by show (0 : Int) < 1000003; decide),q _⟩
def R81 : List Nat := [19,25,37,41,67,97,131,193,285,369]
theorem qkm_ : ∀ i,i < 10 -> ∃ j,j < 48 /\ GF.rules.getD j 19 = R81.getD i 0 := by decide
theorem qhd_ (i : Nat) (h : i < 10) : GF.Full (R81.getD i 0) (R81.getD i 0).log2 := by
 obtain ⟨j,hj,e⟩ := qkm_ i h
 have := GF.ruleOf_full (j : Int)
 have e2 : GF.ruleOf (j : Int) = R81.getD i 0 := by
  unfold GF.ruleOf
  rw [<- e]
  congr 1
  omega
 rw [e2] at this
 exact this
def qhe_ : Sp := fun vs H Q _ => ∃ c : Int,vs = [.int c] /\ ∀ (r : Nat) H',GF.Full r r.log2 -> Same H H' -> Q (.int r) H'
theorem qjb_ (T : Txt K mg a) : FnO P wo K mg base 1 a.f42 ["_law_cell_here"] qhe_ := by
 refine T.x42.F.okA (k := 0) qi5_ (fun cdv A outer s H vs Q E hr h => ?_)
 ·obtain ⟨c,rfl,q⟩ := h
  refine ⟨_,(@qf_ _ _ _ (qo_ (@qx_ _ _ _ _ _ _ _ qy_ (@qI_ _ _ _ _ (@qcm_ _ _ [19,25,37,41,67,97,131,193,285,369] (by kernel_rfl))) (qk_ qL_ (pv 0) qg_) (fun _ _ => rfl)))),?_⟩
  refine ⟨(by decide),fun p1 n1 => ?_⟩
  obtain ⟨d,hd,e⟩ : ∃ d : Nat,d < 10 /\ c % 10 = (d : Int) := ⟨(c % 10).toNat,by omega,by omega⟩
  have e1 : (R81.map fun n : Nat => V.int n)[d]? = some (V.int ((R81.getD d 0 : Nat) : Int)) := by
   rw [List.getElem?_map,List.getD_eq_getElem?_getD,List.getElem?_eq_getElem (show d < R81.length from hd)]
   rfl
  refine ⟨_,rfl,_,_,rfl,rfl,(by show (0 : Int) < 10; decide),p1,(R81.map fun n : Nat => V.int n),c % 10,_,rfl,rfl,SqL.of qd_,(by rw [e]; exact qq_ e1),?_⟩
  exact q _ _ (qhd_ d hd) (Same.new n1)
theorem qjc_ {r w d : Nat} (h : ((2 ^ w : Nat) : Int) <= (d : Int) * 2) : Builtin.bitXor ((d : Int) * 2) (r : Int) = ((GF.dbl r w d : Nat) : Int) := by
 have e0 : (d : Int) * 2 = ((2 * d : Nat) : Int) := by omega
 try dsimp only
 rw [e0,jA_]
 unfold GF.dbl
 rw [if_pos (by omega)]
theorem qjd_ {r w d : Nat} (h : ¬ ((2 ^ w : Nat) : Int) <= (d : Int) * 2) : (d : Int) * 2 = ((GF.dbl r w d : Nat) : Int) := by
 unfold GF.dbl
 rw [if_neg (by omega)]
 omega
def rowV (row : List Nat) : List V := row.map fun (n : Nat) => V.int (n : Int)
theorem qbe_ {row : List Nat} {i : Nat} (h : i < row.length) : (rowV row)[i]? = some (.int (row[i] : Nat)) := by
 unfold rowV
 rw [List.getElem?_map,List.getElem?_eq_getElem h]
 rfl
theorem qi_ (row : List Nat) : (rowV row).length = row.length := List.length_map _
theorem qV_ {row : List Nat} {i : Nat} {v : V} (h : (rowV row)[i]? = some v) : ∃ x,row[i]? = some x /\ v = .int (x : Nat) := by
 unfold rowV at h
 rw [List.getElem?_map] at h
 cases q : row[i]? with
 | none => rw [q] at h; cases h
 | some x => rw [q] at h; exact ⟨x,rfl,(Option.some.inj h).symm⟩
theorem q5_ (row : List Nat) (x : Nat) : rowV row ++ [.int (x : Nat)] = rowV (row ++ [x]) := by unfold rowV; rw [List.map_append]; rfl
theorem qbf_ (row : List Nat) (f : Nat -> Nat) (g : V -> V) (h : ∀ n : Nat,g (.int (n : Int)) = .int ((f n : Nat) : Int)) : (rowV row).map g = rowV (row.map f) := by
 unfold rowV
 rw [List.map_map,List.map_map]
 apply List.map_congr_left
 intro n _
 exact h n
theorem qbg_ {row : List Nat} {v : V} (h : v ∈ rowV row) : ∃ x ∈ row,v = .int (x : Nat) := by
 unfold rowV at h
 obtain ⟨x,hx,e⟩ := List.mem_map.mp h
 exact ⟨x,hx,e.symm⟩
theorem modN (c : Int) {n : Nat} (h : 0 < n) : ∃ y : Nat,y < n /\ c % (n : Int) = (y : Int) := by
 have hp : (0 : Int) < (n : Int) := by omega
 have h1 := Int.emod_lt_of_pos c hp
 have h2 := Int.emod_nonneg c (Int.ne_of_gt hp)
 exact ⟨(c % (n : Int)).toNat,by omega,by omega⟩
theorem qfm_ {a : Adr} {H H1 : Hp} {x dx : Addr} {r w : Nat} (s1 : Same H H1) (nx : H1 x = none) (ndx : H1 dx = none) : Same H (upd (upd (upd H1 dx (.own x)) x (.ins a.C_Field dx [])) x (.ins a.C_Field dx (ff r w))) := by
 rw [q9_]
 refine s1.trans fun b o e => ?_
 rw [qe_ (ql_ e nx),qe_ (ql_ e ndx)]
 exact e
theorem qkn_ {u v : V} (h : u = v) : ¬ (!decide (u = v)) = true := by rw [decide_eq_true h]; decide
theorem jE_ {n j : Nat} (h : j < n) : ixN n (j : Int) = some j := by
 unfold ixN
 rw [if_pos (by omega),if_pos (by omega),Int.toNat_natCast]
theorem qfn_ {row : List Nat} {k : Nat} (h : k <= row.length) : cutV (rowV row) (some (k : Int)) none = rowV (row.drop k) := by
 unfold cutV
 rw [HT.sIx_none,HT.sIx_nat,qi_,Nat.min_eq_left h]
 unfold rowV
 rw [<- List.map_drop,← List.map_take]
 congr 1
 apply List.take_of_length_le
 rw [List.length_drop]
 exact Nat.le_refl _
def bf (fp : Addr) (w n : Nat) : List (Str × V) := [("field",.ref fp),("many",.int n),("limit",.int (((2 ^ w) ^ n : Nat) : Int))]
theorem yc_ (fp : Addr) (w n : Nat) : (bf fp w n).lookup ("field" : Str) = some (.ref fp) := rfl
theorem qje_ (fp : Addr) (w n : Nat) : (bf fp w n).lookup ("many" : Str) = some (.int n) := rfl
structure BlocksAt (a : Adr) (H : Hp) (p fp : Addr) (r w n : Nat) : Prop where
 ins : ∃ dx,H p = some (.ins a.C_Blocks dx (bf fp w n))
 fld : FieldAt a.C_Field H fp r w
theorem BlocksAt.same {a : Adr} {H H' : Hp} {p fp : Addr} {r w n : Nat} (h : BlocksAt a H p fp r w n) (s : Same H H') : BlocksAt a H' p fp r w n := let ⟨dx,e⟩ := h.ins; ⟨⟨dx,s _ _ e⟩,h.fld.same s⟩
theorem qdu_ {a : Adr} {H H1 : Hp} {x dx fp : Addr} {w n : Nat} (s1 : Same H H1) (nx : H1 x = none) (ndx : H1 dx = none) : Same H (upd (upd (upd H1 dx (.own x)) x (.ins a.C_Blocks dx [])) x (.ins a.C_Blocks dx (bf fp w n))) := by
 rw [q9_]
 refine s1.trans fun b o e => ?_
 rw [qe_ (ql_ e nx),qe_ (ql_ e ndx)]
 exact e
def qbh_ (a : Adr) : Sp := fun vs H Q _ => ∃ (p dx fp : Addr) (r w n : Nat),vs = [.ref p,.ref fp,.int n] /\ H p = some (.ins a.C_Blocks dx []) /\ FieldAt a.C_Field H fp r w /\ p ≠ fp /\ GF.Good r w /\ 1 <= n /\ n <= 16 /\ Q .non (upd H p (.ins a.C_Blocks dx (bf fp w n)))
theorem uy_ (T : Txt K mg a) : FnO P wo K mg base 1 a.f14 ["self", "field", "many"] (qbh_ a) := by
 refine T.x14.F.okA (k := 0) sc_Blocks_init (fun cdv A outer s H vs Q E hr h => ?_)
 ·obtain ⟨p,dx,fp,r,w,n,rfl,hp,hF,hne,R,h1,h16,q⟩ := h
  have t16 := R.top16
  have t256 := R.top256
  refine ⟨_,(qb_ (qz_ (PW.pt (jv_ (qp_ yW_ (pv 2) qg_ (qr_ _)) (jp_ (qp_ j0_ (pv 2) (y9_ (v := .int 16) rfl T.v_MOST_SYMBOLS ⟨_,rfl⟩) (qr_ _))))) (qf_ jj_) qv_)
   (qb_ (je_ (pv 0) (pv 1) rfl)
   (qb_ (je_ (pv 0) (pv 2) rfl)
   (qb_ (je_ (pv 0) qg_ rfl)
   (qf_ (qD_ PassesOwn.never rfl (qF_ rfl T.n_range (qa_ (pv 2) qc_)) (qm_ (i := 3) sc_Blocks_init.nd rfl (Or.inl rfl)) (qf_ (je_ (pv 0) (qk_ jl_ (qA_ (pv 0) rfl) (qk_ qO_ (qA_ (pv 1) rfl) qg_)) rfl)))))))),?_⟩
  refine ⟨_,rfl,_,_,rfl,rfl,_,rfl,?_⟩
  refine ite2 (fun h => absurd (of_decide_eq_true h) (by omega)) (fun _ => ?_)
  refine ⟨_,rfl,_,_,rfl,rfl,_,rfl,?_⟩
  refine ite2 (fun h => absurd (of_decide_eq_true h) (by omega)) (fun _ => ?_)
  refine ⟨_,rfl,_,rfl,p,a.C_Blocks,dx,_,rfl,hp,T.cl_Blocks,T.no_Blocks_field,(by decide),?_⟩
  refine ⟨_,rfl,_,rfl,p,a.C_Blocks,dx,_,rfl,qd_,T.cl_Blocks,T.no_Blocks_many,(by show (1 : Nat) < 1000; decide),?_⟩
  refine ⟨_,rfl,p,a.C_Blocks,dx,_,rfl,qd_,T.cl_Blocks,T.no_Blocks_limit,(by show (2 : Nat) < 1000; decide),?_⟩
  dsimp only
  rw [q9_,q9_]
  have ef : ∀ v : V,putF "limit" v (putF "many" (.int (n : Int)) (putF "field" (.ref fp) [])) = [(("field" : Str),.ref fp),(("many" : Str),.int (n : Int)),(("limit" : Str),v)] := fun v => rfl
  rw [ef]
  refine ⟨_,rfl,_,rfl,by omega,by omega,qQ_ (lo := 0) (n := n) (fun i σ H' => ∃ v : Option V,σ = [some (.ref p),some (.ref fp),some (.int n),v] ∧ H' = upd H p (.ins a.C_Blocks dx [(("field" : Str),.ref fp),(("many" : Str),.int (n : Int)),(("limit" : Str),.int (((2 ^ w) ^ i : Nat) : Int))])) ⟨none,rfl,rfl⟩ ?_ ?_⟩
  ·rintro i σ H' hi ⟨v,rfl,rfl⟩
   obtain ⟨dF,hF'⟩ := hF
   have el : (((2 ^ w - 1 : Nat) : Int) + 1) = ((2 ^ w : Nat) : Int) := by omega
   refine ⟨_,rfl,p,_,_,_,_,rfl,qd_,T.cl_Blocks,T.no_Blocks_limit,rfl,_,rfl,fp,_,_,_,_,rfl,(by rw [qe_ hne.symm]; exact hF'),T.cl_Field,T.no_Field_last,yb_ r w,_,_,rfl,rfl,_,_,rfl,rfl,.inr ⟨by omega,by omega⟩,?_⟩
   refine ⟨_,rfl,p,a.C_Blocks,dx,_,rfl,qd_,T.cl_Blocks,T.no_Blocks_limit,(by show (3 : Nat) < 1000; decide),?_⟩
   refine ⟨_,rfl,?_⟩
   rw [q9_]
   have e2 : (((2 ^ w) ^ i : Nat) : Int) * (((2 ^ w - 1 : Nat) : Int) + 1) = (((2 ^ w) ^ (i + 1) : Nat) : Int) := by
    rw [el,Nat.pow_succ,Int.natCast_mul]
   rw [<- e2]
   rfl
  ·rintro σ H' ⟨v,rfl,rfl⟩
   exact q
def qfo_ (a : Adr) : Sp := fun vs H Q _ => ∃ (p fp : Addr) (r w n b : Nat),vs = [.ref p,.int b] /\ BlocksAt a H p fp r w n /\ GF.Good r w /\ n <= 16 /\ ∀ D H',H D = none -> Same H H' -> H' D = some (.lst (rowV (GF.syms w n b))) -> Q (.ref D) H'
theorem vq_ (T : Txt K mg a) : FnO P wo K mg base 1 a.f15 ["self", "block"] (qfo_ a) := by
 refine T.x15.F.okA (k := 0) sc_Blocks_symbols (fun cdv A outer s H vs Q E hr h => ?_)
 ·obtain ⟨p,fp,r,w,n,b,rfl,hB,R,h16,q⟩ := h
  have t16 := R.top16
  have t256 := R.top256
  obtain ⟨dB,hB'⟩ := hB.ins
  obtain ⟨dF,hF'⟩ := hB.fld
  have el : (((2 ^ w - 1 : Nat) : Int) + 1) = ((2 ^ w : Nat) : Int) := by omega
  refine ⟨_,(qb_ (qj_ (i := 2) sc_Blocks_symbols.nd rfl (Or.inl rfl) (qk_ qO_ (qA_ (qA_ (pv 0) rfl) rfl) qg_))
   (qb_ (qj_ (i := 3) sc_Blocks_symbols.nd rfl (Or.inl rfl) (qI_ qc_))
   (qb_ (qj_ (i := 4) sc_Blocks_symbols.nd rfl (Or.inl rfl) (pv 1))
   (qb_ (qD_ PassesOwn.never rfl (qF_ rfl T.n_range (qa_ (qA_ (pv 0) rfl) qc_)) (qm_ (i := 5) sc_Blocks_symbols.nd rfl (Or.inl rfl)) (qb_ (qN_ (jm_ PySem.F.plainAttrs_list PySem.F.slot_list_append PySem.F.type_list_append qJ_ (pv 3) (qa_ (qk_ qL_ (pv 4) (pv 2)) qc_)))
   (qf_ (qj_ (i := 4) sc_Blocks_symbols.nd rfl (Or.inl rfl) (qk_ jo_ (pv 4) (pv 2))))))
   (qf_ (qo_ (pv 3))))))),?_⟩
  refine ⟨_,rfl,p,_,_,_,_,rfl,hB',T.cl_Blocks,T.no_Blocks_field,yc_ fp w n,fp,_,_,_,_,rfl,hF',T.cl_Field,T.no_Field_last,yb_ r w,_,_,rfl,rfl,?_⟩
  dsimp only
  rw [el]
  refine ⟨by decide,fun D nD => ?_⟩
  have s1 := Same.new (o := .lst []) nD
  refine ⟨_,rfl,?_⟩
  refine ⟨_,rfl,p,_,_,_,_,rfl,s1 _ _ hB',T.cl_Blocks,T.no_Blocks_many,qje_ fp w n,_,rfl,by omega,by omega,qQ_ (lo := 0) (n := n) (fun i σ H' => ∃ (v : Option V) (row : List Nat) (c : Nat),σ = [some (.ref p),some (.int b),some (.int ((2 ^ w : Nat) : Int)),some (.ref D),some (.int c),v] /\ Same H H' /\ H' D = some (.lst (rowV row)) /\ row.length = i /\ row ++ GF.syms w (n - i) c = GF.syms w n b)
   ⟨none,[],b,rfl,s1,qd_,rfl,rfl⟩ ?_ ?_⟩
  ·rintro i σ H' hi ⟨v,row,c,rfl,sm,hD,hl,inv⟩
   have hp : (0 : Int) < ((2 ^ w : Nat) : Int) := by omega
   have em : ((c : Int) % ((2 ^ w : Nat) : Int)) = ((c % 2 ^ w : Nat) : Int) := (Int.natCast_emod _ _).symm
   have ed : ((c : Int) / ((2 ^ w : Nat) : Int)) = ((c / 2 ^ w : Nat) : Int) := (Int.natCast_ediv _ _).symm
   refine ⟨_,rfl,.inl ⟨rfl,_,SqL.of hD⟩,_,rfl,_,rfl,_,_,rfl,rfl,p0 hp,D,_,_,rfl,rfl,hD,qes_ (by rw [qi_]; omega),?_⟩
   refine ⟨_,rfl,_,rfl,_,_,rfl,rfl,⟨hp,by omega⟩,?_⟩
   dsimp only
   rw [em,ed,q5_]
   refine ⟨_,row ++ [c % 2 ^ w],c / 2 ^ w,rfl,fun b' o e => by rw [qe_ (ql_ e nD)]; exact sm b' o e,qd_,by rw [List.length_append,hl]; rfl,?_⟩
   rw [<- inv]
   have e1 : n - i = (n - (i + 1)) + 1 := by omega
   rw [e1,GF.syms,List.append_assoc]
   rfl
  ·rintro σ H' ⟨v,row,c,rfl,sm,hD,hl,inv⟩
   rw [Nat.sub_self,GF.syms,List.append_nil] at inv
   rw [inv] at hD
   exact ⟨_,rfl,q D H' nD sm hD⟩
def qhf_ (K : PySem.W.Frag) (a : Adr) : Sp := fun vs H Q _ => ∃ (p fp l : Addr) (r w n : Nat) (row : List Nat),vs = [.ref p,.ref l] /\ BlocksAt a H p fp r w n /\ GF.Good r w /\ SqL K H l (rowV row) /\ Q (.int ((GF.join w row : Nat) : Int)) H
theorem vL_ (T : Txt K mg a) : FnO P wo K mg base 1 a.f16 ["self", "some"] (qhf_ K a) := by
 refine T.x16.F.okA (k := 0) sc_Blocks_joined (fun cdv A outer s H vs Q E hr h => ?_)
 ·obtain ⟨p,fp,l,r,w,n,row,rfl,hB,R,hL,q⟩ := h
  have t16 := R.top16
  have t256 := R.top256
  obtain ⟨dB,hB'⟩ := hB.ins
  obtain ⟨dF,hF'⟩ := hB.fld
  have el : (((2 ^ w - 1 : Nat) : Int) + 1) = ((2 ^ w : Nat) : Int) := by omega
  refine ⟨_,(qb_ (qj_ (i := 2) sc_Blocks_joined.nd rfl (Or.inl rfl) (qk_ qO_ (qA_ (qA_ (pv 0) rfl) rfl) qg_))
   (qb_ (qj_ (i := 3) sc_Blocks_joined.nd rfl (Or.inl rfl) qg_)
   (qb_ (qD_ PassesOwn.never rfl (qkg_ rfl T.n_reversed (qa_ (pv 1) qc_)) (qm_ (i := 4) sc_Blocks_joined.nd rfl (Or.inl rfl)) (qf_ (qj_ (i := 3) sc_Blocks_joined.nd rfl (Or.inl rfl) (qk_ qO_ (qk_ jl_ (pv 3) (pv 2)) (pv 4)))))
   (qf_ (qo_ (pv 3)))))),?_⟩
  refine ⟨_,rfl,p,_,_,_,_,rfl,hB',T.cl_Blocks,T.no_Blocks_field,yc_ fp w n,fp,_,_,_,_,rfl,hF',T.cl_Field,T.no_Field_last,yb_ r w,_,_,rfl,rfl,?_⟩
  dsimp only
  rw [el]
  refine ⟨_,rfl,l,_,rfl,hL,qiw_ (K := K) (a := l) (xs := rowV row) (fun i σ H' => ∃ v : Option V,σ = [some (.ref p),some (.ref l),some (.int ((2 ^ w : Nat) : Int)),some (.int ((GF.join w (row.drop (row.length - i)) : Nat) : Int)),v] /\ H' = H) ⟨none,?_,rfl⟩ ?_ ?_ ?_⟩
  ·rw [Nat.sub_zero,List.drop_length]
   rfl
  ·rintro i σ H' _ ⟨v,_,rfl⟩
   exact hL
  ·rintro i v σ H' hi hx ⟨v0,rfl,rfl⟩
   rw [qi_] at hi hx
   obtain ⟨y,hy,rfl⟩ := qV_ hx
   refine ⟨_,rfl,_,rfl,_,_,rfl,rfl,.inr ⟨by omega,by omega⟩,_,rfl,_,_,rfl,rfl,some (.int (y : Nat)),?_,rfl⟩
   have ed : row.drop (row.length - (i + 1)) = y :: row.drop (row.length - i) := by
    have e1 : row.length - (i + 1) = row.length - 1 - i := by omega
    have e2 : row.length - i = row.length - 1 - i + 1 := by omega
    rw [e1,e2]
    have hlt : row.length - 1 - i < row.length := by omega
    rw [List.drop_eq_getElem_cons hlt]
    congr 1
    rw [List.getElem?_eq_getElem hlt] at hy
    exact Option.some.inj hy
   rw [ed,GF.join,Int.natCast_add,Int.natCast_mul]
   rfl
  ·rintro σ H' ⟨v,rfl,rfl⟩
   rw [qi_,Nat.sub_self,List.drop_zero]
   exact ⟨_,rfl,q⟩
def qhg_ (a : Adr) : Sp := fun vs H Q _ => ∃ (p fp : Addr) (r w n f b : Nat),vs = [.ref p,.int f,.int b] /\ BlocksAt a H p fp r w n /\ GF.Good r w /\ n <= 16 /\ f < 2 ^ w /\ ∀ H',Same H H' -> Q (.int ((GF.join w ((GF.syms w n b).map (GF.tm r w f)) : Nat) : Int)) H'
theorem vM_ (T : Txt K mg a) : FnO P wo K mg base 3 a.f17 ["self", "factor", "block"] (qhg_ a) := by
 refine T.x17.F.okA (k := 2) vI_ (fun cdv A outer s H vs Q E hr h => ?_)
 ·obtain ⟨p,fp,r,w,n,f,b,rfl,hB,R,h16,hf,q⟩ := h
  obtain ⟨dB,hB'⟩ := hB.ins
  obtain ⟨dF,hF'⟩ := hB.fld
  refine ⟨_,(qf_ (qo_ (qB_ (pv 0) T.cl_Blocks T.x16.me (vL_ T) hr.u T.x16.b .nil qn_ (qa_ (q4_ (CompOk.of (cap := [1,0]) (own := ["symbol"]) (by kernel_rfl)) rfl (qH_ (qB_ (pv 0) T.cl_Blocks T.x15.me (vq_ T) hr.u T.x15.b .nil qn_ (qa_ (pv 2) qc_))) (fun _ _ _ _ _ => (qm_ (i := 2) (of_decide_eq_true (by kernel_rfl)) rfl (Or.inl rfl))) (fun _ _ _ _ _ => qY_) (fun _ _ _ _ _ => by exact (qB_ (by exact (vl_ (K := K) rfl (pv 1) rfl)) T.cl_Field T.x3.me (jL_ T) hr.u T.x3.b .nil qn_ (qa_ (pv 0) (qa_ (pv 2) qc_))))) qc_)))),?_⟩
  refine ⟨_,rfl,p,dB,_,rfl,hB',rfl,_,rfl,p,dB,_,rfl,hB',rfl,_,rfl,p,fp,r,w,n,b,rfl,hB,R,h16,fun l H1 nl s1 hl => ?_⟩
  refine ⟨l,rfl,⟨_,SqL.of hl⟩,fun D nD => ?_⟩
  refine v8_ (xs := rowV (GF.syms w n b)) (f := fun v => match v with | .int i => .int ((GF.tm r w f i.toNat : Nat) : Int) | v => v) (cs := [some (.int f),some (.ref p)]) (SqL.of hl) nD rfl (Nat.le_trans (by rw [qi_,GF.syms_length]; exact h16) (by decide)) (fun x H2 R2 hx s2 hR => ?_) (fun H2 s2 hD => ?_)
  ·obtain ⟨y,hy,rfl⟩ := qbg_ hx
   have hF2 := s2 _ _ (s1 _ _ hF')
   refine ⟨_,rfl,p,_,_,_,_,rfl,s2 _ _ (s1 _ _ hB'),T.cl_Blocks,T.no_Blocks_field,yc_ fp w n,fp,dF,_,rfl,hF2,rfl,_,rfl,_,rfl,fp,r,w,f,y,rfl,⟨dF,hF2⟩,R.rule,hf,hR _ (Same.refl _)⟩
  ·rw [qbf_ (f := GF.tm r w f) (h := fun n => rfl)] at hD
   exact ⟨p,fp,D,r,w,n,_,rfl,hB.same (s1.trans s2),R,SqL.of hD,q _ (s1.trans s2)⟩
def qhh_ (K : PySem.W.Frag) (a : Adr) : Sp := fun vs H Q _ => ∃ (p fp lf lb : Addr) (r w n : Nat) (fs bs : List Nat),vs = [.ref p,.ref lf,.ref lb] /\ BlocksAt a H p fp r w n /\ GF.Good r w /\ n <= 16 /\ SqL K H lf (rowV fs) /\ SqL K H lb (rowV bs) /\ fs.length = bs.length /\ (∀ f ∈ fs,f < 2 ^ w) ∧
 ∀ H',Same H H' -> Q (.int ((GF.sumB r w n (fs.zip bs) : Nat) : Int)) H'
theorem qhi_ {fs bs : List Nat} {i f b : Nat} (hf : fs[i]? = some f) (hb : bs[i]? = some b) : (fs.zip bs).take (i + 1) = (fs.zip bs).take i ++ [(f,b)] := by
 rw [List.take_add_one]
 have : (fs.zip bs)[i]? = some (f,b) := by
  rw [List.zip,List.getElem?_zipWith,hf,hb]
 rw [this]
 rfl
theorem vN_ (T : Txt K mg a) : FnO P wo K mg base 4 a.f18 ["self", "factors", "some"] (qhh_ K a) := by
 refine T.x18.F.okA (k := 3) sc_Blocks_summed (fun cdv A outer s H vs Q E hr h => ?_)
 ·obtain ⟨p,fp,lf,lb,r,w,n,fs,bs,rfl,hB,R,h16,hf,hb,hlen,hall,q⟩ := h
  refine ⟨_,(qb_ (qj_ (i := 3) sc_Blocks_summed.nd rfl (Or.inl rfl) qg_)
   (qb_ (qD_ PassesOwn.never rfl (zU_ rfl T.n_zip (qa_ (pv 1) (qa_ (pv 2) qc_))) (yh_ rfl (qM_ (qm_ (i := 4) sc_Blocks_summed.nd rfl (Or.inl rfl)) (qM_ (qm_ (i := 5) sc_Blocks_summed.nd rfl (Or.inl rfl)) jw_))) (qf_ (qj_ (i := 3) sc_Blocks_summed.nd rfl (Or.inl rfl) (qk_ yD_ (pv 3) (qB_ (pv 0) T.cl_Blocks T.x17.me (vM_ T) hr.u T.x17.b .nil qn_ (qa_ (pv 4) (qa_ (pv 5) qc_)))))))
   (qf_ (qo_ (pv 3))))),?_⟩
  refine ⟨_,rfl,_,rfl,lf,lb,_,_,rfl,hf,hb,uq_ (K := K) (l1 := lf) (l2 := lb) (xs := rowV fs) (ys := rowV bs) (fun i σ H' => ∃ v4 v5 : Option V,σ = [some (.ref p),some (.ref lf),some (.ref lb),some (.int ((GF.sumB r w n ((fs.zip bs).take i) : Nat) : Int)),v4,v5] /\ Same H H') ⟨none,none,rfl,Same.refl _⟩ ?_ (by rw [qi_,qi_]; exact hlen) ?_ ?_⟩
  ·rintro i σ H' _ ⟨v4,v5,_,sm⟩
   exact ⟨sm.seq hf,sm.seq hb⟩
  ·rintro i u v T' σ H' hi hu hv hT ⟨v4,v5,rfl,sm⟩
   obtain ⟨f,hfi,rfl⟩ := qV_ hu
   obtain ⟨b,hbi,rfl⟩ := qV_ hv
   have s1 := sm.trans (Same.new (o := .tup [V.int (f : Nat),V.int (b : Nat)]) hT)
   have hB1 := hB.same s1
   obtain ⟨dB,hB'⟩ := hB1.ins
   refine ⟨T',_,rfl,SqT.of qd_,rfl,_,_,rfl,_,_,rfl,rfl,?_⟩
   refine ⟨_,rfl,_,rfl,p,dB,_,rfl,hB',rfl,_,rfl,_,rfl,p,fp,r,w,n,f,b,rfl,hB1,R,h16,hall f (List.mem_of_getElem? hfi),fun H2 s2 => ?_⟩
   refine ⟨_,_,rfl,rfl,some (.int (f : Nat)),some (.int (b : Nat)),?_,s1.trans s2⟩
   rw [qhi_ hfi hbi,GF.sumB_snoc]
   show [_,_,_,some (V.int (Builtin.bitXor _ _)),_,_] = _
   rw [jA_]
  ·rintro σ H' ⟨v4,v5,rfl,sm⟩
   have e : (fs.zip bs).take (rowV fs).length = fs.zip bs := by
    rw [qi_]
    apply List.take_of_length_le
    rw [List.length_zip]
    omega
   rw [e]
   exact ⟨_,rfl,q H' sm⟩
structure TabAt (H : Hp) (ps : List Addr) (M : Nat) (row : Nat -> List Nat) : Prop where
 len : ps.length = M
 on : ∀ (i : Nat) p,ps[i]? = some p -> H p = some (.lst (rowV (row i)))
theorem TabAt.same {H H' : Hp} {ps : List Addr} {M : Nat} {row : Nat -> List Nat} (h : TabAt H ps M row) (s : Same H H') : TabAt H' ps M row := ⟨h.len,fun i p e => s _ _ (h.on i p e)⟩
theorem TabAt.get {H : Hp} {ps : List Addr} {M : Nat} {row : Nat -> List Nat} (h : TabAt H ps M row) {i : Nat} (hi : i < M) : ∃ p,ps[i]? = some p /\ H p = some (.lst (rowV (row i))) := by
 have hl : i < ps.length := by rw [h.len]; exact hi
 exact ⟨ps[i],List.getElem?_eq_getElem hl,h.on i _ (List.getElem?_eq_getElem hl)⟩
theorem qC_ {ps : List Addr} {i : Nat} {p : Addr} (h : ps[i]? = some p) : (ps.map V.ref)[i]? = some (.ref p) := by rw [List.getElem?_map,h]; rfl
theorem qW_ {row : List Nat} {i : Nat} (h : i < row.length) : (rowV row)[i]? = some (.int ((row.getD i 0 : Nat) : Int)) := by
 rw [qbe_ h,List.getD_eq_getElem?_getD,List.getElem?_eq_getElem h]
 rfl
def j4_ (m at' : Nat) : List Nat := (List.replicate m 0).set at' 1
theorem vo_ (n c : Nat) : (List.replicate n [V.int (c : Int)]).flatten = rowV (List.replicate n c) := by
 induction n with
 | zero => rfl
 | succ n ih => rw [List.replicate_succ,List.flatten_cons,ih,List.replicate_succ]; rfl
theorem vO_ (row : List Nat) (i x : Nat) : (rowV row).set i (.int (x : Nat)) = rowV (row.set i x) := by
 unfold rowV
 rw [List.map_set]
def rowT (W : Nat) (T : Nat -> Nat -> Nat) (i : Nat) : List Nat := (List.range W).map (T i)
theorem qs_ (W : Nat) (T : Nat -> Nat -> Nat) (i : Nat) : (rowT W T i).length = W := by unfold rowT; rw [List.length_map,List.length_range]
theorem qX_ {W : Nat} {T : Nat -> Nat -> Nat} {i k : Nat} (h : k < W) : (rowT W T i).getD k 0 = T i k := by
 unfold rowT
 rw [List.getD_eq_getElem?_getD,List.getElem?_map,List.getElem?_range h]
 rfl
theorem jM_ {W : Nat} {T U : Nat -> Nat -> Nat} {i j : Nat} (h : ∀ k,k < W -> T i k = U j k) : rowT W T i = rowT W U j := List.map_congr_left fun k hk => h k (List.mem_range.mp hk)
theorem yz_ {W : Nat} {T : Nat -> Nat -> Nat} {i n : Nat} (h : ∀ k,k < W -> T i k < n) : ∀ x ∈ rowT W T i,x < n := fun x hx => by
 obtain ⟨k,hk,rfl⟩ := List.mem_map.mp hx
 exact h k (List.mem_range.mp hk)
theorem TabAt.congr {H : Hp} {ps : List Addr} {M : Nat} {row row' : Nat -> List Nat} (h : TabAt H ps M row) (e : ∀ i,i < M -> row i = row' i) : TabAt H ps M row' :=
 ⟨h.len,fun i p hi => by
  have : i < M := by
   rw [<- h.len]
   exact (List.getElem?_eq_some_iff.mp hi).1
  rw [<- e i this]
  exact h.on i p hi⟩
theorem TabAt.snoc {H H' : Hp} {ps : List Addr} {n : Nat} {row : Nat -> List Nat} {p : Addr} (h : TabAt H ps n row) (s : ∀ q ∈ ps,H' q = H q) (hp : H' p = some (.lst (rowV (row n)))) : TabAt H' (ps ++ [p]) (n + 1) row := by
 refine ⟨by rw [List.length_append,h.len]; rfl,fun i q e => ?_⟩
 rw [List.getElem?_append] at e
 split at e
 ·rw [s q (List.mem_of_getElem? e)]
  exact h.on i q e
 ·rename_i hge
  cases ht : i - ps.length with
  | zero =>
   rw [ht] at e
   have : p = q := by simpa using e
   subst this
   have : i = n := by have := h.len; omega
   rw [this]
   exact hp
  | succ m => rw [ht] at e; simp at e
def knV (ks : List Bool) : List V := ks.map V.bl
theorem z8_ (m i : Nat) : (j4_ m i).length = m := by unfold j4_; rw [List.length_set,List.length_replicate]
theorem y7_ (x y : List Nat) : rowV x ++ rowV y = rowV (x ++ y) := by unfold rowV; rw [List.map_append]
theorem u6_ {W : Nat} {f : Nat -> List Nat} {i : Nat} (h : (f i).length = W) : rowT W (fun i k => (f i).getD k 0) i = f i := by
 unfold rowT
 apply List.ext_getElem
 ·rw [List.length_map,List.length_range,h]
 ·intro k k1 k2
  simp [k2]
theorem qdv_ {N M i k : Nat} {l : Nat -> Nat -> Nat} (hk : k < N) : (rowT N l i ++ j4_ M i).getD k 0 = l i k := by
 rw [List.getD_eq_getElem?_getD,List.getElem?_append_left (by rw [qs_]; exact hk),← List.getD_eq_getElem?_getD,qX_ hk]
theorem qb5_ {N M i j : Nat} {l : Nat -> Nat -> Nat} (hj : j < M) : (rowT N l i ++ j4_ M i).getD (N + j) 0 = if j = i then 1 else 0 := by
 rw [List.getD_eq_getElem?_getD,List.getElem?_append_right (by rw [qs_]; omega),qs_,Nat.add_sub_cancel_left]
 unfold j4_
 rw [List.getElem?_set]
 by_cases z : i = j
 ·rw [if_pos z,if_pos (by rw [List.length_replicate]; omega),if_pos z.symm]
  rfl
 ·rw [if_neg z,if_neg (fun e => z e.symm),List.getElem?_replicate,if_pos hj]
  rfl
theorem TabAt.upd {H : Hp} {ps : List Addr} {M : Nat} {row : Nat -> List Nat} {d : Addr} {o : HO} (h : TabAt H ps M row) (n : d ∉ ps) : TabAt (upd H d o) ps M row :=
 ⟨h.len,fun i p e => by
  have np : p ≠ d := fun z => n (by rw [<- z]; exact List.mem_of_getElem? e)
  rw [qe_ np]
  exact h.on i p e⟩
theorem qb6_ {n : Nat} : (!decide (V.int (n : Int) = V.non)) = true := by
 rw [decide_eq_false (fun z => by cases z)]
 rfl
def qko_ : Sp := fun vs H Q _ => ∃ (m i : Nat),vs = [.int m,.int i] /\ i < m /\ m <= 30 /\ ∀ D H',H D = none -> Same H H' -> H' D = some (.lst (rowV (j4_ m i))) -> Q (.ref D) H'
theorem qc4_ (T : Txt K mg a) : FnO P wo K mg base 1 a.f6 ["many", "at"] qko_ := by
 refine T.x6.F.okA (k := 0) sc_unit (fun cdv A outer s H vs Q E hr h => ?_)
 ·obtain ⟨m,i,rfl,hi,hm,q⟩ := h
  refine ⟨_,(qb_ (qj_ (i := 2) sc_unit.nd rfl (Or.inl rfl) (qk_ zS_ (qI_ (qa_ qg_ qc_)) (pv 0)))
   (qb_ (jF_ qg_ (jO_ (pv 2) (pv 1) jt_))
   (qf_ (qo_ (pv 2))))),?_⟩
  refine ⟨(by decide),fun p1 n1 => ⟨_,rfl,p1,_,_,rfl,rfl,qd_,by omega,by omega,?_,fun p2 n2 => ?_⟩⟩
  ·rw [Int.toNat_natCast]
   show 1 * m <= sizeLine
   exact Nat.le_trans (by omega : 1 * m <= 30) (by decide)
  have eR : (List.replicate ((m : Int)).toNat [V.int 0]).flatten = rowV (List.replicate m 0) := by rw [Int.toNat_natCast]; exact vo_ m 0
  rw [eR]
  refine ⟨_,rfl,_,rfl,p2,_,_,i,rfl,rfl,qd_,jE_ (by rw [qi_,List.length_replicate]; exact hi),?_⟩
  have s12 := (Same.new (o := .lst [V.int 0]) n1)
  refine ⟨_,rfl,q p2 _ (s12.free n2) ?_ ?_⟩
  ·rw [q9_]
   exact s12.trans (Same.new n2)
  ·rw [qd_]
   exact congrArg (fun l => some (HO.lst l)) (vO_ _ _ 1)
def qjf_ (a : Adr) : Sp := fun vs H Q _ => ∃ (p : Addr) (r w x n : Nat),vs = [.ref p,.int x,.int n] /\ FieldAt a.C_Field H p r w /\ GF.Good r w /\ x < 2 ^ w /\ Q (.int (GF.pw r w x n : Nat)) H
theorem uz_ (T : Txt K mg a) : FnO P wo K mg base 3 a.f5 ["self", "one", "many"] (qjf_ a) := by
 refine T.x5.F.okA (k := 2) sc_Field_power (fun cdv A outer s H vs Q E hr h => ?_)
 ·obtain ⟨p,r,w,x,n,rfl,hF,g,hx,q⟩ := h
  obtain ⟨dx,hF'⟩ := id hF
  have t16 := g.top16
  refine ⟨_,(qb_ (qj_ (i := 3) sc_Field_power.nd rfl (Or.inl rfl) qg_)
   (qb_ (qj_ (i := 4) sc_Field_power.nd rfl (Or.inl rfl) (pv 1))
   (qb_ (qj_ (i := 5) sc_Field_power.nd rfl (Or.inl rfl) (pv 2))
   (qb_ (j7_ PassesOwn.never (qp_ j0_ (pv 5) qg_ (qr_ _)) (qb_ (qz_ (qp_ q6_ (qk_ qL_ (pv 5) qg_) qg_ (qr_ _)) (qf_ (qj_ (i := 3) sc_Field_power.nd rfl (Or.inl rfl) (qB_ (pv 0) T.cl_Field T.x3.me (jL_ T) hr.u T.x3.b .nil qn_ (qa_ (pv 3) (qa_ (pv 4) qc_))))) qv_)
   (qb_ (qj_ (i := 4) sc_Field_power.nd rfl (Or.inl rfl) (qB_ (pv 0) T.cl_Field T.x3.me (jL_ T) hr.u T.x3.b .nil qn_ (qa_ (pv 4) (qa_ (pv 4) qc_))))
   (qf_ (qj_ (i := 5) sc_Field_power.nd rfl (Or.inl rfl) (qk_ jo_ (pv 5) qg_))))))
   (qf_ (qo_ (pv 3))))))),?_⟩
  refine ⟨_,rfl,_,rfl,⟨fun m σ H' => ∃ (y s d : Nat),d = m /\ σ = [some (.ref p),some (.int x),some (.int n),some (.int (y : Nat)),some (.int (s : Nat)),some (.int (d : Nat))] /\ H' = H /\ y < 2 ^ w /\ s < 2 ^ w /\ GF.tm r w y (GF.pw r w s d) = GF.pw r w x n,⟨_,1,x,n,rfl,rfl,rfl,by omega,hx,GF.one_tm g.rule g.w1 (GF.pw_lt g hx n)⟩,?_⟩⟩
  rintro m σ H' ⟨y,s,d,rfl,rfl,rfl,hy,hs,inv⟩
  refine ⟨_,rfl,_,_,rfl,rfl,_,rfl,?_⟩
  refine ite2 (fun h => ⟨_,fun _ _ z => z,?_⟩) (fun h => ?_)
  ·have hd : 0 < d := by
    have := of_decide_eq_true h
    omega
   have hdv : ((d : Int) / 2) = ((d / 2 : Nat) : Int) := by omega
   have hss := GF.tm_lt g.rule (b := s) hs
   refine ⟨_,rfl,_,_,rfl,rfl,p0 (by decide),rfl,_,rfl,?_⟩
   refine ite2 (fun h1 => ?_) (fun h1 => ?_)
   ·have h1' : d % 2 = 1 := by
     have := V.int.inj (of_decide_eq_true h1)
     omega
    refine ⟨_,rfl,p,dx,_,rfl,hF',rfl,_,rfl,_,rfl,p,r,w,y,s,rfl,hF,g.rule,hy,?_⟩
    refine ⟨_,rfl,p,dx,_,rfl,hF',rfl,_,rfl,_,rfl,p,r,w,s,s,rfl,hF,g.rule,hs,?_⟩
    refine ⟨_,rfl,_,_,rfl,rfl,⟨by decide,by decide⟩,?_⟩
    try dsimp only
    rw [hdv]
    refine ⟨d / 2,Nat.div_lt_self hd (by decide),GF.tm r w y s,GF.tm r w s s,d / 2,rfl,rfl,rfl,GF.tm_lt g.rule hy,hss,?_⟩
    have e : d = 1 + 2 * (d / 2) := by omega
    rw [<- inv,GF.pw_half g hs]
    conv => rhs; rw [e]
    rw [GF.pw_add g hs,GF.pw_one s g hs,GF.tm_assoc g.rule g.w1 hy hs]
   ·have h1' : ¬ d % 2 = 1 := by
     intro z
     apply h1
     apply decide_eq_true
     show V.int ((d : Int) % 2) = V.int 1
     congr 1
     omega
    refine ⟨_,rfl,p,dx,_,rfl,hF',rfl,_,rfl,_,rfl,p,r,w,s,s,rfl,hF,g.rule,hs,?_⟩
    refine ⟨_,rfl,_,_,rfl,rfl,⟨by decide,by decide⟩,?_⟩
    try dsimp only
    rw [hdv]
    refine ⟨d / 2,Nat.div_lt_self hd (by decide),y,GF.tm r w s s,d / 2,rfl,rfl,rfl,hy,hss,?_⟩
    have e : d = 2 * (d / 2) := by omega
    rw [<- inv,GF.pw_half g hs]
    conv => rhs; rw [e]
  ·have hd : d = 0 := by
    have : ¬ ((0 : Int) < (d : Int)) := fun z => h (decide_eq_true z)
    omega
   subst hd
   have e : GF.pw r w s 0 = 1 := rfl
   rw [e,GF.tm_one] at inv
   refine ⟨_,rfl,?_⟩
   show Q (.int (y : Nat)) H'
   rw [inv]
   exact q
def qkp_ (a : Adr) : Sp := fun vs H Q _ => ∃ (p : Addr) (r w x : Nat),vs = [.ref p,.int x] /\ FieldAt a.C_Field H p r w /\ GF.Good r w /\ 0 < x /\ x < 2 ^ w /\ Q (.int (GF.pw r w x (2 ^ w - 1 - 1) : Nat)) H
theorem qam_ (T : Txt K mg a) : FnO P wo K mg base 4 a.f4 ["self", "one"] (qkp_ a) := by
 refine T.x4.F.okA (k := 3) qah_ (fun cdv A outer s H vs Q E hr h => ?_)
 ·obtain ⟨p,r,w,x,rfl,hF,g,h0,hx,q⟩ := h
  obtain ⟨dx,hF'⟩ := id hF
  have t16 := g.top16
  refine ⟨_,(qb_ (qz_ (qp_ q6_ (pv 1) qg_ (qr_ _)) (qf_ jj_) qv_)
   (qf_ (qo_ (qB_ (pv 0) T.cl_Field T.x5.me (uz_ T) hr.u T.x5.b .nil qn_ (qa_ (pv 1) (qa_ (qk_ yC_ (qA_ (pv 0) rfl) qg_) qc_)))))),?_⟩
  refine ⟨_,rfl,rfl,_,rfl,?_⟩
  refine ite2 (fun h => absurd (V.int.inj (of_decide_eq_true h)) (by omega)) (fun _ => ?_)
  have e : (((2 ^ w - 1 : Nat) : Int) - 1) = ((2 ^ w - 1 - 1 : Nat) : Int) := by omega
  refine ⟨_,rfl,p,dx,_,rfl,hF',rfl,_,rfl,_,rfl,p,_,_,_,_,rfl,hF',T.cl_Field,T.no_Field_last,yb_ r w,_,_,rfl,rfl,?_⟩
  try dsimp only
  rw [e]
  exact ⟨p,r,w,x,_,rfl,hF,g,hx,q⟩
def qbi_ (K : PySem.W.Frag) (a : Adr) : Sp := fun vs H Q _ => ∃ (p l : Addr) (r w c : Nat) (row : List Nat),vs = [.ref p,.int c,.ref l] /\ FieldAt a.C_Field H p r w /\ GF.Good r w /\ H l = some (.lst (rowV row)) /\ (∀ x ∈ row,x < 2 ^ w) /\ row.length <= 100 /\ ∀ D H',H D = none -> Same H H' -> H' D = some (.lst (rowV (row.map fun s => GF.tm r w s c))) -> Q (.ref D) H'
theorem yd_ (T : Txt K mg a) : FnO P wo K mg base 3 a.f7 ["field", "factor", "line"] (qbi_ K a) := by
 refine T.x7.F.okA (k := 2) uv_ (fun cdv A outer s H vs Q E hr h => ?_)
 ·obtain ⟨p,l,r,w,c,row,rfl,hF,g,hl,hall,hlen,q⟩ := h
  obtain ⟨dx,hF'⟩ := id hF
  refine ⟨_,(qf_ (qo_ (q4_ (CompOk.of (cap := [1,0]) (own := ["symbol"]) (by kernel_rfl)) rfl (qH_ (pv 2)) (fun _ _ _ _ _ => (qm_ (i := 2) (of_decide_eq_true (by kernel_rfl)) rfl (Or.inl rfl))) (fun _ _ _ _ _ => qY_) (fun _ _ _ _ _ => by exact (qB_ (pv 1) T.cl_Field T.x3.me (jL_ T) hr.u T.x3.b .nil qn_ (qa_ (pv 2) (qa_ (pv 0) qc_))))))),?_⟩
  refine ⟨_,rfl,l,rfl,⟨_,SqL.of hl⟩,fun D nD => ?_⟩
  refine v8_ (xs := rowV row) (f := fun v => match v with | .int i => .int ((GF.tm r w i.toNat c : Nat) : Int) | v => v) (cs := [some (.int c),some (.ref p)]) (SqL.of hl) nD rfl (Nat.le_trans (by rw [qi_]; exact hlen) (by decide)) (fun x H2 R2 hx s2 hR => ?_) (fun H2 s2 hD => ?_)
  ·obtain ⟨y,hy,rfl⟩ := qbg_ hx
   exact ⟨_,rfl,p,dx,_,rfl,s2 _ _ hF',rfl,_,rfl,_,rfl,p,r,w,y,c,rfl,hF.same s2,g.rule,hall y hy,hR _ (Same.refl _)⟩
  ·rw [qbf_ (f := fun s => GF.tm r w s c) (h := fun n => rfl)] at hD
   exact q D H2 nD s2 hD
def qhj_ (K : PySem.W.Frag) : Sp := fun vs H Q _ => ∃ (l1 l2 : Addr) (x y : List Nat),vs = [.ref l1,.ref l2] /\ H l1 = some (.lst (rowV x)) /\ H l2 = some (.lst (rowV y)) /\ x.length = y.length /\ x.length <= 100 /\ ∀ D H',H D = none -> Same H H' -> H' D = some (.lst (rowV (List.zipWith (fun s t => s ^^^ t) x y))) -> Q (.ref D) H'
theorem zK_ (T : Txt K mg a) : FnO P wo K mg base 1 a.f8 ["one", "other"] (qhj_ K) := by
 refine T.x8.F.okA (k := 0) qai_ (fun cdv A outer s H vs Q E hr h => ?_)
 ·obtain ⟨l1,l2,x,y,rfl,h1,h2,hl,hlen,q⟩ := h
  refine ⟨_,(qf_ (qo_ (q4_ (CompOk.of (cap := []) (own := ["symbol", "another"]) (by kernel_rfl)) rfl (zU_ rfl T.n_zip (qa_ (pv 0) (qa_ (pv 1) qc_))) (fun _ _ _ _ _ => (vn_ (n := 2) (K := K) rfl rfl (qM_ (qm_ (i := 0) (of_decide_eq_true (by kernel_rfl)) rfl (Or.inl rfl)) (qM_ (qm_ (i := 1) (of_decide_eq_true (by kernel_rfl)) rfl (Or.inl rfl)) jw_)))) (fun _ _ _ _ _ => qY_) (fun _ _ _ _ _ => by exact (qk_ yD_ (pv 0) (pv 1)))))),?_⟩
  refine ⟨_,rfl,_,rfl,l1,l2,_,_,rfl,SqL.of h1,SqL.of h2,fun D nD => ?_⟩
  refine qe3_ (xs := rowV x) (ys := rowV y) (f := fun i => .int ((x.getD i 0 ^^^ y.getD i 0 : Nat) : Int)) (cs := []) (SqL.of h1) (SqL.of h2) (by rw [qi_,qi_,hl]) nD rfl (Nat.le_trans (by rw [qi_]; exact hlen) (by decide)) (fun i u v H2 R2 hu hv s2 hR => ?_) (fun H2 s2 hD => q D H2 nD s2 ?_)
  ·obtain ⟨su,eu,rfl⟩ := qV_ hu
   obtain ⟨sv,ev,rfl⟩ := qV_ hv
   refine ⟨_,rfl,_,rfl,_,_,rfl,rfl,?_⟩
   try dsimp only
   rw [jA_]
   have e1 : x.getD i 0 = su := by rw [List.getD_eq_getElem?_getD,eu]; rfl
   have e2 : y.getD i 0 = sv := by rw [List.getD_eq_getElem?_getD,ev]; rfl
   rw [e1,e2] at hR
   exact hR _ (Same.refl _)
  ·rw [hD]
   congr 2
   rw [qi_]
   apply List.ext_getElem
   ·rw [List.length_map,List.length_range,qi_,List.length_zipWith,hl,Nat.min_self]
   ·intro i i1 i2
    rw [List.length_map,List.length_range] at i1
    have j2 : i < y.length := by omega
    simp [rowV,i1,j2]
def qjg_ (K : PySem.W.Frag) : Sp := fun vs H Q _ => ∃ (l : Addr) (st pl M : Nat) (ps : List Addr) (row : Nat -> List Nat),vs = [.ref l,.int st,.int pl] /\ H l = some (.lst (ps.map V.ref)) /\ TabAt H ps M row /\ (∀ i,i < M -> pl < (row i).length) /\ st <= M /\ M <= 8 ∧
 (∀ f,st <= f -> f < M -> (row f).getD pl 0 ≠ 0 -> Q (.int (f : Nat)) H) /\ ((∀ i,st <= i -> i < M -> (row i).getD pl 0 = 0) -> Q .non H)
theorem zL_ (T : Txt K mg a) : FnO P wo K mg base 1 a.f9 ["lines", "start", "place"] (qjg_ K) := by
 refine T.x9.F.okA (k := 0) sc_first_with (fun cdv A outer s H vs Q E hr h => ?_)
 ·obtain ⟨l,st,pl,M,ps,row,rfl,hl,ht,hp,hs,hm,q1,q2⟩ := h
  refine ⟨_,(qb_ (qD_ PassesOwn.never rfl (uI_ rfl T.n_range (qa_ (pv 1) (qa_ (qw_ qu_ rfl T.n_len PySem.boot_len (qa_ (pv 0) qc_)) qc_))) (qm_ (i := 3) sc_first_with.nd rfl (Or.inl rfl)) (qf_ (qz_ (qp_ zq_ (qx_ qy_ (qx_ qy_ (pv 0) (pv 3) (fun _ _ => rfl)) (pv 2) (fun _ _ => rfl)) qg_ (qr_ _)) (qf_ (qo_ (pv 3))) qv_)))
   (qf_ (qo_ qK_))),?_⟩
  have hlen : ((ps.map V.ref).length : Int) = (M : Nat) := by rw [List.length_map,ht.len]
  refine ⟨_,rfl,_,rfl,l,_,rfl,.inl (SqL.of hl),_,_,rfl,⟨by omega,by omega,by omega,by omega⟩,?_⟩
  have en : (((ps.map V.ref).length : Int) - (st : Nat)).toNat = M - st := by rw [hlen]; omega
  rw [en]
  refine qQ_ (lo := (st : Nat)) (n := M - st) (fun i σ H' => (∃ v : Option V,σ = [some (.ref l),some (.int st),some (.int pl),v]) /\ H' = H /\ ∀ k,st <= k -> k < st + i -> (row k).getD pl 0 = 0) ⟨⟨none,rfl⟩,rfl,fun k h1 h2 => by omega⟩ ?_ ?_
  ·rintro i σ H' hi ⟨⟨v,rfl⟩,rfl,inv⟩
   have ek : ((st : Nat) : Int) + (i : Nat) = ((st + i : Nat) : Int) := by omega
   obtain ⟨p,ep,hp1⟩ := ht.get (i := st + i) (by omega)
   have hpl := hp (st + i) (by omega)
   rw [ek]
   refine ⟨_,rfl,_,rfl,l,_,_,_,rfl,rfl,SqL.of hl,qq_ (qC_ ep),_,rfl,p,_,_,_,rfl,rfl,SqL.of hp1,qq_ (qW_ hpl),rfl,_,rfl,?_⟩
   refine ite2 (fun h => ?_) (fun h => ?_)
   ·refine ⟨_,rfl,?_⟩
    refine q1 (st + i) (by omega) (by omega) fun z => ?_
    rw [z] at h
    revert h
    decide
   ·refine ⟨⟨_,rfl⟩,rfl,fun k h1 h2 => ?_⟩
    by_cases e : k = st + i
    ·rw [e]
     apply Decidable.byContradiction
     intro z
     apply h
     rw [decide_eq_false]
     ·rfl
     ·intro y
      have := V.int.inj y
      omega
    ·exact inv k h1 (by omega)
  ·rintro σ H' ⟨⟨v,rfl⟩,rfl,inv⟩
   exact q2 fun i h1 h2 => inv i h1 (by omega)
def qfp_ (K : PySem.W.Frag) : Sp := fun vs H Q _ => ∃ (l : Addr) (h f M : Nat) (ps : List Addr) (row : Nat -> List Nat),vs = [.ref l,.int h,.int f] /\ H l = some (.lst (ps.map V.ref)) /\ TabAt H ps M row /\ h < M /\ f < M /\ M <= 8 ∧
 ∀ D H' ps',H D = none -> Same H H' -> H' D = some (.lst (ps'.map V.ref)) -> TabAt H' ps' M (fun i => if i = h then row f else if i = f then row h else row i) -> (∀ p ∈ ps',p ∈ ps) -> Q (.ref D) H'
theorem qdw_ (T : Txt K mg a) : FnO P wo K mg base 1 a.f10 ["lines", "one", "other"] (qfp_ K) := by
 refine T.x10.F.okA (k := 0) sc_swapped (fun cdv A outer s H vs Q E hr h => ?_)
 ·obtain ⟨l,h,f,M,ps,row,rfl,hl,ht,hh,hf,hm,q⟩ := h
  refine ⟨_,(qb_ (qj_ (i := 3) sc_swapped.nd rfl (Or.inl rfl) (jf_ q0_ rfl T.n_list (by decide +kernel) (qa_ (pv 0) qc_)))
   (qb_ (jF_ (qx_ qy_ (pv 0) (pv 2) (fun _ _ => rfl)) (jO_ (pv 3) (pv 1) jt_))
   (qb_ (jF_ (qx_ qy_ (pv 0) (pv 1) (fun _ _ => rfl)) (jO_ (pv 3) (pv 2) jt_))
   (qf_ (qo_ (pv 3)))))),?_⟩
  obtain ⟨p1,e1,hp1⟩ := ht.get hf
  obtain ⟨p2,e2,hp2⟩ := ht.get hh
  refine ⟨_,rfl,l,_,rfl,.inl (SqL.of hl),fun D nD => ?_⟩
  have hll : h < (ps.map V.ref).length := by rw [List.length_map,ht.len]; exact hh
  have hlf : f < (ps.map V.ref).length := by rw [List.length_map,ht.len]; exact hf
  have lD : l ≠ D := ql_ hl nD
  refine ⟨_,rfl,_,rfl,l,_,_,_,rfl,rfl,SqL.of (by rw [qe_ lD]; exact hl),qq_ (qC_ e1),?_⟩
  refine ⟨_,rfl,_,rfl,D,_,_,h,rfl,rfl,qd_,jE_ hll,?_⟩
  refine ⟨_,rfl,_,rfl,l,_,_,_,rfl,rfl,SqL.of (by rw [q9_,qe_ lD]; exact hl),qq_ (qC_ e2),?_⟩
  refine ⟨_,rfl,_,rfl,D,_,_,f,rfl,rfl,qd_,jE_ (by rw [List.length_set]; exact hlf),?_⟩
  rw [q9_,q9_]
  have eps : (((ps.map V.ref).set h (.ref p1)).set f (.ref p2)) = (((ps.set h p1).set f p2).map V.ref) := by rw [List.map_set,List.map_set]
  rw [eps]
  refine ⟨_,rfl,q D _ _ nD (Same.new nD) qd_ ⟨by rw [List.length_set,List.length_set,ht.len],fun i p ei => ?_⟩ (fun p hp => ?_)⟩
  rotate_left
  ·rcases List.mem_or_eq_of_mem_set hp with z | z
   ·rcases List.mem_or_eq_of_mem_set z with z | z
    ·exact z
    ·rw [z]
     exact List.mem_of_getElem? e1
   ·rw [z]
    exact List.mem_of_getElem? e2
  have on := fun i p e => (Same.new (o := .lst (((ps.set h p1).set f p2).map V.ref)) nD) _ _ (ht.on i p e)
  rw [List.getElem?_set,List.getElem?_set] at ei
  by_cases zf : f = i
  ·rw [if_pos zf,if_pos (by rw [List.length_set,ht.len]; exact hf)] at ei
   subst zf
   have := Option.some.inj ei
   subst this
   by_cases zh : f = h
   ·rw [if_pos zh]
    subst zh
    exact on f p2 e2
   ·rw [if_neg zh,if_pos rfl]
    exact on h p2 e2
  ·rw [if_neg zf] at ei
   by_cases zh : h = i
   ·rw [if_pos zh,if_pos (by rw [ht.len]; exact hh)] at ei
    subst zh
    have := Option.some.inj ei
    subst this
    rw [if_pos rfl]
    exact on f p1 e1
   ·rw [if_neg zh] at ei
    rw [if_neg (fun z => zh z.symm),if_neg (fun z => zf z.symm)]
    exact on i p ei
def qfq_ (K : PySem.W.Frag) (a : Adr) : Sp := fun vs H Q _ => ∃ (fp l : Addr) (r w h pl M W : Nat) (ps : List Addr) (T : Nat -> Nat -> Nat),vs = [.ref fp,.ref l,.int h,.int pl] /\ FieldAt a.C_Field H fp r w /\ GF.Good r w /\ H l = some (.lst (ps.map V.ref)) /\ TabAt H ps M (rowT W T) /\ (∀ i k,i < M -> k < W -> T i k < 2 ^ w) /\ W <= 30 /\ pl < W /\ h < M /\ M <= 8 /\ T h pl ≠ 0 ∧
 ∀ D H' ps',H D = none -> Same H H' -> H' D = some (.lst (ps'.map V.ref)) -> TabAt H' ps' M (rowT W (GF.clearT r w T h pl (GF.pw r w (T h pl) (2 ^ w - 1 - 1)))) -> (∀ p ∈ ps',p ∈ ps \/ H p = none) -> Q (.ref D) H'
theorem ud_ (T : Txt K mg a) : FnO P wo K mg base 5 a.f11 ["field", "lines", "at", "place"] (qfq_ K a) := by
 refine T.x11.F.okA (k := 4) sc_cleared (fun cdv A outer s H vs Q E hr h => ?_)
 ·obtain ⟨fp,l,r,w,h,pl,M,W,ps,t,rfl,hF,g,hl,ht,hlt,hW,hpl,hh,hm,h0,q⟩ := h
  obtain ⟨dx,hF'⟩ := id hF
  refine ⟨_,(qb_ (qj_ (i := 4) sc_cleared.nd rfl (Or.inl rfl) (qt_ (yd_ T) hr.u rfl T.x7.m T.x7.k T.x7.b .nil qn_ (qa_ (pv 0) (qa_ (qB_ (pv 0) T.cl_Field T.x4.me (qam_ T) hr.u T.x4.b .nil qn_ (qa_ (qx_ qy_ (qx_ qy_ (pv 1) (pv 2) (fun _ _ => rfl)) (pv 3) (fun _ _ => rfl)) qc_)) (qa_ (qx_ qy_ (pv 1) (pv 2) (fun _ _ => rfl)) qc_)))))
   (qb_ (qj_ (i := 5) sc_cleared.nd rfl (Or.inl rfl) (qI_ qc_))
   (qb_ (qD_ PassesOwn.never rfl (vm_ rfl T.n_enumerate (qa_ (pv 1) qc_)) (yh_ rfl (qM_ (qm_ (i := 6) sc_cleared.nd rfl (Or.inl rfl)) (qM_ (qm_ (i := 7) sc_cleared.nd rfl (Or.inl rfl)) jw_))) (qf_ (qz_ (qp_ q6_ (pv 6) (pv 2) (qr_ _)) (qf_ (qN_ (jm_ PySem.F.plainAttrs_list PySem.F.slot_list_append PySem.F.type_list_append qJ_ (pv 5) (qa_ (pv 4) qc_)))) (qf_ (qz_ (qp_ q6_ (qx_ qy_ (pv 7) (pv 3) (fun _ _ => rfl)) qg_ (qr_ _)) (qf_ (qN_ (jm_ PySem.F.plainAttrs_list PySem.F.slot_list_append PySem.F.type_list_append qJ_ (pv 5) (qa_ (pv 7) qc_)))) (qf_ (qN_ (jm_ PySem.F.plainAttrs_list PySem.F.slot_list_append PySem.F.type_list_append qJ_ (pv 5) (qa_ (qt_ (zK_ T) hr.u rfl T.x8.m T.x8.k T.x8.b .nil qn_ (qa_ (pv 7) (qa_ (qt_ (yd_ T) hr.u rfl T.x7.m T.x7.k T.x7.b .nil qn_ (qa_ (pv 0) (qa_ (qx_ qy_ (pv 7) (pv 3) (fun _ _ => rfl)) (qa_ (pv 4) qc_)))) qc_))) qc_)))))))))
   (qf_ (qo_ (pv 5)))))),?_⟩
  obtain ⟨ph,eh,hph⟩ := ht.get hh
  have hTh : t h pl < 2 ^ w := hlt h pl hh hpl
  have eg : (rowT W t h).getD pl 0 = t h pl := qX_ hpl
  have gt := qq_ (qW_ (row := rowT W t h) (i := pl) (by rw [qs_]; exact hpl))
  rw [eg] at gt
  refine ⟨_,rfl,_,rfl,fp,dx,_,rfl,hF',rfl,_,rfl,_,rfl,l,_,_,_,rfl,rfl,SqL.of hl,qq_ (qC_ eh),_,rfl,ph,_,_,_,rfl,rfl,SqL.of hph,gt,?_⟩
  refine ⟨fp,r,w,t h pl,rfl,hF,g,by omega,hTh,?_⟩
  generalize hc : GF.pw r w (t h pl) (2 ^ w - 1 - 1) = c at q
  refine ⟨_,rfl,_,rfl,l,_,_,_,rfl,rfl,SqL.of hl,qq_ (qC_ eh),?_⟩
  refine ⟨fp,ph,r,w,c,rowT W t h,rfl,hF,g,hph,yz_ fun k hk => hlt h k hh hk,by rw [qs_]; omega,fun hd H1 nhd s1 hhd => ?_⟩
  refine ⟨by decide,fun D nD => ⟨_,rfl,l,_,rfl,SqL.of ((Same.new nD) _ _ (s1 _ _ hl)),?_⟩⟩
  have hlen : (ps.map V.ref).length = M := by rw [List.length_map,ht.len]
  refine qa6_ (fun i σ H' => ∃ (v u : Option V) (ps' : List Addr),σ = [some (.ref fp),some (.ref l),some (.int h),some (.int pl),some (.ref hd),some (.ref D),v,u] /\ Same H1 H' /\ H' D = some (.lst (ps'.map V.ref)) /\ TabAt H' ps' i (rowT W (GF.clearT r w t h pl c)) /\ D ∉ ps' /\ ∀ p ∈ ps',p ∈ ps \/ H p = none)
   ⟨none,none,[],rfl,Same.new nD,qd_,⟨rfl,fun i p e => by simp at e⟩,by simp,by simp⟩ ?_ ?_ ?_
  ·rintro i σ H' hi ⟨v,u,ps',rfl,s2,_⟩
   exact SqL.of (s2 _ _ (s1 _ _ hl))
  ·rintro i u Tt σ H' hi hu nT ⟨v,u',ps',rfl,s2,hD,ht',nin,org⟩
   rw [hlen] at hi
   obtain ⟨p,ep,hp⟩ := ht.get hi
   have eu : u = .ref p := by
    rw [qC_ ep] at hu
    exact (Option.some.inj hu).symm
   subst eu
   refine ⟨Tt,_,rfl,SqT.of qd_,rfl,_,_,rfl,_,_,rfl,rfl,?_⟩
   have s3 : Same H' (upd H' Tt (.tup [.int (i : Nat),.ref p])) := Same.new nT
   have nD2 : ∀ q ∈ ps',H' q = upd H' Tt (.tup [.int (i : Nat),.ref p]) q := fun q hq => by
    rw [qe_]
    intro z
    obtain ⟨j,hj⟩ := List.getElem?_of_mem hq
    rw [z] at hj
    rw [ht'.on j _ hj] at nT
    cases nT
   generalize (upd H' Tt (.tup [.int (i : Nat),.ref p])) = H2 at s3 nD2
   have hd2 : H2 hd = some (.lst (rowV ((rowT W t h).map fun s => GF.tm r w s c))) := s3 _ _ (s2 _ _ hhd)
   have hp2 : H2 p = some (.lst (rowV (rowT W t i))) := s3 _ _ (s2 _ _ (s1 _ _ hp))
   have hD2 : H2 D = some (.lst (ps'.map V.ref)) := s3 _ _ hD
   have s12 : Same H1 H2 := s2.trans s3
   have hip : t i pl < 2 ^ w := hlt i pl hi hpl
   have i8 : ps'.length < 8 := by rw [ht'.len]; omega
   have fin : ∀ p' H3,Same H2 H3 -> p' ≠ D -> (p' ∈ ps \/ H p' = none) -> H3 p' = some (.lst (rowV (rowT W (GF.clearT r w t h pl c) i))) -> ∃ (v u : Option V) (ps'' : List Addr),[some (V.ref fp),some (.ref l),some (.int h),some (.int pl),some (.ref hd),some (.ref D),some (.int (i : Nat)),some (.ref p)] = [some (.ref fp),some (.ref l),some (.int h),some (.int pl),some (.ref hd),some (.ref D),v,u] /\ Same H1 (upd H3 D (.lst (ps'.map V.ref ++ [.ref p']))) /\ (upd H3 D (.lst (ps'.map V.ref ++ [.ref p']))) D = some (.lst (ps''.map V.ref)) /\ TabAt (upd H3 D (.lst (ps'.map V.ref ++ [.ref p']))) ps'' (i + 1) (rowT W (GF.clearT r w t h pl c)) /\ D ∉ ps'' /\ ∀ p ∈ ps'',p ∈ ps \/ H p = none := fun p' H3 s4 nz hor hp' => by
    refine ⟨_,_,ps' ++ [p'],rfl,(s12.trans s4).up nD,?_,ht'.snoc (fun q hq => ?_) ?_,?_,fun q hq => (List.mem_append.mp hq).elim (org q) fun z => by rw [List.mem_singleton.mp z]; exact hor⟩
    ·rw [qd_,List.map_append]
     rfl
    ·have nq : q ≠ D := fun z => nin (by rw [<- z]; exact hq)
     rw [qe_ nq]
     obtain ⟨j,hj⟩ := List.getElem?_of_mem hq
     have e1 := ht'.on j _ hj
     rw [e1,s4 _ _ (s3 _ _ e1)]
    ·rw [qe_ nz]
     exact hp'
    ·intro z
     rcases List.mem_append.mp z with z | z
     ·exact nin z
     ·exact nz (List.mem_singleton.mp z).symm
   have fits : (ps'.map V.ref).length < sizeLine := Nat.lt_trans (by rw [List.length_map]; exact i8) (by decide)
   refine ⟨_,rfl,_,rfl,rfl,_,rfl,?_⟩
   refine ite2 (fun z => ?_) (fun z => ?_)
   ·have z' : i = h := by
     have := V.int.inj (of_decide_eq_true z)
     omega
    refine ⟨_,rfl,.inl ⟨rfl,_,SqL.of hD2⟩,_,rfl,D,_,_,rfl,rfl,hD2,fits,?_⟩
    refine fin hd H2 (Same.refl _) (ql_ hhd nD) (.inr nhd) ?_
    rw [hd2,z']
    congr 3
    unfold rowT
    rw [List.map_map]
    exact List.map_congr_left fun k _ => by unfold GF.clearT; rw [if_pos rfl]; rfl
   ·have z' : i ≠ h := fun e => z (decide_eq_true (by rw [e]))
    have gi := qq_ (qW_ (row := rowT W t i) (i := pl) (by rw [qs_]; exact hpl))
    rw [qX_ hpl] at gi
    refine ⟨_,rfl,_,rfl,p,_,_,_,rfl,rfl,SqL.of hp2,gi,rfl,_,rfl,?_⟩
    refine ite2 (fun y => ?_) (fun y => ?_)
    ·have y' : t i pl = 0 := by
      have := V.int.inj (of_decide_eq_true y)
      omega
     refine ⟨_,rfl,.inl ⟨rfl,_,SqL.of hD2⟩,_,rfl,D,_,_,rfl,rfl,hD2,fits,?_⟩
     refine fin p H2 (Same.refl _) (ql_ (s1 _ _ hp) nD) (.inl (List.mem_of_getElem? ep)) ?_
     rw [hp2]
     congr 3
     refine jM_ fun k _ => ?_
     unfold GF.clearT
     rw [if_neg z',y',GF.tm_zero,Nat.xor_zero]
    ·refine ⟨_,rfl,.inl ⟨rfl,_,SqL.of hD2⟩,_,rfl,_,rfl,_,rfl,_,rfl,p,_,_,_,rfl,rfl,SqL.of hp2,gi,_,rfl,?_⟩
     refine ⟨fp,hd,r,w,t i pl,_,rfl,hF.same (s1.trans s12),g,hd2,?_,?_,fun d3 H3 n3 s4 h3 => ?_⟩
     ·intro x hx
      obtain ⟨k,hk,rfl⟩ := List.mem_map.mp hx
      exact GF.tm_lt g.rule (yz_ (fun k hk => hlt h k hh hk) k hk)
     ·rw [List.length_map,qs_]
      omega
     ·refine ⟨p,d3,_,_,rfl,s4 _ _ hp2,h3,?_,?_,fun d4 H4 n4 s5 h4 => ?_⟩
      ·rw [List.length_map,List.length_map,qs_,qs_]
      ·rw [qs_]
       omega
      ·have hD4 := s5 _ _ (s4 _ _ hD2)
       refine ⟨D,_,_,rfl,rfl,hD4,fits,?_⟩
       refine fin d4 H4 (s4.trans s5) (fun e => ?_) (.inr ((s1.trans (s12.trans s4)).free n4)) ?_
       ·rw [e,s4 _ _ hD2] at n4
        cases n4
       ·rw [h4]
        congr 3
        unfold rowT
        rw [List.map_map,List.map_map]
        apply List.ext_getElem
        ·simp
        ·intro k k1 k2
         simp [GF.clearT,z']
  ·rintro σ H' ⟨v,u,ps',rfl,s2,hD,ht',nin,org⟩
   rw [hlen] at ht'
   exact ⟨_,rfl,q D H' ps' (s1.free nD) (s1.trans s2) hD ht' org⟩
def qdx_ (K : PySem.W.Frag) : Sp := fun vs H Q _ => ∃ (l hl : Addr) (m pl M W : Nat) (ps : List Addr) (hs : List Nat) (T : Nat -> Nat -> Nat),vs = [.ref l,.ref hl,.int m,.int pl] /\ H l = some (.lst (ps.map V.ref)) /\ TabAt H ps M (rowT W T) /\ H hl = some (.lst (rowV hs)) /\ hs.length <= M /\ pl < m /\ m <= 30 /\ m <= W /\ M <= 8 /\ (∀ p ∈ hs,p < m) ∧
 ∀ D H',H D = none -> Same H H' -> H' D = some (.lst (rowV ((List.range m).map (GF.makeX T hs pl hs.length)))) -> Q (.ref D) H'
theorem qbj_ (T : Txt K mg a) : FnO P wo K mg base 2 a.f13 ["lines", "heads", "many", "place"] (qdx_ K) := by
 refine T.x13.F.okA (k := 1) sc_free_make (fun cdv A outer s H vs Q E hr h => ?_)
 ·obtain ⟨l,hl,m,pl,M,W,ps,hs,t,rfl,h1,ht,h2,hhM,hpl,hm,hmW,hM8,hhs,q⟩ := h
  refine ⟨_,(qb_ (qj_ (i := 4) sc_free_make.nd rfl (Or.inl rfl) (qt_ (qc4_ T) hr.u rfl T.x6.m T.x6.k T.x6.b .nil qn_ (qa_ (pv 2) (qa_ (pv 3) qc_))))
   (qb_ (qD_ PassesOwn.never rfl (zU_ rfl T.n_zip (qa_ (pv 1) (qa_ (pv 0) qc_))) (yh_ rfl (qM_ (qm_ (i := 5) sc_free_make.nd rfl (Or.inl rfl)) (qM_ (qm_ (i := 6) sc_free_make.nd rfl (Or.inl rfl)) jw_))) (qf_ (jF_ (qx_ qy_ (pv 6) (pv 3) (fun _ _ => rfl)) (jO_ (pv 4) (pv 5) jt_))))
   (qf_ (qo_ (pv 4))))),?_⟩
  refine ⟨_,rfl,_,rfl,m,pl,rfl,hpl,hm,fun D H1 nD s1 hD => ?_⟩
  refine ⟨_,rfl,_,rfl,hl,l,_,_,rfl,SqL.of (s1 _ _ h2),SqL.of (s1 _ _ h1),?_⟩
  have hlen : (rowV hs).length = hs.length := qi_ hs
  refine qgy_ (xs := rowV hs) (fun i σ H' => ∃ (v u : Option V),σ = [some (.ref l),some (.ref hl),some (.int m),some (.int pl),some (.ref D),v,u] /\ Same H H' /\ H' D = some (.lst (rowV ((List.range m).map (GF.makeX t hs pl i)))))
   ⟨none,none,rfl,s1,?_⟩ ?_ ?_ ?_ ?_
  ·rw [hD]
   congr 3
   unfold j4_
   apply List.ext_getElem
   ·simp
   ·intro k k1 k2
    rw [List.getElem_set]
    simp [GF.makeX]
    by_cases z : pl = k
    ·rw [if_pos z,if_pos z.symm]
    ·rw [if_neg z,if_neg (fun e => z e.symm)]
  ·rintro i σ H' hi ⟨v,u,rfl,s2,hD'⟩
   exact ⟨SqL.of (s2 _ _ h2),SqL.of (s2 _ _ h1)⟩
  ·rw [hlen,List.length_map,ht.len]
   exact hhM
  ·rintro i x y Tt σ H' hi hx hy nT ⟨v,u,rfl,s2,hD'⟩
   rw [hlen] at hi
   refine ⟨Tt,_,rfl,SqT.of qd_,rfl,_,_,rfl,_,_,rfl,rfl,?_⟩
   obtain ⟨xh,exh,rfl⟩ := qV_ hx
   obtain ⟨p,ep,hp⟩ := ht.get (i := i) (by omega)
   have ey : y = .ref p := by
    rw [qC_ ep] at hy
    exact (Option.some.inj hy).symm
   subst ey
   have s3 : Same H' (upd H' Tt (.tup [.int (xh : Nat),.ref p])) := Same.new nT
   generalize (upd H' Tt (.tup [.int (xh : Nat),.ref p])) = H2 at s3
   have gi := qq_ (qW_ (row := rowT W t i) (i := pl) (by rw [qs_]; omega))
   rw [qX_ (by omega)] at gi
   have hxm : xh < m := hhs xh (List.mem_of_getElem? exh)
   refine ⟨_,rfl,_,rfl,p,_,_,_,rfl,rfl,SqL.of (s3 _ _ (s2 _ _ hp)),gi,?_⟩
   refine ⟨_,rfl,_,rfl,D,_,_,xh,rfl,rfl,s3 _ _ hD',jE_ (by rw [qi_,List.length_map,List.length_range]; exact hxm),?_⟩
   refine ⟨_,_,rfl,(s2.trans s3).up nD,?_⟩
   rw [qd_,vO_]
   congr 3
   have eh : hs.getD i 0 = xh := by rw [List.getD_eq_getElem?_getD,exh]; rfl
   apply List.ext_getElem
   ·simp
   ·intro k k1 k2
    rw [List.getElem_set]
    simp [GF.makeX,exh]
    by_cases z : xh = k
    ·rw [if_pos z,if_pos z.symm]
    ·rw [if_neg z,if_neg (fun e => z e.symm)]
  ·rintro σ H' ⟨v,u,rfl,s2,hD'⟩
   rw [hlen] at hD'
   exact ⟨_,rfl,q D H' nD s2 hD'⟩
structure Reck (r w N M : Nat) (l : Nat -> Nat -> Nat) (ks : List Bool) (pl : Nat) (by' : List Nat) : Prop where
 len : by'.length = M
 lt : ∀ x ∈ by',x < 2 ^ w
 ok : ∀ k,k < N -> ks[k]? = some false -> GF.dot r w M (fun j => l j k) (fun j => by'.getD j 0) = if k = pl then 1 else 0
structure Free (r w N M : Nat) (l : Nat -> Nat -> Nat) (ks : List Bool) (pl : Nat) (mk : List Nat) : Prop where
 len : mk.length = N
 lt : ∀ x ∈ mk,x < 2 ^ w
 one : mk.getD pl 0 = 1
 zero : ∀ k,k < N -> ks[k]? = some true -> mk.getD k 0 = 0
 ok : ∀ j,j < M -> GF.dot r w N (l j) (fun k => mk.getD k 0) = 0
def qfr_ (H : Hp) (D : Addr) (r w N M : Nat) (l : Nat → Nat → Nat) (ks : List Bool) (pl : Nat) : Prop := (∃ e by',H D = some (.tup [.str "reckoned",.ref e]) ∧ H e = some (.lst (rowV by')) ∧ Reck r w N M l ks pl by') ∨ (∃ e mk,H D = some (.tup [.str "free",.ref e]) ∧ H e = some (.lst (rowV mk)) ∧ Free r w N M l ks pl mk)
def qkq_ (K : PySem.W.Frag) (a : Adr) : Sp := fun vs H Q _ => ∃ (fp L kn : Addr) (r w N M pl : Nat) (pL : List Addr) (l : Nat -> Nat -> Nat) (ks : List Bool),vs = [.ref fp,.ref L,.ref kn,.int pl] /\ FieldAt a.C_Field H fp r w /\ GF.Full r w /\ H L = some (.lst (pL.map V.ref)) /\ TabAt H pL M (rowT N l) /\ (∀ i k,i < M -> k < N -> l i k < 2 ^ w) /\ H kn = some (.lst (knV ks)) /\ ks.length = N /\ N <= 12 /\ M <= 8 /\ pl < N /\ ks[pl]? = some false ∧
 (∀ D H',Same H H' -> H D = none -> qfr_ H' D r w N M l ks pl -> (∀ t e,H' D = some (.tup [t,.ref e]) -> H e = none) -> Q (.ref D) H')
theorem qdy_ (T : Txt K mg a) : FnO P wo K mg base 6 a.f12 ["field", "lines", "known", "place"] (qkq_ K a) := by
 refine T.x12.F.okA (k := 5) sc_told_of (fun cdv A outer s H vs Q E hr h => ?_)
 ·obtain ⟨fp,L,kn,r,w,N,M,pl,pL,l,ks,rfl,hF,g,hL,ht,hlt,hkn,hks,hN,hM,hpl,hkp,q⟩ := h
  have q1 := fun D e by' H' s n ne h1 h2 h3 => q D H' s n (.inl ⟨e,by',h1,h2,h3⟩) (fun t e' h => by rw [h1] at h; cases h; exact ne)
  have q2 := fun D e mk H' s n ne h1 h2 h3 => q D H' s n (.inr ⟨e,mk,h1,h2,h3⟩) (fun t e' h => by rw [h1] at h; cases h; exact ne)
  refine ⟨_,(qb_ (qz_ (PW.pt (jv_ (qp_ yW_ (pv 3) qg_ (qr_ _)) (jv_ (qp_ qid_ (pv 3) (qw_ qu_ rfl T.n_len PySem.boot_len (qa_ (pv 2) qc_)) (qr_ _)) (jp_ (qZ_ (qx_ qy_ (pv 2) (pv 3) (fun _ _ => rfl))))))) (qf_ jj_) qv_)
   (qb_ (jK_ (i := 4) sc_told_of.nd rfl (Or.inl rfl) (CompOk.of (cap := [1]) (own := ["at", "line"]) (by kernel_rfl)) rfl (vm_ rfl T.n_enumerate (qa_ (pv 1) qc_)) (fun _ _ _ _ _ => (vn_ (n := 2) (K := K) rfl rfl (qM_ (qm_ (i := 1) (of_decide_eq_true (by kernel_rfl)) rfl (Or.inl rfl)) (qM_ (qm_ (i := 2) (of_decide_eq_true (by kernel_rfl)) rfl (Or.inl rfl)) jw_)))) (fun _ _ _ _ _ => qY_) (fun _ _ _ _ _ => by exact (qk_ zR_ (pv 2) (qt_ (qc4_ T) hr.u rfl T.x6.m T.x6.k T.x6.b .nil qn_ (qa_ (qw_ (qaf_ (K := K) rfl) rfl T.n_len PySem.boot_len (qa_ (pv 0) qc_)) (qa_ (pv 1) qc_))))))
   (qb_ (qj_ (i := 5) sc_told_of.nd rfl (Or.inl rfl) (qI_ qc_))
   (qb_ (qD_ PassesOwn.never rfl (qF_ rfl T.n_range (qa_ (qw_ qu_ rfl T.n_len PySem.boot_len (qa_ (pv 2) qc_)) qc_)) (qm_ (i := 6) sc_told_of.nd rfl (Or.inl rfl)) (qb_ (qz_ (PW.pt (jv_ (qZ_ (qx_ qy_ (pv 2) (pv 6) (fun _ _ => rfl))) (jp_ (qp_ q6_ (pv 6) (pv 3) (qr_ _))))) (qf_ qbu_) qv_)
   (qb_ (qj_ (i := 7) sc_told_of.nd rfl (Or.inl rfl) (qt_ (zL_ T) hr.u rfl T.x9.m T.x9.k T.x9.b .nil qn_ (qa_ (pv 4) (qa_ (qw_ qu_ rfl T.n_len PySem.boot_len (qa_ (pv 5) qc_)) (qa_ (pv 6) qc_)))))
   (qf_ (qz_ (qp_ jx_ (pv 7) qK_ (qr_ _)) (qb_ (qj_ (i := 4) sc_told_of.nd rfl (Or.inl rfl) (qt_ (ud_ T) hr.u rfl T.x11.m T.x11.k T.x11.b .nil qn_ (qa_ (pv 0) (qa_ (qt_ (qdw_ T) hr.u rfl T.x10.m T.x10.k T.x10.b .nil qn_ (qa_ (pv 4) (qa_ (qw_ qu_ rfl T.n_len PySem.boot_len (qa_ (pv 5) qc_)) (qa_ (pv 7) qc_)))) (qa_ (qw_ qu_ rfl T.n_len PySem.boot_len (qa_ (pv 5) qc_)) (qa_ (pv 6) qc_))))))
   (qf_ (qN_ (jm_ PySem.F.plainAttrs_list PySem.F.slot_list_append PySem.F.type_list_append qJ_ (pv 5) (qa_ (pv 6) qc_))))) qv_)))))
   (qb_ (qj_ (i := 7) sc_told_of.nd rfl (Or.inl rfl) (qt_ (zL_ T) hr.u rfl T.x9.m T.x9.k T.x9.b .nil qn_ (qa_ (pv 4) (qa_ (qw_ qu_ rfl T.n_len PySem.boot_len (qa_ (pv 5) qc_)) (qa_ (pv 3) qc_)))))
   (qb_ (qz_ (qp_ yi_ (pv 7) qK_ (qr_ _)) (qf_ (qo_ (j1_ (qa_ vX_ (qa_ (qt_ (qbj_ T) hr.u rfl T.x13.m T.x13.k T.x13.b .nil qn_ (qa_ (pv 4) (qa_ (pv 5) (qa_ (qw_ qu_ rfl T.n_len PySem.boot_len (qa_ (pv 2) qc_)) (qa_ (pv 3) qc_))))) qc_))))) qv_)
   (qb_ (qj_ (i := 8) sc_told_of.nd rfl (Or.inl rfl) (yG_ zg_ (qx_ qy_ (qt_ (ud_ T) hr.u rfl T.x11.m T.x11.k T.x11.b .nil qn_ (qa_ (pv 0) (qa_ (pv 4) (qa_ (pv 7) (qa_ (pv 3) qc_))))) (pv 7) (fun _ _ => rfl)) (zf_ (qw_ qu_ rfl T.n_len PySem.boot_len (qa_ (pv 2) qc_))) ze_))
   (qf_ (qo_ (j1_ (qa_ vX_ (qa_ (pv 8) qc_)))))))))))),?_⟩
  have hS : SqL K H kn (knV ks) := SqL.of hkn
  have hkl : (knV ks).length = N := by unfold knV; rw [List.length_map,hks]
  have hkat : ∀ {k : Nat} {b : Bool},ks[k]? = some b -> (knV ks)[k]? = some (.bl b) := fun {k b} e => by unfold knV; rw [List.getElem?_map,e]; rfl
  have hLl : (pL.map V.ref).length = M := by rw [List.length_map,ht.len]
  refine ⟨_,rfl,_,_,rfl,rfl,_,rfl,?_⟩
  refine ite2 (fun z => ?_) (fun _ => ?_)
  ·have := of_decide_eq_true z
   omega
  refine ⟨_,rfl,_,rfl,kn,_,rfl,.inl hS,_,_,rfl,rfl,_,rfl,?_⟩
  refine ite2 (fun z => ?_) (fun _ => ?_)
  ·have := of_decide_eq_true z
   rw [hkl] at this
   omega
  refine ⟨_,rfl,_,rfl,kn,_,_,_,rfl,rfl,hS,qq_ (hkat hkp),_,rfl,?_⟩
  refine ite2 (fun z => absurd z (by decide)) (fun _ => ?_)
  refine ⟨_,rfl,L,_,rfl,SqL.of hL,fun D nD => ?_⟩
  refine qdr_ (xs := pL.map V.ref) (row := fun i => rowV (rowT N l i ++ j4_ M i)) (cs := [some (.ref L)]) (SqL.of hL) nD rfl (Nat.le_trans (by rw [hLl]; exact hM) (by decide : 8 <= sizeLine)) (fun i u H2 R2 hu s2 hR => ?_) (fun ps H1 s1 hD hrows hfree hDn => ?_)
  ·have hi : i < M := by
    rw [<- hLl]
    exact (List.getElem?_eq_some_iff.mp hu).1
   obtain ⟨p,ep,hp⟩ := ht.get hi
   have eu : u = .ref p := by
    rw [qC_ ep] at hu
    exact (Option.some.inj hu).symm
   subst eu
   refine ⟨_,rfl,_,rfl,L,_,rfl,.inl (s2.seq (SqL.of hL)),_,rfl,?_⟩
   try dsimp only
   rw [hLl]
   refine ⟨M,i,rfl,hi,by omega,fun D3 H3 n3 s3 h3 => ?_⟩
   refine ⟨p,D3,_,_,rfl,rfl,s3 _ _ (s2 _ _ hp),h3,?_,fun D4 n4 => ?_⟩
   ·rw [qi_,qi_,qs_,z8_]
    exact Nat.le_trans (by omega : N + M <= 30) (by decide)
   ·refine hR D4 _ (s3.free n4) (s3.trans (Same.new n4)) ?_
    rw [qd_,y7_]
  ·have ht1 : TabAt H1 ps M (rowT (N + M) fun i k => (rowT N l i ++ j4_ M i).getD k 0) := by
    refine ⟨by rw [hrows.len,hLl],fun i p e => ?_⟩
    rw [hrows.on i p e,u6_ (by rw [List.length_append,qs_,z8_])]
   have tb := GF.Tab.start g hlt (T := fun i k => (rowT N l i ++ j4_ M i).getD k 0) (fun i k _ hk => qdv_ hk) (fun i j hi hj => qb5_ hj)
   generalize (fun i k => (rowT N l i ++ j4_ M i).getD k 0) = t0 at ht1 tb
   have hS1 := s1.seq hS
   refine ⟨by decide,fun Hd nH => ⟨_,rfl,kn,_,rfl,.inl ((Same.new nH).seq hS1),_,rfl,by rw [hkl]; omega,by rw [hkl]; omega,?_⟩⟩
   have en : (((knV ks).length : Nat) : Int).toNat = N := by rw [hkl]; omega
   rw [en]
   refine qQ_ (lo := 0) (n := N) (fun o σ H' => ∃ (v6 v7 : Option V) (S : Addr) (ps : List Addr) (hs : List Nat) (t : Nat -> Nat -> Nat),σ = [some (.ref fp),some (.ref L),some (.ref kn),some (.int pl),some (.ref S),some (.ref Hd),v6,v7,none] /\ Same H H' /\ H' S = some (.lst (ps.map V.ref)) /\ TabAt H' ps M (rowT (N + M) t) /\ GF.Tab r w N M l t /\ GF.Piv N M t hs (fun k => k < o /\ ks[k]? = some false /\ k ≠ pl) /\ H' Hd = some (.lst (rowV hs)) /\ S ≠ Hd /\ Hd ∉ ps /\ (∀ p ∈ hs,ks[p]? = some false /\ p ≠ pl))
    ⟨none,none,D,ps,[],t0,rfl,(s1.trans (Same.new nH)),by rw [qe_ (ql_ hD nH)]; exact hD,ht1.same (Same.new nH),tb,GF.Piv.start.weaken (fun k z => absurd z.1 (Nat.not_lt_zero k)),qd_,ql_ hD nH,hrows.ne nH,by simp⟩ ?_ ?_
   ·rintro o σ H' ho ⟨v6,v7,S,ps,hs,t,rfl,s2,hS2,ht2,tb,pv,hH,nSH,nin,hun⟩
    have ek : (0 : Int) + (o : Nat) = ((o : Nat) : Int) := by omega
    rw [ek]
    obtain ⟨b,eb⟩ : ∃ b,ks[o]? = some b := ⟨_,List.getElem?_eq_getElem (by rw [hks]; exact ho)⟩
    refine ⟨_,rfl,_,rfl,kn,_,_,_,rfl,rfl,s2.seq hS,qq_ (hkat eb),b,rfl,?_⟩
    refine ite2 (fun z => iteT ?_) (fun z => ?_)
    ·exact ⟨_,_,S,ps,hs,t,rfl,s2,hS2,ht2,tb,pv.weaken (fun k y => ⟨by
      have nk : k ≠ o := fun e => by
       rw [e,eb,z] at y
       exact absurd (Option.some.inj y.2.1) (by decide)
      omega,y.2⟩),hH,nSH,nin,hun⟩
    ·have eb' : ks[o]? = some false := by
      rw [eb]
      cases b
      ·rfl
      ·exact absurd rfl z
     refine ⟨_,rfl,_,rfl,rfl,_,rfl,?_⟩
     refine ite2 (fun z => ?_) (fun z => ?_)
     ·exact ⟨_,_,S,ps,hs,t,rfl,s2,hS2,ht2,tb,pv.weaken (fun k y => ⟨by
       have nk : k ≠ o := fun e => y.2.2 (by
        have := V.int.inj (of_decide_eq_true z)
        omega)
       omega,y.2⟩),hH,nSH,nin,hun⟩
     ·have nop : o ≠ pl := fun e => z (decide_eq_true (by rw [e]))
      refine ⟨_,rfl,_,rfl,Hd,_,rfl,.inl (SqL.of hH),_,rfl,?_⟩
      try dsimp only
      rw [qi_]
      refine ⟨S,hs.length,o,M,ps,rowT (N + M) t,rfl,hS2,ht2,fun i _ => by rw [qs_]; omega,pv.hl,hM,fun f h1 h2 h3 => ?_,fun h0 => ?_⟩
      ·rw [qX_ (by omega)] at h3
       refine ⟨_,rfl,rfl,_,rfl,?_⟩
       refine ite2 (fun _ => ?_) (fun z => absurd qb6_ z)
       refine ⟨_,rfl,_,rfl,_,rfl,Hd,_,rfl,.inl (SqL.of hH),_,rfl,?_⟩
       try dsimp only
       rw [qi_]
       refine ⟨S,hs.length,f,M,ps,rowT (N + M) t,rfl,hS2,ht2,by omega,h2,hM,fun D5 H5 ps5 n5 s5 hD5 ht5 org5 => ?_⟩
       refine ⟨_,rfl,Hd,_,rfl,.inl (SqL.of (s5 _ _ hH)),_,rfl,?_⟩
       try dsimp only
       rw [qi_]
       have tsw := tb.swap (h := hs.length) (f := f) (by omega) h2
       have eT : GF.swapT t hs.length f hs.length o = t f o := by unfold GF.swapT; rw [if_pos rfl]
       have ht5' : TabAt H5 ps5 M (rowT (N + M) (GF.swapT t hs.length f)) := ht5.congr fun i _ => by
        unfold GF.swapT
        by_cases z1 : i = hs.length
        ·rw [if_pos z1]
         exact jM_ fun k _ => by rw [if_pos z1]
        ·rw [if_neg z1]
         by_cases z2 : i = f
         ·rw [if_pos z2]
          exact jM_ fun k _ => by rw [if_neg z1,if_pos z2]
         ·rw [if_neg z2]
          exact jM_ fun k _ => by rw [if_neg z1,if_neg z2]
       refine ⟨fp,D5,r,w,hs.length,o,M,N + M,ps5,GF.swapT t hs.length f,rfl,hF.same (s2.trans s5),g.toGood,hD5,ht5',tsw.lt,by omega,by omega,by omega,hM,by rw [eT]; exact h3,fun D6 H6 ps6 n6 s6 hD6 ht6 org6 => ?_⟩
       rw [eT] at ht6
       have t3 : t f o < 2 ^ w := tb.lt f o h2 (by omega)
       have hc := GF.pw_lt g.toGood t3 (2 ^ w - 1 - 1)
       have hinv := GF.pw_back g (Nat.pos_of_ne_zero h3) t3
       have hc0 : GF.pw r w (t f o) (2 ^ w - 1 - 1) ≠ 0 := fun z => by
        rw [z,GF.tm_zero] at hinv
        exact absurd hinv (by decide)
       have tcl := tsw.clear g hlt (h := hs.length) (p := o) (by omega) ho hc hc0
       have pv2 := pv.step g tb (p := o) ho h1 h2 hc hinv
       generalize GF.clearT r w (GF.swapT t hs.length f) hs.length o (GF.pw r w (t f o) (2 ^ w - 1 - 1)) = t6 at ht6 tcl pv2
       have hH5 := s5 _ _ hH
       have hH6 := s6 _ _ hH5
       have nin6 : Hd ∉ ps6 := fun z => (org6 Hd z).elim (fun y => nin (org5 Hd y)) fun y => by rw [hH5] at y; cases y
       have nD6 : D6 ≠ Hd := fun z => by rw [z,hH5] at n6; cases n6
       refine ⟨_,rfl,.inl ⟨rfl,_,SqL.of hH6⟩,_,rfl,Hd,_,_,rfl,rfl,hH6,?_,?_⟩
       ·rw [qi_]
        exact Nat.lt_trans (by omega : hs.length < 8) (by decide)
       ·refine ⟨_,_,D6,ps6,hs ++ [o],t6,rfl,(s2.trans (s5.trans s6)).up (s1.free nH),?_,ht6.upd nin6,tcl,pv2.weaken (fun k y => ?_),?_,nD6,nin6,fun p hp => ?_⟩
        ·rw [qe_ nD6]
         exact hD6
        ·by_cases z : k = o
         ·exact .inr z
         ·exact .inl ⟨by omega,y.2⟩
        ·rw [qd_,q5_]
        ·rcases List.mem_append.mp hp with y | y
         ·exact hun p y
         ·rw [List.mem_singleton.mp y]
          exact ⟨eb',nop⟩
      ·refine ⟨_,rfl,rfl,_,rfl,?_⟩
       refine ite2 (fun z => absurd z (by decide)) (fun _ => ?_)
       refine ⟨_,_,S,ps,hs,t,rfl,s2,hS2,ht2,tb,(pv.skip (p := o) fun i h1 h2 => ?_).weaken (fun k y => ?_),hH,nSH,nin,hun⟩
       ·rw [<- h0 i h1 h2,qX_ (by omega)]
       ·by_cases z : k = o
        ·exact .inr z
        ·exact .inl ⟨by omega,y.2⟩
   ·rintro σ H' ⟨v6,v7,S,ps,hs,t,rfl,s2,hS2,ht2,tb,pv,hH,nSH,nin,hun⟩
    refine ⟨_,rfl,_,rfl,Hd,_,rfl,.inl (SqL.of hH),_,rfl,?_⟩
    try dsimp only
    rw [qi_]
    have hS3 := s2.seq hS
    have hlthd : ∀ p ∈ hs,p < N := fun p hp => by
     obtain ⟨j,hj⟩ := List.getElem?_of_mem hp
     exact pv.lt j p hj
    refine ⟨S,hs.length,pl,M,ps,rowT (N + M) t,rfl,hS2,ht2,fun i _ => by rw [qs_]; omega,pv.hl,hM,fun f h1 h2 h3 => ?_,fun h0 => ?_⟩
    ·rw [qX_ (by omega)] at h3
     refine ⟨_,rfl,rfl,_,rfl,?_⟩
     refine ite2 (fun z => absurd (of_decide_eq_true z) (fun y => by cases y)) (fun _ => ?_)
     refine ⟨_,rfl,_,rfl,_,rfl,_,rfl,?_⟩
     refine ⟨fp,S,r,w,f,pl,M,N + M,ps,t,rfl,hF.same s2,g.toGood,hS2,ht2,tb.lt,by omega,by omega,h2,hM,h3,fun D6 H6 ps6 n6 s6 hD6 ht6 org6 => ?_⟩
     have t3 : t f pl < 2 ^ w := tb.lt f pl h2 (by omega)
     have hinv := GF.pw_back g (Nat.pos_of_ne_zero h3) t3
     generalize hce : GF.pw r w (t f pl) (2 ^ w - 1 - 1) = c at ht6 hinv
     obtain ⟨p6,e6,hp6⟩ := ht6.get h2
     refine ⟨_,rfl,D6,_,_,_,rfl,rfl,SqL.of hD6,qq_ (qC_ e6),_,rfl,kn,_,rfl,.inl (s6.seq hS3),_,rfl,p6,_,rfl,SqL.of hp6,fun D7 n7 => ?_⟩
     rw [hkl,qfn_ (by rw [qs_]; omega)]
     have s27 := s2.trans (s6.trans (Same.new (o := .lst (rowV ((rowT (N + M) (GF.clearT r w t f pl c) f).drop N))) n7))
     refine ⟨_,rfl,(show 2 <= sizeLine by decide),fun D8 n8 => ?_⟩
     have n8' := s27.free n8
     refine q1 D8 D7 ((rowT (N + M) (GF.clearT r w t f pl c) f).drop N) _ (s27.trans (Same.new n8)) n8' ((s2.trans s6).free n7) qd_ (by rw [qe_ (ql_ qd_ n8)]; exact qd_) ?_
     have eby : ∀ j,j < M -> ((rowT (N + M) (GF.clearT r w t f pl c) f).drop N).getD j 0 = GF.tm r w (t f (N + j)) c := fun j hj => by
      rw [List.getD_eq_getElem?_getD,List.getElem?_drop,← List.getD_eq_getElem?_getD,qX_ (by omega)]
      unfold GF.clearT
      rw [if_pos rfl]
     have rk := GF.reckoned_ok g tb hlt pv h1 h2 hpl hinv
     refine ⟨by rw [List.length_drop,qs_]; omega,fun x hx => ?_,fun k hk e => ?_⟩
     ·have hx' := List.mem_of_mem_drop hx
      obtain ⟨k,hk,rfl⟩ := List.mem_map.mp hx'
      have hk' := List.mem_range.mp hk
      unfold GF.clearT
      rw [if_pos rfl]
      exact GF.tm_lt g.rule (tb.lt f k h2 hk')
     ·rw [GF.dot_congr M (b := fun j => l j k) (y := fun j => GF.tm r w (t f (N + j)) c) fun j hj => ⟨rfl,eby j hj⟩]
      by_cases z : k = pl
      ·rw [if_pos z,z]
       exact rk.1
      ·rw [if_neg z]
       exact rk.2 k hk ⟨hk,e,z⟩
    ·refine ⟨_,rfl,rfl,_,rfl,?_⟩
     refine ite2 (fun _ => ?_) (fun z => absurd rfl z)
     refine ⟨_,rfl,_,rfl,_,rfl,kn,_,rfl,.inl hS3,_,rfl,?_⟩
     try dsimp only
     rw [hkl]
     refine ⟨S,Hd,N,pl,M,N + M,ps,hs,t,rfl,hS2,ht2,hH,pv.hl,hpl,by omega,by omega,hM,hlthd,fun D7 H7 n7 s7 h7 => ?_⟩
     refine ⟨(show 2 <= sizeLine by decide),fun D8 n8 => ?_⟩
     have n8' := (s2.trans s7).free n8
     have nget : ∀ s,s < hs.length -> hs.getD s 0 ∈ hs := fun s hs' => List.mem_of_getElem? (GF.getD_at hs')
     have hnp : ∀ s,s < hs.length -> hs.getD s 0 ≠ pl := fun s hs' => (hun _ (nget s hs')).2
     have hz : ∀ i,hs.length <= i -> i < M -> t i pl = 0 := fun i h1 h2 => by
      rw [<- h0 i h1 h2,qX_ (by omega)]
     have fr := GF.free_ok g tb pv hpl hnp hz
     have gx : ∀ k,k < N -> ((List.range N).map (GF.makeX t hs pl hs.length)).getD k 0 = GF.makeX t hs pl hs.length k := fun k hk => by
      rw [List.getD_eq_getElem?_getD,List.getElem?_map,List.getElem?_range hk]
      rfl
     refine q2 D8 D7 ((List.range N).map (GF.makeX t hs pl hs.length)) _ ((s2.trans s7).trans (Same.new n8)) n8' (s2.free n7) qd_ (by rw [qe_ (ql_ h7 n8)]; exact h7) ⟨by rw [List.length_map,List.length_range],fun x hx => ?_,?_,fun k hk e => ?_,fun j hj => ?_⟩
     ·obtain ⟨k,hk,rfl⟩ := List.mem_map.mp hx
      exact GF.makeX_lt g tb pv hpl k _ (Nat.le_refl _)
     ·rw [gx pl hpl]
      exact GF.makeX_place _ (Nat.le_refl _) hnp
     ·rw [gx k hk]
      refine GF.makeX_none (fun z => ?_) _ (Nat.le_refl _) fun s hs' z => ?_
      ·rw [z,hkp] at e
       exact absurd (Option.some.inj e) (by decide)
      ·have := (hun _ (nget s hs')).1
       rw [z,e] at this
       exact absurd (Option.some.inj this) (by decide)
     ·exact (GF.dot_congr N fun k hk => ⟨rfl,gx k hk⟩).trans (fr j hj)
theorem qbk_ {K : PySem.W.Frag} {H : Hp} : ∀ {xs : List V} {ds : List Dt},xs.length = ds.length -> (∀ (i : Nat) v d,xs[i]? = some v -> ds[i]? = some d -> Sees K H v d) -> SeesL K H xs ds
 | [],[],_,_ => by rw [SeesL]
 | v :: xs,d :: ds,hl,h => by
  rw [SeesL]
  exact ⟨v,xs,rfl,h 0 v d rfl rfl,qbk_ (by simpa using hl) fun i u e h1 h2 => h (i + 1) u e (by simpa using h1) (by simpa using h2)⟩
 | [],_ :: _,hl,_ => by simp at hl
 | _ :: _,[],hl,_ => by simp at hl
theorem qbl_ {n : Nat} : ∀ {ds : List Dt},(∀ d ∈ ds,depD d <= n) -> yg_ ds <= n
 | [],_ => by rw [yg_]; exact Nat.zero_le _
 | d :: ds,h => by
  rw [yg_]
  have h1 := h d (List.mem_cons_self)
  have h2 := qbl_ (ds := ds) fun e he => h e (List.mem_cons_of_mem _ he)
  omega
theorem yA_ {n i : Nat} {row : List Nat} (h : ∀ x ∈ row,x < n) (hi : i < row.length) : row.getD i 0 < n := by
 rw [List.getD_eq_getElem?_getD,List.getElem?_eq_getElem hi]
 exact h _ (List.getElem_mem hi)
def qfs_ : Sp := fun vs H Q _ => ∃ (L : Addr) (ps : List Addr) (M N : Nat) (l : Nat -> Nat -> Nat),vs = [.ref L] /\ H L = some (.lst (ps.map V.ref)) /\ TabAt H ps M (rowT N l) /\ 1 <= M /\ M <= 2 /\ 1 <= N /\ N + M <= 8 /\ Q .non H
theorem vP_ (T : Txt K mg a) : FnO P wo K mg base 1 a.f19 ["weights"] qfs_ := by
 refine T.x19.F.okA (k := 0) sc_check_lengths (fun cdv A outer s H vs Q E hr h => ?_)
 ·obtain ⟨L,ps,M,N,l,rfl,hL,ht,h1,h2,h3,h4,q⟩ := h
  have el : (ps.map V.ref).length = M := by rw [List.length_map,ht.len]
  have er : ∀ i,(rowV (rowT N l i)).length = N := fun i => by rw [qi_,qs_]
  obtain ⟨p0',e0,hp0⟩ := ht.get (i := 0) (by omega)
  refine ⟨_,(qb_ (qz_ (PW.pt (jv_ (qp_ yW_ (qw_ qu_ rfl T.n_len PySem.boot_len (qa_ (pv 0) qc_)) qg_ (qr_ _)) (jp_ (qp_ j0_ (qw_ qu_ rfl T.n_len PySem.boot_len (qa_ (pv 0) qc_)) (y9_ (v := .int 2) rfl T.v_MOST_SUMS ⟨_,rfl⟩) (qr_ _))))) (qf_ jj_) qv_)
   (qb_ (qj_ (i := 1) sc_check_lengths.nd rfl (Or.inl rfl) (qw_ qu_ rfl T.n_len PySem.boot_len (qa_ (qx_ qy_ (pv 0) qg_ (fun _ _ => rfl)) qc_)))
   (qb_ (qz_ (PW.pt (jv_ (qp_ yW_ (pv 1) qg_ (qr_ _)) (jp_ (qp_ j0_ (qk_ qO_ (pv 1) (qw_ qu_ rfl T.n_len PySem.boot_len (qa_ (pv 0) qc_))) (y9_ (v := .int 8) rfl T.v_MOST_ROLES ⟨_,rfl⟩) (qr_ _))))) (qf_ jj_) qv_)
   (qf_ (qD_ PassesOwn.never rfl (qH_ (pv 0)) (qm_ (i := 2) sc_check_lengths.nd rfl (Or.inl rfl)) (qf_ (qz_ (qp_ zq_ (qw_ qu_ rfl T.n_len PySem.boot_len (qa_ (pv 2) qc_)) (pv 1) (qr_ _)) (qf_ jj_) qv_))))))),?_⟩
  refine ⟨_,rfl,L,_,rfl,.inl (SqL.of hL),_,_,rfl,rfl,_,rfl,?_⟩
  refine ite2 (fun y => absurd (of_decide_eq_true y) (by rw [el]; omega)) (fun _ => ?_)
  refine ⟨_,rfl,L,_,rfl,.inl (SqL.of hL),_,_,rfl,rfl,_,rfl,?_⟩
  refine ite2 (fun y => absurd (of_decide_eq_true y) (by rw [el]; omega)) (fun _ => ?_)
  refine ⟨_,rfl,L,_,_,_,rfl,rfl,SqL.of hL,qq_ (j := 0) (qC_ e0),p0',_,rfl,.inl (SqL.of hp0),?_⟩
  try dsimp only
  rw [er 0]
  refine ⟨_,rfl,_,_,rfl,rfl,_,rfl,?_⟩
  refine ite2 (fun y => absurd (of_decide_eq_true y) (by omega)) (fun _ => ?_)
  refine ⟨_,rfl,_,rfl,L,_,rfl,.inl (SqL.of hL),_,_,rfl,rfl,_,_,rfl,rfl,_,rfl,?_⟩
  refine ite2 (fun y => absurd (of_decide_eq_true y) (by rw [el]; omega)) (fun _ => ?_)
  refine ⟨_,rfl,L,rfl,⟨_,SqL.of hL⟩,js_ (K := K) (a := L) (xs := ps.map V.ref) (fun i σ H' => (∃ v2 : Option V,σ = [some (.ref L),some (.int (N : Nat)),v2]) /\ H' = H) ⟨⟨none,rfl⟩,rfl⟩ ?_ ?_ ?_⟩
  ·rintro i σ H' _ ⟨_,rfl⟩
   exact SqL.of hL
  ·rintro i v σ H' hv ⟨⟨v2,rfl⟩,rfl⟩
   have hi : i < M := by rw [<- el]; exact (List.getElem?_eq_some_iff.mp hv).1
   obtain ⟨p,ep,hp⟩ := ht.get hi
   rw [qC_ ep] at hv
   cases Option.some.inj hv
   refine ⟨_,rfl,p,_,rfl,.inl (SqL.of hp),_,rfl,rfl,_,rfl,?_⟩
   refine ite2 (fun y => absurd y (qkn_ (by rw [er]))) (fun _ => ⟨⟨_,rfl⟩,rfl⟩)
  ·rintro σ H' ⟨⟨v2,rfl⟩,rfl⟩
   exact q
def qft_ (a : Adr) : Sp := fun vs H Q _ => ∃ (fp L : Addr) (r w : Nat) (ps : List Addr) (M N : Nat) (l : Nat -> Nat -> Nat),vs = [.ref fp,.ref L] /\ FieldAt a.C_Field H fp r w /\ GF.Good r w /\ H L = some (.lst (ps.map V.ref)) /\ TabAt H ps M (rowT N l) /\ (∀ i k,i < M -> k < N -> l i k < 2 ^ w) /\ 1 <= M /\ M <= 2 /\ 1 <= N /\ N <= 8 /\ (∀ i,i < M -> ∃ k,k < N /\ l i k ≠ 0) /\ (∀ k,k < N -> ∃ i,i < M /\ l i k ≠ 0) /\ ∀ H',Same H H' -> Q .non H'
theorem qc5_ {row : List Nat} {k : Nat} (hk : k < row.length) (h : row.getD k 0 ≠ 0) : ((row.map fun n : Nat => (n : Int)).any fun i => i != 0) = true := by
 rw [List.any_eq_true]
 refine ⟨((row.getD k 0 : Nat) : Int),List.mem_map.mpr ⟨row.getD k 0,?_,rfl⟩,?_⟩
 ·rw [List.getD_eq_getElem?_getD,List.getElem?_eq_getElem hk]
  exact List.getElem_mem hk
 ·simp only [bne_iff_ne,ne_eq]
  omega
theorem u7_ (row : List Nat) : rowV row = (row.map fun n : Nat => (n : Int)).map V.int := by
 unfold rowV
 rw [List.map_map]
 rfl
theorem vQ_ (T : Txt K mg a) : FnO P wo K mg base 1 a.f20 ["field", "weights"] (qft_ a) := by
 refine T.x20.F.okA (k := 0) sc_check_weights (fun cdv A outer s H vs Q E hr h => ?_)
 ·obtain ⟨fp,L,r,w,ps,M,N,l,rfl,hF,g,hL,ht,hlt,h1,h2,h3,h4,hrow,hcol,q⟩ := h
  obtain ⟨dF,hF'⟩ := id hF
  have t16 := g.top16
  have el : (ps.map V.ref).length = M := by rw [List.length_map,ht.len]
  have er : ∀ i,(rowV (rowT N l i)).length = N := fun i => by rw [qi_,qs_]
  obtain ⟨p0',e0,hp0⟩ := ht.get (i := 0) (by omega)
  refine ⟨_,(qb_ (qD_ PassesOwn.never rfl (qH_ (pv 1)) (qm_ (i := 2) sc_check_weights.nd rfl (Or.inl rfl)) (qb_ (qD_ PassesOwn.never rfl (qH_ (pv 2)) (qm_ (i := 3) sc_check_weights.nd rfl (Or.inl rfl)) (qf_ (qz_ (PW.pt (jv_ (qp_ yW_ (pv 3) qg_ (qr_ _)) (jp_ (qp_ j0_ (pv 3) (qA_ (pv 0) rfl) (qr_ _))))) (qf_ jj_) qv_)))
   (qf_ (qz_ (jk_ (qZ_ (qw_ (uX_ rfl) rfl T.n_any boot_any (qa_ (pv 2) qc_)))) (qf_ jj_) qv_))))
   (qf_ (qD_ PassesOwn.never rfl (qF_ rfl T.n_range (qa_ (qw_ qu_ rfl T.n_len PySem.boot_len (qa_ (qx_ qy_ (pv 1) qg_ (fun _ _ => rfl)) qc_)) qc_)) (qm_ (i := 4) sc_check_weights.nd rfl (Or.inr rfl)) (qf_ (qz_ (jk_ (qZ_ (qw_ (uX_ rfl) rfl T.n_any boot_any (qa_ (q4_ (CompOk.of (cap := [4]) (own := ["some"]) (by kernel_rfl)) rfl (qH_ (pv 1)) (fun _ _ _ _ _ => (qm_ (i := 1) (of_decide_eq_true (by kernel_rfl)) rfl (Or.inl rfl))) (fun _ _ _ _ _ => qY_) (fun _ _ _ _ _ => by exact (qx_ (ja_ (K := K) rfl) (pv 1) (pv 0) (fun _ _ => rfl)))) qc_)))) (qf_ jj_) qv_))))),?_⟩
  refine ⟨_,rfl,L,rfl,⟨_,SqL.of hL⟩,js_ (K := K) (a := L) (xs := ps.map V.ref) (fun i σ H' => (∃ v2 v3 v4 : Option V,σ = [some (.ref fp),some (.ref L),v2,v3,v4]) /\ H' = H) ⟨⟨none,none,none,rfl⟩,rfl⟩ ?_ ?_ ?_⟩
  ·rintro i σ H' _ ⟨_,rfl⟩
   exact SqL.of hL
  ·rintro i v σ H' hv ⟨⟨v2,v3,v4,rfl⟩,rfl⟩
   have hi : i < M := by rw [<- el]; exact (List.getElem?_eq_some_iff.mp hv).1
   obtain ⟨p,ep,hp⟩ := ht.get hi
   rw [qC_ ep] at hv
   cases Option.some.inj hv
   refine ⟨_,rfl,p,rfl,⟨_,SqL.of hp⟩,js_ (K := K) (a := p) (xs := rowV (rowT N l i)) (fun j σ H'' => (∃ v3 : Option V,σ = [some (.ref fp),some (.ref L),some (.ref p),v3,v4]) /\ H'' = H') ⟨⟨_,rfl⟩,rfl⟩ ?_ ?_ ?_⟩
   ·rintro j σ H'' _ ⟨_,rfl⟩
    exact SqL.of hp
   ·rintro j u σ H'' hu ⟨⟨v3,rfl⟩,rfl⟩
    obtain ⟨y,ey,rfl⟩ := qV_ hu
    have hy : y < 2 ^ w := yz_ (fun k hk => hlt i k hi hk) y (List.mem_of_getElem? ey)
    refine ⟨_,rfl,_,_,rfl,rfl,_,rfl,?_⟩
    refine ite2 (fun y => absurd (of_decide_eq_true y) (by omega)) (fun _ => ?_)
    refine ⟨_,rfl,_,rfl,fp,_,_,_,_,rfl,hF',T.cl_Field,T.no_Field_last,yb_ r w,_,_,rfl,rfl,_,rfl,?_⟩
    refine ite2 (fun z => absurd (of_decide_eq_true z) (by omega)) (fun _ => ⟨⟨_,rfl⟩,rfl⟩)
   ·rintro σ H'' ⟨⟨v3,rfl⟩,rfl⟩
    obtain ⟨k,hk,hz⟩ := hrow i hi
    refine ⟨_,rfl,p,_,rfl,(by rw [<- u7_]; exact SqL.of hp),_,rfl,?_⟩
    rw [qc5_ (k := k) (by rw [qs_]; exact hk) (by rw [qX_ hk]; exact hz)]
    refine ite2 (fun z => absurd z (by decide)) (fun _ => ⟨⟨_,_,_,rfl⟩,rfl⟩)
  ·rintro σ H' ⟨⟨v2,v3,v4,rfl⟩,rfl⟩
   refine ⟨_,rfl,L,_,_,_,rfl,rfl,SqL.of hL,qq_ (j := 0) (qC_ e0),p0',_,rfl,.inl (SqL.of hp0),_,rfl,by rw [er]; omega,by rw [er]; omega,?_⟩
   have en : (((rowV (rowT N l 0)).length : Nat) : Int).toNat = N := by rw [er]; omega
   rw [en]
   refine qQ_ (lo := 0) (n := N) (fun i σ H'' => (∃ v2 v3 v4 : Option V,σ = [some (.ref fp),some (.ref L),v2,v3,v4]) /\ Same H' H'') ⟨⟨_,_,_,rfl⟩,Same.refl _⟩ ?_ ?_
   ·rintro k σ H'' hk ⟨⟨v2,v3,v4,rfl⟩,s1⟩
    have ek : (0 : Int) + (k : Nat) = ((k : Nat) : Int) := by omega
    rw [ek]
    refine ⟨_,rfl,L,rfl,⟨_,SqL.of (s1 _ _ hL)⟩,fun D nD => ?_⟩
    refine jn_ (xs := ps.map V.ref) (f := fun i => .int ((l i k : Nat) : Int)) (cs := [some (.int (k : Nat))]) (SqL.of (s1 _ _ hL)) nD rfl (by rw [el]; exact Nat.le_trans h2 (by decide)) (fun i u H2 R2 hu s2 hR => ?_) (fun H2 s2 hD => ?_)
    ·have hi : i < M := by rw [<- el]; exact (List.getElem?_eq_some_iff.mp hu).1
     obtain ⟨p,ep,hp⟩ := ht.get hi
     rw [qC_ ep] at hu
     cases Option.some.inj hu
     have gi := qq_ (qW_ (row := rowT N l i) (i := k) (by rw [qs_]; exact hk))
     rw [qX_ hk] at gi
     exact ⟨_,rfl,_,rfl,p,_,_,_,rfl,rfl,SqL.of ((s1.trans s2) _ _ hp),gi,hR _ (Same.refl _)⟩
    ·rw [el] at hD
     have e : ((List.range M).map fun i => V.int ((l i k : Nat) : Int)) = (((List.range M).map fun i => l i k).map fun n : Nat => (n : Int)).map V.int := by
      rw [List.map_map,List.map_map]
      rfl
     rw [e] at hD
     obtain ⟨i,hi,hz⟩ := hcol k hk
     refine ⟨D,_,rfl,SqL.of hD,_,rfl,?_⟩
     have gd : ((List.range M).map fun i => l i k).getD i 0 = l i k := by
      rw [List.getD_eq_getElem?_getD,List.getElem?_map,List.getElem?_range hi]
      rfl
     rw [qc5_ (k := i) (by rw [List.length_map,List.length_range]; exact hi) (by rw [gd]; exact hz)]
     refine ite2 (fun z => absurd z (by decide)) (fun _ => ⟨⟨_,_,_,rfl⟩,s1.trans s2⟩)
   ·rintro σ H'' ⟨⟨v2,v3,v4,rfl⟩,s1⟩
    exact q _ s1
def eqn (N : Nat) (l : Nat -> Nat -> Nat) (t k : Nat) : Nat := if k < N then l t k else if k - N = t then 1 else 0
theorem qc6_ (N M : Nat) (l : Nat -> Nat -> Nat) (t : Nat) : rowT (N + M) (eqn N l) t = rowT N l t ++ (List.range M).map fun j => if j = t then 1 else 0 := by
 unfold rowT
 rw [List.range_add,List.map_append,List.map_map]
 congr 1
 ·exact List.map_congr_left fun k hk => by
   unfold eqn
   rw [if_pos (List.mem_range.mp hk)]
 ·exact List.map_congr_left fun k hk => by
   show eqn N l t (N + k) = _
   unfold eqn
   rw [if_neg (by omega),Nat.add_sub_cancel_left]
def qbm_ (K : PySem.W.Frag) : Sp := fun vs H Q _ => ∃ (L : Addr) (ps : List Addr) (M N t : Nat) (l : Nat -> Nat -> Nat),vs = [.ref L,.int t] /\ H L = some (.lst (ps.map V.ref)) /\ TabAt H ps M (rowT N l) /\ t < M /\ N + M <= 8 /\ ∀ D H',H D = none -> Same H H' -> H' D = some (.lst (rowV (rowT (N + M) (eqn N l) t))) -> Q (.ref D) H'
theorem uA_ (T : Txt K mg a) : FnO P wo K mg base 1 a.f21 ["weights", "total"] (qbm_ K) := by
 refine T.x21.F.okA (k := 0) sc_equation_of (fun cdv A outer s H vs Q E hr h => ?_)
 ·obtain ⟨L,ps,M,N,t,l,rfl,hL,ht,htM,h8,q⟩ := h
  have el : (ps.map V.ref).length = M := by rw [List.length_map,ht.len]
  obtain ⟨p,ep,hp⟩ := ht.get htM
  refine ⟨_,(qb_ (qj_ (i := 2) sc_equation_of.nd rfl (Or.inl rfl) (jf_ q0_ rfl T.n_list (by decide +kernel) (qa_ (qx_ qy_ (pv 0) (pv 1) (fun _ _ => rfl)) qc_)))
   (qb_ (qD_ PassesOwn.never rfl (qF_ rfl T.n_range (qa_ (qw_ qu_ rfl T.n_len PySem.boot_len (qa_ (pv 0) qc_)) qc_)) (qm_ (i := 3) sc_equation_of.nd rfl (Or.inl rfl)) (qf_ (qN_ (jm_ PySem.F.plainAttrs_list PySem.F.slot_list_append PySem.F.type_list_append qJ_ (pv 2) (qa_ (qgm_ (qp_ q6_ (pv 3) (pv 1) (qr_ _)) qg_ qg_) qc_)))))
   (qf_ (qo_ (pv 2))))),?_⟩
  refine ⟨_,rfl,_,rfl,L,_,_,_,rfl,rfl,SqL.of hL,qq_ (qC_ ep),p,_,rfl,.inl (SqL.of hp),fun D nD => ?_⟩
  have sD := Same.new (o := .lst (rowV (rowT N l t))) nD
  have hD : (upd H D (.lst (rowV (rowT N l t)))) D = some (.lst (rowV (rowT N l t))) := qd_
  generalize (upd H D (.lst (rowV (rowT N l t)))) = H1 at sD hD
  refine ⟨_,rfl,L,_,rfl,.inl (SqL.of (sD _ _ hL)),_,rfl,by rw [el]; omega,by rw [el]; omega,?_⟩
  have en : (((ps.map V.ref).length : Nat) : Int).toNat = M := by rw [el]; omega
  rw [en]
  refine qQ_ (lo := 0) (n := M) (fun j σ H' => (∃ v3 : Option V,σ = [some (.ref L),some (.int t),some (.ref D),v3]) /\ Same H H' /\ H' D = some (.lst (rowV (rowT N l t ++ (List.range j).map fun j => if j = t then 1 else 0)))) ⟨⟨none,rfl⟩,sD,by rw [hD]; simp⟩ ?_ ?_
  ·rintro j σ H' hj ⟨⟨v3,rfl⟩,s1,h1⟩
   have ej : (0 : Int) + (j : Nat) = ((j : Nat) : Int) := by omega
   rw [ej]
   have fits : (rowV (rowT N l t ++ (List.range j).map fun j => if j = t then 1 else 0)).length < sizeLine := by
    rw [qi_,List.length_append,qs_,List.length_map,List.length_range]
    exact Nat.lt_trans (by omega : N + j < 9) (by decide)
   have er : rowV (rowT N l t ++ (List.range (j + 1)).map fun j => if j = t then 1 else 0) = rowV (rowT N l t ++ (List.range j).map fun j => if j = t then 1 else 0) ++ [.int ((if j = t then 1 else 0 : Nat) : Int)] := by
    rw [List.range_succ,List.map_append,← List.append_assoc,← y7_]
    rfl
   refine ⟨_,rfl,.inl ⟨rfl,_,SqL.of h1⟩,_,rfl,_,rfl,rfl,_,rfl,?_⟩
   by_cases z : j = t
   ·refine ite2 (fun _ => ?_) (fun y => absurd (decide_eq_true (by rw [z])) y)
    rw [if_pos z] at er
    exact ⟨D,_,_,rfl,rfl,h1,fits,⟨_,rfl⟩,s1.up nD,by rw [qd_,er]; rfl⟩
   ·refine ite2 (fun y => absurd (V.int.inj (of_decide_eq_true y)) (by omega)) (fun _ => ?_)
    rw [if_neg z] at er
    exact ⟨D,_,_,rfl,rfl,h1,fits,⟨_,rfl⟩,s1.up nD,by rw [qd_,er]; rfl⟩
  ·rintro σ H' ⟨⟨v3,rfl⟩,s1,h1⟩
   refine ⟨_,rfl,q D H' nD s1 ?_⟩
   rw [h1,qc6_]
def cf (bp : Addr) (M N : Nat) (Lp : Addr) : List (Str × V) := [("blocks",.ref bp),("sums",.int M),("data",.int N),("roles",.int ((N + M : Nat) : Int)),("lines",.ref Lp)]
theorem z9_ (bp : Addr) (M N : Nat) (Lp : Addr) : (cf bp M N Lp).lookup ("blocks" : Str) = some (.ref bp) := rfl
theorem yQ_ (bp : Addr) (M N : Nat) (Lp : Addr) : (cf bp M N Lp).lookup ("roles" : Str) = some (.int ((N + M : Nat) : Int)) := rfl
theorem qbn_ (bp : Addr) (M N : Nat) (Lp : Addr) : (cf bp M N Lp).lookup ("lines" : Str) = some (.ref Lp) := rfl
structure Wts (w M N : Nat) (l : Nat -> Nat -> Nat) : Prop where
 m1 : 1 <= M
 m2 : M <= 2
 n1 : 1 <= N
 n8 : N + M <= 8
 lt : ∀ i k,i < M -> k < N -> l i k < 2 ^ w
 row : ∀ i,i < M -> ∃ k,k < N /\ l i k ≠ 0
 col : ∀ k,k < N -> ∃ i,i < M /\ l i k ≠ 0
theorem jQ_ {w M N : Nat} {l : Nat -> Nat -> Nat} (W : Wts w M N l) (t16 : 16 <= 2 ^ w) : ∀ i k,i < M -> k < N + M -> eqn N l i k < 2 ^ w := fun i k hi hk => by
 unfold eqn
 split
 ·exact W.lt i k hi (by assumption)
 ·split <;> omega
structure CodeAt (a : Adr) (H : Hp) (c bp fp : Addr) (r w n M N : Nat) (l : Nat -> Nat -> Nat) : Prop where
 ins : ∃ dx Lp qs,H c = some (.ins a.C_Code dx (cf bp M N Lp)) /\ H Lp = some (.lst (qs.map V.ref)) /\ TabAt H qs M (rowT (N + M) (eqn N l))
 blk : BlocksAt a H bp fp r w n
theorem CodeAt.same {a : Adr} {H H' : Hp} {c bp fp : Addr} {r w n M N : Nat} {l : Nat -> Nat -> Nat} (h : CodeAt a H c bp fp r w n M N l) (s : Same H H') : CodeAt a H' c bp fp r w n M N l :=
 let ⟨dx,Lp,qs,h1,h2,h3⟩ := h.ins
 ⟨⟨dx,Lp,qs,s _ _ h1,s _ _ h2,h3.same s⟩,h.blk.same s⟩
def qdz_ (a : Adr) : Sp := fun vs H Q _ => ∃ (c dx bp fp L : Addr) (r w n M N : Nat) (ps : List Addr) (l : Nat -> Nat -> Nat),vs = [.ref c,.ref bp,.ref L] /\ H c = some (.ins a.C_Code dx []) /\ BlocksAt a H bp fp r w n /\ GF.Good r w /\ H L = some (.lst (ps.map V.ref)) /\ TabAt H ps M (rowT N l) /\ Wts w M N l ∧
 ∀ H',(∀ b o,b ≠ c -> H b = some o -> H' b = some o) -> CodeAt a H' c bp fp r w n M N l -> Q .non H'
theorem qbo_ (T : Txt K mg a) : FnO P wo K mg base 2 a.f22 ["self", "blocks", "weights"] (qdz_ a) := by
 refine T.x22.F.okA (k := 1) qbc_ (fun cdv A outer s H vs Q E hr h => ?_)
 ·obtain ⟨c,dx,bp,fp,L,r,w,n,M,N,ps,l,rfl,hc,hB,g,hL,ht,W,q⟩ := h
  obtain ⟨dB,hB'⟩ := hB.ins
  have el : (ps.map V.ref).length = M := by rw [List.length_map,ht.len]
  have er : ∀ i,(rowV (rowT N l i)).length = N := fun i => by rw [qi_,qs_]
  obtain ⟨p0',e0,hp0⟩ := ht.get (i := 0) W.m1
  have n8 := W.n8
  refine ⟨_,(qb_ (qN_ (qt_ (vP_ T) hr.u rfl T.x19.m T.x19.k T.x19.b .nil qn_ (qa_ (pv 2) qc_)))
   (qb_ (qN_ (qt_ (vQ_ T) hr.u rfl T.x20.m T.x20.k T.x20.b .nil qn_ (qa_ (qA_ (pv 1) rfl) (qa_ (pv 2) qc_))))
   (qb_ (je_ (pv 0) (pv 1) rfl)
   (qb_ (je_ (pv 0) (qw_ qu_ rfl T.n_len PySem.boot_len (qa_ (pv 2) qc_)) rfl)
   (qb_ (je_ (pv 0) (qw_ qu_ rfl T.n_len PySem.boot_len (qa_ (qx_ qy_ (pv 2) qg_ (fun _ _ => rfl)) qc_)) rfl)
   (qb_ (je_ (pv 0) (qk_ qO_ (qA_ (pv 0) rfl) (qA_ (pv 0) rfl)) rfl)
   (qf_ (je_ (pv 0) (q4_ (CompOk.of (cap := [2]) (own := ["total"]) (by kernel_rfl)) rfl (qF_ rfl T.n_range (qa_ (qA_ (pv 0) rfl) qc_)) (fun _ _ _ _ _ => (qm_ (i := 1) (of_decide_eq_true (by kernel_rfl)) rfl (Or.inl rfl))) (fun _ _ _ _ _ => qY_) (fun _ _ _ _ _ => by exact (qt_ (uA_ T) hr.u rfl T.x21.m T.x21.k T.x21.b .nil qn_ (qa_ (pv 0) (qa_ (pv 1) qc_))))) rfl)))))))),?_⟩
  refine ⟨_,rfl,L,ps,M,N,l,rfl,hL,ht,W.m1,W.m2,W.n1,W.n8,?_⟩
  refine ⟨_,rfl,bp,_,_,_,_,rfl,hB',T.cl_Blocks,T.no_Blocks_field,yc_ fp w n,_,rfl,fp,L,r,w,ps,M,N,l,rfl,hB.fld,g,hL,ht,W.lt,W.m1,W.m2,W.n1,by omega,W.row,W.col,fun H1 s1 => ?_⟩
  have hc1 := s1 _ _ hc
  have ncB : bp ≠ c := fun z => by
   rw [z,hc] at hB'
   have := (HO.ins.inj (Option.some.inj hB')).2.2
   unfold bf at this
   cases this
  obtain ⟨dF,hF'⟩ := hB.fld
  have ncF : fp ≠ c := fun z => by
   rw [z,hc] at hF'
   have := (HO.ins.inj (Option.some.inj hF')).2.2
   unfold ff at this
   cases this
  have ncL : L ≠ c := fun z => by rw [z,hc] at hL; cases hL
  have ncp : ∀ (i : Nat) p,ps[i]? = some p -> p ≠ c := fun i p e z => by
   have := ht.on i p e
   rw [z,hc] at this
   cases this
  refine ⟨_,rfl,_,rfl,c,a.C_Code,dx,_,rfl,hc1,T.cl_Code,T.no_Code_blocks,(by decide),?_⟩
  refine ⟨_,rfl,L,_,rfl,.inl (SqL.of (by rw [qe_ ncL]; exact s1 _ _ hL)),_,rfl,c,a.C_Code,dx,_,rfl,qd_,T.cl_Code,T.no_Code_sums,(by show (1 : Nat) < 1000; decide),?_⟩
  refine ⟨_,rfl,L,_,_,_,rfl,rfl,SqL.of (by rw [qe_ ncL,qe_ ncL]; exact s1 _ _ hL),qq_ (j := 0) (qC_ e0),p0',_,rfl,.inl (SqL.of (by rw [qe_ (ncp 0 _ e0),qe_ (ncp 0 _ e0)]; exact s1 _ _ hp0)),_,rfl,c,a.C_Code,dx,_,rfl,qd_,T.cl_Code,T.no_Code_data,(by show (2 : Nat) < 1000; decide),?_⟩
  refine ⟨_,rfl,c,_,_,_,_,rfl,qd_,T.cl_Code,T.no_Code_data,rfl,_,rfl,c,_,_,_,_,rfl,qd_,T.cl_Code,T.no_Code_sums,rfl,_,_,rfl,rfl,_,rfl,c,a.C_Code,dx,_,rfl,qd_,T.cl_Code,T.no_Code_roles,(by show (3 : Nat) < 1000; decide),?_⟩
  dsimp only
  rw [q9_,q9_,q9_,el,er]
  have ef : putF "roles" (.int ((N : Int) + (M : Int))) (putF "data" (.int (N : Int)) (putF "sums" (.int (M : Int)) (putF "blocks" (.ref bp) []))) = [(("blocks" : Str),V.ref bp),(("sums" : Str),V.int M),(("data" : Str),V.int N),(("roles" : Str),V.int ((N + M : Nat) : Int))] := by
   rw [Int.natCast_add]
   rfl
  rw [ef]
  have hc2 : (upd H1 c (.ins a.C_Code dx [(("blocks" : Str),V.ref bp),(("sums" : Str),V.int M),(("data" : Str),V.int N),(("roles" : Str),V.int ((N + M : Nat) : Int))])) c = some (.ins a.C_Code dx [(("blocks" : Str),V.ref bp),(("sums" : Str),V.int M),(("data" : Str),V.int N),(("roles" : Str),V.int ((N + M : Nat) : Int))]) := qd_
  have k2 : ∀ b o,b ≠ c → H b = some o → (upd H1 c (.ins a.C_Code dx [(("blocks" : Str),V.ref bp),(("sums" : Str),V.int M),(("data" : Str),V.int N),(("roles" : Str),V.int ((N + M : Nat) : Int))])) b = some o := fun b o z e => by rw [qe_ z]; exact s1 _ _ e
  generalize (upd H1 c (.ins a.C_Code dx [(("blocks" : Str),V.ref bp),(("sums" : Str),V.int M),(("data" : Str),V.int N),(("roles" : Str),V.int ((N + M : Nat) : Int))])) = H2 at hc2 k2
  have hL2 := k2 _ _ ncL hL
  have ht2 : TabAt H2 ps M (rowT N l) := ⟨ht.len,fun i p e => k2 _ _ (ncp i p e) (ht.on i p e)⟩
  refine ⟨_,rfl,c,_,_,_,_,rfl,hc2,T.cl_Code,T.no_Code_sums,rfl,_,rfl,by omega,by omega,fun D nD => ?_⟩
  rw [Int.toNat_natCast]
  refine qdp_ (n := M) (row := fun i => rowV (rowT (N + M) (eqn N l) i)) (cs := [some (.ref L)]) nD rfl (Nat.le_trans (by omega : M <= 8) (by decide)) (fun i H3 R3 hi s3 hR => ?_) (fun qs H3 s3 hD hrows hf hdd => ?_)
  ·exact ⟨_,rfl,_,rfl,L,ps,M,N,i,l,rfl,s3 _ _ hL2,ht2.same s3,hi,W.n8,fun D4 H4 n4 s4 h4 => hR D4 H4 n4 s4 h4⟩
  ·have nDc : D ≠ c := fun z => by rw [z,hc2] at nD; cases nD
   have nqc : ∀ (i : Nat) p,qs[i]? = some p -> p ≠ c := fun i p e z => by
    have := hf p (List.mem_of_getElem? e)
    rw [z,hc2] at this
    cases this
   refine ⟨_,rfl,c,a.C_Code,dx,_,rfl,s3 _ _ hc2,T.cl_Code,T.no_Code_lines,(by show (4 : Nat) < 1000; decide),?_⟩
   refine q _ (fun b o z e => ?_) ⟨⟨dx,D,qs,qd_,?_,⟨hrows.len,fun i p e => ?_⟩⟩,⟨⟨dB,?_⟩,⟨dF,?_⟩⟩⟩
   ·rw [qe_ z]
    exact s3 _ _ (k2 b o z e)
   ·rw [qe_ nDc]
    exact hD
   ·rw [qe_ (nqc i p e)]
    exact hrows.on i p e
   ·rw [qe_ ncB]
    exact s3 _ _ (k2 _ _ ncB hB')
   ·rw [qe_ ncF]
    exact s3 _ _ (k2 _ _ ncF hF')
def y5_ (r w n M N : Nat) (l : Nat -> Nat -> Nat) (bs : List Nat) : List Nat := bs ++ (List.range M).map fun t => GF.sumB r w n ((rowT N l t).zip bs)
def isMk (r w n M N : Nat) (l : Nat -> Nat -> Nat) (bs : List Nat) : Bool := (List.range M).all fun t => decide (GF.sumB r w n ((rowT (N + M) (eqn N l) t).zip bs) = 0)
def valO : Option Nat -> V
 | some b => .int (b : Nat)
 | none => .non
def rowO (os : List (Option Nat)) : List V := os.map valO
theorem qP_ (os : List (Option Nat)) : (rowO os).length = os.length := by unfold rowO; rw [List.length_map]
theorem qU_ {os : List (Option Nat)} {k : Nat} {o : Option Nat} (h : os[k]? = some o) : (rowO os)[k]? = some (valO o) := by
 unfold rowO
 rw [List.getElem?_map,h]
 rfl
def qb7_ (a : Adr) : Sp := fun vs H Q _ => ∃ (c bp fp : Addr) (r w n M N k : Nat) (l : Nat -> Nat -> Nat),vs = [.ref c,.int k] /\ CodeAt a H c bp fp r w n M N l /\ k < N + M /\ Q .non H
theorem yp_ (T : Txt K mg a) : FnO P wo K mg base 1 a.f24 ["self", "role"] (qb7_ a) := by
 refine T.x24.F.okA (k := 0) z5_ (fun cdv A outer s H vs Q E hr h => ?_)
 ·obtain ⟨c,bp,fp,r,w,n,M,N,k,l,rfl,hC,hk,q⟩ := h
  obtain ⟨dx,Lp,qs,h1,_,_⟩ := hC.ins
  refine ⟨_,(qf_ (qz_ (PW.pt (jv_ (qp_ yW_ (pv 1) qg_ (qr_ _)) (jp_ (qp_ qid_ (pv 1) (qA_ (pv 0) rfl) (qr_ _))))) (qf_ jj_) qv_)),?_⟩
  refine ⟨_,rfl,_,_,rfl,rfl,_,rfl,?_⟩
  refine ite2 (fun y => absurd (of_decide_eq_true y) (by omega)) (fun _ => ?_)
  refine ⟨_,rfl,_,rfl,c,_,_,_,_,rfl,h1,T.cl_Code,T.no_Code_roles,yQ_ bp M N Lp,_,_,rfl,rfl,_,rfl,?_⟩
  refine ite2 (fun y => absurd (of_decide_eq_true y) (by omega)) (fun _ => q)
def qjh_ (K : PySem.W.Frag) (a : Adr) : Sp := fun vs H Q _ => ∃ (c bp fp kn : Addr) (r w n M N pl : Nat) (l : Nat -> Nat -> Nat) (ks : List Bool),vs = [.ref c,.ref kn,.int pl] /\ CodeAt a H c bp fp r w n M N l /\ GF.Full r w /\ Wts w M N l /\ H kn = some (.lst (knV ks)) /\ ks.length = N + M /\ pl < N + M /\ ks[pl]? = some false ∧
 ∀ D H',Same H H' -> H D = none -> qfr_ H' D r w (N + M) M (eqn N l) ks pl -> (∀ t e,H' D = some (.tup [t,.ref e]) -> H e = none) -> Q (.ref D) H'
theorem va_ (T : Txt K mg a) : FnO P wo K mg base 7 a.f23 ["self", "known", "role"] (qjh_ K a) := by
 refine T.x23.F.okA (k := 6) qbd_ (fun cdv A outer s H vs Q E hr h => ?_)
 ·obtain ⟨c,bp,fp,kn,r,w,n,M,N,pl,l,ks,rfl,hC,g,W,hkn,hks,hpl,hkp,q⟩ := h
  obtain ⟨dx,Lp,qs,h1,h2,h3⟩ := hC.ins
  obtain ⟨dB,hB⟩ := hC.blk.ins
  have n8 := W.n8
  refine ⟨_,(qf_ (qo_ (qt_ (qdy_ T) hr.u rfl T.x12.m T.x12.k T.x12.b .nil qn_ (qa_ (qA_ (qA_ (pv 0) rfl) rfl) (qa_ (qA_ (pv 0) rfl) (qa_ (pv 1) (qa_ (pv 2) qc_))))))),?_⟩
  refine ⟨_,rfl,c,_,_,_,_,rfl,h1,T.cl_Code,T.no_Code_blocks,z9_ bp M N Lp,bp,_,_,_,_,rfl,hB,T.cl_Blocks,T.no_Blocks_field,yc_ fp w n,_,rfl,c,_,_,_,_,rfl,h1,T.cl_Code,T.no_Code_lines,qbn_ bp M N Lp,_,rfl,_,rfl,?_⟩
  exact ⟨fp,Lp,kn,r,w,N + M,M,pl,qs,eqn N l,ks,rfl,hC.blk.fld,g,h2,h3,jQ_ W g.toGood.top16,hkn,hks,by omega,by have := W.m2; omega,hpl,hkp,q⟩
def byL (r w M N : Nat) (l : Nat -> Nat -> Nat) (by' : List Nat) (k : Nat) : Nat := GF.dot r w M (fun t => eqn N l t k) (fun t => by'.getD t 0)
def tells (r w M N : Nat) (l : Nat -> Nat -> Nat) (by' : List Nat) (os : List (Option Nat)) : List (Nat × Nat) := ((List.range (N + M)).filter fun k => (os.getD k none).isSome).map fun k => (byL r w M N l by' k,(os.getD k none).getD 0)
def qd0_ (K : PySem.W.Frag) (a : Adr) : Sp := fun vs H Q _ => ∃ (c bp fp bl rl : Addr) (r w n M N : Nat) (l : Nat -> Nat -> Nat) (by' : List Nat) (os : List (Option Nat)),vs = [.ref c,.ref bl,.ref rl] /\ CodeAt a H c bp fp r w n M N l /\ GF.Good r w /\ n <= 16 /\ Wts w M N l /\ H bl = some (.lst (rowV by')) /\ by'.length = M /\ H rl = some (.lst (rowO os)) /\ os.length = N + M ∧
 ∀ H',Same H H' -> Q (.int ((GF.sumB r w n (tells r w M N l by' os) : Nat) : Int)) H'
theorem vr_ (T : Txt K mg a) : FnO P wo K mg base 5 a.f26 ["self", "by", "row"] (qd0_ K a) := by
 refine T.x26.F.okA (k := 4) sc_Code_summed_by (fun cdv A outer s H vs Q E hr h => ?_)
 ·obtain ⟨c,bp,fp,bl,rl,r,w,n,M,N,l,by',os,rfl,hC,g,hn,W,hbl,hby,hrl,hos,q⟩ := h
  obtain ⟨dx,Lp,qs,h1,h2,h3⟩ := hC.ins
  have n8 := W.n8
  have t16 := g.top16
  have el : (qs.map V.ref).length = M := by rw [List.length_map,h3.len]
  refine ⟨_,(qb_ (qj_ (i := 3) sc_Code_summed_by.nd rfl (Or.inr rfl) (qk_ zS_ (qI_ (qa_ qg_ qc_)) (qA_ (pv 0) rfl)))
   (qb_ (qD_ PassesOwn.never rfl (zU_ rfl T.n_zip (qa_ (pv 1) (qa_ (qA_ (pv 0) rfl) qc_))) (yh_ rfl (qM_ (qm_ (i := 4) sc_Code_summed_by.nd rfl (Or.inl rfl)) (qM_ (qm_ (i := 5) sc_Code_summed_by.nd rfl (Or.inl rfl)) jw_))) (qf_ (qj_ (i := 3) sc_Code_summed_by.nd rfl (Or.inr rfl) (qt_ (zK_ T) hr.u rfl T.x8.m T.x8.k T.x8.b .nil qn_ (qa_ (pv 3) (qa_ (qt_ (yd_ T) hr.u rfl T.x7.m T.x7.k T.x7.b .nil qn_ (qa_ (qA_ (qA_ (pv 0) rfl) rfl) (qa_ (pv 4) (qa_ (pv 5) qc_)))) qc_))))))
   (qb_ (jK_ (i := 6) sc_Code_summed_by.nd rfl (Or.inl rfl) (CompOk.of (cap := [2]) (own := ["role"]) (by kernel_rfl)) rfl (qF_ rfl T.n_range (qa_ (qA_ (pv 0) rfl) qc_)) (fun _ _ _ _ _ => (qm_ (i := 1) (of_decide_eq_true (by kernel_rfl)) rfl (Or.inl rfl))) (fun _ _ _ _ _ => (jW_ (qp_ jx_ (qx_ (ja_ (K := K) rfl) (pv 0) (pv 1) (fun _ _ => rfl)) qK_ (qr_ _)))) (fun _ _ _ _ _ => by exact (pv 1)))
   (qf_ (qo_ (qB_ (by exact (qA_ (pv 0) rfl)) T.cl_Blocks T.x18.me (vN_ T) hr.u T.x18.b .nil qn_ (qa_ (q4_ (CompOk.of (cap := [3]) (own := ["role"]) (by kernel_rfl)) rfl (qH_ (pv 6)) (fun _ _ _ _ _ => (qm_ (i := 1) (of_decide_eq_true (by kernel_rfl)) rfl (Or.inl rfl))) (fun _ _ _ _ _ => qY_) (fun _ _ _ _ _ => by exact (qx_ (ja_ (K := K) rfl) (pv 0) (pv 1) (fun _ _ => rfl)))) (qa_ (q4_ (CompOk.of (cap := [2]) (own := ["role"]) (by kernel_rfl)) rfl (qH_ (pv 6)) (fun _ _ _ _ _ => (qm_ (i := 1) (of_decide_eq_true (by kernel_rfl)) rfl (Or.inl rfl))) (fun _ _ _ _ _ => qY_) (fun _ _ _ _ _ => by exact (qx_ (ja_ (K := K) rfl) (pv 0) (pv 1) (fun _ _ => rfl)))) qc_)))))))),?_⟩
  refine ⟨(show 1 <= sizeLine by decide),fun p1 n1 => ⟨_,rfl,c,_,_,_,_,rfl,(Same.new n1) _ _ h1,T.cl_Code,T.no_Code_roles,yQ_ bp M N Lp,p1,_,_,rfl,rfl,qd_,by omega,by omega,?_,fun p2 n2 => ?_⟩⟩
  ·rw [Int.toNat_natCast]
   show 1 * (N + M) <= sizeLine
   exact Nat.le_trans (by omega : 1 * (N + M) <= 30) (by decide)
  have eR : (List.replicate (((N + M : Nat) : Int)).toNat [V.int 0]).flatten = rowV ((List.range (N + M)).map fun k => GF.dot r w 0 (fun t => eqn N l t k) (fun t => by'.getD t 0)) := by
   rw [Int.toNat_natCast]
   have : ((List.range (N + M)).map fun k => GF.dot r w 0 (fun t => eqn N l t k) (fun t => by'.getD t 0)) = List.replicate (N + M) 0 := by
    show ((List.range (N + M)).map fun _ => 0) = _
    rw [List.map_const',List.length_range]
   rw [this]
   exact vo_ (N + M) 0
  rw [eR]
  have s1 := (Same.new (o := .lst [V.int 0]) n1).trans (Same.new (o := .lst (rowV ((List.range (N + M)).map fun k => GF.dot r w 0 (fun t => eqn N l t k) (fun t => by'.getD t 0)))) n2)
  have hp2 : (upd (upd H p1 (.lst [V.int 0])) p2 (.lst (rowV ((List.range (N + M)).map fun k => GF.dot r w 0 (fun t => eqn N l t k) (fun t => by'.getD t 0))))) p2 = some (.lst (rowV ((List.range (N + M)).map fun k => GF.dot r w 0 (fun t => eqn N l t k) (fun t => by'.getD t 0)))) := qd_
  generalize (upd (upd H p1 (.lst [V.int 0])) p2 (.lst (rowV ((List.range (N + M)).map fun k => GF.dot r w 0 (fun t => eqn N l t k) (fun t => by'.getD t 0))))) = H1 at s1 hp2
  refine ⟨_,rfl,_,rfl,c,_,_,_,_,rfl,s1 _ _ h1,T.cl_Code,T.no_Code_lines,qbn_ bp M N Lp,bl,Lp,_,_,rfl,SqL.of (s1 _ _ hbl),SqL.of (s1 _ _ h2),uq_ (K := K) (l1 := bl) (l2 := Lp) (xs := rowV by') (ys := qs.map V.ref) (fun i σ H' => ∃ (La : Addr) (v4 v5 : Option V),σ = [some (.ref c),some (.ref bl),some (.ref rl),some (.ref La),v4,v5,none] /\ Same H H' /\ H' La = some (.lst (rowV ((List.range (N + M)).map fun k => GF.dot r w i (fun t => eqn N l t k) (fun t => by'.getD t 0))))) ⟨p2,none,none,rfl,s1,hp2⟩ ?_ (by rw [qi_,hby,el]) ?_ ?_⟩
  ·rintro i σ H' _ ⟨La,v4,v5,_,sm,_⟩
   exact ⟨SqL.of (sm _ _ hbl),SqL.of (sm _ _ h2)⟩
  ·rintro i u v T' σ H' hi hu hv hT ⟨La,v4,v5,rfl,sm,hLa⟩
   obtain ⟨f,hfi,rfl⟩ := qV_ hu
   have hi' : i < M := by rw [<- el]; exact (List.getElem?_eq_some_iff.mp hv).1
   obtain ⟨p,ep,hp⟩ := h3.get hi'
   rw [qC_ ep] at hv
   cases Option.some.inj hv
   have s2 := sm.trans (Same.new (o := .tup [V.int (f : Nat),V.ref p]) hT)
   have hLa2 := (Same.new (o := .tup [V.int (f : Nat),V.ref p]) hT) _ _ hLa
   refine ⟨T',_,rfl,SqT.of qd_,rfl,_,_,rfl,_,_,rfl,rfl,?_⟩
   generalize (upd H' T' (.tup [V.int (f : Nat),V.ref p])) = H2 at s2 hLa2
   have hC2 := hC.same s2
   obtain ⟨dB,hB⟩ := hC2.blk.ins
   refine ⟨_,rfl,_,rfl,c,_,_,_,_,rfl,s2 _ _ h1,T.cl_Code,T.no_Code_blocks,z9_ bp M N Lp,bp,_,_,_,_,rfl,hB,T.cl_Blocks,T.no_Blocks_field,yc_ fp w n,_,rfl,_,rfl,?_⟩
   refine ⟨fp,p,r,w,f,rowT (N + M) (eqn N l) i,rfl,hC2.blk.fld,g,s2 _ _ hp,yz_ fun k hk => jQ_ W t16 i k hi' hk,by rw [qs_]; omega,fun D3 H3 n3 s3 h3' => ?_⟩
   refine ⟨La,D3,_,_,rfl,s3 _ _ hLa2,h3',by rw [List.length_map,List.length_range,List.length_map,qs_],by rw [List.length_map,List.length_range]; omega,fun D4 H4 n4 s4 h4 => ?_⟩
   refine ⟨D4,_,_,rfl,s2.trans (s3.trans s4),?_⟩
   rw [h4]
   refine congrArg (fun l => some (HO.lst (rowV l))) ?_
   have ef : by'.getD i 0 = f := by rw [List.getD_eq_getElem?_getD,hfi]; rfl
   unfold rowT
   apply List.ext_getElem?
   intro k
   rw [List.getElem?_zipWith,List.getElem?_map,List.getElem?_map,List.getElem?_map,List.getElem?_map]
   cases (List.range (N + M))[k]? with
   | none => rfl
   | some x =>
    rw [<- ef]
    rfl
  ·rintro σ H' ⟨La,v4,v5,rfl,sm,hLa⟩
   rw [qi_,hby] at hLa
   have hC' := hC.same sm
   refine ⟨_,rfl,c,_,_,_,_,rfl,sm _ _ h1,T.cl_Code,T.no_Code_roles,yQ_ bp M N Lp,_,rfl,by omega,by omega,fun tl ntl => ?_⟩
   rw [Int.toNat_natCast]
   have hat : ∀ k,k < N + M -> os[k]? = some (os.getD k none) := fun k hk => by
    rw [List.getD_eq_getElem?_getD,List.getElem?_eq_getElem (by omega)]
    rfl
   refine y6_ (n := N + M) (f := fun k => .int ((k : Nat) : Int)) (b := fun k => (os.getD k none).isSome) (cs := [some (.ref rl)]) ntl rfl (Nat.le_trans n8 (by decide)) (fun k H2 R2 hk s2 hR => ?_) (fun k H2 R2 hk hb s2 hR => ?_) (fun H2 s2 htl => ?_)
   ·refine ⟨_,rfl,_,rfl,rl,_,_,_,rfl,rfl,SqL.of (s2 _ _ (sm _ _ hrl)),qq_ (qU_ (hat k hk)),rfl,_,rfl,?_⟩
    have e : (!decide (valO (os.getD k none) = V.non)) = (os.getD k none).isSome := by
     cases os.getD k none with
     | none => rfl
     | some b => exact by rw [decide_eq_false (fun z => by cases z)]; rfl
    rw [e]
    exact hR _ (Same.refl _)
   ·exact ⟨_,rfl,hR _ (Same.refl _)⟩
   have s12 := sm.trans s2
   have hC2 := hC.same s12
   obtain ⟨dB,hB⟩ := hC2.blk.ins
   have hLa2 := s2 _ _ hLa
   generalize hfl : (List.range (N + M)).filter (fun k => (os.getD k none).isSome) = tks at htl
   have htk : ∀ k ∈ tks,k < N + M /\ (os.getD k none).isSome = true := fun k hk => by
    rw [<- hfl] at hk
    have := List.mem_filter.mp hk
    exact ⟨List.mem_range.mp this.1,this.2⟩
   have htl' : H2 tl = some (.lst (rowV tks)) := by
    rw [htl]
    rfl
   have hlen : tks.length <= 8 := by
    rw [<- hfl]
    have := List.length_filter_le (fun k => (os.getD k none).isSome) (List.range (N + M))
    rw [List.length_range] at this
    omega
   refine ⟨_,rfl,c,_,_,_,_,rfl,s12 _ _ h1,T.cl_Code,T.no_Code_blocks,z9_ bp M N Lp,bp,dB,_,rfl,hB,rfl,?_⟩
   refine ⟨_,rfl,tl,rfl,⟨_,SqL.of htl'⟩,fun D1 nD1 => ?_⟩
   refine jn_ (xs := rowV tks) (f := fun i => .int ((byL r w M N l by' (tks.getD i 0) : Nat) : Int)) (cs := [some (.ref La)]) (SqL.of htl') nD1 rfl (by rw [qi_]; exact Nat.le_trans hlen (by decide)) (fun i u H3 R3 hu s3 hR => ?_) (fun H3 s3 hD1 => ?_)
   ·obtain ⟨k,ek,rfl⟩ := qV_ hu
    have hk := (htk k (List.mem_of_getElem? ek)).1
    have eg : tks.getD i 0 = k := by rw [List.getD_eq_getElem?_getD,ek]; rfl
    rw [eg] at hR
    have gi := qq_ (qW_ (row := (List.range (N + M)).map fun k => GF.dot r w M (fun t => eqn N l t k) (fun t => by'.getD t 0)) (i := k) (by rw [List.length_map,List.length_range]; exact hk))
    rw [List.getD_eq_getElem?_getD,List.getElem?_map,List.getElem?_range hk] at gi
    exact ⟨_,rfl,_,rfl,La,_,_,_,rfl,rfl,SqL.of (s3 _ _ hLa2),gi,hR _ (Same.refl _)⟩
   refine ⟨_,rfl,tl,rfl,⟨_,SqL.of (s3 _ _ htl')⟩,fun D2 nD2 => ?_⟩
   refine jn_ (xs := rowV tks) (f := fun i => .int (((os.getD (tks.getD i 0) none).getD 0 : Nat) : Int)) (cs := [some (.ref rl)]) (SqL.of (s3 _ _ htl')) nD2 rfl (by rw [qi_]; exact Nat.le_trans hlen (by decide)) (fun i u H4 R4 hu s4 hR => ?_) (fun H4 s4 hD2 => ?_)
   ·obtain ⟨k,ek,rfl⟩ := qV_ hu
    have hk := htk k (List.mem_of_getElem? ek)
    have eg : tks.getD i 0 = k := by rw [List.getD_eq_getElem?_getD,ek]; rfl
    rw [eg] at hR
    have ev : valO (os.getD k none) = .int (((os.getD k none).getD 0 : Nat) : Int) := by
     cases hz : os.getD k none with
     | none => rw [hz] at hk; exact absurd hk.2 (by decide)
     | some b => rfl
    have gi := qq_ (qU_ (hat k hk.1))
    rw [ev] at gi
    exact ⟨_,rfl,_,rfl,rl,_,_,_,rfl,rfl,SqL.of (s4 _ _ (s3 _ _ (s12 _ _ hrl))),gi,hR _ (Same.refl _)⟩
   rw [qi_] at hD1 hD2
   have e1 : ((List.range tks.length).map fun i => V.int ((byL r w M N l by' (tks.getD i 0) : Nat) : Int)) = rowV (tks.map (byL r w M N l by')) := by
    unfold rowV
    apply List.ext_getElem?
    intro i
    rw [List.getElem?_map,List.getElem?_map,List.getElem?_map]
    by_cases hi : i < tks.length
    ·rw [List.getElem?_range hi,List.getElem?_eq_getElem hi]
     have eg : tks.getD i 0 = tks[i] := by rw [List.getD_eq_getElem?_getD,List.getElem?_eq_getElem hi]; rfl
     dsimp only [Option.map]
     rw [eg]
    ·rw [List.getElem?_eq_none (by rw [List.length_range]; omega),List.getElem?_eq_none (by omega)]
     rfl
   have e2 : ((List.range tks.length).map fun i => V.int (((os.getD (tks.getD i 0) none).getD 0 : Nat) : Int)) = rowV (tks.map fun k => (os.getD k none).getD 0) := by
    unfold rowV
    apply List.ext_getElem?
    intro i
    rw [List.getElem?_map,List.getElem?_map,List.getElem?_map]
    by_cases hi : i < tks.length
    ·rw [List.getElem?_range hi,List.getElem?_eq_getElem hi]
     have eg : tks.getD i 0 = tks[i] := by rw [List.getD_eq_getElem?_getD,List.getElem?_eq_getElem hi]; rfl
     dsimp only [Option.map]
     rw [eg]
    ·rw [List.getElem?_eq_none (by rw [List.length_range]; omega),List.getElem?_eq_none (by omega)]
     rfl
   rw [e1] at hD1
   rw [e2] at hD2
   have s14 := s12.trans (s3.trans s4)
   refine ⟨bp,fp,D1,D2,r,w,n,tks.map (byL r w M N l by'),tks.map (fun k => (os.getD k none).getD 0),rfl,(hC.same s14).blk,g,hn,SqL.of (s4 _ _ hD1),SqL.of hD2,by rw [List.length_map,List.length_map],fun f hf => ?_,fun H5 s5 => ?_⟩
   ·obtain ⟨k,hk,rfl⟩ := List.mem_map.mp hf
    exact GF.dot_lt g.rule M fun t ht => jQ_ W t16 t k ht (htk k hk).1
   ·have ez : (tks.map (byL r w M N l by')).zip (tks.map fun k => (os.getD k none).getD 0) = tells r w M N l by' os := by
     unfold tells
     rw [hfl,List.zip_map',]
    rw [ez]
    exact q _ (s14.trans s5)
def knO (os : List (Option Nat)) : List Bool := os.map Option.isSome
def qd1_ (K : PySem.W.Frag) (a : Adr) : Sp := fun vs H Q _ => ∃ (c bp fp rl : Addr) (r w n M N k : Nat) (l : Nat -> Nat -> Nat) (os : List (Option Nat)),vs = [.ref c,.ref rl,.int k] /\ CodeAt a H c bp fp r w n M N l /\ GF.Full r w /\ n <= 16 /\ Wts w M N l /\ H rl = some (.lst (rowO os)) /\ os.length = N + M /\ k < N + M ∧
 (∀ b,os.getD k none = some b -> Q (.int (b : Nat)) H) /\ (os.getD k none = none -> ∀ H',Same H H' -> (∀ by',Reck r w (N + M) M (eqn N l) (knO os) k by' -> Q (.int ((GF.sumB r w n (tells r w M N l by' os) : Nat) : Int)) H') /\ ∀ mk,Free r w (N + M) M (eqn N l) (knO os) k mk -> Q .non H')
theorem vR_ (T : Txt K mg a) : FnO P wo K mg base 8 a.f27 ["self", "row", "role"] (qd1_ K a) := by
 refine T.x27.F.okA (k := 7) sc_Code_reckoned (fun cdv A outer s H vs Q E hr h => ?_)
 ·obtain ⟨c,bp,fp,rl,r,w,n,M,N,k,l,os,rfl,hC,g,hn,W,hrl,hos,hk,q1,q2⟩ := h
  obtain ⟨dx,Lp,qs,h1,h2,h3⟩ := id hC.ins
  have n8 := W.n8
  have hat : os[k]? = some (os.getD k none) := by
   rw [List.getD_eq_getElem?_getD,List.getElem?_eq_getElem (by omega)]
   rfl
  refine ⟨_,(qb_ (qN_ (qB_ (pv 0) T.cl_Code T.x24.me (yp_ T) hr.u T.x24.b .nil qn_ (qa_ (pv 2) qc_)))
   (qb_ (qz_ (qp_ jx_ (qx_ qy_ (pv 1) (pv 2) (fun _ _ => rfl)) qK_ (qr_ _)) (qf_ (qo_ (qx_ qy_ (pv 1) (pv 2) (fun _ _ => rfl)))) qv_)
   (qb_ (qj_ (i := 3) sc_Code_reckoned.nd rfl (Or.inl rfl) (qB_ (pv 0) T.cl_Code T.x23.me (va_ T) hr.u T.x23.b .nil qn_ (qa_ (q4_ (CompOk.of (cap := []) (own := ["block"]) (by kernel_rfl)) rfl (qH_ (pv 1)) (fun _ _ _ _ _ => (qm_ (i := 0) (of_decide_eq_true (by kernel_rfl)) rfl (Or.inl rfl))) (fun _ _ _ _ _ => qY_) (fun _ _ _ _ _ => by exact (q2_ jx_ (pv 0) qK_ (qr_ _)))) (qa_ (pv 2) qc_))))
   (qb_ (qz_ (qp_ q6_ (qx_ yj_ (pv 3) qg_ (fun _ _ => rfl)) vX_ (qr_ _)) (qf_ (qo_ qK_)) qv_)
   (qf_ (qo_ (qB_ (pv 0) T.cl_Code T.x26.me (vr_ T) hr.u T.x26.b .nil qn_ (qa_ (qx_ yj_ (pv 3) qg_ (fun _ _ => rfl)) (qa_ (pv 1) qc_))))))))),?_⟩
  refine ⟨_,rfl,c,dx,_,rfl,h1,rfl,_,rfl,c,bp,fp,r,w,n,M,N,k,l,rfl,hC,hk,?_⟩
  refine ⟨_,rfl,_,rfl,rl,_,_,_,rfl,rfl,SqL.of hrl,qq_ (qU_ hat),rfl,_,rfl,?_⟩
  cases hz : os.getD k none with
  | some b =>
   refine ite2 (fun _ => ?_) (fun y => absurd (by rw [decide_eq_false (fun z => by cases z)]; rfl) y)
   rw [hz] at hat
   exact ⟨_,rfl,_,rfl,rl,_,_,_,rfl,rfl,SqL.of hrl,qq_ (qU_ hat),q1 b hz⟩
  | none =>
   refine iteF ?_
   have q2 := q2 hz
   refine ⟨_,rfl,c,dx,_,rfl,h1,rfl,_,rfl,rl,rfl,⟨_,SqL.of hrl⟩,fun kn nkn => ?_⟩
   refine jn_ (xs := rowO os) (f := fun i => .bl (os.getD i none).isSome) (cs := []) (SqL.of hrl) nkn rfl (by rw [qP_]; exact Nat.le_trans (by omega : os.length <= 8) (by decide)) (fun i u H2 R2 hu s2 hR => ?_) (fun H2 s2 hkn => ?_)
   ·have hi : i < os.length := by rw [<- qP_]; exact (List.getElem?_eq_some_iff.mp hu).1
    have hai : os[i]? = some (os.getD i none) := by
     rw [List.getD_eq_getElem?_getD,List.getElem?_eq_getElem hi]
     rfl
    rw [qU_ hai] at hu
    cases Option.some.inj hu
    refine ⟨_,rfl,rfl,?_⟩
    have e : (!decide (valO (os.getD i none) = V.non)) = (os.getD i none).isSome := by
     cases os.getD i none with
     | none => rfl
     | some b => exact by rw [decide_eq_false (fun z => by cases z)]; rfl
    rw [e]
    exact hR _ (Same.refl _)
   rw [qP_] at hkn
   have ek : ((List.range os.length).map fun i => V.bl (os.getD i none).isSome) = knV (knO os) := by
    unfold knV knO
    apply List.ext_getElem?
    intro i
    rw [List.getElem?_map,List.getElem?_map,List.getElem?_map]
    by_cases hi : i < os.length
    ·rw [List.getElem?_range hi,List.getElem?_eq_getElem hi]
     have eg : os.getD i none = os[i] := by rw [List.getD_eq_getElem?_getD,List.getElem?_eq_getElem hi]; rfl
     dsimp only [Option.map]
     rw [eg]
    ·rw [List.getElem?_eq_none (by rw [List.length_range]; omega),List.getElem?_eq_none (by omega)]
     rfl
   rw [ek] at hkn
   have hkl : (knO os).length = N + M := by unfold knO; rw [List.length_map,hos]
   have hkk : (knO os)[k]? = some false := by
    unfold knO
    rw [List.getElem?_map,hat,hz]
    rfl
   refine ⟨_,rfl,c,bp,fp,kn,r,w,n,M,N,k,l,knO os,rfl,hC.same s2,g,W,hkn,hkl,hk,hkk,fun D H3 s3 nD told _ => ?_⟩
   have s13 := s2.trans s3
   have q3 := fun H' (s' : Same H3 H') => q2 H' (s13.trans s')
   rcases told with ⟨e,by',hD,he,hr'⟩ | ⟨e,mk,hD,he,hr'⟩
   ·refine ⟨_,rfl,D,_,_,_,rfl,rfl,SqT.of hD,rfl,rfl,_,rfl,?_⟩
    refine ite2 (fun z => absurd (V.str.inj (of_decide_eq_true z)) (by decide)) (fun _ => ?_)
    obtain ⟨dx3,Lp3,qs3,h13,_,_⟩ := (hC.same s13).ins
    refine ⟨_,rfl,c,dx3,_,rfl,h13,rfl,_,rfl,D,_,_,_,rfl,rfl,SqT.of hD,rfl,_,rfl,?_⟩
    exact ⟨c,bp,fp,e,rl,r,w,n,M,N,l,by',os,rfl,hC.same s13,g.toGood,hn,W,he,hr'.len,s13 _ _ hrl,hos,fun H4 s4 => (q3 H4 s4).1 by' hr'⟩
   ·refine ⟨_,rfl,D,_,_,_,rfl,rfl,SqT.of hD,rfl,rfl,_,rfl,?_⟩
    refine ite2 (fun _ => ?_) (fun z => absurd (decide_eq_true rfl) z)
    exact (q3 H3 (Same.refl _)).2 mk hr'
def tot (r w N : Nat) (l : Nat -> Nat -> Nat) (o k : Nat) : Nat := GF.tm r w (eqn N l 0 k) (eqn N l 1 o) ^^^ GF.tm r w (eqn N l 1 k) (eqn N l 0 o)
def jb_ (R : Nat) (ks : List Bool) (pl : Nat) : List Nat := (List.range R).filter fun k => !(ks.getD k false) && !decide (k = pl)
def fixB (r w M N : Nat) (l : Nat -> Nat -> Nat) (ks : List Bool) (pl : Nat) : Bool :=
 match jb_ (N + M) ks pl with
 | [] => true
 | o :: os => if M = 1 then false else (o :: os ++ [pl]).all fun k => decide ((tot r w N l o k ≠ 0) = (k = pl))
theorem j5_ {R : Nat} {ks : List Bool} {pl k : Nat} (h : k ∈ jb_ R ks pl) : k < R /\ ks.getD k false = false /\ k ≠ pl := by
 unfold jb_ at h
 have := List.mem_filter.mp h
 have h2 := this.2
 rw [Bool.and_eq_true,Bool.not_eq_true',Bool.not_eq_true'] at h2
 exact ⟨List.mem_range.mp this.1,h2.1,of_decide_eq_false h2.2⟩
theorem qaq_ {ks : List Bool} {k : Nat} {b : Bool} (hk : k < ks.length) (h : ks.getD k false = b) : ks[k]? = some b := by
 rw [List.getElem?_eq_getElem hk]
 rw [List.getD_eq_getElem?_getD,List.getElem?_eq_getElem hk] at h
 exact congrArg some h
theorem qji_ {r w : Nat} (a x : Nat -> Nat) : GF.dot r w 2 a x = GF.tm r w (a 0) (x 0) ^^^ GF.tm r w (a 1) (x 1) := by
 show (0 ^^^ _) ^^^ _ = _
 rw [Nat.zero_xor]
theorem uB_ {N M : Nat} {l : Nat -> Nat -> Nat} {w : Nat} (W : Wts w M N l) {k : Nat} (hk : k < N + M) : ∃ t,t < M /\ eqn N l t k ≠ 0 := by
 by_cases hjN : k < N
 ·obtain ⟨t,ht,hz⟩ := W.col k hjN
  refine ⟨t,ht,?_⟩
  unfold eqn
  rw [if_pos hjN]
  exact hz
 ·refine ⟨k - N,by omega,?_⟩
  unfold eqn
  rw [if_neg hjN,if_pos rfl]
  decide
theorem qfu_ {a b : Nat} (h : a ^^^ b = 0) : a = b := by
 have := congrArg (fun z => z ^^^ b) h
 simp only [Nat.xor_assoc,Nat.xor_self,Nat.xor_zero,Nat.zero_xor] at this
 exact this
theorem qhk_ {r w N : Nat} {l : Nat -> Nat -> Nat} {ks : List Bool} {pl : Nat} {by' : List Nat} (g : GF.Full r w) (W : Wts w 2 N l) (hks : ks.length = N + 2) (hpl : pl < N + 2) (hkp : ks.getD pl false = false) (f : Reck r w (N + 2) 2 (eqn N l) ks pl by') {o : Nat} (ho : o < N + 2) (hko : ks.getD o false = false) (hop : o ≠ pl) :
  ∀ k,k < N + 2 -> ks.getD k false = false -> (tot r w N l o k ≠ 0 ↔ k = pl) := by
 have t16 := g.toGood.top16
 have R := g.toGood.rule
 have w1 := g.toGood.w1
 have elt : ∀ t k,t < 2 -> k < N + 2 -> eqn N l t k < 2 ^ w := jQ_ W t16
 have b0 : by'.getD 0 0 < 2 ^ w := yA_ f.lt (by rw [f.len]; decide)
 have b1 : by'.getD 1 0 < 2 ^ w := yA_ f.lt (by rw [f.len]; decide)
 have hk : ∀ k,k < N + 2 -> ks.getD k false = false -> GF.tm r w (eqn N l 0 k) (by'.getD 0 0) ^^^ GF.tm r w (eqn N l 1 k) (by'.getD 1 0) = if k = pl then 1 else 0 := fun k h1 h2 => by
  have := f.ok k h1 (qaq_ (by omega) h2)
  rw [qji_] at this
  exact this
 have e0 := hk o ho hko
 rw [if_neg hop] at e0
 have e0 := qfu_ e0
 generalize by'.getD 0 0 = y0 at b0 hk e0
 generalize by'.getD 1 0 = y1 at b1 hk e0
 have a0 := elt 0 o (by decide) ho
 have a1 := elt 1 o (by decide) ho
 have prop : ∃ m,m < 2 ^ w /\ m ≠ 0 /\ y0 = GF.tm r w m (eqn N l 1 o) /\ y1 = GF.tm r w m (eqn N l 0 o) := by
  have hne : ¬ (y0 = 0 /\ y1 = 0) := fun z => by
   have := hk pl hpl hkp
   rw [if_pos rfl,z.1,z.2,GF.tm_zero,GF.tm_zero] at this
   exact absurd this (by decide)
  obtain ⟨t,ht,hz⟩ := uB_ W ho
  have cancel : ∀ {x y z : Nat},x < 2 ^ w -> y < 2 ^ w -> z < 2 ^ w -> z ≠ 0 -> GF.tm r w x z = GF.tm r w y z -> x = y := fun {x y z} hx hy hz' z0 e => by
   rw [GF.tm_comm R w1 hx hz',GF.tm_comm R w1 hy hz'] at e
   exact GF.tm_inj g z0 hz' hx hy e
  by_cases z1 : eqn N l 1 o = 0
  ·have z0 : eqn N l 0 o ≠ 0 := by
    have h2 : t = 0 \/ t = 1 := by omega
    rcases h2 with rfl | rfl
    ·exact hz
    ·exact absurd z1 hz
   have hy0 : y0 = 0 := by
    rw [z1,GF.zero_tm] at e0
    rcases (GF.tm_eq_zero g a0 b0).mp e0 with z | z
    ·exact absurd z z0
    ·exact z
   have inv := GF.pw_back g (Nat.pos_of_ne_zero z0) a0
   have il := GF.pw_lt g.toGood a0 (2 ^ w - 1 - 1)
   generalize GF.pw r w (eqn N l 0 o) (2 ^ w - 1 - 1) = v at inv il
   refine ⟨GF.tm r w y1 v,GF.tm_lt R b1,fun z => ?_,?_,?_⟩
   ·rcases (GF.tm_eq_zero g b1 il).mp z with z | z
    ·exact hne ⟨hy0,z⟩
    ·rw [z,GF.tm_zero] at inv
     exact absurd inv (by decide)
   ·rw [z1,GF.tm_zero,hy0]
   ·rw [GF.tm_assoc R w1 b1 il,GF.tm_comm R w1 il a0,inv,GF.tm_one]
  ·have inv := GF.pw_back g (Nat.pos_of_ne_zero z1) a1
   have il := GF.pw_lt g.toGood a1 (2 ^ w - 1 - 1)
   generalize GF.pw r w (eqn N l 1 o) (2 ^ w - 1 - 1) = v at inv il
   have hy0 : y0 = GF.tm r w (GF.tm r w y0 v) (eqn N l 1 o) := by rw [GF.tm_assoc R w1 b0 il,GF.tm_comm R w1 il a1,inv,GF.tm_one]
   have hy1 : y1 = GF.tm r w (GF.tm r w y0 v) (eqn N l 0 o) := by
    refine cancel b1 (GF.tm_lt R (GF.tm_lt R b0)) a1 z1 ?_
    rw [GF.tm_comm R w1 b1 a1,← e0,GF.tm_assoc R w1 (GF.tm_lt R b0) a0,GF.tm_comm R w1 a0 a1,← GF.tm_assoc R w1 (GF.tm_lt R b0) a1,← hy0,GF.tm_comm R w1 a0 b0]
   refine ⟨GF.tm r w y0 v,GF.tm_lt R b0,fun z => ?_,hy0,hy1⟩
   rw [z,GF.zero_tm] at hy0 hy1
   exact hne ⟨hy0,hy1⟩
 obtain ⟨m,ml,m0,rfl,rfl⟩ := prop
 intro k h1 h2
 have ek := hk k h1 h2
 have c0 := elt 0 k (by decide) h1
 have c1 := elt 1 k (by decide) h1
 have et : GF.tm r w m (tot r w N l o k) = if k = pl then 1 else 0 := by
  rw [<- ek]
  unfold tot
  rw [GF.tm_xor_right,← GF.tm_assoc R w1 ml c0,GF.tm_comm R w1 ml c0,GF.tm_assoc R w1 c0 ml,← GF.tm_assoc R w1 ml c1,GF.tm_comm R w1 ml c1,GF.tm_assoc R w1 c1 ml]
 have tl : tot r w N l o k < 2 ^ w := Nat.xor_lt_two_pow (GF.tm_lt R c0) (GF.tm_lt R c1)
 constructor
 ·intro z
  by_cases y : k = pl
  ·exact y
  ·rw [if_neg y] at et
   rcases (GF.tm_eq_zero g ml tl).mp et with x | x
   ·exact absurd x m0
   ·exact absurd x z
 ·intro y z
  rw [if_pos y,z,GF.tm_zero] at et
  exact absurd et (by decide)
theorem ue_ {r w R pl : Nat} {a x : Nat -> Nat} (hpl : pl < R) (h : ∀ k,k < R -> k ≠ pl -> GF.tm r w (a k) (x k) = 0) : GF.dot r w R a x = GF.tm r w (a pl) (x pl) := by
 have key : ∀ n,n <= R -> GF.dot r w n a x = if pl < n then GF.tm r w (a pl) (x pl) else 0 := by
  intro n
  induction n with
  | zero => intro _; rw [if_neg (Nat.not_lt_zero _)]; rfl
  | succ n ih =>
   intro hn
   rw [GF.dot,ih (by omega)]
   by_cases z : n = pl
   ·subst z
    rw [if_neg (Nat.lt_irrefl _),if_pos (Nat.lt_succ_self _),Nat.zero_xor]
   ·rw [h n (by omega) z,Nat.xor_zero]
    by_cases y : pl < n
    ·rw [if_pos y,if_pos (by omega)]
    ·rw [if_neg y,if_neg (by omega)]
 rw [key R (Nat.le_refl _),if_pos hpl]
theorem u8_ {r w M N : Nat} {l : Nat -> Nat -> Nat} {ks : List Bool} {pl : Nat} {by' : List Nat} (g : GF.Full r w) (W : Wts w M N l) (hks : ks.length = N + M) (hpl : pl < N + M) (hkp : ks.getD pl false = false) (f : Reck r w (N + M) M (eqn N l) ks pl by') : fixB r w M N l ks pl = true := by
 unfold fixB
 have t16 := g.toGood.top16
 split
 ·rfl
 ·rename_i o os he
  have ho := j5_ (R := N + M) (ks := ks) (pl := pl) (k := o) (by rw [he]; exact List.mem_cons_self)
  by_cases hM : M = 1
  ·subst hM
   have b0 : by'.getD 0 0 < 2 ^ w := yA_ f.lt (by rw [f.len]; decide)
   have e1 := f.ok o ho.1 (qaq_ (by omega) ho.2.1)
   have e2 := f.ok pl hpl (qaq_ (by omega) hkp)
   rw [if_neg ho.2.2] at e1
   rw [if_pos rfl] at e2
   have d1 : ∀ a x : Nat -> Nat,GF.dot r w 1 a x = GF.tm r w (a 0) (x 0) := fun a x => Nat.zero_xor _
   rw [d1] at e1 e2
   obtain ⟨t,ht,hz⟩ := uB_ W ho.1
   have t0 : t = 0 := by omega
   subst t0
   rcases (GF.tm_eq_zero g (jQ_ W t16 0 o (by decide) ho.1) b0).mp e1 with z | z
   ·exact absurd z hz
   ·rw [z,GF.tm_zero] at e2
    exact absurd e2 (by decide)
  ·have hM2 : M = 2 := by have := W.m1; have := W.m2; omega
   subst hM2
   rw [if_neg hM,List.all_eq_true]
   have key := qhk_ g W hks hpl hkp f ho.1 ho.2.1 ho.2.2
   intro k hk
   apply decide_eq_true
   rcases List.mem_append.mp hk with y | y
   ·have := j5_ (R := N + 2) (ks := ks) (pl := pl) (k := k) (by rw [he]; exact y)
    exact propext (key k this.1 this.2.1)
   ·rw [List.mem_singleton.mp y]
    exact propext (key pl hpl hkp)
theorem u9_ {r w M N : Nat} {l : Nat -> Nat -> Nat} {ks : List Bool} {pl : Nat} {mk : List Nat} (g : GF.Full r w) (W : Wts w M N l) (hks : ks.length = N + M) (hpl : pl < N + M) (hkp : ks.getD pl false = false) (f : Free r w (N + M) M (eqn N l) ks pl mk) : fixB r w M N l ks pl = false := by
 unfold fixB
 have t16 := g.toGood.top16
 have R := g.toGood.rule
 have w1 := g.toGood.w1
 have mlt : ∀ k,k < N + M -> mk.getD k 0 < 2 ^ w := fun k hk => yA_ f.lt (by rw [f.len]; exact hk)
 have none_of : ∀ k,k < N + M -> k ≠ pl -> k ∉ jb_ (N + M) ks pl -> mk.getD k 0 = 0 := fun k hk hne hno => by
  refine f.zero k hk (qaq_ (by omega) ?_)
  cases hb : ks.getD k false with
  | true => rfl
  | false =>
   refine absurd ?_ hno
   unfold jb_
   refine List.mem_filter.mpr ⟨List.mem_range.mpr hk,?_⟩
   rw [hb,decide_eq_false hne]
   rfl
 split
 ·rename_i he
  obtain ⟨t,ht,hz⟩ := uB_ W hpl
  have e := f.ok t ht
  rw [ue_ hpl fun k hk hne => by rw [none_of k hk hne (by rw [he]; simp),GF.tm_zero],f.one,GF.tm_one] at e
  exact absurd e hz
 ·rename_i o os he
  have ho := j5_ (R := N + M) (ks := ks) (pl := pl) (k := o) (by rw [he]; exact List.mem_cons_self)
  by_cases hM : M = 1
  ·rw [if_pos hM]
  ·have hM2 : M = 2 := by have := W.m1; have := W.m2; omega
   subst hM2
   rw [if_neg hM,List.all_eq_false]
   have elt : ∀ t k,t < 2 -> k < N + 2 -> eqn N l t k < 2 ^ w := jQ_ W t16
   refine Classical.byContradiction fun hall => ?_
   have hall' : ∀ k ∈ (o :: os ++ [pl]),(tot r w N l o k ≠ 0) = (k = pl) := fun k hk => Classical.byContradiction fun z => hall ⟨k,hk,fun y => z (of_decide_eq_true y)⟩
   have h0 : GF.dot r w (N + 2) (tot r w N l o) (fun k => mk.getD k 0) = 0 := by
    show GF.dot r w (N + 2) (fun k => GF.tm r w (eqn N l 0 k) (eqn N l 1 o) ^^^ GF.tm r w (eqn N l 1 k) (eqn N l 0 o)) (fun k => mk.getD k 0) = 0
    rw [GF.dot_add R (N + 2) fun k hk => ⟨GF.tm_lt R (elt 0 k (by decide) hk),GF.tm_lt R (elt 1 k (by decide) hk)⟩]
    rw [GF.dot_scale R w1 (elt 1 o (by decide) ho.1) (N + 2) fun k hk => ⟨elt 0 k (by decide) hk,mlt k hk⟩,GF.dot_scale R w1 (elt 0 o (by decide) ho.1) (N + 2) fun k hk => ⟨elt 1 k (by decide) hk,mlt k hk⟩]
    have e0 := f.ok 0 (by decide)
    have e1 := f.ok 1 (by decide)
    rw [e0,e1,GF.zero_tm,GF.zero_tm]
    rfl
   rw [ue_ hpl fun k hk hne => by
    by_cases hm : k ∈ jb_ (N + 2) ks pl
    ·have := hall' k (List.mem_append_left _ (by rw [<- he]; exact hm))
     have z : tot r w N l o k = 0 := Classical.byContradiction fun y => hne (this.mp y)
     rw [z,GF.zero_tm]
    ·rw [none_of k hk hne hm,GF.tm_zero],f.one,GF.tm_one] at h0
   have := hall' pl (List.mem_append_right _ (List.mem_singleton.mpr rfl))
   exact absurd h0 (this.mpr rfl)
theorem qkr_ {r w n M N : Nat} {l : Nat -> Nat -> Nat} {X : List Nat} (hX : X.length = N + M) : isMk r w n M N l X = true ↔ ∀ t,t < M -> GF.xsum (N + M) (fun j => GF.sc r w n (eqn N l t j) (X.getD j 0)) = 0 := by
 have e : ∀ t,GF.sumB r w n ((rowT (N + M) (eqn N l) t).zip X) = GF.xsum (N + M) (fun j => GF.sc r w n (eqn N l t j) (X.getD j 0)) := fun t => by
  have h := GF.sumB_range (r := r) (w := w) (n := n) (eqn N l t) (fun j => X.getD j 0) (N + M)
  have hx := GF.list_range X
  rw [hX] at hx
  rw [<- hx] at h
  exact h
 unfold isMk
 rw [List.all_eq_true]
 constructor
 ·intro h t ht
  rw [<- e]
  exact of_decide_eq_true (h t (List.mem_range.mpr ht))
 ·intro h t ht
  apply decide_eq_true
  rw [e]
  exact h t (List.mem_range.mp ht)
def zy_ (R : Nat) (os : List (Option Nat)) (X : List Nat) : Prop := ∀ j,j < R -> ∀ b,os.getD j none = some b -> X.getD j 0 = b
theorem zz_ {os : List (Option Nat)} {j : Nat} (hj : j < os.length) (h : os.getD j none = none) : (knO os)[j]? = some false := by
 unfold knO
 rw [List.getElem?_map,List.getElem?_eq_getElem hj]
 rw [List.getD_eq_getElem?_getD,List.getElem?_eq_getElem hj] at h
 have h : os[j] = none := h
 rw [h]
 rfl
theorem qhl_ {os : List (Option Nat)} {j b : Nat} (hj : j < os.length) (h : os.getD j none = some b) : (knO os)[j]? = some true := by
 unfold knO
 rw [List.getElem?_map,List.getElem?_eq_getElem hj]
 rw [List.getD_eq_getElem?_getD,List.getElem?_eq_getElem hj] at h
 have h : os[j] = some b := h
 rw [h]
 rfl
theorem tells_make {r w n M N k : Nat} {l : Nat -> Nat -> Nat} {os : List (Option Nat)} {X by' : List Nat} (g : GF.Good r w) (W : Wts w M N l) (hos : os.length = N + M) (hX : X.length = N + M) (hlt : ∀ b ∈ X,b < (2 ^ w) ^ n) (hk : k < N + M) (hz : os.getD k none = none) (hm : isMk r w n M N l X = true) (ha : zy_ (N + M) os X) (f : Reck r w (N + M) M (eqn N l) (knO os) k by') :
  GF.sumB r w n (tells r w M N l by' os) = X.getD k 0 := by
 have t16 := g.top16
 have hm := (qkr_ hX).mp hm
 have h0 := GF.lines_zero g.rule g.w1 (n := n) (m := N + M) (e := eqn N l) (x := fun j => X.getD j 0) (y := fun t => by'.getD t 0) M (fun t j ht hj => jQ_ W t16 t j ht hj) (fun t ht => yA_ f.lt (by rw [f.len]; exact ht)) hm
 unfold tells
 rw [GF.sumB_filter (fun k => (os.getD k none).isSome) (byL r w M N l by') (fun k => (os.getD k none).getD 0)]
 have h1 := GF.xsum_xor (fun j => if (os.getD j none).isSome = true then GF.sc r w n (byL r w M N l by' j) ((os.getD j none).getD 0) else 0) (fun j => GF.sc r w n (GF.dot r w M (fun t => eqn N l t j) (fun t => by'.getD t 0)) (X.getD j 0)) (N + M)
 rw [h0,Nat.xor_zero] at h1
 rw [<- h1,GF.xsum_single hk fun j hj hne => ?_]
 ·have e := f.ok k hk (zz_ (by omega) hz)
  rw [if_pos rfl] at e
  rw [hz,e,GF.sc_one g.rule g.w1 (yA_ hlt (by rw [hX]; exact hk))]
  have : (if (none : Option Nat).isSome = true then GF.sc r w n (byL r w M N l by' k) ((none : Option Nat).getD 0) else 0) = 0 := if_neg (by decide)
  rw [this]
  exact Nat.zero_xor _
 ·cases hb : os.getD j none with
  | none =>
   have e := f.ok j hj (zz_ (by omega) hb)
   rw [if_neg hne] at e
   rw [e,GF.sc_zero,Nat.xor_zero]
   exact if_neg (by decide)
  | some b =>
   have := ha j hj b hb
   show GF.sc r w n (byL r w M N l by' j) b ^^^ GF.sc r w n (GF.dot r w M (fun t => eqn N l t j) (fun t => by'.getD t 0)) (X.getD j 0) = 0
   rw [this]
   exact Nat.xor_self _
def plainL (i k : Nat) : Nat := if i = 0 then 1 else k + 1
theorem qfv_ {w M N : Nat} (t16 : 16 <= 2 ^ w) (h1 : 1 <= M) (h2 : M <= 2) (h3 : 1 <= N) (h8 : N + M <= 8) : Wts w M N plainL where
 m1 := h1
 m2 := h2
 n1 := h3
 n8 := h8
 lt i k hi hk := by
  unfold plainL
  split <;> omega
 row i hi := ⟨0,h3,by unfold plainL; split <;> decide⟩
 col k hk := ⟨0,h1,by unfold plainL; rw [if_pos rfl]; decide⟩
theorem qli_ {F : Nat -> Prop} {G : Prop} (Pz : Nat -> Prop) (h : (∀ z,Pz z -> F z) -> G) (key : ∀ z,Pz z -> F z) : G := h key
theorem qjj_ {x w : Nat} (h : x < 2 ^ w) : Builtin.Int.intBits (x : Int) <= w := by
 by_cases z : x = 0
 ·subst z
  exact Nat.zero_le _
 ·have h1 : 2 ^ x.log2 <= x := (Nat.le_log2 z).mp (Nat.le_refl _)
  have h2 : x < 2 ^ (x.log2 + 1) := (Nat.log2_lt z).mp (Nat.lt_succ_self _)
  rw [jD_ h1 h2]
  exact (Nat.log2_lt z).mpr h
theorem qaa_ {r w d : Nat} (R : GF.Rule r w) (hd : d < 2 ^ w) : V.int ((Builtin.Int.intBits ((2 : Int) * (d : Int)) : Nat) : Int) = V.int ((Builtin.Int.intBits (r : Int) : Nat) : Int) ↔ 2 ^ w <= 2 * d := by
 have e : (2 : Int) * (d : Int) = ((2 * d : Nat) : Int) := by omega
 rw [jD_ R.lo R.hi,e]
 constructor
 ·intro h
  have h := V.int.inj h
  by_cases z : 2 ^ w <= 2 * d
  ·exact z
  ·have := qjj_ (x := 2 * d) (w := w) (by omega)
   omega
 ·intro h
  rw [jD_ h (by rw [Nat.pow_succ]; omega)]
def qhm_ : Sp := fun vs H Q _ => ∃ x y r w : Nat,vs = [.int x,.int y,.int r] /\ GF.Rule r w /\ w <= 8 /\ x < 2 ^ w /\ Q (.int (GF.tm r w x y : Nat)) H
theorem vS_ (T : Txt K mg a) : FnO P wo K mg base 1 a.f43 ["_law_one", "_law_other", "_law_rule_here"] qhm_ := by
 refine T.x43.F.okA (k := 0) sc_times (fun cdv A outer s H vs Q E hr h => ?_)
 ·obtain ⟨x,y,r,w,rfl,R,hw8,hx,q⟩ := h
  refine ⟨_,(qb_ (qj_ (i := 3) sc_times.nd rfl (Or.inl rfl) qg_)
   (qb_ (j7_ PassesOwn.never (qp_ j0_ (pv 1) qg_ (qr_ _)) (qb_ (qz_ (qp_ q6_ (qk_ qL_ (pv 1) qg_) qg_ (qr_ _)) (qf_ (qj_ (i := 3) sc_times.nd rfl (Or.inl rfl) (qk_ yD_ (pv 3) (pv 0)))) qv_)
   (qb_ (qj_ (i := 0) sc_times.nd rfl (Or.inl rfl) (qk_ jl_ qg_ (pv 0)))
   (qb_ (qz_ (qp_ q6_ (yI_ PySem.F.plainAttrs_int PyProof.Rows.slot_int_bit_length PyProof.Rows.type_int_bit_length yl_ (pv 0)) (yI_ PySem.F.plainAttrs_int PyProof.Rows.slot_int_bit_length PyProof.Rows.type_int_bit_length yl_ (pv 2)) (qr_ _)) (qf_ (qj_ (i := 0) sc_times.nd rfl (Or.inl rfl) (qk_ yD_ (pv 0) (pv 2)))) qv_)
   (qf_ (qj_ (i := 1) sc_times.nd rfl (Or.inl rfl) (qk_ jo_ (pv 1) qg_)))))))
   (qf_ (qo_ (pv 3))))),?_⟩
  refine ⟨fun m σ H' => ∃ f d g : Nat,g = m /\ σ = [some (.int d),some (.int g),some (.int r),some (.int f)] /\ H' = H /\ d < 2 ^ w /\ f ^^^ GF.tm r w d g = GF.tm r w x y,
   ⟨_,0,x,y,rfl,rfl,rfl,hx,Nat.zero_xor _⟩,?_⟩
  rintro m σ H' ⟨f,d,g,rfl,rfl,rfl,hd,inv⟩
  have hd256 : d < 256 := Nat.lt_of_lt_of_le hd (Nat.pow_le_pow_right (by decide) hw8)
  refine ⟨_,rfl,_,_,rfl,rfl,_,rfl,?_⟩
  refine ite2 (fun h => ⟨_,fun _ _ z => z,?_⟩) (fun h => ?_)
  ·have hg : 0 < g := by
    have := of_decide_eq_true h
    omega
   have hdv : ((g : Int) / 2) = ((g / 2 : Nat) : Int) := by omega
   have step := GF.tm_step (r := r) (w := w) d g
   refine ⟨_,rfl,_,_,rfl,rfl,p0 (by decide),rfl,_,rfl,?_⟩
   refine qli_ (fun f' => f' ^^^ GF.tm r w (GF.dbl r w d) (g / 2) = GF.tm r w x y) (fun key => by
    refine ite2 (fun h1 => ?_) (fun h1 => ?_)
    ·have h1' : g % 2 = 1 := by
      have := V.int.inj (of_decide_eq_true h1)
      omega
     have inv' : f ^^^ d ^^^ GF.tm r w (GF.dbl r w d) (g / 2) = GF.tm r w x y := by rw [<- inv,step,if_pos h1',Nat.xor_assoc]
     refine ⟨_,rfl,_,rfl,_,_,rfl,rfl,?_⟩
     try dsimp only
     rw [jA_]
     generalize f ^^^ d = f' at inv' ⊢
     exact key f' inv'
    ·have h1' : ¬ g % 2 = 1 := fun z => h1 (decide_eq_true (by
      show V.int ((g : Int) % 2) = V.int 1
      congr 1
      omega))
     have inv' : f ^^^ GF.tm r w (GF.dbl r w d) (g / 2) = GF.tm r w x y := by rw [<- inv,step,if_neg h1',Nat.zero_xor]
     exact key f inv') ?_
   intro f' inv'
   refine ⟨_,rfl,_,_,rfl,rfl,.inl ⟨by decide,by decide⟩,?_⟩
   refine ⟨_,rfl,rfl,_,rfl,rfl,_,rfl,rfl,_,rfl,rfl,rfl,_,rfl,?_⟩
   try dsimp only
   refine ite2 (fun h2 => ?_) (fun h2 => ?_)
   ·have h2' := (qaa_ R hd).mp (of_decide_eq_true h2)
    refine ⟨_,rfl,_,rfl,_,_,rfl,rfl,?_⟩
    refine ⟨_,rfl,_,_,rfl,rfl,⟨by decide,by decide⟩,?_⟩
    have e2 : Builtin.bitXor ((2 : Int) * (d : Int)) (r : Int) = ((GF.dbl r w d : Nat) : Int) := by
     rw [Int.mul_comm]
     exact qjc_ (by omega)
    try dsimp only
    rw [e2,hdv]
    exact ⟨g / 2,Nat.div_lt_self hg (by decide),f',GF.dbl r w d,g / 2,rfl,rfl,rfl,GF.dbl_lt R hd,inv'⟩
   ·have h2' : ¬ 2 ^ w <= 2 * d := fun z => h2 (decide_eq_true ((qaa_ R hd).mpr z))
    refine ⟨_,rfl,_,_,rfl,rfl,⟨by decide,by decide⟩,?_⟩
    have e2 : (2 : Int) * (d : Int) = ((GF.dbl r w d : Nat) : Int) := by
     rw [Int.mul_comm]
     exact qjd_ (r := r) (by omega)
    try dsimp only
    rw [e2,hdv]
    exact ⟨g / 2,Nat.div_lt_self hg (by decide),f',GF.dbl r w d,g / 2,rfl,rfl,rfl,GF.dbl_lt R hd,inv'⟩
  ·have hg : g = 0 := by
    have : ¬ ((0 : Int) < g) := fun z => h (decide_eq_true z)
    omega
   subst hg
   rw [GF.tm_zero,Nat.xor_zero] at inv
   refine ⟨_,rfl,?_⟩
   show Q (.int (f : Nat)) H'
   rw [inv]
   exact q
theorem qc7_ (r w f b i : Nat) : GF.sc r w (i + 1) f b = GF.sc r w i f b + GF.tm r w f (b / (2 ^ w) ^ i % 2 ^ w) * (2 ^ w) ^ i := by
 unfold GF.sc
 rw [GF.syms_range,GF.syms_range,List.range_succ,List.map_append,List.map_append,List.map_cons,List.map_nil,List.map_cons,List.map_nil,GF.join_snoc,List.length_map,List.length_map,List.length_range]
theorem qc8_ {r w f b i : Nat} (h : b / (2 ^ w) ^ i = 0) : ∀ j,GF.sc r w (i + j) f b = GF.sc r w i f b
 | 0 => rfl
 | j + 1 => by
  have e : b / (2 ^ w) ^ (i + j) = 0 := by
   rw [Nat.pow_add,← Nat.div_div_eq_div_mul,h,Nat.zero_div]
  rw [<- Nat.add_assoc,qc7_,e,Nat.zero_mod,GF.tm_zero,Nat.zero_mul,Nat.add_zero]
  exact qc8_ h j
def qfw_ : Sp := fun vs H Q _ => ∃ f b r w n : Nat,vs = [.int f,.int b,.int r] /\ GF.Good r w /\ f < 2 ^ w /\ b < (2 ^ w) ^ n /\ Q (.int (GF.sc r w n f b : Nat)) H
theorem qfx_ (T : Txt K mg a) : FnO P wo K mg base 2 a.f44 ["_law_factor", "_law_block", "_law_rule_here"] qfw_ := by
 refine T.x44.F.okA (k := 1) sc_scaled (fun cdv A outer s H vs Q E hr h => ?_)
 ·obtain ⟨f,b,r,w,n,rfl,R,hf,hb,q⟩ := h
  have hw8 := R.w8
  have t256 := R.top256
  have t16 := R.top16
  refine ⟨_,(qb_ (qj_ (i := 3) sc_scaled.nd rfl (Or.inl rfl) (qk_ zc_ qg_ (qk_ yC_ (yI_ PySem.F.plainAttrs_int PyProof.Rows.slot_int_bit_length PyProof.Rows.type_int_bit_length yl_ (pv 2)) qg_)))
   (qb_ (qj_ (i := 4) sc_scaled.nd rfl (Or.inl rfl) qg_)
   (qb_ (qj_ (i := 5) sc_scaled.nd rfl (Or.inl rfl) qg_)
   (qb_ (j7_ PassesOwn.never (qp_ j0_ (pv 1) qg_ (qr_ _)) (qb_ (qj_ (i := 4) sc_scaled.nd rfl (Or.inl rfl) (qk_ qO_ (pv 4) (qk_ jl_ (qt_ (vS_ T) hr.u rfl T.x43.m T.x43.k T.x43.b .nil qn_ (qa_ (pv 0) (qa_ (qk_ qL_ (pv 1) (pv 3)) (qa_ (pv 2) qc_)))) (pv 5))))
   (qb_ (qj_ (i := 1) sc_scaled.nd rfl (Or.inl rfl) (qk_ jo_ (pv 1) (pv 3)))
   (qf_ (qj_ (i := 5) sc_scaled.nd rfl (Or.inl rfl) (qk_ jl_ (pv 5) (pv 3)))))))
   (qf_ (qo_ (pv 4))))))),?_⟩
  have ew : ((Builtin.Int.intBits (r : Int) : Nat) : Int) - 1 = (w : Int) := by
   rw [jD_ R.rule.lo R.rule.hi]
   omega
  refine ⟨_,rfl,rfl,_,rfl,rfl,_,_,rfl,rfl,?_⟩
  try dsimp only
  rw [ew]
  refine ⟨_,_,rfl,rfl,⟨by omega,by omega,by decide⟩,?_⟩
  try dsimp only
  rw [vK_]
  refine ⟨fun m σ H' => ∃ i : Nat,i <= n /\ m = n - i /\ σ = [some (.int f),some (.int ((b / (2 ^ w) ^ i : Nat) : Int)),some (.int r),some (.int ((2 ^ w : Nat) : Int)),some (.int ((GF.sc r w i f b : Nat) : Int)),some (.int (((2 ^ w) ^ i : Nat) : Int))] /\ H' = H,
   ⟨_,0,Nat.zero_le _,rfl,by rw [Nat.pow_zero,Nat.div_one]; rfl,rfl⟩,?_⟩
  rintro m σ H' ⟨i,hi,rfl,rfl,rfl⟩
  refine ⟨_,rfl,_,_,rfl,rfl,_,rfl,?_⟩
  refine ite2 (fun h => ⟨_,fun _ _ z => z,?_⟩) (fun h => ?_)
  ·have hpos : 0 < b / (2 ^ w) ^ i := by
    have := of_decide_eq_true h
    omega
   have hin : i < n := by
    by_cases z : i < n
    ·exact z
    ·obtain rfl : i = n := by omega
     rw [Nat.div_eq_of_lt hb] at hpos
     omega
   have e1 : ((b / (2 ^ w) ^ i : Nat) : Int) % ((2 ^ w : Nat) : Int) = ((b / (2 ^ w) ^ i % 2 ^ w : Nat) : Int) := by rw [Int.natCast_emod]
   have e2 : ((b / (2 ^ w) ^ i : Nat) : Int) / ((2 ^ w : Nat) : Int) = ((b / (2 ^ w) ^ (i + 1) : Nat) : Int) := by rw [Nat.pow_succ,← Nat.div_div_eq_div_mul]; exact (Int.natCast_ediv _ _).symm
   have tl := GF.tm_lt R.rule hf (b := b / (2 ^ w) ^ i % 2 ^ w)
   refine ⟨_,rfl,_,rfl,_,rfl,_,rfl,_,_,rfl,rfl,(by omega),?_⟩
   try dsimp only
   rw [e1]
   refine ⟨_,rfl,f,_,r,w,rfl,R.rule,hw8,hf,_,rfl,_,_,rfl,rfl,.inl ⟨by omega,by omega⟩,_,_,rfl,rfl,?_⟩
   refine ⟨_,rfl,_,rfl,_,_,rfl,rfl,⟨by omega,by omega⟩,?_⟩
   refine ⟨_,rfl,_,rfl,_,_,rfl,rfl,.inr ⟨by omega,by omega⟩,?_⟩
   try dsimp only
   rw [e2]
   refine ⟨n - (i + 1),by omega,i + 1,hin,rfl,?_,rfl⟩
   rw [qc7_,Nat.pow_succ,Int.natCast_add,Int.natCast_mul,Int.natCast_mul]
   rfl
  ·have hz : b / (2 ^ w) ^ i = 0 := by
    exact Nat.eq_zero_of_not_pos fun z => h (decide_eq_true (Int.ofNat_lt.mpr z))
   have := qc8_ (r := r) (f := f) hz (n - i)
   rw [Nat.add_sub_cancel' hi] at this
   refine ⟨_,rfl,?_⟩
   rw [<- this]
   exact q
def qlj_ (i j : Int) : Prop := i.natAbs < 2 ^ 1024 /\ j.natAbs < 2 ^ 1024
theorem qc9_ {X : Cx} : OpR X (binaryOp .Mult) (rI qlj_ fun i j => .int (i * j)) := opI fun i j _ _ _ _ _ hc q => mul_int q (IntMulOk.of_le (intBits_le_iff.mpr hc.1) (intBits_le_iff.mpr hc.2) (by decide))
theorem qan_ {α β : Type} {xs : List α} {ys : List β} {j : Nat} {x : α} {y : β} (hx : xs[j]? = some x) (hy : ys[j]? = some y) : (xs.zip ys).take (j + 1) = (xs.zip ys).take j ++ [(x,y)] := by
 have h : (xs.zip ys)[j]? = some (x,y) := List.getElem?_zip_eq_some (z := (x,y)).mpr ⟨hx,hy⟩
 rw [List.take_add_one,h]
 rfl
def qjk_ (K : PySem.W.Frag) : Sp := fun vs H Q _ => ∃ (sl wl : Addr) (ps : List Addr) (r w n M N : Nat) (l : Nat -> Nat -> Nat) (xs : List Nat),vs = [.ref sl,.ref wl,.int r] /\ GF.Good r w /\ H sl = some (.lst (rowV xs)) /\ xs.length = N /\ N <= 8 /\ M <= 2 /\ (∀ x ∈ xs,x < (2 ^ w) ^ n) /\ H wl = some (.lst (ps.map V.ref)) /\ TabAt H ps M (rowT N l) /\ (∀ i k,i < M -> k < N -> l i k < 2 ^ w) ∧
 ∀ D H',Same H H' -> H D = none -> H' D = some (.lst (rowV (y5_ r w n M N l xs))) -> Q (.ref D) H'
theorem qjl_ (T : Txt K mg a) : FnO P wo K mg base 3 a.f45 ["_law_some_here", "_law_weights_here", "_law_rule_here"] (qjk_ K) := by
 refine T.x45.F.okA (k := 2) sc_make (fun cdv A outer s H vs Q E hr h => ?_)
 ·obtain ⟨sl,wl,ps,r,w,n,M,N,l,xs,rfl,R,hsl,hN,hN8,hM2,hlt,hwl,ht,hl,q⟩ := h
  refine ⟨_,(qb_ (qj_ (i := 3) sc_make.nd rfl (Or.inl rfl) (jf_ q0_ rfl T.n_list (by decide +kernel) (qa_ (pv 0) qc_)))
   (qb_ (qD_ PassesOwn.never rfl (qH_ (pv 1)) (qm_ (i := 4) sc_make.nd rfl (Or.inl rfl)) (qb_ (qj_ (i := 5) sc_make.nd rfl (Or.inl rfl) qg_)
   (qb_ (qD_ PassesOwn.never rfl (zU_ rfl T.n_zip (qa_ (pv 4) (qa_ (pv 0) qc_))) (yh_ rfl (qM_ (qm_ (i := 6) sc_make.nd rfl (Or.inl rfl)) (qM_ (qm_ (i := 7) sc_make.nd rfl (Or.inl rfl)) jw_))) (qf_ (qj_ (i := 5) sc_make.nd rfl (Or.inl rfl) (qk_ yD_ (pv 5) (qt_ (qfx_ T) hr.u rfl T.x44.m T.x44.k T.x44.b .nil qn_ (qa_ (pv 6) (qa_ (pv 7) (qa_ (pv 2) qc_))))))))
   (qf_ (qN_ (jm_ PySem.F.plainAttrs_list PySem.F.slot_list_append PySem.F.type_list_append qJ_ (pv 3) (qa_ (pv 5) qc_)))))))
   (qf_ (qo_ (pv 3))))),?_⟩
  have el : (ps.map V.ref).length = M := by rw [List.length_map,ht.len]
  refine ⟨_,rfl,sl,_,rfl,.inl (SqL.of hsl),fun D nD => ?_⟩
  have sD := Same.new (o := .lst (rowV xs)) nD
  have hD : (upd H D (.lst (rowV xs))) D = some (.lst (rowV xs)) := qd_
  generalize (upd H D (.lst (rowV xs))) = H1 at sD hD
  refine ⟨_,rfl,wl,rfl,⟨_,SqL.of (sD _ _ hwl)⟩,?_⟩
  refine js_ (xs := ps.map V.ref) (fun i σ H' => (∃ v4 v5 v6 v7 : Option V,σ = [some (.ref sl),some (.ref wl),some (.int r),some (.ref D),v4,v5,v6,v7]) /\ Same H H' /\ H' D = some (.lst (rowV (xs ++ (List.range i).map fun t => GF.sumB r w n ((rowT N l t).zip xs))))) ⟨⟨none,none,none,none,rfl⟩,sD,by rw [hD]; simp⟩ ?_ ?_ ?_
  ·rintro i σ H' _ ⟨_,sm,_⟩
   exact SqL.of (sm _ _ hwl)
  ·rintro i x σ H' hx ⟨⟨v4,v5,v6,v7,rfl⟩,sm,h1⟩
   have hi : i < M := by rw [<- el]; exact (List.getElem?_eq_some_iff.mp hx).1
   obtain ⟨p,ep,hp⟩ := ht.get hi
   rw [qC_ ep] at hx
   cases Option.some.inj hx
   refine ⟨_,rfl,_,rfl,p,sl,_,_,rfl,SqL.of (sm _ _ hp),SqL.of (sm _ _ hsl),uq_ (K := K) (l1 := p) (l2 := sl) (xs := rowV (rowT N l i)) (ys := rowV xs) (fun j σ H' => (∃ v6 v7 : Option V,σ = [some (.ref sl),some (.ref wl),some (.int r),some (.ref D),some (.ref p),some (.int ((GF.sumB r w n (((rowT N l i).zip xs).take j) : Nat) : Int)),v6,v7]) /\ Same H H' /\ H' D = some (.lst (rowV (xs ++ (List.range i).map fun t => GF.sumB r w n ((rowT N l t).zip xs))))) ⟨⟨_,_,rfl⟩,sm,h1⟩ ?_ (by rw [qi_,qi_,qs_,hN]) ?_ ?_⟩
   ·rintro j σ H2 _ ⟨_,s2,_⟩
    exact ⟨SqL.of (s2 _ _ hp),SqL.of (s2 _ _ hsl)⟩
   ·rintro j u v T' σ H2 hj hu hv hT ⟨⟨v6,v7,rfl⟩,s2,h2⟩
    obtain ⟨f,hf,rfl⟩ := qV_ hu
    obtain ⟨b,hb,rfl⟩ := qV_ hv
    have s3 := s2.trans (Same.new (o := .tup [V.int (f : Nat),V.int (b : Nat)]) hT)
    have h3 := (Same.new (o := .tup [V.int (f : Nat),V.int (b : Nat)]) hT) _ _ h2
    refine ⟨T',_,rfl,SqT.of qd_,rfl,_,_,rfl,_,_,rfl,rfl,?_⟩
    generalize (upd H2 T' (.tup [V.int (f : Nat),V.int (b : Nat)])) = H3 at s3 h3
    have hf' : f < 2 ^ w := by
     have hjN : j < N := by
      have := (List.getElem?_eq_some_iff.mp hf).1
      rw [qs_] at this
      exact this
     unfold rowT at hf
     rw [List.getElem?_map,List.getElem?_range hjN] at hf
     cases hf
     exact hl i j hi hjN
    refine ⟨_,rfl,_,rfl,_,rfl,_,rfl,f,b,r,w,n,rfl,R,hf',hlt b (List.mem_of_getElem? hb),_,_,rfl,rfl,?_⟩
    try dsimp only
    rw [jA_]
    refine ⟨⟨some (.int (f : Nat)),some (.int (b : Nat)),?_⟩,s3,h3⟩
    rw [qan_ hf hb,GF.sumB_snoc]
    rfl
   ·rintro σ H2 ⟨⟨v6,v7,rfl⟩,s2,h2⟩
    have fits : (rowV (xs ++ (List.range i).map fun t => GF.sumB r w n ((rowT N l t).zip xs))).length < sizeLine := by
     rw [qi_,List.length_append,List.length_map,List.length_range]
     exact Nat.lt_trans (by omega : xs.length + i < 11) (by decide)
    refine ⟨_,rfl,.inl ⟨rfl,_,SqL.of h2⟩,_,rfl,D,_,_,rfl,rfl,h2,fits,⟨_,_,_,_,rfl⟩,s2.up nD,?_⟩
    have ez : ((rowT N l i).zip xs).take (rowV (rowT N l i)).length = (rowT N l i).zip xs := List.take_of_length_le (by rw [qi_,List.length_zip]; omega)
    rw [qd_,ez,List.range_succ,List.map_append,← List.append_assoc,q5_]
    rfl
  ·rintro σ H' ⟨⟨v4,v5,v6,v7,rfl⟩,sm,h1⟩
   rw [el] at h1
   exact ⟨_,rfl,q D H' sm nD h1⟩
def qjm_ (K : PySem.W.Frag) : Sp := fun vs H Q _ => ∃ (s : Addr) (ns : List Int) (st N L : Nat),vs = [.ref s,.int st,.int N,.int L] /\ SqL K H s (ns.map V.int) /\ ns.length <= 63 /\ st + N <= 99 /\ N <= 8 /\ 0 < L /\ L <= 2 ^ 128 ∧
 ∀ D H' xs,Same H H' -> H D = none -> H' D = some (.lst (rowV xs)) -> xs.length = N -> (∀ x ∈ xs,x < L) -> Q (.ref D) H'
theorem qjn_ (T : Txt K mg a) : FnO P wo K mg base 2 a.f46 ["_law_script", "_law_start", "_law_many", "_law_limit"] (qjm_ K) := by
 refine T.x46.F.okA (k := 1) sc_some (fun cdv A outer s H vs Q E hr h => ?_)
 ·obtain ⟨sa,ns,st,N,L,rfl,hS,hn,hst,hN8,hL0,hL,q⟩ := h
  refine ⟨_,(qb_ (qj_ (i := 4) sc_some.nd rfl (Or.inl rfl) (qI_ qc_))
   (qb_ (qD_ PassesOwn.never rfl (qF_ rfl T.n_range (qa_ (pv 2) qc_)) (qm_ (i := 5) sc_some.nd rfl (Or.inl rfl)) (qb_ (qj_ (i := 6) sc_some.nd rfl (Or.inl rfl) (qk_ qL_ (qt_ (jX_ T) hr.u rfl T.x40.m T.x40.k T.x40.b .nil qn_ (qa_ (pv 0) (qa_ (qk_ qO_ (pv 1) (pv 5)) qc_))) (pv 3)))
   (qf_ (qN_ (jm_ PySem.F.plainAttrs_list PySem.F.slot_list_append PySem.F.type_list_append qJ_ (pv 4) (qa_ (qk_ qL_ (qk_ qc9_ (pv 6) (qk_ qO_ (qk_ qO_ (qk_ qka_ qg_ qg_) qg_) (qk_ qc9_ qg_ (pv 5)))) (pv 3)) qc_))))))
   (qf_ (qo_ (pv 4))))),?_⟩
  refine ⟨Nat.zero_le _,fun D nD => ?_⟩
  have sD := Same.new (o := .lst []) nD
  have hD : (upd H D (.lst [])) D = some (.lst []) := qd_
  generalize (upd H D (.lst [])) = H1 at sD hD
  have hLp : (0 : Int) < (L : Int) := by omega
  refine ⟨_,rfl,_,rfl,by omega,by omega,?_⟩
  rw [Int.toNat_natCast]
  refine qQ_ (lo := 0) (n := N) (fun i σ H' => (∃ v5 v6 : Option V,σ = [some (.ref sa),some (.int st),some (.int N),some (.int L),some (.ref D),v5,v6]) /\ Same H H' /\ ∃ xs : List Nat,H' D = some (.lst (rowV xs)) /\ xs.length = i /\ ∀ x ∈ xs,x < L) ⟨⟨none,none,rfl⟩,sD,[],hD,rfl,fun x hx => absurd hx List.not_mem_nil⟩ ?_ ?_
  ·rintro i σ H' hi ⟨⟨v5,v6,rfl⟩,sm,xs,h1,hxl,hx⟩
   have ei : (0 : Int) + (i : Nat) = ((i : Nat) : Int) := by omega
   rw [ei]
   refine ⟨_,rfl,_,rfl,_,rfl,_,_,rfl,rfl,?_⟩
   try dsimp only
   rw [show (st : Int) + (i : Int) = ((st + i : Nat) : Int) by omega]
   refine ⟨sa,ns,st + i,rfl,sm.seq hS,by omega,hn,fun c => ?_⟩
   obtain ⟨y,hy,ey⟩ := modN c hL0
   refine ⟨_,rfl,_,_,rfl,rfl,p0 hLp,?_⟩
   try dsimp only
   rw [ey]
   have big : ∀ z : Nat,z <= 2 ^ 128 -> (z : Int).natAbs < 2 ^ 1024 := fun z h => by
    rw [Int.natAbs_natCast]
    exact Nat.lt_of_le_of_lt h (by decide +kernel)
   have hi8 : i < 8 := by omega
   refine ⟨_,rfl,.inl ⟨rfl,_,SqL.of h1⟩,_,rfl,_,_,rfl,rfl,⟨by decide,by decide,by decide⟩,_,_,rfl,rfl,_,rfl,_,_,rfl,rfl,⟨by decide +kernel,big i (Nat.le_trans (Nat.le_of_lt hi8) (by decide))⟩,_,_,rfl,rfl,_,_,rfl,rfl,⟨big y (by omega),?_⟩,?_⟩
   ·have e : (10 : Int) ^ (39 : Int).toNat + 7 + 2 * (i : Int) = ((10 ^ 39 + 7 + 2 * i : Nat) : Int) := by
     rw [Int.natCast_add,Int.natCast_mul]
     rfl
    rw [e,Int.natAbs_natCast]
    exact Nat.lt_of_le_of_lt (show 10 ^ 39 + 7 + 2 * i <= 10 ^ 39 + 7 + 2 * 8 by omega) (by decide +kernel)
   obtain ⟨z,hz,ez⟩ := modN ((y : Int) * ((10 : Int) ^ (39 : Int).toNat + 7 + 2 * (i : Int))) hL0
   refine ⟨_,rfl,_,_,rfl,rfl,p0 hLp,?_⟩
   try dsimp only
   rw [ez]
   have fits : (rowV xs).length < sizeLine := by
    rw [qi_]
    exact Nat.lt_trans (by omega : xs.length < 9) (by decide)
   refine ⟨D,_,_,rfl,rfl,h1,fits,⟨_,_,rfl⟩,sm.up nD,xs ++ [z],by rw [qd_,← q5_],by rw [List.length_append,hxl]; rfl,fun x hx' => ?_⟩
   rcases List.mem_append.mp hx' with y | y
   ·exact hx x y
   ·rw [List.mem_singleton.mp y]; exact hz
  ·rintro σ H' ⟨⟨v5,v6,rfl⟩,sm,xs,h1,hxl,hx⟩
   exact ⟨_,rfl,q D H' xs sm nD h1 hxl hx⟩
def qhn_ : Sp := fun vs H Q _ => ∃ c : Int,vs = [.int c] /\ ∀ (t : Addr) (H' : Hp) (N M : Nat),1 <= M -> M <= 2 -> 1 <= N -> N + M <= 8 -> H t = none -> Same H H' -> H' t = some (.tup [.int (N : Nat),.int (M : Nat)]) -> Q (.ref t) H'
theorem qho_ (T : Txt K mg a) : FnO P wo K mg base 1 a.f49 ["_law_cell_here"] qhn_ := by
 refine T.x49.F.okA (k := 0) sc_sizes (fun cdv A outer s H vs Q E hr h => ?_)
 ·obtain ⟨c,rfl,q⟩ := h
  refine ⟨_,(qb_ (qj_ (i := 1) sc_sizes.nd rfl (Or.inl rfl) (qk_ qO_ qg_ (qk_ qL_ (pv 0) qg_)))
   (qf_ (qo_ (j1_ (qa_ (qk_ qO_ qg_ (qk_ qL_ (qk_ jo_ (pv 0) qg_) (qk_ yC_ qg_ (pv 1)))) (qa_ (pv 1) qc_)))))),?_⟩
  obtain ⟨m0,hm0,em0⟩ := modN c (n := 2) (by decide)
  have em0 : c % 2 = (m0 : Int) := em0
  refine ⟨_,rfl,_,_,rfl,rfl,p0 (by decide),_,_,rfl,rfl,?_⟩
  try dsimp only
  rw [em0,show (1 : Int) + (m0 : Int) = ((1 + m0 : Nat) : Int) by omega]
  obtain ⟨n0,hn0,en0⟩ := modN (c / 2) (n := 8 - (1 + m0)) (by omega)
  have e8 : (8 : Int) - ((1 + m0 : Nat) : Int) = ((8 - (1 + m0) : Nat) : Int) := by omega
  refine ⟨_,rfl,_,_,rfl,rfl,⟨by decide,by decide⟩,_,rfl,_,_,rfl,rfl,_,_,rfl,rfl,(by rw [e8]; omega),_,_,rfl,rfl,_,rfl,(by show 2 <= sizeLine; decide),fun t nt => ?_⟩
  refine q t _ (1 + n0) (1 + m0) (by omega) (by omega) (by omega) (by omega) nt (Same.new nt) ?_
  rw [qd_]
  try dsimp only
  rw [e8,en0]
  rfl
def qhp_ : Sp := fun vs H Q _ => ∃ (c : Int) (R : Nat),vs = [.int c,.int R] /\ R <= 8 /\ ∀ D H' (cs : List Nat),Same H H' -> H D = none -> H' D = some (.lst (rowV cs)) -> cs.length = R -> (∀ x ∈ cs,1 <= x /\ x <= 9) -> Q (.ref D) H'
theorem qhq_ (T : Txt K mg a) : FnO P wo K mg base 1 a.f50 ["_law_cell_here", "_law_roles_here"] qhp_ := by
 refine T.x50.F.okA (k := 0) sc_costs (fun cdv A outer s H vs Q E hr h => ?_)
 ·obtain ⟨c,R,rfl,hR,q⟩ := h
  refine ⟨_,(qb_ (qj_ (i := 2) sc_costs.nd rfl (Or.inl rfl) (qk_ qL_ (pv 0) qg_))
   (qb_ (qj_ (i := 3) sc_costs.nd rfl (Or.inl rfl) (qI_ qc_))
   (qb_ (qD_ PassesOwn.never rfl (qF_ rfl T.n_range (qa_ (pv 1) qc_)) (qm_ (i := 4) sc_costs.nd rfl (Or.inl rfl)) (qb_ (qN_ (jm_ PySem.F.plainAttrs_list PySem.F.slot_list_append PySem.F.type_list_append qJ_ (pv 3) (qa_ (qk_ qO_ qg_ (qk_ qL_ (pv 2) qg_)) qc_)))
   (qf_ (qj_ (i := 2) sc_costs.nd rfl (Or.inl rfl) (qk_ jo_ (pv 2) qg_)))))
   (qf_ (qo_ (pv 3)))))),?_⟩
  obtain ⟨z0,_,ez0⟩ := modN c (n := 43046721) (by decide)
  refine ⟨_,rfl,_,_,rfl,rfl,p0 (by decide),?_⟩
  try dsimp only
  rw [show c % 43046721 = (z0 : Int) from ez0]
  refine ⟨Nat.zero_le _,fun D nD => ?_⟩
  have sD := Same.new (o := .lst []) nD
  have hD : (upd H D (.lst [])) D = some (.lst []) := qd_
  generalize (upd H D (.lst [])) = H1 at sD hD
  refine ⟨_,rfl,_,rfl,by omega,by omega,?_⟩
  rw [Int.toNat_natCast]
  refine qQ_ (lo := 0) (n := R) (fun i σ H' => (∃ (v4 : Option V) (z : Nat),σ = [some (.int c),some (.int R),some (.int z),some (.ref D),v4]) /\ Same H H' /\ ∃ cs : List Nat,H' D = some (.lst (rowV cs)) /\ cs.length = i /\ ∀ x ∈ cs,1 <= x /\ x <= 9) ⟨⟨none,z0,rfl⟩,sD,[],hD,rfl,fun x hx => absurd hx List.not_mem_nil⟩ ?_ ?_
  ·rintro i σ H' hi ⟨⟨v4,z,rfl⟩,sm,cs,h1,hcl,hx⟩
   have fits : (rowV cs).length < sizeLine := by
    rw [qi_]
    exact Nat.lt_trans (by omega : cs.length < 9) (by decide)
   refine ⟨_,rfl,.inl ⟨rfl,_,SqL.of h1⟩,_,rfl,_,_,rfl,rfl,p0 (by decide),_,_,rfl,rfl,D,_,_,rfl,rfl,h1,fits,?_⟩
   refine ⟨_,rfl,_,_,rfl,rfl,⟨by decide,by decide⟩,?_⟩
   try dsimp only
   rw [show (z : Int) / 9 = ((z / 9 : Nat) : Int) by omega,show (1 : Int) + (z : Int) % 9 = ((1 + z % 9 : Nat) : Int) by omega]
   refine ⟨⟨_,_,rfl⟩,sm.up nD,cs ++ [1 + z % 9],by rw [qd_,← q5_],by rw [List.length_append,hcl]; rfl,fun x hx' => ?_⟩
   rcases List.mem_append.mp hx' with y | y
   ·exact hx x y
   ·rw [List.mem_singleton.mp y]; omega
  ·rintro σ H' ⟨⟨v4,z,rfl⟩,sm,cs,h1,hcl,hx⟩
   exact ⟨_,rfl,q D H' cs sm nD h1 hcl hx⟩
def fx (r w M N : Nat) (l : Nat -> Nat -> Nat) (ks : List Bool) (k : Nat) : Bool := ks.getD k false || fixB r w M N l ks k
theorem qks_ {ks : List Bool} {k : Nat} (h : k < ks.length) : ks[k]? = some (ks.getD k false) := by
 rw [List.getD_eq_getElem?_getD,List.getElem?_eq_getElem h]
 rfl
def qjo_ (K : PySem.W.Frag) (a : Adr) : Sp := fun vs H Q _ => ∃ (c bp fp kn : Addr) (r w n M N k : Nat) (l : Nat -> Nat -> Nat) (ks : List Bool),vs = [.ref c,.ref kn,.int k] /\ CodeAt a H c bp fp r w n M N l /\ GF.Full r w /\ Wts w M N l /\ H kn = some (.lst (knV ks)) /\ ks.length = N + M /\ k < N + M /\ ∀ H',Same H H' -> Q (.bl (fx r w M N l ks k)) H'
theorem zM_ (T : Txt K mg a) : FnO P wo K mg base 8 a.f25 ["self", "known", "role"] (qjo_ K a) := by
 refine T.x25.F.okA (k := 7) qaj_ (fun cdv A outer s H vs Q E hr h => ?_)
 ·obtain ⟨c,bp,fp,kn,r,w,n,M,N,k,l,ks,rfl,hC,g,W,hkn,hks,hk,q⟩ := h
  obtain ⟨dx,Lp,qs,h1,h2,h3⟩ := id hC.ins
  refine ⟨_,(qb_ (qN_ (qB_ (pv 0) T.cl_Code T.x24.me (yp_ T) hr.u T.x24.b .nil qn_ (qa_ (pv 2) qc_)))
   (qf_ (qo_ (qia_ (qx_ qy_ (pv 1) (pv 2) (fun _ _ => rfl)) (yB_ (q2_ q6_ (qx_ yj_ (qB_ (pv 0) T.cl_Code T.x23.me (va_ T) hr.u T.x23.b .nil qn_ (qa_ (pv 1) (qa_ (pv 2) qc_))) qg_ (fun _ _ => rfl)) vX_ (qr_ _))))))),?_⟩
  refine ⟨_,rfl,c,dx,_,rfl,h1,rfl,_,rfl,c,bp,fp,r,w,n,M,N,k,l,rfl,hC,hk,?_⟩
  have hb := qks_ (ks := ks) (k := k) (by omega)
  have hka : (knV ks)[k]? = some (.bl (ks.getD k false)) := by unfold knV; rw [List.getElem?_map,hb]; rfl
  refine ⟨_,rfl,_,rfl,kn,_,_,_,rfl,rfl,SqL.of hkn,qq_ hka,_,rfl,?_⟩
  unfold fx at q
  cases hz : ks.getD k false with
  | true =>
   rw [hz] at q
   refine ite2 (fun _ => ?_) (fun z => absurd rfl z)
   exact q H (Same.refl _)
  | false =>
   rw [hz] at q hb
   refine ite2 (fun z => absurd z (by decide)) (fun _ => ?_)
   refine ⟨_,rfl,c,dx,_,rfl,h1,rfl,_,rfl,_,rfl,c,bp,fp,kn,r,w,n,M,N,k,l,ks,rfl,hC,g,W,hkn,hks,hk,hb,fun D H1 s1 nD told fr => ?_⟩
   rcases told with ⟨e,by',hD,he,hr'⟩ | ⟨e,mk,hD,he,hr'⟩
   ·refine ⟨D,_,_,_,rfl,rfl,SqT.of hD,rfl,rfl,?_⟩
    try dsimp only
    rw [decide_eq_true rfl]
    have := q H1 s1
    rw [u8_ g W hks hk hz hr'] at this
    exact this
   ·refine ⟨D,_,_,_,rfl,rfl,SqT.of hD,rfl,rfl,?_⟩
    try dsimp only
    rw [decide_eq_false (fun z => absurd (V.str.inj z) (by decide))]
    have := q H1 s1
    rw [u9_ g W hks hk hz hr'] at this
    exact this
def qd2_ (K : PySem.W.Frag) (a : Adr) : Sp := fun vs H Q _ => ∃ (c bp fp kn so : Addr) (r w n M N : Nat) (l : Nat -> Nat -> Nat) (ks : List Bool) (rs : List Nat),vs = [.ref c,.ref kn,.ref so] /\ CodeAt a H c bp fp r w n M N l /\ GF.Full r w /\ Wts w M N l /\ H kn = some (.lst (knV ks)) /\ ks.length = N + M /\ SqL K H so (rowV rs) /\ (∀ k ∈ rs,k < N + M) /\ ∀ H',Same H H' -> Q (.bl (rs.all (fx r w M N l ks))) H'
theorem vb_ (T : Txt K mg a) : FnO P wo K mg base 9 a.f28 ["code", "known", "some"] (qd2_ K a) := by
 refine T.x28.F.okA (k := 8) sc_fixes_all (fun cdv A outer s H vs Q E hr h => ?_)
 ·obtain ⟨c,bp,fp,kn,so,r,w,n,M,N,l,ks,rs,rfl,hC,g,W,hkn,hks,hso,hrs,q⟩ := h
  refine ⟨_,(qb_ (qD_ PassesOwn.never rfl (qH_ (pv 2)) (qm_ (i := 3) sc_fixes_all.nd rfl (Or.inl rfl)) (qf_ (qz_ (jk_ (qZ_ (qB_ (pv 0) T.cl_Code T.x25.me (zM_ T) hr.u T.x25.b .nil qn_ (qa_ (pv 1) (qa_ (pv 3) qc_))))) (qf_ (qo_ jI_)) qv_)))
   (qf_ (qo_ jI_))),?_⟩
  refine ⟨_,rfl,so,rfl,⟨_,hso⟩,?_⟩
  refine js_ (xs := rowV rs) (fun i σ H' => (∃ v3 : Option V,σ = [some (.ref c),some (.ref kn),some (.ref so),v3]) /\ Same H H' /\ (rs.take i).all (fx r w M N l ks) = true) ⟨⟨none,rfl⟩,Same.refl _,rfl⟩ ?_ ?_ ?_
  ·rintro i σ H' _ ⟨_,sm,_⟩
   exact sm.seq hso
  ·rintro i x σ H' hx ⟨⟨v3,rfl⟩,sm,hal⟩
   obtain ⟨k,ek,rfl⟩ := qV_ hx
   have hk := hrs k (List.mem_of_getElem? ek)
   have hC' := hC.same sm
   obtain ⟨dx,Lp,qs,h1,_,_⟩ := id hC'.ins
   refine ⟨_,rfl,c,dx,_,rfl,h1,rfl,_,rfl,_,rfl,c,bp,fp,kn,r,w,n,M,N,k,l,ks,rfl,hC',g,W,sm _ _ hkn,hks,hk,fun H2 s2 => ?_⟩
   refine ⟨_,rfl,?_⟩
   cases hz : fx r w M N l ks k with
   | true =>
    refine ite2 (fun z => absurd z (by decide)) (fun _ => ⟨⟨_,rfl⟩,sm.trans s2,?_⟩)
    rw [List.take_add_one,ek,List.all_append,hal]
    show (true && ([k].all (fx r w M N l ks))) = true
    rw [List.all_cons,hz]
    rfl
   | false =>
    refine ite2 (fun _ => ?_) (fun z => absurd rfl z)
    have : rs.all (fx r w M N l ks) = false := by
     rw [Bool.eq_false_iff]
     intro z
     have := List.all_eq_true.mp z k (List.mem_of_getElem? ek)
     rw [hz] at this
     cases this
    rw [this] at q
    exact q H2 (sm.trans s2)
  ·rintro σ H' ⟨⟨v3,rfl⟩,sm,hal⟩
   rw [qi_,List.take_length] at hal
   rw [hal] at q
   exact q H' sm
def af (c f cl rl sl : Addr) : List (Str × V) := [("code",.ref c),("ask",.ref f),("costs",.ref cl),("row",.ref rl),("asked",.ref sl)]
theorem zo_ (c f cl rl sl : Addr) : (af c f cl rl sl).lookup ("code" : Str) = some (.ref c) := rfl
theorem qkt_ (c f cl rl sl : Addr) : (af c f cl rl sl).lookup ("ask" : Str) = some (.ref f) := rfl
theorem vT_ (c f cl rl sl : Addr) : (af c f cl rl sl).lookup ("costs" : Str) = some (.ref cl) := rfl
theorem vc_ (c f cl rl sl : Addr) : (af c f cl rl sl).lookup ("row" : Str) = some (.ref rl) := rfl
theorem vU_ (c f cl rl sl : Addr) : (af c f cl rl sl).lookup ("asked" : Str) = some (.ref sl) := rfl
def qfy_ (K : PySem.W.Frag) (a : Adr) : Sp := fun vs H Q _ => ∃ (x dx c bp fp f cl0 : Addr) (r w n M N : Nat) (l : Nat -> Nat -> Nat) (cs : List (Option Nat)),vs = [.ref x,.ref c,.ref f,.ref cl0] /\ H x = some (.ins a.C_Asking dx []) /\ CodeAt a H c bp fp r w n M N l /\ Wts w M N l /\ SqL K H cl0 (rowO cs) /\ cs.length <= 8 ∧
 ∀ H' cl rl sl,(∀ b o,b ≠ x -> H b = some o -> H' b = some o) -> H' x = some (.ins a.C_Asking dx (af c f cl rl sl)) -> H cl = none -> H rl = none -> H sl = none -> cl ≠ rl -> cl ≠ sl -> rl ≠ sl -> H' cl = some (.lst (rowO cs)) -> H' rl = some (.lst (rowO (List.replicate (N + M) none))) -> H' sl = some (.lst (rowV [])) -> Q .non H'
theorem uC_ (T : Txt K mg a) : FnO P wo K mg base 1 a.f29 ["self", "code", "ask", "costs"] (qfy_ K a) := by
 refine T.x29.F.okA (k := 0) uw_ (fun cdv A outer s H vs Q E hr h => ?_)
 ·obtain ⟨x,dx,c,bp,fp,f,cl0,r,w,n,M,N,l,cs,rfl,hx,hC,W,hcl0,hcs,q⟩ := h
  obtain ⟨dc,Lp,qs,h1,_,_⟩ := id hC.ins
  have n8 := W.n8
  have hcx : c ≠ x := fun z => by
   rw [z,hx] at h1
   have := (HO.ins.inj (Option.some.inj h1)).2.2
   unfold cf at this
   cases this
  refine ⟨_,(qb_ (je_ (pv 0) (pv 1) rfl)
   (qb_ (je_ (pv 0) (pv 2) rfl)
   (qb_ (je_ (pv 0) (jf_ q0_ rfl T.n_list (by decide +kernel) (qa_ (pv 3) qc_)) rfl)
   (qb_ (je_ (pv 0) (qk_ zS_ (qI_ (qa_ qK_ qc_)) (qA_ (pv 1) rfl)) rfl)
   (qf_ (je_ (pv 0) (qI_ qc_) rfl)))))),?_⟩
  refine ⟨_,rfl,_,rfl,x,a.C_Asking,dx,_,rfl,hx,T.cl_Asking,T.no_Asking_code,(by decide),?_⟩
  refine ⟨_,rfl,_,rfl,x,a.C_Asking,dx,_,rfl,qd_,T.cl_Asking,T.no_Asking_ask,(by show (1 : Nat) < 1000; decide),?_⟩
  dsimp only
  rw [q9_]
  have ef2 : putF "ask" (.ref f) (putF "code" (.ref c) []) = [(("code" : Str),V.ref c),(("ask" : Str),.ref f)] := rfl
  rw [ef2]
  have fr : ∀ {fs : List (Str × V)} {b : Addr},(upd H x (.ins a.C_Asking dx fs)) b = none -> H b = none := fun {fs b} z => by
   by_cases e : b = x
   ·rw [e,qd_] at z; cases z
   ·rwa [qe_ e] at z
  have hcl1 : SqL K (upd H x (.ins a.C_Asking dx [(("code" : Str),V.ref c),(("ask" : Str),.ref f)])) cl0 (rowO cs) := by
   rcases hcl0 with (z | ⟨o,z⟩) | z
   ·exact .inl (.inl (by rw [qe_ (yu_ z hx (fun y => by cases y))]; exact z))
   ·exact .inl (.inr ⟨o,by rw [qe_ (yu_ z hx (fun y => by cases y))]; exact z⟩)
   ·exact .inr z
  refine ⟨_,rfl,cl0,_,rfl,.inl hcl1,fun cl ncl => ?_⟩
  have ncl0 := fr ncl
  have nclx : x ≠ cl := fun z => by rw [<- z,qd_] at ncl; cases ncl
  refine ⟨_,rfl,x,a.C_Asking,dx,_,rfl,(by rw [qe_ nclx]; exact qd_),T.cl_Asking,T.no_Asking_costs,(by show (2 : Nat) < 1000; decide),?_⟩
  refine ⟨(show 1 <= sizeLine by decide),fun p1 n1 => ?_⟩
  have n1x : x ≠ p1 := fun z => by rw [<- z,qd_] at n1; cases n1
  have n1c : p1 ≠ cl := fun z => by rw [z,qe_ (Ne.symm nclx),qd_] at n1; cases n1
  have hcA : (upd (upd (upd (upd H x (.ins a.C_Asking dx [(("code" : Str),V.ref c),(("ask" : Str),.ref f)])) cl (.lst (rowO cs))) x (.ins a.C_Asking dx (putF "costs" (.ref cl) [(("code" : Str),V.ref c),(("ask" : Str),.ref f)]))) p1 (.lst [V.non])) c = some (.ins a.C_Code dc (cf bp M N Lp)) := by
   have n2 : c ≠ p1 := fun z => by
    rw [<- z,qe_ hcx,qe_ (fun y => by rw [y,ncl0] at h1; cases h1),qe_ hcx,h1] at n1
    cases n1
   rw [qe_ n2,qe_ hcx,qe_ (fun y => by rw [y,ncl0] at h1; cases h1),qe_ hcx]
   exact h1
  refine ⟨_,rfl,c,_,_,_,_,rfl,hcA,T.cl_Code,T.no_Code_roles,yQ_ bp M N Lp,p1,_,_,rfl,rfl,qd_,by omega,by omega,?_,fun rl nrl => ?_⟩
  ·rw [Int.toNat_natCast]
   show 1 * (N + M) <= sizeLine
   exact Nat.le_trans (by omega : 1 * (N + M) <= 30) (by decide)
  have nrx : x ≠ rl := fun z => by rw [<- z,qe_ n1x,qd_] at nrl; cases nrl
  have nrp : rl ≠ p1 := fun z => by rw [z,qd_] at nrl; cases nrl
  have nrc : rl ≠ cl := fun z => by rw [z,qe_ (Ne.symm n1c),qe_ (Ne.symm nclx),qd_] at nrl; cases nrl
  have nrl0 : H rl = none := by
   rw [qe_ nrp,qe_ (Ne.symm nrx),qe_ nrc,qe_ (Ne.symm nrx)] at nrl
   exact nrl
  refine ⟨_,rfl,x,a.C_Asking,dx,_,rfl,(by rw [qe_ nrx,qe_ n1x]; exact qd_),T.cl_Asking,T.no_Asking_row,(by show (3 : Nat) < 1000; decide),?_⟩
  refine ⟨Nat.zero_le _,fun sl nsl => ?_⟩
  have nsx : x ≠ sl := fun z => by rw [<- z,qd_] at nsl; cases nsl
  have nsr : sl ≠ rl := fun z => by rw [z,qe_ (Ne.symm nrx),qd_] at nsl; cases nsl
  have nsp : sl ≠ p1 := fun z => by rw [z,qe_ (Ne.symm n1x),qe_ (Ne.symm nrp),qd_] at nsl; cases nsl
  have nsc : sl ≠ cl := fun z => by rw [z,qe_ (Ne.symm nclx),qe_ (Ne.symm nrc),qe_ (Ne.symm n1c),qe_ (Ne.symm nclx),qd_] at nsl; cases nsl
  have nsl0 : H sl = none := by
   rw [qe_ (Ne.symm nsx),qe_ nsr,qe_ nsp,qe_ (Ne.symm nsx),qe_ nsc,qe_ (Ne.symm nsx)] at nsl
   exact nsl
  have n1H : H p1 = none := by
   rw [qe_ (Ne.symm n1x),qe_ n1c,qe_ (Ne.symm n1x)] at n1
   exact n1
  refine ⟨_,rfl,x,a.C_Asking,dx,_,rfl,(by rw [qe_ nsx]; exact qd_),T.cl_Asking,T.no_Asking_asked,(by show (4 : Nat) < 1000; decide),?_⟩
  refine q _ cl rl sl (fun b o hb hz => ?_) qd_ ncl0 nrl0 nsl0 (Ne.symm nrc) (Ne.symm nsc) (Ne.symm nsr) ?_ ?_ ?_
  ·have f1 : ∀ y,H y = none -> b ≠ y := fun y ny e => by rw [e,ny] at hz; cases hz
   rw [qe_ hb,qe_ (f1 sl nsl0),qe_ hb,qe_ (f1 rl nrl0),qe_ (f1 p1 n1H),qe_ hb,qe_ (f1 cl ncl0),qe_ hb]
   exact hz
  ·rw [qe_ (Ne.symm nclx),qe_ (Ne.symm nsc),qe_ (Ne.symm nclx),qe_ (Ne.symm nrc),qe_ (Ne.symm n1c),qe_ (Ne.symm nclx),qd_]
  ·rw [qe_ (Ne.symm nrx),qe_ (Ne.symm nsr),qe_ (Ne.symm nrx),qd_]
   have : (List.replicate (((N + M : Nat) : Int)).toNat [V.non]).flatten = rowO (List.replicate (N + M) none) := by
    rw [Int.toNat_natCast]
    unfold rowO
    rw [List.map_replicate]
    generalize N + M = R
    induction R with
    | zero => rfl
    | succ R ih => rw [List.replicate_succ,List.flatten_cons,ih]; rfl
   rw [this]
  ·rw [qe_ (Ne.symm nsx),qd_]
   rfl
theorem okC2 {P : Program} {w : World} {K : PySem.W.Frag} {mg : Str -> Option Value} {base : Heap} {x qual : Str} {st : Stmt} {f : Addr} {N ps : List Str} {k : Nat} {sp : Sp} {oc : Value} {od an : Option Addr} {osl : Array (Option Value)} {kV doc pm cdv ct : Value} (lk : K.lookup f = some ⟨oc,od,.func (PySem.W.fnOf x qual (q8_ st) (qR_ st) (qh_ st) .none kV doc pm an cdv ct),osl⟩) (hcd : PySem.W.codeIn K cdv qual = true) (S : FnScope N ps (qh_ st)) (len : ∀ vs H Q E,sp vs H Q E -> vs.length = ps.length)
  (hbody : ∀ (A : Around) (outer : List Env) (s : Shared) (H : Hp) (vs : List V) (Q : VK) (E : XK),Room k (A.deeper (envOfC qual (qh_ st) s.heap.objs.size f cdv)) -> sp vs H Q E →
   ∃ t,PSR (cxOf CX0 P w K mg base N qual (qh_ st) f cdv A outer s H E).nox (qR_ st) t /\ t (fun v σ H' => ∃ cvs,qe7_ N (qh_ st) (cellsFrom (s.heap.objs.size + 1) (qh_ st).names []) σ cvs /\ ((∀ c v,cvs.lookup c = some v -> H' c = none /\ H c = none) -> Q v (trC cvs H'))) (start N vs) H) : FnOk P w K mg base CX0 (k + 1) f (PySem.W.fnOf x qual (q8_ st) (qR_ st) (qh_ st) .none kV doc pm an cdv ct) ps sp := by
 refine ⟨len,fun A outer s H args us vs Q E hr e0 hb r hsp => ?_⟩
 have hl := len _ _ _ _ hsp
 have KX : K.In s.heap := e0.mod.kin.keeps fun b o e => (e0.bs b o e).1
 have lim : s.heap.NoLimit := e0.mod.nolimit.keeps fun b o e => (e0.bs b o e).1
 have hkind : ∀ y ∈ ps.zip us,(qh_ st).names.lookup y.1 = some .local \/ ((qh_ st).names.lookup y.1 = some .cell /\ ((cellsFrom (s.heap.objs.size + 1) (qh_ st).names []).lookup y.1).isSome = true) := fun ⟨n,v⟩ hy => by
  rcases S.par n (List.of_mem_zip hy).1 with q | q
  ·exact .inl q
  ·exact .inr ⟨q,PySem.W.cellsFrom_some _ _ _ (.inl q)⟩
 refine codeAny_call_function hr.depth (KX _ _ lk) rfl S.co S.gen rfl (PySem.W.codeRec_of KX hcd) (hb _ _ _ _ ?_)
 refine wpAny_newFunctionEnv_cells S.kind hkind fun env he s1 y => ?_
 subst he
 refine ⟨lim.keeps y.toInCall.keep,codeAny_func ?_⟩
 obtain ⟨t,ht,hq⟩ := hbody A outer s H vs Q E (hr.deeper _) hsp
 have I : Inv (cxOf CX0 P w K mg base N qual (qh_ st) f cdv A outer s H E) [] (start N vs) H s1 := uN_ S hr.hd e0 hl r y
 refine wpAny_mono (ht [] s1 (start N vs) H _ (I.wish _) hq) (fun fl s' hs => ?_) fun e s' hs => False.elim hs
 obtain ⟨v,σ',H',u,rfl,J0,rv,cvs,hcs,hQ⟩ := hs
 have J := J0.unwish
 have B : Un (frs outer) [] H H' s.heap s'.heap := J.base
 have cell : ∀ c v,cvs.lookup c = some v -> H' c = none /\ s.heap.objs.size <= c /\ ∃ u,RelV v u /\ s'.heap.IsCell c (some u) := fun c v e => by
  obtain ⟨i,y,h1,h2,h3,h4⟩ := hcs c v e
  obtain ⟨m,hn,hl⟩ := J.loc
  obtain ⟨u,ru,l⟩ := hl i y v h1 h2 (.inr (.inl h4))
  refine ⟨J.freeC y c h3,J.ok.cab y c rfl h3,u,ru,?_⟩
  rcases l with ⟨l,_⟩ | ⟨_,c',e',z⟩
  ·have l : (qh_ st).names.lookup y = some .local := l
   rw [h4] at l
   cases l
  ·have e' : (cellsFrom (s.heap.objs.size + 1) (qh_ st).names []).lookup y = some c' := e'
   rw [h3] at e'
   cases e'
   exact z
 have outE : ∀ b o,s.heap.get? b = some o -> cvs.lookup b = none := fun b o e => by
  cases z : cvs.lookup b with
  | none => rfl
  | some v => exact absurd (Heap.lt_size e) (Nat.not_lt.mpr (cell b v z).2.1)
 have outH : ∀ b x,H' b = some x -> cvs.lookup b = none := fun b x e => by
  cases z : cvs.lookup b with
  | none => rfl
  | some v => rw [(cell b v z).1] at e; cases e
 refine ⟨v,trC cvs H',J.os,J.bare,⟨B.keep,B.slot,fun b o e n hx => (ji_ (outE b o e)).trans (B.free b o e n hx),B.there,fun b xs e => ?_,fun b o x e => ?_,fun b ps e => ?_⟩,qco_ J.hok (fun c v e => (cell c v e).1) (fun c v e => (cell c v e).2.2),rv,hQ fun c v e => ⟨(cell c v e).1,e0.hok.fresh (cell c v e).2.1⟩⟩
 ·have z := B.tups b xs e
  exact (ji_ (outH b _ z)).trans z
 ·have z := B.frzs b o x e
  exact (ji_ (outH b _ z)).trans z
 ·obtain ⟨more,z⟩ := B.tbls b ps e
  exact ⟨more,(ji_ (outH b _ z)).trans z⟩
theorem qfz_ {P : Program} {w : World} {K : PySem.W.Frag} {mg : Str -> Option Value} {base : Heap} {x qual : Str} {st : Stmt} {f c t : Addr} {fd : FuncData} {N ps : List Str} {k : Nat} {sp : Sp} (F : FunT K x qual st f fd c t) (S : FnScope N ps (qh_ st)) (len : ∀ vs H Q E,sp vs H Q E -> vs.length = ps.length)
  (hbody : ∀ (A : Around) (outer : List Env) (s : Shared) (H : Hp) (vs : List V) (Q : VK) (E : XK),Room k (A.deeper (envOfC qual (qh_ st) s.heap.objs.size f (.ref c))) -> sp vs H Q E →
   ∃ t,PSR (cxOf CX0 P w K mg base N qual (qh_ st) f (.ref c) A outer s H E).nox (qR_ st) t /\ t (fun v σ H' => ∃ cvs,qe7_ N (qh_ st) (cellsFrom (s.heap.objs.size + 1) (qh_ st).names []) σ cvs /\ ((∀ c v,cvs.lookup c = some v -> H' c = none /\ H c = none) -> Q v (trC cvs H'))) (start N vs) H) : FnOk P w K mg base CX0 (k + 1) f fd ps sp := by
 obtain ⟨oc,od,kV,doc,pm,an,ct,osl,rfl,lk,hcd⟩ := F.ex
 exact okC2 lk hcd S len hbody
def TabS (H : Hp) (t : Addr) (p : Pos) (q : Str) : Prop := ∃ ps,H t = some (.tbl ps) /\ (ps = #[] \/ ∃ c',ps = #[rawInt p.line,rawInt p.col,.ref c'] /\ H c' = some (jS_ q c'))
theorem TabS.keep {H H' : Hp} {t : Addr} {p : Pos} {q : Str} (h : TabS H t p q) (k : Same H H') : TabS H' t p q := by
 obtain ⟨ps,h1,h2⟩ := h
 refine ⟨ps,k _ _ h1,?_⟩
 rcases h2 with h2 | ⟨c',e,h2⟩
 ·exact .inl h2
 ·exact .inr ⟨c',e,k _ _ h2⟩
theorem qf0_ {P : Addr} {pos : Pos} {q : Str} {mk : Value -> Value -> Value -> Value -> FuncData} {σ : L2.St} {H : Hp} {Q : VK} (ht : TabS H P pos q)
  (h : ∀ (H1 : Hp) (c' fa : Addr) (doc pm ctv : Value),(∀ b o,b ≠ P -> H b = some o -> H1 b = some o) -> TabS H1 P pos q -> H fa = none -> H1 fa = some (FunO fa (mk doc pm (.ref c') ctv)) -> H1 c' = some (jS_ q c') -> (∀ b,H1 b = none -> H b = none) -> Q (.ref fa) H1) : tFn P pos q mk σ H Q := by
 obtain ⟨ps,hP,h2⟩ := ht
 rcases h2 with rfl | ⟨c0,rfl,hc0⟩
 ·refine ⟨#[],hP,trivial,.inl ⟨rfl,fun c' fa doc pm ctv n1 n2 ne => h _ c' fa doc pm ctv (fun b o hb e => ?_) ⟨_,?_,.inr ⟨c',rfl,?_⟩⟩ n2 qd_ ?_ fun b e => ?_⟩⟩
  ·rw [qe_ (ql_ e n2),qe_ (ql_ e n1),qe_ hb]; exact e
  ·rw [qe_ (ql_ hP n2),qe_ (ql_ hP n1)]; exact qd_
  ·rw [qe_ ne.symm]; exact qd_
  ·rw [qe_ ne.symm]; exact qd_
  ·by_cases z1 : b = fa
   ·rw [z1]; exact n2
   rw [qe_ z1] at e
   by_cases z2 : b = c'
   ·rw [z2]; exact n1
   rw [qe_ z2] at e
   by_cases z3 : b = P
   ·rw [z3,qd_] at e; cases e
   rwa [qe_ z3] at e
 ·refine ⟨_,hP,⟨⟩,.inr ⟨c0,?_,hc0,fun fa doc pm ctv n => h _ c0 fa doc pm ctv (fun b o _ e => ?_) ⟨_,?_,.inr ⟨c0,rfl,?_⟩⟩ n qd_ ?_ fun b e => ?_⟩⟩
  ·show codeAmong pos [rawInt pos.line,rawInt pos.col,.ref c0] = some (.ref c0)
   simp [codeAmong,rawInt]
  ·rw [qe_ (ql_ e n)]; exact e
  ·rw [qe_ (ql_ hP n)]; exact hP
  ·rw [qe_ (ql_ hc0 n)]; exact hc0
  ·rw [qe_ (ql_ hc0 n)]; exact hc0
  ·by_cases z1 : b = fa
   ·rw [z1]; exact n
   rwa [qe_ z1] at e
def inA : Stmt := (qR_ uu_).getD 0 (.Pass ⟨0,0,0,0⟩)
def posD : Stmt -> Pos
 | .FunctionDef _ _ _ _ _ _ _ _ _ p => p
 | _ => ⟨0,0,0,0⟩
def qA : Str := "_law_asker" ++ Str.ofString ".<locals>." ++ Str.ofString "_law_ask"
def clA (c1 c2 : Addr) : List (Str × Addr) := [("_law_seen",c2),("_law_row",c1)]
structure AskerAt (H : Hp) (f rw z : Addr) : Prop where
 ex : ∃ (c' c1 c2 : Addr) (doc pm ctv : Value),H f = some (FunO f (PySem.W.fnX "_law_ask" qA (q8_ inA) (qR_ inA) (qh_ inA) (clA c1 c2) .none .none doc pm none (.ref c') ctv)) ∧ H c' = some (jS_ qA c') ∧ H c1 = some (CelO c1 (.ref rw)) ∧ H c2 = some (CelO c2 (.ref z)) ∧ c1 ≠ c2
theorem AskerAt.same {H H' : Hp} {f rw z : Addr} (h : AskerAt H f rw z) (s : Same H H') : AskerAt H' f rw z := by
 obtain ⟨c',c1,c2,doc,pm,ctv,h1,h2,h3,h4,h5⟩ := h.ex
 exact ⟨c',c1,c2,doc,pm,ctv,s _ _ h1,s _ _ h2,s _ _ h3,s _ _ h4,h5⟩
def qjp_ (a : Adr) : Sp := fun vs H Q _ => ∃ (rw z : Addr),vs = [.ref rw,.ref z] /\ TabS H a.t52 (posD inA) qA ∧
 ∀ (H' : Hp) (f : Addr),(∀ b o,b ≠ a.t52 -> H b = some o -> H' b = some o) -> TabS H' a.t52 (posD inA) qA -> H f = none -> AskerAt H' f rw z -> (∀ b,H' b = none -> H b = none) -> Q (.ref f) H'
theorem qhr_ (T : Txt K mg a) (B : Tb base mg a) : FnO P wo K mg base 1 a.f52 ["_law_row", "_law_seen"] (qjp_ a) := by
 refine qfz_ T.x52.F (k := 0) sc_asker (fun vs H Q E h => ?_) (fun A outer s H vs Q E hr h => ?_)
 ·obtain ⟨rw,sl,rfl,_⟩ := h
  rfl
 ·obtain ⟨rw,z,rfl,ht,q⟩ := h
  refine ⟨_,(qg4_ (qki_ (i := 2) (T.x52.F.tab B.b_asker B.n_asker) rfl sc_asker.nd rfl (Or.inl rfl))
   (qi3_ (pv 2))),?_⟩
  unfold tRC tRR tAsg
  refine qf0_ (q := qA) (pos := posD inA) ht fun H1 c' fa doc pm ctv k1 t1 n1 hf hc fr => ?_
  refine ⟨_,rfl,[(s.heap.objs.size + 1,.ref rw),(s.heap.objs.size + 1 + 1,.ref z)],?_,fun hcv => ?_⟩
  ·intro c v e
   rw [List.lookup_cons] at e
   split at e
   ·rename_i h
    cases e
    cases eq_of_beq h
    exact ⟨0,_,rfl,rfl,rfl,rfl⟩
   ·rw [List.lookup_cons] at e
    split at e
    ·rename_i h
     cases e
     cases eq_of_beq h
     exact ⟨1,_,rfl,rfl,rfl,rfl⟩
    ·cases e
  ·have ne : s.heap.objs.size + 1 ≠ s.heap.objs.size + 1 + 1 := by omega
   have l1 : [(s.heap.objs.size + 1,V.ref rw),(s.heap.objs.size + 1 + 1,.ref z)].lookup (s.heap.objs.size + 1) = some (.ref rw) := by rw [List.lookup_cons]; simp
   have l2 : [(s.heap.objs.size + 1,V.ref rw),(s.heap.objs.size + 1 + 1,.ref z)].lookup (s.heap.objs.size + 1 + 1) = some (.ref z) := by rw [List.lookup_cons,beq_eq_false_iff_ne.mpr (Ne.symm ne)]; simp
   have out : ∀ {b : Addr} {o : HO},H1 b = some o -> [(s.heap.objs.size + 1,V.ref rw),(s.heap.objs.size + 1 + 1,.ref z)].lookup b = none := fun {b o} e => by
    cases y : [(s.heap.objs.size + 1,V.ref rw),(s.heap.objs.size + 1 + 1,.ref z)].lookup b with
    | none => rfl
    | some v => rw [(hcv b v y).1] at e; cases e
   have sm : Same H1 (trC [(s.heap.objs.size + 1,V.ref rw),(s.heap.objs.size + 1 + 1,.ref z)] H1) := fun b o e => (ji_ (out e)).trans e
   refine q _ fa (fun b o hb e => sm b o (k1 b o hb e)) (t1.keep sm) n1 ⟨c',s.heap.objs.size + 1,s.heap.objs.size + 1 + 1,doc,pm,ctv,sm _ _ hf,sm _ _ hc,zY_ l1,zY_ l2,ne⟩ fun b e => ?_
   cases y : [(s.heap.objs.size + 1,V.ref rw),(s.heap.objs.size + 1 + 1,.ref z)].lookup b with
   | none => exact fr b ((ji_ y).symm.trans e)
   | some v => rw [zY_ y] at e; cases e
def qf1_ : SpV := fun f vs H Q => ∃ (fa rw z : Addr) (k : Nat) (srow : List (Option Nat)) (as : List Nat),f = .ref fa /\ vs = [.int k] /\ AskerAt H fa rw z /\ H rw = some (.lst (rowO srow)) /\ H z = some (.lst (rowV as)) /\ k < srow.length /\ as.length < 900 /\ rw ≠ z /\ Q (valO (srow.getD k none)) (upd H z (.lst (rowV (as ++ [k]))))
theorem qku_ (T : Txt K mg a) : ua_ P wo K mg base 1 qf1_ := by
 intro A outer s H f us vs Q hr e0 r h
 obtain ⟨fa,rw,z,k,srow,as,rfl,rfl,hA,hrow,hz,hk,has,hne,q⟩ := h
 obtain ⟨c',c1,c2,doc,pm,ctv,h1,h2,h3,h4,h5⟩ := hA.ex
 refine ⟨fa,_,rfl,h1,?_⟩
 have l1 : [(c1,V.ref rw),(c2,.ref z)].lookup c1 = some (.ref rw) := by rw [List.lookup_cons]; simp
 have l2 : [(c1,V.ref rw),(c2,.ref z)].lookup c2 = some (.ref z) := by
  rw [List.lookup_cons,beq_eq_false_iff_ne.mpr (Ne.symm h5)]
  simp
 have L : ∀ c v,[(c1,V.ref rw),(c2,.ref z)].lookup c = some v -> (c = c1 /\ v = .ref rw) \/ (c = c2 /\ v = .ref z) := fun c v e => by
  rw [List.lookup_cons] at e
  split at e
  ·rename_i h
   cases e
   exact .inl ⟨eq_of_beq h,rfl⟩
  ·rw [List.lookup_cons] at e
   split at e
   ·rename_i h
    cases e
    exact .inr ⟨eq_of_beq h,rfl⟩
   ·cases e
 have at_ : ∀ c v,[(c1,V.ref rw),(c2,.ref z)].lookup c = some v -> H c = some (CelO c v) := fun c v e => by
  rcases L c v e with ⟨rfl,rfl⟩ | ⟨rfl,rfl⟩
  ·exact h3
  ·exact h4
 refine qi2_ (k := 0) (cvs := [(c1,V.ref rw),(c2,.ref z)]) (vs := [.int ((k : Nat) : Int)]) (N := ["_law_role", "_law_seen", "_law_row"]) (ps := ["_law_role"]) (σ0 := [some (.int ((k : Nat) : Int)),some (.ref z),some (.ref rw)]) ⟨rfl,rfl,rfl,by decide +kernel,rfl,by decide +kernel,by decide +kernel⟩ hr e0 r h1 h2 ?_ ?_ ?_ (qb_ (qN_ (jm_ PySem.F.plainAttrs_list PySem.F.slot_list_append PySem.F.type_list_append qJ_ (pv 1) (qa_ (pv 0) qc_)))
   (qf_ (qo_ (qx_ qy_ (pv 2) (pv 0) (fun _ _ => rfl))))) ?_
 ·obtain ⟨u,rfl,_⟩ := jJ_ r
  rfl
 ·have J : ∀ x c,(clA c1 c2).lookup x = some c → (x = "_law_seen" ∧ c = c2) ∨ (x = "_law_row" ∧ c = c1) := fun x c e => by
   unfold clA at e
   rw [List.lookup_cons] at e
   split at e
   ·rename_i h
    cases e
    exact .inl ⟨eq_of_beq h,rfl⟩
   ·rw [List.lookup_cons] at e
    split at e
    ·rename_i h
     cases e
     exact .inr ⟨eq_of_beq h,rfl⟩
    ·cases e
  refine ⟨fun x y c e1 e2 => ?_,fun x hx => ?_,fun x c e => ?_,at_⟩
  ·rcases J x c e1 with ⟨rfl,rfl⟩ | ⟨rfl,rfl⟩
   ·rcases J y c e2 with ⟨rfl,_⟩ | ⟨_,z⟩
    ·rfl
    ·exact absurd z.symm h5
   ·rcases J y c e2 with ⟨_,z⟩ | ⟨rfl,_⟩
    ·exact absurd z h5
    ·rfl
  ·have d : ∀ q ∈ (qh_ inA).names,q.2 = .free → q.1 = "_law_seen" ∨ q.1 = "_law_row" := by decide +kernel
   have d := d (x,.free) (PySem.mem_of_lookup hx) rfl
   rcases d with d | d
   ·have d : x = _ := d
    subst d
    exact ⟨c2,rfl⟩
   ·have d : x = _ := d
    subst d
    exact ⟨c1,rfl⟩
  ·rcases J x c e with ⟨_,rfl⟩ | ⟨_,rfl⟩
   ·exact ⟨_,l2⟩
   ·exact ⟨_,l1⟩
 ·refine ⟨rfl,fun i x v e1 e2 => ?_⟩
  match i,e1,e2 with
  | 0,e1,e2 => exact .inl ⟨e1,by cases e2; rfl⟩
  | 1,e1,e2 =>
   cases e1
   cases e2
   exact .inr ⟨rfl,c2,rfl,l2⟩
  | 2,e1,e2 =>
   cases e1
   cases e2
   exact .inr ⟨rfl,c1,rfl,l1⟩
 ·have no : ∀ {b : Addr} {xs : List V},H b = some (.lst xs) -> [(c1,V.ref rw),(c2,.ref z)].lookup b = none := fun {b xs} e => by
   cases y : [(c1,V.ref rw),(c2,.ref z)].lookup b with
   | none => rfl
   | some v => rw [at_ b v y] at e; cases e
  have hz' := (q1_ (no hz)).trans hz
  have fits : (rowV as).length < sizeLine := by
   rw [qi_]
   exact Nat.lt_trans has (by decide)
  have hrow' : (upd (untr [(c1,V.ref rw),(c2,.ref z)] H) z (.lst (rowV (as ++ [k])))) rw = some (.lst (rowO srow)) := by
   rw [qe_ hne,q1_ (no hrow)]
   exact hrow
  refine ⟨_,rfl,.inl ⟨rfl,_,SqL.of hz'⟩,_,rfl,z,_,_,rfl,rfl,hz',fits,?_⟩
  rw [q5_]
  refine ⟨_,rfl,_,rfl,rw,_,_,_,rfl,rfl,SqL.of hrow',qq_ (qU_ (o := srow.getD k none) (by rw [List.getD_eq_getElem?_getD,List.getElem?_eq_getElem hk]; rfl)),?_⟩
  have e : trC [(c1,V.ref rw),(c2,.ref z)] (upd (untr [(c1,V.ref rw),(c2,.ref z)] H) z (.lst (rowV (as ++ [k])))) = upd H z (.lst (rowV (as ++ [k]))) := by
   funext b
   cases y : [(c1,V.ref rw),(c2,.ref z)].lookup b with
   | some v =>
    have nz : b ≠ z := fun e => by rw [e,no hz] at y; cases y
    rw [zY_ y,qe_ nz,at_ b v y]
   | none =>
    rw [ji_ y]
    by_cases nz : b = z
    ·rw [nz,qd_,qd_]
    ·rw [qe_ nz,qe_ nz,q1_ y]
  show Q (valO (srow.getD k none)) (trC _ _)
  rw [e]
  exact q
def posL : Pos := ⟨52,32,52,69⟩
def qL : Str := "Asking.order" ++ Str.ofString ".<locals>." ++ Str.ofString "<lambda>"
structure AskR where
 A : Addr
 c : Addr
 bp : Addr
 fp : Addr
 f : Addr
 cl : Addr
 rl : Addr
 sl : Addr
 rw : Addr
 z : Addr
structure AskI (a : Adr) (H0 : Hp) (R : AskR) (r w n M N : Nat) (l : Nat -> Nat -> Nat) (cs srow : List (Option Nat)) : Prop where
 code : CodeAt a H0 R.c R.bp R.fp r w n M N l
 full : GF.Full r w
 n16 : n <= 16
 W : Wts w M N l
 obj : ∃ dx,H0 R.A = some (.ins a.C_Asking dx (af R.c R.f R.cl R.rl R.sl))
 cost : H0 R.cl = some (.lst (rowO cs))
 csl : cs.length = N + M
 asker : AskerAt H0 R.f R.rw R.z
 row : H0 R.rw = some (.lst (rowO srow))
 srl : srow.length = N + M
 nrl : H0 R.rl = none
 nsl : H0 R.sl = none
 nz : H0 R.z = none
 nt : H0 a.t35 = none
 d1 : R.rl ≠ R.sl
 d2 : R.rl ≠ R.z
 d3 : R.sl ≠ R.z
structure AskM (a : Adr) (H0 H : Hp) (R : AskR) (n : Nat) (os : List (Option Nat)) (as : List Nat) : Prop where
 sm : Same H0 H
 hr : H R.rl = some (.lst (rowO os))
 hs : H R.sl = some (.lst (rowV as))
 hz : H R.z = some (.lst (rowV as))
 tab : TabS H a.t35 posL qL
 osl : os.length = n
 nd : as.Nodup
 lt : ∀ k ∈ as,k < n
theorem vd_ : ∀ (n : Nat) (as : List Nat),as.Nodup -> (∀ k ∈ as,k < n) -> as.length <= n
 | 0,[],_,_ => Nat.le_refl _
 | 0,k :: _,_,h => absurd (h k (.head _)) (Nat.not_lt_zero k)
 | n + 1,as,nd,h => by
  by_cases z : n ∈ as
  ·have e := List.length_erase_of_mem z
   have ih := vd_ n (as.erase n) (nd.erase n) fun k hk => by
    have h1 := h k (List.mem_of_mem_erase hk)
    have h2 : k ≠ n := fun e => by
     subst e
     exact (List.Nodup.mem_erase_iff nd).mp hk |>.1 rfl
    omega
   omega
  ·exact Nat.le_succ_of_le (vd_ n as nd fun k hk => by
    have h1 := h k hk
    have h2 : k ≠ n := fun e => z (e ▸ hk)
    omega)
theorem AskM.asl {a : Adr} {H0 H : Hp} {R : AskR} {n : Nat} {os : List (Option Nat)} {as : List Nat} (h : AskM a H0 H R n os as) : as.length <= n := vd_ n as h.nd h.lt
def mayB (cs : List (Option Nat)) (as : List Nat) (k : Nat) : Bool := (cs.getD k none).isSome && !as.contains k
theorem jR_ (k : Nat) : ∀ as : List Nat,inV (.int (k : Nat)) (rowV as) = as.contains k
 | [] => rfl
 | x :: as => by
  have ih := jR_ k as
  unfold inV rowV at ih ⊢
  rw [List.map_cons,List.any_cons,ih,List.contains_cons]
  congr 1
  show eqV (.int (x : Nat)) (.int (k : Nat)) = (k == x)
  show (((x : Nat) : Int) == ((k : Nat) : Int)) = (k == x)
  by_cases z : x = k
  ·subst z; simp
  ·have h1 : ((x : Nat) : Int) ≠ ((k : Nat) : Int) := by omega
   rw [beq_eq_false_iff_ne.mpr h1,beq_eq_false_iff_ne.mpr (Ne.symm z)]
theorem jC_ (as : List Nat) : (rowV as).all yw_ = true := by
 unfold rowV
 rw [List.all_map]
 exact List.all_eq_true.mpr fun _ _ => rfl
theorem jq_ {os : List (Option Nat)} {k : Nat} (h : k < os.length) : os[k]? = some (os.getD k none) := by
 rw [List.getD_eq_getElem?_getD,List.getElem?_eq_getElem h]
 rfl
theorem ye_ (o : Option Nat) : (!decide (valO o = V.non)) = o.isSome := by
 cases o with
 | none => rfl
 | some b => rw [decide_eq_false (fun z => by cases z)]; rfl
def qlk_ (a : Adr) : Sp := fun vs H Q _ => ∃ (H0 : Hp) (R : AskR) (r w n M N k : Nat) (l : Nat -> Nat -> Nat) (cs srow os : List (Option Nat)) (as : List Nat),vs = [.ref R.A,.int k] /\ AskI a H0 R r w n M N l cs srow /\ AskM a H0 H R (N + M) os as /\ k < N + M /\ Q (.bl (mayB cs as k)) H
theorem jT_ (T : Txt K mg a) : FnO P wo K mg base 1 a.f30 ["self", "role"] (qlk_ a) := by
 refine T.x30.F.okA (k := 0) qak_ (fun cdv A outer s H vs Q E hr h => ?_)
 ·obtain ⟨H0,R,r,w,n,M,N,k,l,cs,srow,os,as,rfl,I,J,hk,q⟩ := h
  obtain ⟨dx,hA⟩ := I.obj
  have hA := J.sm _ _ hA
  refine ⟨_,(qf_ (qo_ (zO_ (q2_ jx_ (qx_ qy_ (qA_ (pv 0) rfl) (pv 1) (fun _ _ => rfl)) qK_ (qr_ _)) (yB_ (q2_ j2_ (pv 1) (qA_ (pv 0) rfl) rfl))))),?_⟩
  refine ⟨_,rfl,R.A,_,_,_,_,rfl,hA,T.cl_Asking,T.no_Asking_costs,vT_ _ _ _ _ _,_,rfl,R.cl,_,_,_,rfl,rfl,SqL.of (J.sm _ _ I.cost),qq_ (qU_ (jq_ (by rw [I.csl]; exact hk))),rfl,_,rfl,?_⟩
  rw [ye_]
  unfold mayB at q
  cases hz : (cs.getD k none).isSome with
  | false =>
   rw [hz] at q
   exact q
  | true =>
   rw [hz] at q
   refine ⟨_,rfl,_,rfl,R.A,_,_,_,_,rfl,hA,T.cl_Asking,T.no_Asking_asked,vU_ _ _ _ _ _,R.sl,_,rfl,.inl (SqL.of J.hs),rfl,jC_ as,?_⟩
   rw [jR_]
   exact q
theorem TabS.up {H : Hp} {t x : Addr} {p : Pos} {q : Str} {xs : List V} {o : HO} (h : TabS H t p q) (hx : H x = some (.lst xs)) : TabS (upd H x o) t p q := by
 obtain ⟨ps,h1,h2⟩ := h
 refine ⟨ps,by rw [qe_ (yu_ h1 hx (fun y => by cases y))]; exact h1,?_⟩
 rcases h2 with h2 | ⟨c',e,h2⟩
 ·exact .inl h2
 ·exact .inr ⟨c',e,by rw [qe_ (yu_ h2 hx (fun y => by cases y))]; exact h2⟩
theorem AskM.same {a : Adr} {H0 H H' : Hp} {R : AskR} {n : Nat} {os : List (Option Nat)} {as : List Nat} (h : AskM a H0 H R n os as) (s : Same H H') : AskM a H0 H' R n os as :=
 ⟨h.sm.trans s,s _ _ h.hr,s _ _ h.hs,s _ _ h.hz,h.tab.keep s,h.osl,h.nd,h.lt⟩
def tk (cs srow os : List (Option Nat)) (as : List Nat) (k : Nat) : List (Option Nat) × List Nat := if mayB cs as k = true then (os.set k (srow.getD k none),as ++ [k]) else (os,as)
theorem vV_ (os : List (Option Nat)) (k : Nat) (o : Option Nat) : (rowO os).set k (valO o) = rowO (os.set k o) := by
 unfold rowO
 rw [List.map_set]
theorem qjq_ {cs : List (Option Nat)} {as : List Nat} {k : Nat} (h : mayB cs as k = true) : k ∉ as := fun z => by
 unfold mayB at h
 rw [List.contains_iff_mem.mpr z,Bool.not_true,Bool.and_false] at h
 cases h
theorem qd3_ {as : List Nat} {k : Nat} (h : as.Nodup) (n : k ∉ as) : (as ++ [k]).Nodup := List.nodup_append.mpr ⟨h,List.pairwise_singleton _ k,fun x hx y hy e => by
 rw [List.mem_singleton.mp hy] at e
 exact n (e ▸ hx)⟩
def qkv_ (a : Adr) : Sp := fun vs H Q _ => ∃ (H0 : Hp) (R : AskR) (r w n M N k : Nat) (l : Nat -> Nat -> Nat) (cs srow os : List (Option Nat)) (as : List Nat),vs = [.ref R.A,.int k] /\ AskI a H0 R r w n M N l cs srow /\ AskM a H0 H R (N + M) os as /\ k < N + M /\ ∀ H',AskM a H0 H' R (N + M) (tk cs srow os as k).1 (tk cs srow os as k).2 -> Q (valO ((tk cs srow os as k).1.getD k none)) H'
theorem uD_ (T : Txt K mg a) : FnO P wo K mg base 2 a.f31 ["self", "role"] (qkv_ a) := by
 have CK : ua_ P wo K mg base 1 qf1_ := qku_ T
 refine T.x31.F.okA (k := 1) ux_ (fun cdv A outer s H vs Q E hr h => ?_)
 ·obtain ⟨H0,R,r,w,n,M,N,k,l,cs,srow,os,as,rfl,I,J,hk,q⟩ := h
  obtain ⟨dx,hA⟩ := I.obj
  have n8 := I.W.n8
  have hasl := J.asl
  refine ⟨_,(qb_ (qz_ (qZ_ (qB_ (pv 0) T.cl_Asking T.x30.me (jT_ T) hr.u T.x30.b .nil qn_ (qa_ (pv 1) qc_))) (qb_ (qN_ (jm_ PySem.F.plainAttrs_list PySem.F.slot_list_append PySem.F.type_list_append qJ_ (qA_ (pv 0) rfl) (qa_ (pv 1) qc_)))
   (qf_ (jF_ (qg5_ CK hr.u (pv 0) (qa_ (pv 1) qc_)) (jO_ (qA_ (pv 0) rfl) (pv 1) jt_)))) qv_)
   (qf_ (qo_ (qx_ qy_ (qA_ (pv 0) rfl) (pv 1) (fun _ _ => rfl))))),?_⟩
  refine ⟨_,rfl,R.A,dx,_,rfl,J.sm _ _ hA,rfl,_,rfl,H0,R,r,w,n,M,N,k,l,cs,srow,os,as,rfl,I,J,hk,?_⟩
  cases hz : mayB cs as k with
  | true =>
   refine ⟨_,rfl,ite2 (fun _ => ?_) (fun y => absurd rfl y)⟩
   have fits : (rowV as).length < sizeLine := by
    rw [qi_]
    exact Nat.lt_of_le_of_lt hasl (Nat.lt_of_le_of_lt n8 (by decide))
   have hsm1 := J.sm.up (o := .lst (rowV (as ++ [k]))) I.nsl
   refine ⟨_,rfl,R.A,_,_,_,_,rfl,J.sm _ _ hA,T.cl_Asking,T.no_Asking_asked,vU_ _ _ _ _ _,.inl ⟨rfl,_,SqL.of J.hs⟩,_,rfl,R.sl,_,_,rfl,rfl,J.hs,fits,?_⟩
   rw [q5_]
   have hfd := (I.asker.ex)
   obtain ⟨c',c1,c2,doc,pm,ctv,hf,hc,h3,h4,h5⟩ := hfd
   refine ⟨_,rfl,R.A,_,_,_,R.f,_,rfl,hsm1 _ _ hA,T.cl_Asking,T.no_Asking_ask,qkt_ _ _ _ _ _,hsm1 _ _ hf,_,rfl,hsm1 _ _ hf,R.f,R.rw,R.z,k,srow,as,rfl,rfl,I.asker.same hsm1,hsm1 _ _ I.row,(by rw [qe_ (Ne.symm I.d3)]; exact J.hz),by rw [I.srl]; exact hk,by omega,(fun y => by have := I.row; rw [y,I.nz] at this; cases this),?_⟩
   have hsm2 := hsm1.up (o := .lst (rowV (as ++ [k]))) I.nz
   have hrl : (upd (upd H R.sl (.lst (rowV (as ++ [k])))) R.z (.lst (rowV (as ++ [k])))) R.rl = some (.lst (rowO os)) := by
    rw [qe_ I.d2,qe_ I.d1]
    exact J.hr
   refine ⟨_,rfl,R.A,_,_,_,_,rfl,hsm2 _ _ hA,T.cl_Asking,T.no_Asking_row,vc_ _ _ _ _ _,_,rfl,R.rl,_,_,k,rfl,rfl,hrl,jE_ (by rw [qP_,J.osl]; exact hk),?_⟩
   rw [vV_]
   have hsm3 := hsm2.up (o := .lst (rowO (os.set k (srow.getD k none)))) I.nrl
   have J3 : AskM a H0 (upd (upd (upd H R.sl (.lst (rowV (as ++ [k])))) R.z (.lst (rowV (as ++ [k])))) R.rl (.lst (rowO (os.set k (srow.getD k none))))) R (N + M) (os.set k (srow.getD k none)) (as ++ [k]) := by
    refine ⟨hsm3,qd_,?_,?_,((J.tab.up J.hs).up (x := R.z) (xs := rowV as) ?_).up hrl,by rw [List.length_set,J.osl],qd3_ J.nd (qjq_ hz),fun x hx => ?_⟩
    ·rw [qe_ (Ne.symm I.d1),qe_ I.d3]; exact qd_
    ·rw [qe_ (Ne.symm I.d2)]; exact qd_
    ·rw [qe_ (Ne.symm I.d3)]; exact J.hz
    ·rcases List.mem_append.mp hx with y | y
     ·exact J.lt x y
     ·rw [List.mem_singleton.mp y]; exact hk
   have e : tk cs srow os as k = (os.set k (srow.getD k none),as ++ [k]) := by unfold tk; rw [if_pos hz]
   rw [e] at q
   exact ⟨_,rfl,R.A,_,_,_,_,rfl,hsm3 _ _ hA,T.cl_Asking,T.no_Asking_row,vc_ _ _ _ _ _,_,rfl,R.rl,_,_,_,rfl,rfl,SqL.of qd_,qq_ (qU_ (jq_ (by rw [List.length_set,J.osl]; exact hk))),q _ J3⟩
  | false =>
   refine ⟨_,rfl,ite2 (fun y => by cases y) (fun _ => ?_)⟩
   have e : tk cs srow os as k = (os,as) := by unfold tk; rw [if_neg (by rw [hz]; decide)]
   rw [e] at q
   exact ⟨_,rfl,R.A,_,_,_,_,rfl,J.sm _ _ hA,T.cl_Asking,T.no_Asking_row,vc_ _ _ _ _ _,_,rfl,R.rl,_,_,_,rfl,rfl,SqL.of J.hr,qq_ (qU_ (jq_ (by rw [J.osl]; exact hk))),q _ J⟩
theorem qf2_ (ns : List Int) : preSum (fun i => ns.getD i 0) ns.length = ns.sum := by
 have h : ∀ (f : Nat -> Int) (j : Nat),preSum f j = ((List.range j).map f).sum := fun f j => by
  induction j with
  | zero => rfl
  | succ j ih =>
   have e : preSum f (j + 1) = preSum f j + f j := rfl
   rw [e,ih,List.range_succ,List.map_append,List.sum_append]
   simp
 rw [h]
 congr 1
 apply List.ext_getElem?
 intro i
 rw [List.getElem?_map]
 by_cases hi : i < ns.length
 ·rw [List.getElem?_range hi,List.getElem?_eq_getElem hi,Option.map_some,List.getD_eq_getElem?_getD,List.getElem?_eq_getElem hi]
  rfl
 ·rw [List.getElem?_eq_none (by rw [List.length_range]; omega),List.getElem?_eq_none (by omega)]
  rfl
theorem qf3_ {X : Cx} (hc : X.calm = true) : jz_ X (.builtin "sum") (fun xs H Q => ∃ (p : Addr) (ns : List Int),xs = [.ref p] ∧ SqL X.K H p (ns.map V.int) ∧ ns.length ≤ 1000 ∧ (∀ y ∈ ns,0 ≤ y ∧ y ≤ 1000000) ∧ Q (.int ns.sum) H) := by
 intro pins s σ H xs us Q I r h
 obtain ⟨p,ns,rfl,hq,hn,hb,q⟩ := h
 obtain ⟨u,rfl,rx⟩ := jJ_ r
 cases rx
 obtain ⟨its,rv,⟨o,nn,e1,e2,e3,e4⟩,hz⟩ := I.list hq
 have hne : p ≠ s.heap.objs.size := Nat.ne_of_lt (Heap.lt_size e1)
 have hl : its.toArray.size = ns.length := by
  have := rv.length
  rw [List.length_map] at this
  simp [this]
 have hv : ∀ j,0 <= ns.getD j 0 /\ ns.getD j 0 <= 1000000 := fun j => by
  by_cases hj : j < ns.length
  ·rw [List.getD_eq_getElem?_getD,List.getElem?_eq_getElem hj]
   exact hb _ (List.getElem_mem hj)
  ·rw [List.getD_eq_getElem?_getD,List.getElem?_eq_none (by omega)]
   exact ⟨by decide,by decide⟩
 have hs : ∀ j,0 <= preSum (fun i => ns.getD i 0) j /\ preSum (fun i => ns.getD i 0) j <= 1000000 * (j : Int) /\ ∀ i,i < j -> ns.getD i 0 <= preSum (fun i => ns.getD i 0) j := fun j => by
  induction j with
  | zero => exact ⟨Int.le_refl _,Int.le_refl _,fun i h => absurd h (Nat.not_lt_zero _)⟩
  | succ j ih =>
   have e : preSum (fun i => ns.getD i 0) (j + 1) = preSum (fun i => ns.getD i 0) j + ns.getD j 0 := rfl
   have := hv j
   rw [e]
   refine ⟨by omega,by omega,fun i h => ?_⟩
   by_cases y : i = j
   ·subst y; omega
   ·have := ih.2.2 i (by omega)
    omega
 refine call_sum_walk (wpAny_pyIter_list ⟨o,e1,e2,nn,e4⟩ ?_)
 refine ⟨_,_,_,_,_,_,fun i => ns.getD i 0,rfl,Walks.list (A := X.A.in1) (show X.A.in1.handled = none from I.ok.hd hc) s.heap.objs.size p hne its.toArray,⟨⟨_,Heap.get?_push_size _ rfl,rfl,rfl⟩,⟨o,Heap.get?_push_of_some _ e1,e2,nn,e4⟩⟩,fun b hb => ?_,fun i v hv => zw_ rv hv,fun j hj => ?_,fun h' tk t' kp => ?_⟩
 ·show b < (s.heap.push _).objs.size
  rw [Heap.size_push]
  rcases List.mem_cons.mp hb with z | z
  ·rw [z]; exact Nat.lt_succ_self _
  ·rw [List.mem_singleton.mp z]; exact Nat.lt_succ_of_lt (Heap.lt_size e1)
 ·have h1 := hv j
  have h2 := hs (j + 1)
  rw [hl] at hj
  have h3 := h2.2.1
  have h4 := h2.1
  show InLong (ns.getD j 0) /\ InLong (preSum (fun i => ns.getD i 0) (j + 1))
  generalize preSum (fun i => ns.getD i 0) (j + 1) = pp at h3 h4
  unfold InLong
  omega
 ·rw [hl]
  rw [<- qf2_] at q
  exact ⟨.int _,H,I.kept (t' := tk) fun b o e => kp b o (fun z => by rw [List.mem_singleton.mp z] at e; exact absurd (Heap.lt_size e) (Nat.lt_irrefl _)) (Heap.get?_push_of_some _ e),⟨_,rfl⟩,q⟩
theorem qkw_ (os : List (Option Nat)) : ((List.range os.length).map fun i => V.bl (os.getD i none).isSome) = knV (knO os) := by
 unfold knV knO
 apply List.ext_getElem?
 intro i
 rw [List.getElem?_map,List.getElem?_map,List.getElem?_map]
 by_cases hi : i < os.length
 ·rw [List.getElem?_range hi,List.getElem?_eq_getElem hi]
  have eg : os.getD i none = os[i] := by rw [List.getD_eq_getElem?_getD,List.getElem?_eq_getElem hi]; rfl
  dsimp only [Option.map]
  rw [eg]
 ·rw [List.getElem?_eq_none (by rw [List.length_range]; omega),List.getElem?_eq_none (by omega)]
  rfl
theorem jr_ (os : List (Option Nat)) : (knO os).length = os.length := by unfold knO; rw [List.length_map]
def qjr_ (a : Adr) : Sp := fun vs H Q _ => ∃ (H0 : Hp) (R : AskR) (r w n M N : Nat) (l : Nat -> Nat -> Nat) (cs srow os : List (Option Nat)) (as : List Nat),vs = [.ref R.A] /\ AskI a H0 R r w n M N l cs srow /\ AskM a H0 H R (N + M) os as /\ ∀ D H',Same H H' -> H D = none -> H' D = some (.lst (knV (knO os))) -> Q (.ref D) H'
theorem j6_ (T : Txt K mg a) : FnO P wo K mg base 1 a.f32 ["self"] (qjr_ a) := by
 refine T.x32.F.okA (k := 0) ub_ (fun cdv A outer s H vs Q E hr h => ?_)
 ·obtain ⟨H0,R,r,w,n,M,N,l,cs,srow,os,as,rfl,I,J,q⟩ := h
  obtain ⟨dx,hA⟩ := I.obj
  have n8 := I.W.n8
  have hosl := J.osl
  refine ⟨_,(qf_ (qo_ (q4_ (CompOk.of (cap := []) (own := ["block"]) (by kernel_rfl)) rfl (qH_ (qA_ (pv 0) rfl)) (fun _ _ _ _ _ => (qm_ (i := 0) (of_decide_eq_true (by kernel_rfl)) rfl (Or.inl rfl))) (fun _ _ _ _ _ => qY_) (fun _ _ _ _ _ => by exact (q2_ jx_ (pv 0) qK_ (qr_ _)))))),?_⟩
  refine ⟨_,rfl,R.A,_,_,_,_,rfl,J.sm _ _ hA,T.cl_Asking,T.no_Asking_row,vc_ _ _ _ _ _,R.rl,rfl,⟨_,SqL.of J.hr⟩,fun kn nkn => ?_⟩
  refine jn_ (xs := rowO os) (f := fun i => .bl (os.getD i none).isSome) (cs := []) (SqL.of J.hr) nkn rfl (by rw [qP_]; exact Nat.le_trans (by omega : os.length <= 8) (by decide)) (fun i u H2 R2 hu s2 hR => ?_) (fun H2 s2 hkn => ?_)
  ·have hi : i < os.length := by rw [<- qP_]; exact (List.getElem?_eq_some_iff.mp hu).1
   rw [qU_ (jq_ hi)] at hu
   cases Option.some.inj hu
   refine ⟨_,rfl,rfl,?_⟩
   rw [ye_]
   exact hR _ (Same.refl _)
  rw [qP_,qkw_] at hkn
  exact q kn H2 s2 nkn hkn
def qhs_ (K : PySem.W.Frag) (a : Adr) : Sp := fun vs H Q _ => ∃ (H0 : Hp) (R : AskR) (so : Addr) (r w n M N : Nat) (l : Nat -> Nat -> Nat) (cs srow os : List (Option Nat)) (as rs : List Nat),vs = [.ref R.A,.ref so] /\ AskI a H0 R r w n M N l cs srow /\ AskM a H0 H R (N + M) os as /\ SqL K H so (rowV rs) /\ (∀ k ∈ rs,k < N + M) /\ ∀ H',Same H H' -> Q (.bl (rs.all (fx r w M N l (knO os)))) H'
theorem uf_ (T : Txt K mg a) : FnO P wo K mg base 10 a.f33 ["self", "some"] (qhs_ K a) := by
 refine T.x33.F.okA (k := 9) uc_ (fun cdv A outer s H vs Q E hr h => ?_)
 ·obtain ⟨H0,R,so,r,w,n,M,N,l,cs,srow,os,as,rs,rfl,I,J,hso,hrs,q⟩ := h
  obtain ⟨dx,hA⟩ := I.obj
  refine ⟨_,(qf_ (qo_ (qt_ (vb_ T) hr.u rfl T.x28.m T.x28.k T.x28.b .nil qn_ (qa_ (qA_ (pv 0) rfl) (qa_ (yF_ (pv 0) T.cl_Asking T.x32.me (j6_ T) hr.u T.x32.b .nil qn_) (qa_ (pv 1) qc_)))))),?_⟩
  refine ⟨_,rfl,R.A,_,_,_,_,rfl,J.sm _ _ hA,T.cl_Asking,T.no_Asking_code,zo_ _ _ _ _ _,_,rfl,R.A,dx,_,rfl,J.sm _ _ hA,rfl,H0,R,r,w,n,M,N,l,cs,srow,os,as,rfl,I,J,fun D H1 s1 nD hD => ?_⟩
  exact ⟨_,rfl,R.c,R.bp,R.fp,D,so,r,w,n,M,N,l,knO os,rs,rfl,I.code.same (J.sm.trans s1),I.full,I.W,hD,by rw [jr_,J.osl],s1.seq hso,hrs,fun H' s' => q H' (s1.trans s')⟩
def qf4_ (K : PySem.W.Frag) (a : Adr) : Sp := fun vs H Q _ => ∃ (H0 : Hp) (R : AskR) (so : Addr) (r w n M N : Nat) (l : Nat -> Nat -> Nat) (cs srow os : List (Option Nat)) (as rs : List Nat),vs = [.ref R.A,.ref so] /\ AskI a H0 R r w n M N l cs srow /\ AskM a H0 H R (N + M) os as /\ SqL K H so (rowV rs) /\ rs.length <= 8 /\ (∀ k ∈ rs,k < N + M /\ (cs.getD k none).isSome = true /\ (cs.getD k none).getD 0 <= 1000000) /\ ∀ H',Same H H' -> Q (.int (((rs.map fun k => (((cs.getD k none).getD 0 : Nat) : Int)).sum : Int))) H'
theorem ve_ (T : Txt K mg a) : FnO P wo K mg base 1 a.f34 ["self", "some"] (qf4_ K a) := by
 refine T.x34.F.okA (k := 0) z6_ (fun cdv A outer s H vs Q E hr h => ?_)
 ·obtain ⟨H0,R,so,r,w,n,M,N,l,cs,srow,os,as,rs,rfl,I,J,hso,hrl,hrs,q⟩ := h
  obtain ⟨dx,hA⟩ := I.obj
  refine ⟨_,(qf_ (qo_ (qw_ (qf3_ rfl) rfl T.n_sum PyProof.Rows.Boot.sum (qa_ (q4_ (CompOk.of (cap := [0]) (own := ["role"]) (by kernel_rfl)) rfl (qH_ (pv 1)) (fun _ _ _ _ _ => (qm_ (i := 1) (of_decide_eq_true (by kernel_rfl)) rfl (Or.inl rfl))) (fun _ _ _ _ _ => qY_) (fun _ _ _ _ _ => by exact (qx_ (ja_ (K := K) rfl) (vl_ (K := K) rfl (pv 0) rfl) (pv 1) (fun _ _ => rfl)))) qc_)))),?_⟩
  refine ⟨_,rfl,so,rfl,⟨_,hso⟩,fun D nD => ?_⟩
  refine jn_ (xs := rowV rs) (f := fun i => .int (((cs.getD (rs.getD i 0) none).getD 0 : Nat) : Int)) (cs := [some (.ref R.A)]) hso nD rfl (by rw [qi_]; exact Nat.le_trans hrl (by decide)) (fun i u H2 R2 hu s2 hR => ?_) (fun H2 s2 hD => ?_)
  ·obtain ⟨k,ek,rfl⟩ := qV_ hu
   obtain ⟨h1,h2,h3⟩ := hrs k (List.mem_of_getElem? ek)
   have eg : rs.getD i 0 = k := by rw [List.getD_eq_getElem?_getD,ek]; rfl
   rw [eg] at hR
   have ev : valO (cs.getD k none) = .int (((cs.getD k none).getD 0 : Nat) : Int) := by
    cases hz : cs.getD k none with
    | none => rw [hz] at h2; cases h2
    | some b => rfl
   have gi := qq_ (qU_ (jq_ (os := cs) (k := k) (by rw [I.csl]; exact h1)))
   rw [ev] at gi
   exact ⟨_,rfl,R.A,_,_,_,_,rfl,s2 _ _ (J.sm _ _ hA),T.cl_Asking,T.no_Asking_costs,vT_ _ _ _ _ _,_,rfl,R.cl,_,_,_,rfl,rfl,SqL.of (s2 _ _ (J.sm _ _ I.cost)),gi,hR _ (Same.refl _)⟩
  rw [qi_] at hD
  have ex : ((List.range rs.length).map fun i => V.int (((cs.getD (rs.getD i 0) none).getD 0 : Nat) : Int)) = (rs.map fun k => (((cs.getD k none).getD 0 : Nat) : Int)).map V.int := by
   rw [List.map_map]
   apply List.ext_getElem?
   intro i
   rw [List.getElem?_map,List.getElem?_map]
   by_cases hi : i < rs.length
   ·rw [List.getElem?_range hi,List.getElem?_eq_getElem hi]
    have eg : rs.getD i 0 = rs[i] := by rw [List.getD_eq_getElem?_getD,List.getElem?_eq_getElem hi]; rfl
    dsimp only [Option.map]
    rw [eg]
    rfl
   ·rw [List.getElem?_eq_none (by rw [List.length_range]; omega),List.getElem?_eq_none (by omega)]
    rfl
  rw [ex] at hD
  refine ⟨D,_,rfl,SqL.of hD,by rw [List.length_map]; omega,fun y hy => ?_,q H2 s2⟩
  obtain ⟨k,hk,rfl⟩ := List.mem_map.mp hy
  have := (hrs k hk).2.2
  omega
def qf5_ (a : Adr) : Sp := fun vs H Q _ => ∃ (H0 : Hp) (R : AskR) (r w n M N k : Nat) (l : Nat -> Nat -> Nat) (cs srow os : List (Option Nat)) (as X : List Nat),vs = [.ref R.A,.int k] /\ AskI a H0 R r w n M N l cs srow /\ AskM a H0 H R (N + M) os as /\ k < N + M /\ X.length = N + M /\ (∀ b ∈ X,b < (2 ^ w) ^ n) /\ isMk r w n M N l X = true /\ zy_ (N + M) os X /\ ∀ H',Same H H' -> Q (if fx r w M N l (knO os) k = true then .int ((X.getD k 0 : Nat) : Int) else .non) H'
theorem vf_ (T : Txt K mg a) : FnO P wo K mg base 9 a.f37 ["self", "role"] (qf5_ a) := by
 refine T.x37.F.okA (k := 8) z7_ (fun cdv A outer s H vs Q E hr h => ?_)
 ·obtain ⟨H0,R,r,w,n,M,N,k,l,cs,srow,os,as,X,rfl,I,J,hk,hX,hlt,hm,hag,q⟩ := h
  obtain ⟨dx,hA⟩ := I.obj
  have hC := I.code.same J.sm
  obtain ⟨dc,Lp,qs,hc,_,_⟩ := id hC.ins
  refine ⟨_,(qf_ (qo_ (qB_ (by exact (qA_ (pv 0) rfl)) T.cl_Code T.x27.me (vR_ T) hr.u T.x27.b .nil qn_ (qa_ (qA_ (pv 0) rfl) (qa_ (pv 1) qc_))))),?_⟩
  refine ⟨_,rfl,R.A,_,_,_,_,rfl,J.sm _ _ hA,T.cl_Asking,T.no_Asking_code,zo_ _ _ _ _ _,R.c,dc,_,rfl,hc,rfl,_,rfl,R.A,_,_,_,_,rfl,J.sm _ _ hA,T.cl_Asking,T.no_Asking_row,vc_ _ _ _ _ _,_,rfl,?_⟩
  refine ⟨R.c,R.bp,R.fp,R.rl,r,w,n,M,N,k,l,os,rfl,hC,I.full,I.n16,I.W,J.hr,J.osl,hk,fun b hb => ?_,fun hz H' s' => ⟨fun by' hr' => ?_,fun mk hf => ?_⟩⟩
  ·have e : fx r w M N l (knO os) k = true := by
    unfold fx
    rw [List.getD_eq_getElem?_getD,qhl_ (by rw [J.osl]; exact hk) hb]
    rfl
   have := q H (Same.refl _)
   rw [e,if_pos rfl,hag k hk b hb] at this
   exact this
  ·have kz := zz_ (by rw [J.osl]; exact hk) hz
   have kg : (knO os).getD k false = false := by rw [List.getD_eq_getElem?_getD,kz]; rfl
   have e : fx r w M N l (knO os) k = true := by
    unfold fx
    rw [u8_ I.full I.W (by rw [jr_,J.osl]) hk kg hr',Bool.or_true]
   have := q H' s'
   rw [e,if_pos rfl,← tells_make I.full.toGood I.W J.osl hX hlt hk hz hm hag hr'] at this
   exact this
  ·have kz := zz_ (by rw [J.osl]; exact hk) hz
   have kg : (knO os).getD k false = false := by rw [List.getD_eq_getElem?_getD,kz]; rfl
   have e : fx r w M N l (knO os) k = false := by
    unfold fx
    rw [u9_ I.full I.W (by rw [jr_,J.osl]) hk kg hf,kg]
    rfl
   have := q H' s'
   rw [e,if_neg (by decide)] at this
   exact this
theorem qab_ {row : List Nat} {k : Nat} (h : k < row.length) : row.getD k 0 ∈ row := by
 rw [List.getD_eq_getElem?_getD,List.getElem?_eq_getElem h]
 exact List.getElem_mem h
theorem yy_ {K : PySem.W.Frag} {l : Addr} {rs : List Nat} {b : Nat -> Bool} {k : Nat} {tt : TT} {te : TE} {cs : L2.St} {H1 : Hp} {D : Addr} {Q : Hp -> Prop} (hl : SqL K H1 l (rowV rs)) (hD : H1 D = none) (hk : k = cs.length) (hn : rs.length <= sizeLine)
  (ht : ∀ x H (R : Bool -> Hp -> Prop),x ∈ rs -> Same H1 H -> (∀ H4,Same H H4 -> R (b x) H4) -> tt (cs ++ [some (.int (x : Nat))]) H R)
  (he : ∀ x H (R : V -> Hp -> Prop),x ∈ rs -> b x = true -> Same H1 H -> (∀ H4,Same H H4 -> R (.int (x : Nat)) H4) -> te (cs ++ [some (.int (x : Nat))]) H R)
  (hQ : ∀ H,Same H1 H -> H D = some (.lst (rowV (rs.filter b))) -> Q H) : q3_ (Itl K l) (qT_ k) tt te (cs ++ [none]) H1 D Q := by
 refine vy_ (n := rs.length) (src := fun i => .int ((rs.getD i 0 : Nat) : Int)) (f := fun i => .int ((rs.getD i 0 : Nat) : Int)) (b := fun i => b (rs.getD i 0)) hD hk hn (fun H sm => ⟨_,sm.seq hl,by rw [qi_]; exact Nat.le_refl _⟩) (fun i H hi sm => ⟨_,_,sm.seq hl,qW_ hi⟩) (fun i H x H' hi sm y => ?_) (fun i H R hi sm r => ht _ H R (qab_ hi) sm r) (fun i H R hi hb sm r => he _ H R (qab_ hi) hb sm r) (fun H sm h => hQ H sm ?_)
 ·obtain ⟨e,y⟩ := y
  exact ⟨Option.some.inj ((y _ (sm.seq hl)).symm.trans (qW_ hi)),e⟩
 ·rw [h]
  refine congrArg (fun z => some (HO.lst z)) ?_
  unfold rowV
  clear hl hn ht he hQ h
  have : rs = (List.range rs.length).map fun i => rs.getD i 0 := by
   apply List.ext_getElem?
   intro i
   by_cases hi : i < rs.length
   ·rw [List.getElem?_map,List.getElem?_range hi,Option.map_some,List.getD_eq_getElem?_getD,List.getElem?_eq_getElem hi]
    rfl
   ·rw [List.getElem?_eq_none (by omega),List.getElem?_eq_none (by rw [List.length_map,List.length_range]; omega)]
  conv => rhs; rw [this]
  rw [List.filter_map,List.map_map]
  rfl
def qd4_ (K : PySem.W.Frag) (a : Adr) : Sp := fun vs H Q _ => ∃ (H0 : Hp) (R : AskR) (so : Addr) (r w n M N : Nat) (l : Nat -> Nat -> Nat) (cs srow os : List (Option Nat)) (as rs : List Nat),vs = [.ref R.A,.ref so] /\ AskI a H0 R r w n M N l cs srow /\ AskM a H0 H R (N + M) os as /\ SqL K H so (rowV rs) /\ rs.length <= 8 /\ (∀ k ∈ rs,k < N + M) /\ ∀ D H',Same H H' -> H D = none -> H' D = some (.lst (rowV (rs.filter fun k => !fx r w M N l (knO os) k))) -> Q (.ref D) H'
theorem vs_ (T : Txt K mg a) : FnO P wo K mg base 10 a.f38 ["self", "some"] (qd4_ K a) := by
 refine T.x38.F.okA (k := 9) sc_Asking_unfixed (fun cdv A outer s H vs Q E hr h => ?_)
 ·obtain ⟨H0,R,so,r,w,n,M,N,l,cs,srow,os,as,rs,rfl,I,J,hso,h8,hrs,q⟩ := h
  obtain ⟨dx,hA⟩ := I.obj
  have hA := J.sm _ _ hA
  refine ⟨_,(qb_ (qj_ (i := 2) sc_Asking_unfixed.nd rfl (Or.inr rfl) (yF_ (pv 0) T.cl_Asking T.x32.me (j6_ T) hr.u T.x32.b .nil qn_))
   (qf_ (qo_ (q4_ (CompOk.of (cap := [2,0]) (own := ["role"]) (by kernel_rfl)) rfl (qH_ (pv 1)) (fun _ _ _ _ _ => (qm_ (i := 2) (of_decide_eq_true (by kernel_rfl)) rfl (Or.inl rfl))) (fun _ _ _ _ _ => (jW_ (jk_ (qZ_ (qB_ (by exact (vl_ (K := K) rfl (pv 1) rfl)) T.cl_Code T.x25.me (zM_ T) hr.u T.x25.b .nil qn_ (qa_ (pv 0) (qa_ (pv 2) qc_))))))) (fun _ _ _ _ _ => by exact (pv 2)))))),?_⟩
  refine ⟨_,rfl,R.A,dx,_,rfl,hA,rfl,H0,R,r,w,n,M,N,l,cs,srow,os,as,rfl,I,J,fun kn H1 s1 nkn hkn => ?_⟩
  refine ⟨_,rfl,so,rfl,⟨_,s1.seq hso⟩,fun D nD => ?_⟩
  refine yy_ (rs := rs) (b := fun k => !fx r w M N l (knO os) k) (cs := [some (.ref kn),some (.ref R.A)]) (s1.seq hso) nD rfl (Nat.le_trans h8 (by decide)) (fun x Hx Rx hx sx hR => ?_) (fun x Hx Rx hx _ sx hR => ⟨_,rfl,hR _ (Same.refl _)⟩) (fun H2 s2 hD => ?_)
  ·have sx' := J.sm.trans (s1.trans sx)
   obtain ⟨dxc,Lp,qs,hc,_⟩ := I.code.ins
   refine ⟨_,rfl,R.A,_,_,_,_,rfl,(s1.trans sx) _ _ hA,T.cl_Asking,T.no_Asking_code,zo_ _ _ _ _ _,R.c,dxc,_,rfl,sx' _ _ hc,rfl,_,rfl,_,rfl,R.c,R.bp,R.fp,kn,r,w,n,M,N,x,l,knO os,rfl,I.code.same sx',I.full,I.W,sx _ _ hkn,by rw [jr_,J.osl],hrs x hx,fun H' s' => ?_⟩
   exact ⟨_,rfl,hR _ s'⟩
  ·exact q D H2 (s1.trans s2) (s1.free nD) hD
def ug_ (cs : List (Option Nat)) (rs : List Nat) : Int := (rs.map fun k => (((cs.getD k none).getD 0 : Nat) : Int)).sum
def yR_ (cs : List (Option Nat)) (as ls : List Nat) : V := if ls.all (mayB cs as) = true then .int (ug_ cs ls) else .non
def qht_ (K : PySem.W.Frag) (a : Adr) : Sp := fun vs H Q _ => ∃ (H0 : Hp) (R : AskR) (so : Addr) (r w n M N : Nat) (l : Nat -> Nat -> Nat) (cs srow os : List (Option Nat)) (as rs : List Nat),vs = [.ref R.A,.ref so] /\ AskI a H0 R r w n M N l cs srow /\ AskM a H0 H R (N + M) os as /\ SqL K H so (rowV rs) /\ rs.length <= 8 /\ (∀ k ∈ rs,k < N + M) /\ (∀ k,(cs.getD k none).getD 0 <= 1000000) /\ ∀ H',Same H H' -> Q (yR_ cs as (rs.filter fun k => !fx r w M N l (knO os) k)) H'
theorem uh_ (T : Txt K mg a) : FnO P wo K mg base 11 a.f39 ["self", "some"] (qht_ K a) := by
 refine T.x39.F.okA (k := 10) sc_Asking_price (fun cdv A outer s H vs Q E hr h => ?_)
 ·obtain ⟨H0,R,so,r,w,n,M,N,l,cs,srow,os,as,rs,rfl,I,J,hso,h8,hrs,hc6,q⟩ := h
  obtain ⟨dx,hA⟩ := I.obj
  have hA := J.sm _ _ hA
  refine ⟨_,(qb_ (qj_ (i := 2) sc_Asking_price.nd rfl (Or.inl rfl) (qB_ (pv 0) T.cl_Asking T.x38.me (vs_ T) hr.u T.x38.b .nil qn_ (qa_ (pv 1) qc_)))
   (qb_ (qz_ (jk_ (qZ_ (qw_ (qe6_ rfl) rfl T.n_all boot_all (qa_ (q4_ (CompOk.of (cap := [0]) (own := ["role"]) (by kernel_rfl)) rfl (qH_ (pv 2)) (fun _ _ _ _ _ => (qm_ (i := 1) (of_decide_eq_true (by kernel_rfl)) rfl (Or.inl rfl))) (fun _ _ _ _ _ => qY_) (fun _ _ _ _ _ => by exact (qB_ (pv 0) T.cl_Asking T.x30.me (jT_ T) hr.u T.x30.b .nil qn_ (qa_ (pv 1) qc_)))) qc_)))) (qf_ (qo_ qK_)) qv_)
   (qf_ (qo_ (qB_ (pv 0) T.cl_Asking T.x34.me (ve_ T) hr.u T.x34.b .nil qn_ (qa_ (pv 2) qc_)))))),?_⟩
  refine ⟨_,rfl,R.A,dx,_,rfl,hA,rfl,_,rfl,H0,R,so,r,w,n,M,N,l,cs,srow,os,as,rs,rfl,I,J,hso,h8,hrs,fun L H1 s1 nL hL => ?_⟩
  have hlt : ∀ k ∈ (rs.filter fun k => !fx r w M N l (knO os) k),k < N + M := fun k hk => hrs k (List.mem_filter.mp hk).1
  have hll : (rs.filter fun k => !fx r w M N l (knO os) k).length <= 8 := Nat.le_trans (List.length_filter_le _ _) h8
  generalize (rs.filter fun k => !fx r w M N l (knO os) k) = ls at q hL hlt hll
  refine ⟨_,rfl,L,rfl,⟨_,SqL.of hL⟩,fun D nD => ?_⟩
  refine jn_ (xs := rowV ls) (f := fun i => .bl (mayB cs as (ls.getD i 0))) (cs := [some (.ref R.A)]) (SqL.of hL) nD rfl (by rw [qi_]; exact Nat.le_trans hll (by decide)) (fun i u H2 R2 hu s2 hR => ?_) (fun H2 s2 hD => ?_)
  ·obtain ⟨k,ek,rfl⟩ := qV_ hu
   have eg : ls.getD i 0 = k := by rw [List.getD_eq_getElem?_getD,ek]; rfl
   rw [eg] at hR
   have s12 := s1.trans s2
   refine ⟨_,rfl,R.A,dx,_,rfl,s12 _ _ hA,rfl,_,rfl,H0,R,r,w,n,M,N,k,l,cs,srow,os,as,rfl,I,J.same s12,hlt k (List.mem_of_getElem? ek),?_⟩
   exact hR _ (Same.refl _)
  rw [qi_] at hD
  have ex : ((List.range ls.length).map fun i => V.bl (mayB cs as (ls.getD i 0))) = (ls.map (mayB cs as)).map V.bl := by
   rw [List.map_map]
   apply List.ext_getElem?
   intro i
   rw [List.getElem?_map,List.getElem?_map]
   by_cases hi : i < ls.length
   ·rw [List.getElem?_range hi,List.getElem?_eq_getElem hi]
    have eg : ls.getD i 0 = ls[i] := by rw [List.getD_eq_getElem?_getD,List.getElem?_eq_getElem hi]; rfl
    dsimp only [Option.map]
    rw [eg]
    rfl
   ·rw [List.getElem?_eq_none (by rw [List.length_range]; omega),List.getElem?_eq_none (by omega)]
    rfl
  rw [ex] at hD
  have s12 := s1.trans s2
  refine ⟨D,_,rfl,SqL.of hD,_,rfl,?_⟩
  have ea : ((ls.map (mayB cs as)).all fun b => b) = ls.all (mayB cs as) := by rw [List.all_map]; rfl
  rw [ea]
  unfold yR_ at q
  cases hz : ls.all (mayB cs as) with
  | false =>
   rw [hz] at q
   refine ite2 (fun _ => ?_) (fun y => absurd rfl y)
   exact q H2 s12
  | true =>
   rw [hz] at q
   refine ite2 (fun y => absurd y (by decide)) (fun _ => ?_)
   refine ⟨_,rfl,R.A,dx,_,rfl,s12 _ _ hA,rfl,_,rfl,H0,R,L,r,w,n,M,N,l,cs,srow,os,as,ls,rfl,I,J.same s12,SqL.of (s2 _ _ hL),hll,fun k hk => ⟨hlt k hk,?_,hc6 k⟩,fun H' s' => q H' (s12.trans s')⟩
   have := List.all_eq_true.mp hz k hk
   unfold mayB at this
   exact (Bool.and_eq_true _ _ ▸ this).1
def ckO (cs : List (Option Nat)) (k : Nat) : Int := (((cs.getD k none).getD 0 : Nat) : Int)
def qjs_ (a : Adr) : Sp := fun vs H Q _ => ∃ (H0 : Hp) (R : AskR) (r w n M N : Nat) (l : Nat -> Nat -> Nat) (cs srow os : List (Option Nat)) (as : List Nat),vs = [.ref R.A] /\ AskI a H0 R r w n M N l cs srow /\ AskM a H0 H R (N + M) os as ∧
 ∀ D H' ms,AskM a H0 H' R (N + M) os as -> (∀ b o,b ≠ a.t35 -> H b = some o -> H' b = some o) -> H D = none -> H' D = some (.lst (rowV ms)) -> ms.Perm ((List.range (N + M)).filter (mayB cs as)) -> ms.Pairwise (klt (ckO cs)) -> Q (.ref D) H'
theorem ui_ (T : Txt K mg a) (B : Tb base mg a) : FnO P wo K mg base 5 a.f35 ["self"] (qjs_ a) := by
 refine T.x35.F.okA (k := 4) sc_Asking_order (fun A outer s H vs Q E hr h => ?_)
 ·obtain ⟨H0,R,r,w,n,M,N,l,cs,srow,os,as,rfl,I,J,q⟩ := h
  obtain ⟨dx,hA⟩ := I.obj
  have n8 := I.W.n8
  have hC := I.code.same J.sm
  obtain ⟨dc,Lp,qs,hc,_,_⟩ := id hC.ins
  refine ⟨_,(qb_ (jK_ (i := 1) sc_Asking_order.nd rfl (Or.inl rfl) (CompOk.of (cap := [0]) (own := ["role"]) (by kernel_rfl)) rfl (qF_ rfl T.n_range (qa_ (qA_ (qA_ (pv 0) rfl) rfl) qc_)) (fun _ _ _ _ _ => (qm_ (i := 1) (of_decide_eq_true (by kernel_rfl)) rfl (Or.inl rfl))) (fun _ _ _ _ _ => (jW_ (qZ_ (qB_ (pv 0) T.cl_Asking T.x30.me (jT_ T) hr.u T.x30.b .nil qn_ (qa_ (pv 1) qc_))))) (fun _ _ _ _ _ => by exact (pv 1)))
   (qf_ (qo_ (qhb_ (k := 0) (p := "role") (y := "self") (j := 0) (T.x35.F.tab B.b_Asking_order B.n_Asking_order) rfl hr.u rfl T.n_sorted (pv 1) ⟨rfl,rfl,rfl,by decide +kernel,rfl,by decide +kernel,by decide +kernel⟩ rfl (by decide +kernel) rfl rfl rfl rfl (fun _ _ _ _ => rfl) (fun _ _ _ _ _ _ hr => (j1_ (qa_ (qx_ (ja_ (K := K) rfl) (vl_ (K := K) rfl (pv 1) rfl) (pv 0) (fun _ _ => rfl)) (qa_ (pv 0) qc_)))))))),?_⟩
  refine ⟨_,rfl,R.A,_,_,_,_,rfl,J.sm _ _ hA,T.cl_Asking,T.no_Asking_code,zo_ _ _ _ _ _,R.c,_,_,_,_,rfl,hc,T.cl_Code,T.no_Code_roles,yQ_ R.bp M N Lp,_,rfl,by omega,by omega,fun fl nfl => ?_⟩
  rw [Int.toNat_natCast]
  refine y6_ (n := N + M) (f := fun k => .int ((k : Nat) : Int)) (b := mayB cs as) (cs := [some (.ref R.A)]) nfl rfl (Nat.le_trans n8 (by decide)) (fun k H2 R2 hk s2 hR => ?_) (fun k H2 R2 hk hb s2 hR => ?_) (fun H2 s2 hfl => ?_)
  ·refine ⟨_,rfl,R.A,dx,_,rfl,s2 _ _ (J.sm _ _ hA),rfl,_,rfl,H0,R,r,w,n,M,N,k,l,cs,srow,os,as,rfl,I,J.same s2,hk,?_⟩
   exact ⟨_,rfl,hR _ (Same.refl _)⟩
  ·exact ⟨_,rfl,hR _ (Same.refl _)⟩
  have J2 := J.same s2
  have hfl' : H2 fl = some (.lst (rowV ((List.range (N + M)).filter (mayB cs as)))) := hfl
  refine ⟨_,rfl,?_⟩
  refine qf0_ (q := qL) (pos := posL) J2.tab fun H3 c' fa doc pm ctv k3 t3 n3 hf3 hc3 fr3 => ?_
  have ht : ∀ {b : Addr} {xs : List V},H2 b = some (.lst xs) -> b ≠ a.t35 := fun {b xs} e => by
   obtain ⟨ps,hp,_⟩ := J2.tab
   exact yu_ e hp (fun y => by cases y)
  have h0 : ∀ {b : Addr} {o : HO},H0 b = some o -> b ≠ a.t35 := fun {b o} e => ql_ e I.nt
  have J3 : AskM a H0 H3 R (N + M) os as := ⟨fun b o e => k3 b o (h0 e) (J2.sm b o e),k3 _ _ (ht J2.hr) J2.hr,k3 _ _ (ht J2.hs) J2.hs,k3 _ _ (ht J2.hz) J2.hz,t3,J2.osl,J2.nd,J2.lt⟩
  refine ⟨fl,(List.range (N + M)).filter (mayB cs as),ckO cs,8,.ref R.A,rfl,SqL.of (k3 _ _ (ht hfl') hfl'),List.Pairwise.filter _ List.nodup_range,fun k hk => ?_,?_,rfl,fun k H' hk sm => ?_,fun D H' ms n1 n2 sm pm pw => ?_⟩
  ·have := List.mem_range.mp (List.mem_filter.mp hk).1
   omega
  ·have := List.length_filter_le (mayB cs as) (List.range (N + M))
   rw [List.length_range] at this
   omega
  ·have hk1 := List.mem_range.mp (List.mem_filter.mp hk).1
   have hk2 := (List.mem_filter.mp hk).2
   have J' := J3.same sm
   have ev : valO (cs.getD k none) = .int (ckO cs k) := by
    unfold mayB at hk2
    unfold ckO
    cases hz : cs.getD k none with
    | none => rw [hz] at hk2; cases hk2
    | some b => rfl
   have gi := qq_ (qU_ (jq_ (os := cs) (k := k) (by rw [I.csl]; exact hk1)))
   rw [ev] at gi
   exact ⟨_,rfl,R.A,_,_,_,_,rfl,J'.sm _ _ hA,T.cl_Asking,T.no_Asking_costs,vT_ _ _ _ _ _,_,rfl,R.cl,_,_,_,rfl,rfl,SqL.of (J'.sm _ _ I.cost),gi,_,rfl,(by show 2 <= sizeLine; decide),fun p np => ⟨p,rfl,qd_,Same.new np⟩⟩
  ·have s4 : Same H3 (upd H' D (.lst (jB_ ms))) := sm.up n1
   refine q D _ ms (J3.same s4) (fun b o hb e => s4 b o (k3 b o hb (s2 b o e))) ?_ qd_ pm pw
   exact s2.free (fr3 D n1)
def knW (ks : List Bool) : List Nat -> List Bool
 | [] => ks
 | k :: way => knW (ks.set k true) way
theorem qhu_ (ks : List Bool) (k : Nat) : ∀ way,knW ks (way ++ [k]) = (knW ks way).set k true := fun way => by
 induction way generalizing ks with
 | nil => rfl
 | cons x way ih => exact ih _
theorem uj_ (ks : List Bool) : ∀ way,(knW ks way).length = ks.length := fun way => by
 induction way generalizing ks with
 | nil => rfl
 | cons x way ih =>
  show (knW (ks.set x true) way).length = _
  rw [ih,List.length_set]
theorem qjt_ (ks : List Bool) (k : Nat) : (knV ks).set k (.bl true) = knV (ks.set k true) := by
 unfold knV
 rw [List.map_set]
theorem yq_ {ms : List Nat} {j k : Nat} (h : ms[j]? = some k) : ms.take (j + 1) = ms.take j ++ [k] := by
 rw [List.take_add_one,h]
 rfl
def yS_ (r w M N : Nat) (l : Nat -> Nat -> Nat) (ks : List Bool) (rs ms : List Nat) (j : Nat) : Prop :=
 j <= ms.length /\ rs.all (fx r w M N l (knW ks (ms.take j))) = true /\ ∀ i,i < j -> rs.all (fx r w M N l (knW ks (ms.take i))) = false
def vW_ (r w M N : Nat) (l : Nat -> Nat -> Nat) (ks : List Bool) (rs ms : List Nat) : Prop := ∀ i,i <= ms.length -> rs.all (fx r w M N l (knW ks (ms.take i))) = false
def qhv_ (a : Adr) : Sp := fun vs H Q _ => ∃ (H0 : Hp) (R : AskR) (so : Addr) (r w n M N : Nat) (l : Nat -> Nat -> Nat) (cs srow os : List (Option Nat)) (as rs : List Nat),vs = [.ref R.A,.ref so] /\ AskI a H0 R r w n M N l cs srow /\ AskM a H0 H R (N + M) os as /\ H so = some (.lst (rowV rs)) /\ (∀ k ∈ rs,k < N + M) ∧
 ∀ H' ms,AskM a H0 H' R (N + M) os as -> (∀ b o,b ≠ a.t35 -> H b = some o -> H' b = some o) -> ms.Perm ((List.range (N + M)).filter (mayB cs as)) -> ms.Pairwise (klt (ckO cs)) →
  (∀ D j,yS_ r w M N l (knO os) rs ms j -> H D = none -> H' D = some (.lst (rowV (ms.take j))) -> Q (.ref D) H') /\ (vW_ r w M N l (knO os) rs ms -> Q .non H')
theorem yT_ (T : Txt K mg a) (B : Tb base mg a) : FnO P wo K mg base 10 a.f36 ["self", "some"] (qhv_ a) := by
 refine T.x36.F.okA (k := 9) sc_Asking_detour (fun cdv A outer s H vs Q E hr h => ?_)
 ·obtain ⟨H0,R,so,r,w,n,M,N,l,cs,srow,os,as,rs,rfl,I,J,hso,hrs,q⟩ := h
  obtain ⟨dx,hA⟩ := I.obj
  have n8 := I.W.n8
  have hst : so ≠ a.t35 := by
   obtain ⟨ps,hp,_⟩ := J.tab
   exact yu_ hso hp (fun y => by cases y)
  refine ⟨_,(qb_ (qj_ (i := 2) sc_Asking_detour.nd rfl (Or.inl rfl) (yF_ (pv 0) T.cl_Asking T.x35.me (ui_ T B) hr.u T.x35.b .nil qn_))
   (qb_ (qj_ (i := 3) sc_Asking_detour.nd rfl (Or.inl rfl) (yF_ (pv 0) T.cl_Asking T.x32.me (j6_ T) hr.u T.x32.b .nil qn_))
   (qb_ (qj_ (i := 4) sc_Asking_detour.nd rfl (Or.inl rfl) (qI_ qc_))
   (qb_ (j7_ PassesOwn.never (jk_ (qZ_ (qt_ (vb_ T) hr.u rfl T.x28.m T.x28.k T.x28.b .nil qn_ (qa_ (qA_ (pv 0) rfl) (qa_ (pv 3) (qa_ (pv 1) qc_)))))) (qb_ (qz_ (qp_ q6_ (qw_ qu_ rfl T.n_len PySem.boot_len (qa_ (pv 4) qc_)) (qw_ qu_ rfl T.n_len PySem.boot_len (qa_ (pv 2) qc_)) (qr_ _)) (qf_ (qo_ qK_)) qv_)
   (qb_ (qj_ (i := 5) sc_Asking_detour.nd rfl (Or.inl rfl) (qx_ qy_ (pv 2) (qw_ qu_ rfl T.n_len PySem.boot_len (qa_ (pv 4) qc_)) (fun _ _ => rfl)))
   (qb_ (jF_ jI_ (jO_ (pv 3) (pv 5) jt_))
   (qf_ (qN_ (jm_ PySem.F.plainAttrs_list PySem.F.slot_list_append PySem.F.type_list_append qJ_ (pv 4) (qa_ (pv 5) qc_))))))))
   (qf_ (qo_ (pv 4))))))),?_⟩
  refine ⟨_,rfl,R.A,dx,_,rfl,J.sm _ _ hA,rfl,H0,R,r,w,n,M,N,l,cs,srow,os,as,rfl,I,J,fun D1 H1 ms J1 k1 nD1 hD1 pm pw => ?_⟩
  have q := fun H' (s : Same H1 H') => q H' ms (J1.same s) (fun b o hb e => s b o (k1 b o hb e)) pm pw
  have hso1 := k1 _ _ hst hso
  have ml : ms.length <= 8 := by
   rw [pm.length_eq]
   have := List.length_filter_le (mayB cs as) (List.range (N + M))
   rw [List.length_range] at this
   omega
  have mlt : ∀ k ∈ ms,k < N + M := fun k hk => List.mem_range.mp (List.mem_filter.mp (pm.mem_iff.mp hk)).1
  refine ⟨_,rfl,R.A,dx,_,rfl,J1.sm _ _ hA,rfl,H0,R,r,w,n,M,N,l,cs,srow,os,as,rfl,I,J1,fun D2 H2 s2 nD2 hD2 => ?_⟩
  refine ⟨Nat.zero_le _,fun D3 nD3 => ?_⟩
  have d23 : D2 ≠ D3 := ql_ hD2 nD3
  have nD3' : H1 D3 = none := s2.free nD3
  have frD : ∀ D,H1 D = none -> H D = none := fun D e => by
   cases z : H D with
   | none => rfl
   | some o =>
    by_cases y : D = a.t35
    ·obtain ⟨ps,hp,_⟩ := J1.tab
     rw [y,hp] at e; cases e
    ·rw [k1 D o y z] at e; cases e
  have hD3 : (upd H2 D3 (.lst [])) D3 = some (.lst (rowV (ms.take 0))) := qd_
  have hD2' : (upd H2 D3 (.lst [])) D2 = some (.lst (knV (knW (knO os) (ms.take 0)))) := by rw [qe_ d23]; exact hD2
  have s3 : Same H1 (upd H2 D3 (.lst [])) := s2.up nD3'
  generalize (upd H2 D3 (.lst [])) = H3 at hD3 hD2' s3
  refine ⟨fun m σ H' => ∃ (j : Nat) (v5 : Option V),m = ms.length - j /\ j <= ms.length /\ σ = [some (.ref R.A),some (.ref so),some (.ref D1),some (.ref D2),some (.ref D3),v5] /\ Same H1 H' /\ H' D2 = some (.lst (knV (knW (knO os) (ms.take j)))) /\ H' D3 = some (.lst (rowV (ms.take j))) /\ ∀ i,i < j -> rs.all (fx r w M N l (knW (knO os) (ms.take i))) = false,
   ⟨_,0,none,rfl,Nat.zero_le _,rfl,s3,hD2',hD3,fun i hi => absurd hi (Nat.not_lt_zero i)⟩,?_⟩
  rintro m σ H' ⟨j,v5,rfl,hj,rfl,sm,h2,h3,hno⟩
  have J' := J1.same sm
  refine ⟨_,rfl,R.A,_,_,_,_,rfl,J'.sm _ _ hA,T.cl_Asking,T.no_Asking_code,zo_ _ _ _ _ _,_,rfl,_,rfl,?_⟩
  refine ⟨R.c,R.bp,R.fp,D2,so,r,w,n,M,N,l,knW (knO os) (ms.take j),rs,rfl,I.code.same J'.sm,I.full,I.W,h2,by rw [uj_,jr_,J.osl],SqL.of (sm _ _ hso1),hrs,fun H4 s4 => ?_⟩
  refine ⟨_,rfl,?_⟩
  have sm4 := sm.trans s4
  cases hz : rs.all (fx r w M N l (knW (knO os) (ms.take j))) with
  | true =>
   refine ite2 (fun y => absurd y (by decide)) (fun _ => ?_)
   exact ⟨_,rfl,(q H4 sm4).1 D3 j ⟨hj,hz,hno⟩ (frD D3 nD3') (s4 _ _ h3)⟩
  | false =>
   refine ite2 (fun _ => ⟨_,fun _ _ z => z,?_⟩) (fun y => absurd rfl y)
   refine ⟨_,rfl,D3,_,rfl,.inl (SqL.of (s4 _ _ h3)),_,rfl,D1,_,rfl,.inl (SqL.of (sm4 _ _ hD1)),rfl,_,rfl,?_⟩
   have e1 : (rowV (ms.take j)).length = j := by rw [qi_,List.length_take]; omega
   rw [e1,qi_]
   by_cases hjm : j = ms.length
   ·refine ite2 (fun _ => ?_) (fun y => absurd (decide_eq_true (by rw [hjm])) y)
    refine (q H4 sm4).2 fun i hi => ?_
    by_cases y : i = j
    ·rw [y]; exact hz
    ·exact hno i (by omega)
   ·refine ite2 (fun y => absurd (V.int.inj (of_decide_eq_true y)) (by omega)) (fun _ => ?_)
    have hjl : j < ms.length := by omega
    have gk : ms[j]? = some ms[j] := List.getElem?_eq_getElem hjl
    have hk := mlt _ (List.getElem_mem hjl)
    have ek : (rowV ms)[j]? = some (.int (ms[j] : Nat)) := qbe_ hjl
    refine ⟨_,rfl,_,rfl,D3,_,rfl,.inl (SqL.of (s4 _ _ h3)),?_⟩
    rw [e1]
    refine ⟨D1,_,_,_,rfl,rfl,SqL.of (sm4 _ _ hD1),qq_ ek,?_⟩
    refine ⟨_,rfl,_,rfl,D2,_,_,ms[j],rfl,rfl,s4 _ _ h2,jE_ (by unfold knV; rw [List.length_map,uj_,jr_,J.osl]; exact hk),?_⟩
    rw [qjt_,← qhu_,← yq_ gk]
    have h3' : (upd H4 D2 (.lst (knV (knW (knO os) (ms.take (j + 1)))))) D3 = some (.lst (rowV (ms.take j))) := by
     rw [qe_ (Ne.symm d23)]
     exact s4 _ _ h3
    have fits : (rowV (ms.take j)).length < sizeLine := by
     rw [e1]
     exact Nat.lt_of_lt_of_le (by omega : j < 8) (by decide)
    refine ⟨_,rfl,.inl ⟨rfl,_,SqL.of h3'⟩,_,rfl,D3,_,_,rfl,rfl,h3',fits,?_⟩
    rw [q5_,← yq_ gk]
    refine ⟨ms.length - (j + 1),by omega,j + 1,_,rfl,hjl,rfl,(sm4.up nD2).up nD3',?_,qd_,fun i hi => ?_⟩
    ·rw [qe_ d23]; exact qd_
    ·by_cases y : i = j
     ·rw [y]; exact hz
     ·exact hno i (by omega)
def dRow (row : List Nat) : Dt := .lst (row.map fun n => .int ((n : Nat) : Int))
theorem jh_ {K : PySem.W.Frag} {H : Hp} {p : Addr} {row : List Nat} (h : H p = some (.lst (rowV row))) : Sees K H (.ref p) (dRow row) := by
 unfold dRow
 rw [Sees]
 refine ⟨p,_,rfl,SqL.of h,qbk_ (by rw [qi_,List.length_map]) fun i v d h1 h2 => ?_⟩
 obtain ⟨x,ex,rfl⟩ := qV_ h1
 rw [List.getElem?_map,ex] at h2
 have := Option.some.inj h2
 subst this
 rw [Sees]
theorem y8_ (x : Nat) (xs : List Nat) : eqD (dRow (x :: xs)) (.lst []) = false := by
 unfold dRow
 rw [List.map_cons,eqD,eqDs]
theorem jV_ (row : List Nat) : depD (dRow row) <= 60 := by
 unfold dRow
 rw [depD]
 have : yg_ (row.map fun n => Dt.int ((n : Nat) : Int)) <= 0 := qbl_ fun d hd => by
  obtain ⟨n,_,rfl⟩ := List.mem_map.mp hd
  rw [depD]
  ·exact Nat.zero_le _
  all_goals (intro _ h; cases h)
 omega
structure OkA (R : Nat) (cs srow os : List (Option Nat)) (as : List Nat) : Prop where
 osl : os.length = R
 there : ∀ k ∈ as,(cs.getD k none).isSome = true
 is : ∀ k,k < R -> os.getD k none = if k ∈ as then srow.getD k none else none
theorem qkx_ {R : Nat} {cs srow os : List (Option Nat)} {as : List Nat} {k : Nat} (h : OkA R cs srow os as) (hk : k < R) : OkA R cs srow (tk cs srow os as k).1 (tk cs srow os as k).2 := by
 unfold tk
 by_cases hm : mayB cs as k = true
 ·rw [if_pos hm]
  refine ⟨by rw [List.length_set,h.osl],fun j hj => ?_,fun j hj => ?_⟩
  ·rcases List.mem_append.mp hj with z | z
   ·exact h.there j z
   ·rw [List.mem_singleton.mp z]
    unfold mayB at hm
    exact (Bool.and_eq_true _ _ ▸ hm).1
  ·by_cases z : j = k
   ·subst z
    rw [List.getD_eq_getElem?_getD,List.getElem?_set_self (by rw [h.osl]; exact hj),if_pos (List.mem_append_right _ (.head _))]
    rfl
   ·rw [List.getD_eq_getElem?_getD,List.getElem?_set_ne (Ne.symm z),← List.getD_eq_getElem?_getD,h.is j hj]
    by_cases y : j ∈ as
    ·rw [if_pos y,if_pos (List.mem_append_left _ y)]
    ·rw [if_neg y,if_neg (fun e => by
      rcases List.mem_append.mp e with e | e
      ·exact y e
      ·exact z (List.mem_singleton.mp e))]
 ·rw [if_neg hm]
  exact h
def qhw_ : Sp := fun vs H Q _ => ∃ x : Int,vs = [.int x] /\ Q (.bl true) H
theorem qhx_ (T : Txt K mg a) : FnO P wo K mg base 1 a.f41 ["_law_found"] qhw_ := by
 refine T.x41.F.okA (k := 0) qhc_ (fun cdv A outer s H vs Q E hr h => ?_)
 ·obtain ⟨x,rfl,q⟩ := h
  refine ⟨_,(qf_ (qo_ (zO_ (qw_ yL_ rfl T.n_isinstance boot_isinstance (qa_ (pv 0) (qa_ (za_ (v := .ty "int") rfl T.n_int (by decide +kernel) rfl) qc_))) (yB_ (qec_ (qw_ yL_ rfl T.n_isinstance boot_isinstance (qa_ (pv 0) (qa_ (za_ (v := .ty "bool") rfl T.n_bool (by decide +kernel) rfl) qc_)))))))),?_⟩
  refine ⟨_,rfl,_,_,_,_,rfl,.int _,zt_ _ _,_,rfl,iteT ?_⟩
  exact ⟨_,rfl,_,_,_,_,rfl,.int _,qa4_ _,_,rfl,q⟩
def qS_ (xs : List Addr) (H : Hp) : Hp := fun b => if b ∈ xs then none else H b
theorem zA_ (xs : List Addr) (H : Hp) : Same (qS_ xs H) H := fun b o e => by
 unfold qS_ at e
 split at e
 ·cases e
 ·exact e
theorem q7_ {xs : List Addr} {H : Hp} {b : Addr} (h : b ∈ xs) : qS_ xs H b = none := by unfold qS_; rw [if_pos h]
theorem ju_ {xs : List Addr} {H : Hp} {b : Addr} (h : b ∉ xs) : qS_ xs H b = H b := by unfold qS_; rw [if_neg h]
theorem uk_ {G H : Hp} {xs : List Addr} (s : Same G H) (h : ∀ x ∈ xs,G x = none) : Same G (qS_ xs H) := fun b o e => by
 rw [ju_ (fun z => by rw [h b z] at e; cases e)]
 exact s b o e
theorem qhy_ (ks : List Bool) (k : Nat) (hk : k < ks.length) : ∀ way : List Nat,(knW ks way).getD k false = (ks.getD k false || way.contains k) := fun way => by
 induction way generalizing ks with
 | nil => show ks.getD k false = _; simp
 | cons x way ih =>
  show (knW (ks.set x true) way).getD k false = _
  rw [ih (ks.set x true) (by rw [List.length_set]; exact hk),List.contains_cons]
  by_cases z : x = k
  ·subst z
   rw [List.getD_eq_getElem?_getD,List.getElem?_set_self hk]
   simp
  ·rw [List.getD_eq_getElem?_getD,List.getElem?_set_ne z,← List.getD_eq_getElem?_getD,beq_eq_false_iff_ne.mpr (Ne.symm z),Bool.false_or]
theorem AskM.up {a : Adr} {H0 H : Hp} {R : AskR} {n : Nat} {os : List (Option Nat)} {as : List Nat} {x : Addr} {xs : List V} {o : HO} (J : AskM a H0 H R n os as) (n0 : H0 x = none) (hx : H x = some (.lst xs)) (h1 : R.rl ≠ x) (h2 : R.sl ≠ x) (h3 : R.z ≠ x) : AskM a H0 (upd H x o) R n os as :=
 ⟨J.sm.up n0,by rw [qe_ h1]; exact J.hr,by rw [qe_ h2]; exact J.hs,by rw [qe_ h3]; exact J.hz,J.tab.up hx,J.osl,J.nd,J.lt⟩
theorem qhz_ {a : Adr} (ys : List Addr) {G H3 H5 : Hp} {x dx c bp fp f cl rl sl rw z : Addr} {r w n M N : Nat} {l : Nat -> Nat -> Nat} {cs srow : List (Option Nat)} (sG : Same G H3) (code : CodeAt a G c bp fp r w n M N l) (full : GF.Full r w) (n16 : n <= 16) (W : Wts w M N l) (row : G rw = some (.lst (rowO srow))) (srl : srow.length = N + M) (nzG : G z = none) (ntG : G a.t35 = none) (ask : AskerAt H3 f rw z) (hz : H3 z = some (.lst (rowV []))) (tab : TabS H3 a.t35 posL qL) (csl : cs.length = N + M)
  (nx : H3 x = none) (ndx : H3 dx = none) (k5 : ∀ b o,b ≠ x -> (upd (upd H3 dx (.own x)) x (.ins a.C_Asking dx [])) b = some o -> H5 b = some o) (hx5 : H5 x = some (.ins a.C_Asking dx (af c f cl rl sl))) (ncl : (upd (upd H3 dx (.own x)) x (.ins a.C_Asking dx [])) cl = none) (nrl : (upd (upd H3 dx (.own x)) x (.ins a.C_Asking dx [])) rl = none) (nsl : (upd (upd H3 dx (.own x)) x (.ins a.C_Asking dx [])) sl = none) (d1 : cl ≠ rl) (d2 : cl ≠ sl) (d3 : rl ≠ sl) (hcl : H5 cl = some (.lst (rowO cs))) (hrl : H5 rl = some (.lst (rowO (List.replicate (N + M) none)))) (hsl : H5 sl = some (.lst (rowV []))) (hys : ∀ y ∈ ys,G y = none /\ ∃ xs,H3 y = some (.lst xs)) :
  AskI a (qS_ (z :: rl :: sl :: a.t35 :: ys) H5) ⟨x,c,bp,fp,f,cl,rl,sl,rw,z⟩ r w n M N l cs srow /\ AskM a (qS_ (z :: rl :: sl :: a.t35 :: ys) H5) H5 ⟨x,c,bp,fp,f,cl,rl,sl,rw,z⟩ (N + M) (List.replicate (N + M) none) [] /\ Same G (qS_ (z :: rl :: sl :: a.t35 :: ys) H5) /\ Same H3 H5 := by
 have fr : ∀ {b : Addr},(upd (upd H3 dx (.own x)) x (.ins a.C_Asking dx [])) b = none -> H3 b = none := fun {b} e => by
  by_cases z1 : b = x
  ·rw [z1]; exact nx
  rw [qe_ z1] at e
  by_cases z2 : b = dx
  ·rw [z2]; exact ndx
  rwa [qe_ z2] at e
 have s35 : Same H3 H5 := fun b o e => k5 b o (ql_ e nx) (by rw [qe_ (ql_ e nx),qe_ (ql_ e ndx)]; exact e)
 have ncl3 := fr ncl
 have nrl3 := fr nrl
 have nsl3 := fr nsl
 obtain ⟨ps,hp,_⟩ := id tab
 have ht5 := s35 _ _ hp
 have hz5 := s35 _ _ hz
 have hid : ∀ {b : Addr} {o : HO},H3 b = some o -> (∀ xs,o ≠ .lst xs) -> (∀ xs,o ≠ .tbl xs) -> b ∉ (z :: rl :: sl :: a.t35 :: ys) := fun {b o} e n1 n2 hb => by
  rcases List.mem_cons.mp hb with y | hb
  ·rw [y,hz] at e; exact n1 _ (Option.some.inj e).symm
  rcases List.mem_cons.mp hb with y | hb
  ·rw [y,nrl3] at e; cases e
  rcases List.mem_cons.mp hb with y | hb
  ·rw [y,nsl3] at e; cases e
  rcases List.mem_cons.mp hb with y | hb
  ·rw [y,hp] at e; exact n2 _ (Option.some.inj e).symm
  ·obtain ⟨_,xs,hy⟩ := hys b hb
   rw [hy] at e; exact n1 _ (Option.some.inj e).symm
 have sGh : Same G (qS_ (z :: rl :: sl :: a.t35 :: ys) H5) := uk_ (sG.trans s35) fun b hb => by
  rcases List.mem_cons.mp hb with y | hb
  ·rw [y]; exact nzG
  rcases List.mem_cons.mp hb with y | hb
  ·rw [y]; exact sG.free nrl3
  rcases List.mem_cons.mp hb with y | hb
  ·rw [y]; exact sG.free nsl3
  rcases List.mem_cons.mp hb with y | hb
  ·rw [y]; exact ntG
  ·exact (hys b hb).1
 have hx : x ∉ (z :: rl :: sl :: a.t35 :: ys) := fun hb => by
  rcases List.mem_cons.mp hb with y | hb
  ·rw [y,hz5] at hx5; cases hx5
  rcases List.mem_cons.mp hb with y | hb
  ·rw [y,hrl] at hx5; cases hx5
  rcases List.mem_cons.mp hb with y | hb
  ·rw [y,hsl] at hx5; cases hx5
  rcases List.mem_cons.mp hb with y | hb
  ·rw [y,ht5] at hx5; cases hx5
  ·obtain ⟨_,xs,hy⟩ := hys x hb
   rw [nx] at hy; cases hy
 have hc : cl ∉ (z :: rl :: sl :: a.t35 :: ys) := fun hb => by
  rcases List.mem_cons.mp hb with y | hb
  ·rw [y,hz] at ncl3; cases ncl3
  rcases List.mem_cons.mp hb with y | hb
  ·exact d1 y
  rcases List.mem_cons.mp hb with y | hb
  ·exact d2 y
  rcases List.mem_cons.mp hb with y | hb
  ·rw [y,ht5] at hcl; cases hcl
  ·obtain ⟨_,xs,hy⟩ := hys cl hb
   rw [ncl3] at hy; cases hy
 obtain ⟨c',c1,c2,doc,pm,ctv,a1,a2,a3,a4,a5⟩ := ask.ex
 have ex : ∀ {b : Addr} {φ : Heap -> Prop},H3 b = some (.ext φ) -> qS_ (z :: rl :: sl :: a.t35 :: ys) H5 b = some (.ext φ) := fun {b φ} e => by
  rw [ju_ (hid e (fun _ y => by cases y) (fun _ y => by cases y))]
  exact s35 _ _ e
 refine ⟨⟨code.same sGh,full,n16,W,⟨dx,?_⟩,?_,csl,⟨c',c1,c2,doc,pm,ctv,ex a1,ex a2,ex a3,ex a4,a5⟩,sGh _ _ row,srl,q7_ (by simp),q7_ (by simp),q7_ (by simp),q7_ (by simp),d3,ql_ hz nrl3 |>.symm,ql_ hz nsl3 |>.symm⟩,⟨zA_ _ _,hrl,hsl,hz5,tab.keep s35,List.length_replicate,List.nodup_nil,fun k hk => absurd hk List.not_mem_nil⟩,sGh,s35⟩
 ·rw [ju_ hx]; exact hx5
 ·rw [ju_ hc]; exact hcl
theorem qh0_ (R k : Nat) : (List.replicate R (none : Option Nat)).getD k none = none := by
 rw [List.getD_eq_getElem?_getD,List.getElem?_replicate]
 split <;> rfl
theorem qju_ (R : Nat) (cs srow : List (Option Nat)) : OkA R cs srow (List.replicate R none) [] := ⟨List.length_replicate,fun k hk => absurd hk List.not_mem_nil,fun k _ => by
 rw [qh0_,if_neg List.not_mem_nil]⟩
theorem TabS.kp {H H' : Hp} {t t' : Addr} {p : Pos} {q : Str} {ps : Array Value} (h : TabS H t p q) (ne : t ≠ t') (ht : H t' = some (.tbl ps)) (k : ∀ b o,b ≠ t' -> H b = some o -> H' b = some o) : TabS H' t p q := by
 obtain ⟨ps',h1,h2⟩ := h
 refine ⟨ps',k _ _ ne h1,?_⟩
 rcases h2 with h2 | ⟨c',e,h2⟩
 ·exact .inl h2
 ·exact .inr ⟨c',e,k _ _ (yu_ h2 ht (fun y => by cases y)) h2⟩
theorem qjv_ (r w n M N : Nat) (l : Nat -> Nat -> Nat) (bs : List Nat) (g : GF.Good r w) (W : Wts w M N l) (hb : bs.length = N) : isMk r w n M N l (y5_ r w n M N l bs) = true := by
 unfold isMk y5_
 rw [List.all_eq_true]
 intro t ht
 have ht := List.mem_range.mp ht
 apply decide_eq_true
 rw [qc6_,List.zip_append (by rw [qs_,hb]),GF.sumB_append]
 have h1 := GF.sumB_unit g.rule g.w1 (n := n) (t := t) M 0 ((List.range M).map fun t => GF.sumB r w n ((rowT N l t).zip bs)) (by rw [List.length_map,List.length_range]) fun b hb => by
  obtain ⟨j,hj,rfl⟩ := List.mem_map.mp hb
  exact GF.sumB_lt g.rule (yz_ fun k hk => W.lt j k (List.mem_range.mp hj) hk)
 simp only [Nat.add_zero] at h1
 rw [h1,if_pos (by omega),Nat.sub_zero,List.getD_eq_getElem?_getD,List.getElem?_map,List.getElem?_range ht]
 exact Nat.xor_self _
theorem qh1_ (r w n M N : Nat) (l : Nat -> Nat -> Nat) (bs : List Nat) (hb : bs.length = N) : (y5_ r w n M N l bs).length = N + M := by
 unfold y5_
 rw [List.length_append,List.length_map,List.length_range,hb]
theorem qjw_ {r w n M N : Nat} {l : Nat -> Nat -> Nat} {bs : List Nat} (g : GF.Good r w) (W : Wts w M N l) (hlt : ∀ b ∈ bs,b < (2 ^ w) ^ n) : ∀ b ∈ y5_ r w n M N l bs,b < (2 ^ w) ^ n := fun b hb => by
 unfold y5_ at hb
 rcases List.mem_append.mp hb with h | h
 ·exact hlt b h
 ·obtain ⟨j,hj,rfl⟩ := List.mem_map.mp h
  exact GF.sumB_lt g.rule (yz_ fun k hk => W.lt j k (List.mem_range.mp hj) hk)
def setw (l : Nat -> Nat -> Nat) (t k v : Nat) : Nat -> Nat -> Nat := fun i kk => if i = t /\ kk = k then v else l i kk
theorem setW {H : Hp} {ps : List Addr} {M N : Nat} {l : Nat -> Nat -> Nat} (h : TabAt H ps M (rowT N l)) (nd : ps.Nodup) {t k v : Nat} {p : Addr} (ep : ps[t]? = some p) (hk : k < N) : TabAt (upd H p (.lst ((rowV (rowT N l t)).set k (.int (v : Nat))))) ps M (rowT N (setw l t k v)) := by
 refine ⟨h.len,fun i q e => ?_⟩
 by_cases z : i = t
 ·subst z
  rw [ep] at e
  cases Option.some.inj e
  rw [qd_]
  have : (rowV (rowT N l i)).set k (.int (v : Nat)) = rowV ((rowT N l i).set k v) := vO_ _ _ v
  rw [this]
  refine congrArg (fun l => some (HO.lst (rowV l))) ?_
  unfold rowT
  apply List.ext_getElem?
  intro kk
  rw [List.getElem?_set,List.getElem?_map,List.length_map,List.length_range]
  by_cases y : k = kk
  ·subst y
   rw [if_pos rfl,if_pos hk,List.getElem?_map,List.getElem?_range hk]
   show _ = some (setw l i k v i k)
   unfold setw
   rw [if_pos ⟨rfl,rfl⟩]
  ·rw [if_neg y,List.getElem?_map]
   cases hr : (List.range N)[kk]? with
   | none => rfl
   | some x =>
    have : x = kk := by
     obtain ⟨h1,h2⟩ := List.getElem?_eq_some_iff.mp hr
     rw [List.getElem_range] at h2
     exact h2.symm
    subst this
    show some (l i x) = some (setw l i k v i x)
    unfold setw
    rw [if_neg (fun w => y w.2.symm)]
 ·have nq : q ≠ p := fun w => by
   subst w
   have h1 := (List.getElem?_eq_some_iff.mp e)
   have h2 := (List.getElem?_eq_some_iff.mp ep)
   obtain ⟨a1,b1⟩ := h1
   obtain ⟨a2,b2⟩ := h2
   rcases Nat.lt_or_gt_of_ne z with y | y
   ·exact (List.pairwise_iff_getElem.mp nd) i t a1 a2 y (b1.trans b2.symm)
   ·exact (List.pairwise_iff_getElem.mp nd) t i a2 a1 y (b2.trans b1.symm)
  rw [qe_ nq,h.on i q e]
  congr 2
  unfold rowT
  congr 1
  exact List.map_congr_left fun kk _ => by
   unfold setw
   rw [if_neg (fun w => z w.1)]
def KeepBut (ps : List Addr) (H H' : Hp) : Prop := ∀ b o,b ∉ ps -> H b = some o -> H' b = some o
theorem KeepBut.refl (ps : List Addr) (H : Hp) : KeepBut ps H H := fun _ _ _ e => e
theorem KeepBut.same {ps : List Addr} {H H1 H2 : Hp} (h : KeepBut ps H H1) (s : Same H1 H2) : KeepBut ps H H2 := fun b o n e => s _ _ (h b o n e)
theorem KeepBut.upd {ps : List Addr} {H H1 : Hp} {p : Addr} {o' : HO} (h : KeepBut ps H H1) (hp : p ∈ ps) : KeepBut ps H (upd H1 p o') := fun b o n e => by
 have : b ≠ p := fun z => n (by rw [z]; exact hp)
 rw [qe_ this]
 exact h b o n e
theorem qda_ {l : Nat -> Nat -> Nat} {w M N t k v : Nat} (h : ∀ i k,i < M -> k < N -> l i k < 2 ^ w) (hv : v < 2 ^ w) : ∀ i kk,i < M -> kk < N -> setw l t k v i kk < 2 ^ w := fun i kk hi hk => by
 unfold setw
 split
 ·exact hv
 ·exact h i kk hi hk
theorem uE_ {l : Nat -> Nat -> Nat} {t k v i kk : Nat} (h : l i kk ≠ 0) (hv : v ≠ 0) : setw l t k v i kk ≠ 0 := by
 unfold setw
 split
 ·exact hv
 ·exact h
theorem qdb_ {l : Nat -> Nat -> Nat} {t k v : Nat} (hv : v ≠ 0) : setw l t k v t k ≠ 0 := by
 unfold setw
 rw [if_pos ⟨rfl,rfl⟩]
 exact hv
theorem uF_ {xs : List V} {k : Nat} : cutV xs none (some (k : Int)) = xs.take k := by
 unfold cutV
 rw [HT.sIx_none,HT.sIx_nat,List.drop_zero,Nat.sub_zero]
 rw [List.take_eq_take_iff]
 omega
def qjx_ : Sp := fun vs H Q _ => ∃ (c : Int) (R : Nat),vs = [.int c,.int R] /\ R <= 8 /\ ∀ D H' (cs : List Nat),Same H H' -> H D = none -> H' D = some (.lst (rowV cs)) -> cs.length = R -> Q (.ref D) H'
theorem qh2_ (T : Txt K mg a) : FnO P wo K mg base 1 a.f51 ["_law_cell_here", "_law_roles_here"] qjx_ := by
 refine T.x51.F.okA (k := 0) sc_kinds (fun cdv A outer s H vs Q E hr h => ?_)
 ·obtain ⟨c,R,rfl,hR,q⟩ := h
  refine ⟨_,(qb_ (qj_ (i := 2) sc_kinds.nd rfl (Or.inl rfl) (qk_ qL_ (pv 0) qg_))
   (qb_ (qj_ (i := 3) sc_kinds.nd rfl (Or.inl rfl) (qI_ qc_))
   (qb_ (qD_ PassesOwn.never rfl (qF_ rfl T.n_range (qa_ (pv 1) qc_)) (qm_ (i := 4) sc_kinds.nd rfl (Or.inl rfl)) (qb_ (qN_ (jm_ PySem.F.plainAttrs_list PySem.F.slot_list_append PySem.F.type_list_append qJ_ (pv 3) (qa_ (qk_ qL_ (pv 2) qg_) qc_)))
   (qf_ (qj_ (i := 2) sc_kinds.nd rfl (Or.inl rfl) (qk_ jo_ (pv 2) qg_)))))
   (qf_ (qo_ (pv 3)))))),?_⟩
  obtain ⟨z0,_,ez0⟩ := modN c (n := 65536) (by decide)
  refine ⟨_,rfl,_,_,rfl,rfl,p0 (by decide),?_⟩
  try dsimp only
  rw [show c % 65536 = (z0 : Int) from ez0]
  refine ⟨Nat.zero_le _,fun D nD => ?_⟩
  have sD := Same.new (o := .lst []) nD
  have hD : (upd H D (.lst [])) D = some (.lst []) := qd_
  generalize (upd H D (.lst [])) = H1 at sD hD
  refine ⟨_,rfl,_,rfl,by omega,by omega,?_⟩
  rw [Int.toNat_natCast]
  refine qQ_ (lo := 0) (n := R) (fun i σ H' => (∃ (v4 : Option V) (z : Nat),σ = [some (.int c),some (.int R),some (.int z),some (.ref D),v4]) /\ Same H H' /\ ∃ cs : List Nat,H' D = some (.lst (rowV cs)) /\ cs.length = i) ⟨⟨none,z0,rfl⟩,sD,[],hD,rfl⟩ ?_ ?_
  ·rintro i σ H' hi ⟨⟨v4,z,rfl⟩,sm,cs,h1,hcl⟩
   have fits : (rowV cs).length < sizeLine := by
    rw [qi_]
    exact Nat.lt_trans (by omega : cs.length < 9) (by decide)
   refine ⟨_,rfl,.inl ⟨rfl,_,SqL.of h1⟩,_,rfl,_,_,rfl,rfl,p0 (by decide),D,_,_,rfl,rfl,h1,fits,?_⟩
   refine ⟨_,rfl,_,_,rfl,rfl,⟨by decide,by decide⟩,?_⟩
   try dsimp only
   rw [show (z : Int) / 4 = ((z / 4 : Nat) : Int) by omega,show (z : Int) % 4 = ((z % 4 : Nat) : Int) by omega]
   exact ⟨⟨_,_,rfl⟩,sm.up nD,cs ++ [z % 4],by rw [qd_,← q5_],by rw [List.length_append,hcl]; rfl⟩
  ·rintro σ H' ⟨⟨v4,z,rfl⟩,sm,cs,h1,hcl⟩
   exact ⟨_,rfl,q D H' cs sm nD h1 hcl⟩
def qf6_ : Sp := fun vs H Q _ => ∃ (c : Int) (n : Nat),vs = [.int c,.int n] /\ n <= 16 /\ ∀ D H' (xs : List Nat),Same H H' -> H D = none -> H' D = some (.lst (rowV xs)) -> xs.length = n -> Q (.ref D) H'
theorem qf7_ (T : Txt K mg a) : FnO P wo K mg base 1 a.f47 ["_law_cell_here", "_law_many"] qf6_ := by
 refine T.x47.F.okA (k := 0) sc_stream (fun cdv A outer s H vs Q E hr h => ?_)
 ·obtain ⟨c,n,rfl,hn,q⟩ := h
  refine ⟨_,(qb_ (qj_ (i := 2) sc_stream.nd rfl (Or.inl rfl) (qk_ qO_ (qk_ qL_ (pv 0) qg_) qg_))
   (qb_ (qj_ (i := 3) sc_stream.nd rfl (Or.inl rfl) (qI_ qc_))
   (qb_ (qD_ PassesOwn.never rfl (qF_ rfl T.n_range (qa_ (pv 1) qc_)) (qm_ (i := 4) sc_stream.nd rfl (Or.inl rfl)) (qb_ (qj_ (i := 2) sc_stream.nd rfl (Or.inl rfl) (qk_ qL_ (qk_ qO_ (qk_ qO_ (qk_ qO_ (qk_ jl_ (pv 2) (pv 2)) (qk_ jl_ qg_ (pv 2))) (qk_ jl_ (pv 4) (pv 4))) qg_) qg_))
   (qf_ (qN_ (jm_ PySem.F.plainAttrs_list PySem.F.slot_list_append PySem.F.type_list_append qJ_ (pv 3) (qa_ (pv 2) qc_))))))
   (qf_ (qo_ (pv 3)))))),?_⟩
  obtain ⟨z0,hz0,ez0⟩ := modN c (n := 1000003) (by decide)
  refine ⟨_,rfl,_,_,rfl,rfl,p0 (by decide),_,_,rfl,rfl,?_⟩
  try dsimp only
  rw [show c % 1000003 = (z0 : Int) from ez0,show (z0 : Int) + 17 = ((z0 + 17 : Nat) : Int) by omega]
  refine ⟨Nat.zero_le _,fun D nD => ?_⟩
  have sD := Same.new (o := .lst []) nD
  have hD : (upd H D (.lst [])) D = some (.lst []) := qd_
  generalize (upd H D (.lst [])) = H1 at sD hD
  refine ⟨_,rfl,_,rfl,by omega,by omega,?_⟩
  rw [Int.toNat_natCast]
  refine qQ_ (lo := 0) (n := n) (fun i σ H' => (∃ (v4 : Option V) (z : Nat),z < 1000100 /\ σ = [some (.int c),some (.int n),some (.int z),some (.ref D),v4]) /\ Same H H' /\ ∃ cs : List Nat,H' D = some (.lst (rowV cs)) /\ cs.length = i) ⟨⟨none,z0 + 17,by omega,rfl⟩,sD,[],hD,rfl⟩ ?_ ?_
  ·rintro i σ H' hi ⟨⟨v4,z,hz,rfl⟩,sm,cs,h1,hcl⟩
   rw [show (0 : Int) + (i : Nat) = ((i : Nat) : Int) by omega]
   have fits : (rowV cs).length < sizeLine := by
    rw [qi_]
    exact Nat.lt_trans (by omega : cs.length < 17) (by decide)
   refine ⟨_,rfl,_,rfl,_,_,rfl,rfl,.inl ⟨by omega,by omega⟩,_,rfl,_,_,rfl,rfl,.inl ⟨by decide,by decide⟩,_,_,rfl,rfl,_,rfl,_,rfl,_,_,rfl,rfl,.inl ⟨by omega,by omega⟩,_,_,rfl,rfl,_,_,rfl,rfl,_,_,rfl,rfl,p0 (by decide),?_⟩
   obtain ⟨y,hy,ey⟩ := modN ((z : Int) * (z : Int) + 30011 * (z : Int) + (i : Int) * (i : Int) + 7) (n := 1000003) (by decide)
   have ey : ((z : Int) * (z : Int) + 30011 * (z : Int) + (i : Int) * (i : Int) + 7) % 1000003 = (y : Int) := ey
   try dsimp only
   rw [ey]
   refine ⟨_,rfl,.inl ⟨rfl,_,SqL.of h1⟩,_,rfl,D,_,_,rfl,rfl,h1,fits,?_⟩
   exact ⟨⟨_,y,by omega,rfl⟩,sm.up nD,cs ++ [y],by rw [qd_,← q5_],by rw [List.length_append,hcl]; rfl⟩
  ·rintro σ H' ⟨⟨v4,z,_,rfl⟩,sm,cs,h1,hcl⟩
   exact ⟨_,rfl,q D H' cs sm nD h1 hcl⟩
def qb8_ : Sp := fun vs H Q _ => ∃ (c : Int) (w M N : Nat),vs = [.int c,.int N,.int M,.int ((2 ^ w - 1 : Nat) : Int)] /\ 16 <= 2 ^ w /\ 2 ^ w <= 256 /\ 1 <= M /\ M <= 2 /\ 1 <= N /\ N + M <= 8 ∧
 ∀ D H' ps (l : Nat -> Nat -> Nat),Same H H' -> H' D = some (.lst (List.map V.ref ps)) -> TabAt H' ps M (rowT N l) -> Wts w M N l -> Q (.ref D) H'
theorem qd5_ (T : Txt K mg a) : FnO P wo K mg base 2 a.f48 ["_law_cell_here", "_law_data", "_law_sums", "_law_last"] qb8_ := by
 refine T.x48.F.okA (k := 1) sc_weights (fun cdv A outer s H vs Q E hr h => ?_)
 ·obtain ⟨c,w,M,N,rfl,t16,t256,m1,m2,n1,n8,q⟩ := h
  refine ⟨_,(qb_ (qz_ (qp_ q6_ (qk_ qL_ (pv 0) qg_) qg_ (qr_ _)) (qf_ (qo_ (yG_ zg_ (qI_ (qa_ (qk_ zS_ (qI_ (qa_ qg_ qc_)) (pv 1)) (qa_ (q4_ (CompOk.of (cap := []) (own := ["_law_role"]) (by kernel_rfl)) rfl (qF_ rfl T.n_range (qa_ (pv 1) qc_)) (fun _ _ _ _ _ => (qm_ (i := 0) (of_decide_eq_true (by kernel_rfl)) rfl (Or.inl rfl))) (fun _ _ _ _ _ => qY_) (fun _ _ _ _ _ => by exact (qk_ qO_ (pv 0) qg_))) qc_))) ze_ (zf_ (pv 2))))) qv_)
   (qb_ (qj_ (i := 4) sc_weights.nd rfl (Or.inl rfl) (qt_ (qf7_ T) hr.u rfl T.x47.m T.x47.k T.x47.b .nil qn_ (qa_ (qk_ jo_ (pv 0) qg_) (qa_ (qk_ jl_ qg_ (pv 1)) qc_))))
   (qb_ (qj_ (i := 5) sc_weights.nd rfl (Or.inl rfl) (qI_ qc_))
   (qb_ (qD_ PassesOwn.never rfl (qF_ rfl T.n_range (qa_ (pv 2) qc_)) (qm_ (i := 6) sc_weights.nd rfl (Or.inl rfl)) (qb_ (qj_ (i := 7) sc_weights.nd rfl (Or.inl rfl) (qI_ qc_))
   (qb_ (qD_ PassesOwn.never rfl (qF_ rfl T.n_range (qa_ (pv 1) qc_)) (qm_ (i := 8) sc_weights.nd rfl (Or.inr rfl)) (qb_ (qj_ (i := 9) sc_weights.nd rfl (Or.inl rfl) (qx_ qy_ (pv 4) (qk_ qO_ (qk_ jl_ (pv 6) (pv 1)) (pv 8)) (fun _ _ => rfl)))
   (qf_ (qN_ (jm_ PySem.F.plainAttrs_list PySem.F.slot_list_append PySem.F.type_list_append qJ_ (pv 7) (qa_ (qx_ qy_ (qI_ (qa_ qg_ (qa_ qg_ (qa_ (qk_ qL_ (qk_ jo_ (pv 9) qg_) (qk_ qO_ (pv 3) qg_)) (qa_ (qx_ qy_ (qx_ qy_ (qk_ zR_ (pv 5) (qI_ (qa_ (qk_ zS_ (qI_ (qa_ (qk_ qO_ (pv 8) qg_) qc_)) (pv 1)) qc_))) qg_ (fun _ _ => rfl)) (pv 8) (fun _ _ => rfl)) qc_))))) (qk_ qL_ (pv 9) qg_) (fun _ _ => rfl)) qc_))))))
   (qf_ (qN_ (jm_ PySem.F.plainAttrs_list PySem.F.slot_list_append PySem.F.type_list_append qJ_ (pv 5) (qa_ (pv 7) qc_)))))))
   (qb_ (qD_ PassesOwn.never rfl (qF_ rfl T.n_range (qa_ (pv 1) qc_)) (qm_ (i := 8) sc_weights.nd rfl (Or.inr rfl)) (qf_ (qz_ (qp_ q6_ (qw_ (uY_ rfl) rfl T.n_max boot_max (qa_ (q4_ (CompOk.of (cap := [8]) (own := ["_law_line"]) (by kernel_rfl)) rfl (qH_ (pv 5)) (fun _ _ _ _ _ => (qm_ (i := 1) (of_decide_eq_true (by kernel_rfl)) rfl (Or.inl rfl))) (fun _ _ _ _ _ => qY_) (fun _ _ _ _ _ => by exact (qx_ (ja_ (K := K) rfl) (pv 1) (pv 0) (fun _ _ => rfl)))) qc_)) qg_ (qr_ _)) (qf_ (jF_ qg_ (jO_ (qx_ qy_ (pv 5) (qk_ qL_ (pv 8) (pv 2)) (fun _ _ => rfl)) (pv 8) jt_))) qv_)))
   (qb_ (qD_ PassesOwn.never rfl (qH_ (pv 5)) (qm_ (i := 7) sc_weights.nd rfl (Or.inl rfl)) (qf_ (qz_ (qp_ q6_ (qw_ (uY_ rfl) rfl T.n_max boot_max (qa_ (pv 7) qc_)) qg_ (qr_ _)) (qf_ (jF_ (qk_ qO_ qg_ (qk_ qL_ (qx_ qy_ (pv 4) qg_ (fun _ _ => rfl)) (pv 3))) (jO_ (pv 7) qg_ jt_))) qv_)))
   (qf_ (qo_ (pv 5))))))))),?_⟩
  refine ⟨_,rfl,_,_,rfl,rfl,p0 (by decide),rfl,_,rfl,?_⟩
  refine ite2 (fun _ => ?_) (fun _ => ?_)
  ·refine ⟨(show 1 <= sizeLine by decide),fun p1 n1' => ⟨_,rfl,p1,_,_,rfl,rfl,qd_,by omega,by omega,?_,fun p2 n2 => ?_⟩⟩
   ·rw [Int.toNat_natCast]
    show 1 * N <= sizeLine
    exact Nat.le_trans (by omega : 1 * N <= 30) (by decide)
   have e0 : rowT N plainL 0 = List.replicate N 1 := by
    unfold rowT
    show ((List.range N).map fun _ => 1) = _
    rw [List.map_const',List.length_range]
   have eR : (List.replicate ((N : Int)).toNat [V.int 1]).flatten = rowV (rowT N plainL 0) := by
    rw [Int.toNat_natCast,e0]
    exact vo_ N 1
   rw [eR]
   have sP := (Same.new (o := .lst [V.int 1]) n1').trans (Same.new (o := .lst (rowV (rowT N plainL 0))) n2)
   have hp2 : (upd (upd H p1 (.lst [V.int 1])) p2 (.lst (rowV (rowT N plainL 0)))) p2 = some (.lst (rowV (rowT N plainL 0))) := qd_
   generalize (upd (upd H p1 (.lst [V.int 1])) p2 (.lst (rowV (rowT N plainL 0)))) = Hp at sP hp2
   refine ⟨_,rfl,_,rfl,by omega,by omega,fun cp ncp => ?_⟩
   rw [Int.toNat_natCast]
   refine qb3_ (n := N) (f := fun i => .int ((plainL 1 i : Nat) : Int)) (cs := []) ncp rfl (Nat.le_trans (by omega : N <= 8) (by decide)) (fun i Hx Rx hi sx hR => ?_) (fun Hq sQ hcp => ?_)
   ·refine ⟨_,rfl,_,_,rfl,rfl,?_⟩
    have e : (i : Int) + 1 = ((plainL 1 i : Nat) : Int) := by
     unfold plainL
     rw [if_neg (by decide)]
     omega
    try dsimp only
    rw [e]
    exact hR _ (Same.refl _)
   have ecp : ((List.range N).map fun i => V.int ((plainL 1 i : Nat) : Int)) = rowV (rowT N plainL 1) := by
    unfold rowV rowT
    rw [List.map_map]
    rfl
   rw [ecp] at hcp
   refine ⟨(show 2 <= sizeLine by decide),fun LL nLL => ?_⟩
   have sL := Same.new (o := .lst [V.ref p2,V.ref cp]) nLL
   have hLL : (upd Hq LL (.lst [V.ref p2,V.ref cp])) LL = some (.lst (List.map V.ref [p2,cp])) := qd_
   have sAL := sP.trans (sQ.trans sL)
   have h2 := sL _ _ (sQ _ _ hp2)
   have h3 := sL _ _ hcp
   generalize (upd Hq LL (.lst [V.ref p2,V.ref cp])) = Hl at sAL hLL h2 h3
   refine ⟨_,rfl,_,rfl,LL,_,rfl,SqL.of hLL,fun sl nsl => ?_⟩
   rw [uF_,← List.map_take]
   have sS := Same.new (o := .lst (([p2,cp].take M).map V.ref)) nsl
   have hsl : (upd Hl sl (.lst (([p2,cp].take M).map V.ref))) sl = some (.lst (([p2,cp].take M).map V.ref)) := qd_
   have htS : TabAt (upd Hl sl (.lst (([p2,cp].take M).map V.ref))) ([p2,cp].take M) M (rowT N plainL) := ⟨by rw [List.length_take]; show min M 2 = M; omega,fun i p e => by
    rw [List.getElem?_take] at e
    split at e
    ·match i,e with
     | 0,e => cases Option.some.inj e; exact sS _ _ h2
     | 1,e => cases Option.some.inj e; exact sS _ _ h3
    ·cases e⟩
   exact q sl _ _ _ (sAL.trans sS) hsl htS (qfv_ t16 m1 m2 n1 n8)
  ·refine ⟨_,rfl,_,_,rfl,rfl,⟨by decide,by decide⟩,_,rfl,_,_,rfl,rfl,.inl ⟨by decide,by decide⟩,c / 4,2 * N,congrArg (fun z => [V.int (c / 4),V.int z]) (show (2 : Int) * (N : Int) = ((2 * N : Nat) : Int) by omega),by omega,fun XL H1 xs s1 nXL hXL hxl => ?_⟩
   refine ⟨Nat.zero_le _,fun D nD => ?_⟩
   have sD := Same.new (o := .lst []) nD
   have hD : (upd H1 D (.lst [])) D = some (.lst (List.map V.ref [])) := qd_
   generalize (upd H1 D (.lst [])) = H2 at sD hD
   refine ⟨_,rfl,_,rfl,by omega,by omega,?_⟩
   rw [Int.toNat_natCast]
   refine qQ_ (lo := 0) (n := M) (fun t σ H' => (∃ v6 v7 v8 v9 : Option V,σ = [some (.int c),some (.int (N : Nat)),some (.int (M : Nat)),some (.int ((2 ^ w - 1 : Nat) : Int)),some (.ref XL),some (.ref D),v6,v7,v8,v9]) /\ Same H1 H' /\ ∃ ps l,H' D = some (.lst (ps.map V.ref)) /\ TabAt H' ps t (rowT N l) /\ ps.Nodup /\ D ∉ ps /\ (∀ p ∈ ps,H1 p = none) /\ ∀ i k,i < t -> k < N -> l i k < 2 ^ w)
    ⟨⟨_,_,_,_,rfl⟩,sD,[],fun _ _ => 0,hD,⟨rfl,fun i p e => by simp at e⟩,List.nodup_nil,List.not_mem_nil,fun p hp => absurd hp List.not_mem_nil,fun i k hi => absurd hi (Nat.not_lt_zero i)⟩ ?_ ?_
   ·rintro t σ H3 htM ⟨⟨v6,v7,v8,v9,rfl⟩,s3,ps,l,hD3,ht3,nd,nin,hfr,hlt⟩
    rw [show (0 : Int) + (t : Nat) = ((t : Nat) : Int) by omega]
    refine ⟨Nat.zero_le _,fun L nL => ?_⟩
    have sL := Same.new (o := .lst []) nL
    have hL : (upd H3 L (.lst [])) L = some (.lst (rowV [])) := qd_
    generalize (upd H3 L (.lst [])) = H4 at sL hL
    refine ⟨_,rfl,_,rfl,by omega,by omega,?_⟩
    rw [Int.toNat_natCast]
    refine qQ_ (lo := 0) (n := N) (fun k σ H' => (∃ v8 v9 : Option V,σ = [some (.int c),some (.int (N : Nat)),some (.int (M : Nat)),some (.int ((2 ^ w - 1 : Nat) : Int)),some (.ref XL),some (.ref D),some (.int (t : Nat)),some (.ref L),v8,v9]) /\ Same H3 H' /\ ∃ row : List Nat,H' L = some (.lst (rowV row)) /\ row.length = k /\ ∀ x ∈ row,x < 2 ^ w) ⟨⟨_,_,rfl⟩,sL,[],hL,rfl,fun x hx => absurd hx List.not_mem_nil⟩ ?_ ?_
    ·rintro k σ H5 hk ⟨⟨v8,v9,rfl⟩,s5,row,hL5,hrl,hrow⟩
     rw [show (0 : Int) + (k : Nat) = ((k : Nat) : Int) by omega]
     have hX5 := s5 _ _ (s3 _ _ hXL)
     have hD5 := s5 _ _ hD3
     have htk : t * N + k < xs.length := by
      rw [hxl]
      have : t * N <= 1 * N := Nat.mul_le_mul_right N (by omega)
      omega
     have gx : atI (rowV xs) ((t : Int) * (N : Int) + (k : Int)) = some (.int ((xs.getD (t * N + k) 0 : Nat) : Int)) := by
      rw [show (t : Int) * (N : Int) + (k : Int) = ((t * N + k : Nat) : Int) by simp]
      exact qq_ (qW_ htk)
     generalize xs.getD (t * N + k) 0 = x at gx
     have fits : (rowV row).length < sizeLine := by
      rw [qi_]
      exact Nat.lt_trans (by omega : row.length < 9) (by decide)
     refine ⟨_,rfl,_,rfl,_,rfl,_,_,rfl,rfl,.inl ⟨by omega,by omega⟩,_,rfl,_,_,rfl,rfl,XL,_,_,_,rfl,rfl,SqL.of hX5,gx,?_⟩
     refine ⟨_,rfl,.inl ⟨rfl,_,SqL.of hL5⟩,_,rfl,_,_,rfl,rfl,⟨by decide,by decide⟩,_,rfl,_,_,rfl,rfl,_,_,rfl,rfl,by omega,?_⟩
     refine ⟨_,rfl,_,rfl,_,_,rfl,rfl,(show 1 <= sizeLine by decide),fun p1 n1' => ⟨_,rfl,p1,_,_,rfl,rfl,qd_,by omega,by omega,?_,fun p2 n2 => ⟨(show 1 <= sizeLine by decide),fun p3 n3 => ⟨D,p3,ps.map V.ref,_,rfl,rfl,?_,qd_,?_,fun p4 n4 => ?_⟩⟩⟩⟩
     ·rw [Int.toNat_natCast]
      show 1 * N <= sizeLine
      exact Nat.le_trans (by omega : 1 * N <= 30) (by decide)
     ·exact (Same.new n3) _ _ ((Same.new n2) _ _ ((Same.new n1') _ _ hD5))
     ·rw [List.length_map,ht3.len]
      exact Nat.le_trans (by show t + 1 <= 9; omega) (by decide)
     have eR : (List.replicate ((N : Int)).toNat [V.int ((k : Int) + 1)]).flatten = rowV (List.replicate N (k + 1)) := by
      rw [Int.toNat_natCast,show (k : Int) + 1 = ((k + 1 : Nat) : Int) by omega]
      exact vo_ N (k + 1)
     try dsimp only
     try dsimp only at n2 n3 n4
     rw [eR] at n3 n4
     rw [eR]
     have sQ : Same H5 (upd (upd (upd (upd H5 p1 (.lst [V.int ((k : Int) + 1)])) p2 (.lst (rowV (List.replicate N (k + 1))))) p3 (.lst [V.ref p2])) p4 (.lst (ps.map V.ref ++ [V.ref p2]))) := (Same.new n1').trans ((Same.new n2).trans ((Same.new n3).trans (Same.new n4)))
     have hp4 : (upd (upd (upd (upd H5 p1 (.lst [V.int ((k : Int) + 1)])) p2 (.lst (rowV (List.replicate N (k + 1))))) p3 (.lst [V.ref p2])) p4 (.lst (ps.map V.ref ++ [V.ref p2]))) p4 = some (.lst (ps.map V.ref ++ [V.ref p2])) := qd_
     have hp2 : (upd (upd (upd (upd H5 p1 (.lst [V.int ((k : Int) + 1)])) p2 (.lst (rowV (List.replicate N (k + 1))))) p3 (.lst [V.ref p2])) p4 (.lst (ps.map V.ref ++ [V.ref p2]))) p2 = some (.lst (rowV (List.replicate N (k + 1)))) := (Same.new n4) _ _ ((Same.new n3) _ _ qd_)
     generalize (upd (upd (upd (upd H5 p1 (.lst [V.int ((k : Int) + 1)])) p2 (.lst (rowV (List.replicate N (k + 1))))) p3 (.lst [V.ref p2])) p4 (.lst (ps.map V.ref ++ [V.ref p2]))) = H6 at sQ hp4 hp2
     obtain ⟨pz,rz,epz,hpz,hkz,hvz⟩ : ∃ (pz : Addr) (rz : List Nat),(ps.map V.ref ++ [V.ref p2])[0]? = some (.ref pz) /\ H6 pz = some (.lst (rowV rz)) /\ k < rz.length /\ rz.getD k 0 < 2 ^ w := by
      by_cases ht0 : t = 0
      ·have e : ps = [] := List.eq_nil_of_length_eq_zero (by rw [ht3.len,ht0])
       subst e
       exact ⟨p2,_,rfl,hp2,by rw [List.length_replicate]; exact hk,by rw [List.getD_eq_getElem?_getD,List.getElem?_replicate,if_pos hk]; show k + 1 < 2 ^ w; omega⟩
      ·obtain ⟨p,ep,hp⟩ := ht3.get (i := 0) (by omega)
       exact ⟨p,_,by rw [List.getElem?_append_left (by rw [List.length_map,ht3.len]; omega)]; exact qC_ ep,sQ _ _ (s5 _ _ hp),by rw [qs_]; exact hk,by rw [qX_ hk]; exact hlt 0 k (by omega) hk⟩
     obtain ⟨v,hv,gv⟩ : ∃ v : Nat,v < 2 ^ w /\ atI [V.int 0,V.int 1,V.int ((x : Int) / 4 % (((2 ^ w - 1 : Nat) : Int) + 1)),V.int ((rz.getD k 0 : Nat) : Int)] ((x : Int) % 4) = some (.int (v : Nat)) := by
      obtain ⟨va,hva,eva⟩ := modN ((x : Int) / 4) (n := 2 ^ w) (by omega)
      rw [show (((2 ^ w - 1 : Nat) : Int) + 1) = ((2 ^ w : Nat) : Int) by omega,eva]
      have h4 : x % 4 = 0 \/ x % 4 = 1 \/ x % 4 = 2 \/ x % 4 = 3 := by omega
      rcases h4 with h | h | h | h
      ·rw [show (x : Int) % 4 = ((0 : Nat) : Int) by omega]
       exact ⟨0,by omega,qq_ (j := 0) rfl⟩
      ·rw [show (x : Int) % 4 = ((1 : Nat) : Int) by omega]
       exact ⟨1,by omega,qq_ (j := 1) rfl⟩
      ·rw [show (x : Int) % 4 = ((2 : Nat) : Int) by omega]
       exact ⟨va,hva,qq_ (j := 2) rfl⟩
      ·rw [show (x : Int) % 4 = ((3 : Nat) : Int) by omega]
       exact ⟨_,hvz,qq_ (j := 3) rfl⟩
     refine ⟨p4,_,_,_,rfl,rfl,SqL.of hp4,qq_ (j := 0) epz,_,rfl,pz,_,_,_,rfl,rfl,SqL.of hpz,qq_ (qW_ hkz),(show 4 <= sizeLine by decide),fun p5 n5 => ⟨_,rfl,_,_,rfl,rfl,p0 (by decide),p5,_,_,_,rfl,rfl,SqL.of qd_,gv,L,_,_,rfl,rfl,(Same.new n5) _ _ (sQ _ _ hL5),fits,?_⟩⟩
     refine ⟨⟨_,_,rfl⟩,((s5.trans sQ).trans (Same.new n5)).up nL,row ++ [v],by rw [qd_,← q5_],by rw [List.length_append,hrl]; rfl,fun y hy => ?_⟩
     rcases List.mem_append.mp hy with z | z
     ·exact hrow y z
     ·rw [List.mem_singleton.mp z]; exact hv
    ·rintro σ H5 ⟨⟨v8,v9,rfl⟩,s5,row,hL5,hrl,hrow⟩
     have hD5 := s5 _ _ hD3
     have fits : (ps.map V.ref).length < sizeLine := by
      rw [List.length_map,ht3.len]
      exact Nat.lt_trans (by omega : t < 9) (by decide)
     refine ⟨_,rfl,.inl ⟨rfl,_,SqL.of hD5⟩,_,rfl,D,_,_,rfl,rfl,hD5,fits,?_⟩
     have dLD : L ≠ D := fun y => by rw [y,hD3] at nL; cases nL
     have nLp : L ∉ ps := fun y => by
      obtain ⟨i,e⟩ := List.getElem?_of_mem y
      rw [ht3.on i L e] at nL
      cases nL
     refine ⟨⟨_,_,_,_,rfl⟩,(s3.trans s5).up nD,ps ++ [L],fun i k => if i = t then row.getD k 0 else l i k,by rw [qd_,List.map_append]; rfl,?_,?_,?_,?_,?_⟩
     ·have ht5 : TabAt H5 ps t (rowT N fun i k => if i = t then row.getD k 0 else l i k) := (ht3.same s5).congr fun i hi => jM_ fun k _ => by rw [if_neg (by omega)]
      refine (ht5.upd (d := D) nin).snoc (fun _ _ => rfl) ?_
      rw [qe_ dLD,hL5]
      have : rowT N (fun i k => if i = t then row.getD k 0 else l i k) t = row := by
       have h1 := u6_ (W := N) (f := fun _ => row) (i := t) hrl
       rw [<- h1]
       exact jM_ fun k _ => by rw [if_pos rfl]; exact congrArg (fun z => z.getD k 0) h1
      rw [this]
     ·exact List.nodup_append.mpr ⟨nd,by simp,fun x hx y hy => fun e => nLp (by rw [List.mem_singleton.mp hy] at e; exact e ▸ hx)⟩
     ·exact fun y => (List.mem_append.mp y).elim nin fun y => dLD (List.mem_singleton.mp y).symm
     ·intro p hp
      rcases List.mem_append.mp hp with y | y
      ·exact hfr p y
      ·rw [List.mem_singleton.mp y]; exact s3.free nL
     ·intro i k hi hk
      show (if i = t then row.getD k 0 else l i k) < 2 ^ w
      split
      ·rw [List.getD_eq_getElem?_getD,List.getElem?_eq_getElem (by omega)]
       exact hrow _ (List.getElem_mem _)
      ·exact hlt i k (by omega) hk
   ·rintro σ H3 ⟨⟨v6,v7,v8,v9,rfl⟩,s3,ps,l,hD3,ht3,nd,nin,hfr,hlt⟩
    have el : (ps.map V.ref).length = M := by rw [List.length_map,ht3.len]
    have hX3 := s3 _ _ hXL
    have nXp : XL ∉ ps := fun y => by rw [hfr XL y] at hXL; cases hXL
    refine ⟨_,rfl,_,rfl,by omega,by omega,?_⟩
    rw [Int.toNat_natCast]
    refine qQ_ (lo := 0) (n := N) (fun i σ H' => ∃ (v8 : Option V) (l' : Nat -> Nat -> Nat),σ = [some (.int c),some (.int (N : Nat)),some (.int (M : Nat)),some (.int ((2 ^ w - 1 : Nat) : Int)),some (.ref XL),some (.ref D),v6,v7,v8,v9] /\ KeepBut ps H3 H' /\ TabAt H' ps M (rowT N l') /\ (∀ i k,i < M -> k < N -> l' i k < 2 ^ w) /\ ∀ k,k < i -> ∃ t,t < M /\ l' t k ≠ 0)
     ⟨v8,l,rfl,KeepBut.refl _ _,ht3,hlt,fun k hk => absurd hk (Nat.not_lt_zero k)⟩ ?_ ?_
    ·rintro k σ H' hk ⟨v8,l',rfl,kb,ht',hlt',hcol⟩
     rw [show (0 : Int) + (k : Nat) = ((k : Nat) : Int) by omega]
     have hD' := kb _ _ nin hD3
     refine ⟨_,rfl,D,rfl,⟨_,SqL.of hD'⟩,fun C nC => ?_⟩
     refine jn_ (xs := ps.map V.ref) (f := fun t => .int ((l' t k : Nat) : Int)) (cs := [some (.int (k : Nat))]) (SqL.of hD') nC rfl (by rw [el]; exact Nat.le_trans m2 (by decide)) (fun i u H2 R2 hu s2 hR => ?_) (fun H2 s2 hC => ?_)
     ·have hi : i < M := by rw [<- el]; exact (List.getElem?_eq_some_iff.mp hu).1
      obtain ⟨p,ep,hp⟩ := ht'.get hi
      rw [qC_ ep] at hu
      cases Option.some.inj hu
      have gi := qq_ (qW_ (row := rowT N l' i) (i := k) (by rw [qs_]; exact hk))
      rw [qX_ hk] at gi
      exact ⟨_,rfl,_,rfl,p,_,_,_,rfl,rfl,SqL.of (s2 _ _ hp),gi,hR _ (Same.refl _)⟩
     ·rw [el] at hC
      have eC : ((List.range M).map fun t => V.int ((l' t k : Nat) : Int)) = ((List.range M).map fun t => ((l' t k : Nat) : Int)).map V.int := by
       rw [List.map_map]
       rfl
      rw [eC] at hC
      have kb2 := kb.same s2
      have ht2 := ht'.same s2
      refine ⟨C,_,rfl,SqL.of hC,(fun z => by have := congrArg List.length z; rw [List.length_map,List.length_range] at this; simp at this; omega),fun z hz hmax => ?_⟩
      refine ⟨rfl,_,rfl,?_⟩
      refine ite2 (fun y => ?_) (fun y => ?_)
      ·have hmod : k % M < M := Nat.mod_lt _ (by omega)
       obtain ⟨p,ep,hp⟩ := ht2.get hmod
       have em : (k : Int) % (M : Int) = ((k % M : Nat) : Int) := (Int.natCast_emod k M).symm
       have hD2 := s2 _ _ hD'
       refine ⟨_,rfl,_,rfl,_,rfl,_,_,rfl,rfl,p0 (by omega),?_⟩
       try dsimp only
       rw [em]
       refine ⟨D,_,_,_,rfl,rfl,SqL.of hD2,qq_ (qC_ ep),_,rfl,p,_,_,k,rfl,rfl,hp,jE_ (by rw [qi_,qs_]; exact hk),?_⟩
       refine ⟨_,setw l' (k % M) k 1,rfl,kb2.upd (List.mem_of_getElem? ep),setW (v := 1) ht2 nd ep hk,qda_ hlt' (by omega),fun kk hkk => ?_⟩
       by_cases z : kk = k
       ·subst z
        exact ⟨_,hmod,qdb_ (by decide)⟩
       ·obtain ⟨t,htt,hne⟩ := hcol kk (by omega)
        exact ⟨t,htt,uE_ hne (by decide)⟩
      ·obtain ⟨t,ht,rfl⟩ := List.mem_map.mp hz
       refine ⟨_,l',rfl,kb2,ht2,hlt',fun kk hkk => ?_⟩
       by_cases z : kk = k
       ·subst z
        exact ⟨t,List.mem_range.mp ht,fun e => y (decide_eq_true (by rw [e]; rfl))⟩
       ·exact hcol kk (by omega)
    ·rintro σ H' ⟨v8,l',rfl,kb,ht',hlt',hcol⟩
     have hD' := kb _ _ nin hD3
     refine ⟨_,rfl,D,rfl,⟨_,SqL.of hD'⟩,?_⟩
     refine js_ (xs := ps.map V.ref) (fun i σ H'' => ∃ (v7 : Option V) (l' : Nat -> Nat -> Nat),σ = [some (.int c),some (.int (N : Nat)),some (.int (M : Nat)),some (.int ((2 ^ w - 1 : Nat) : Int)),some (.ref XL),some (.ref D),v6,v7,v8,v9] /\ KeepBut ps H3 H'' /\ TabAt H'' ps M (rowT N l') /\ (∀ i k,i < M -> k < N -> l' i k < 2 ^ w) /\ (∀ k,k < N -> ∃ t,t < M /\ l' t k ≠ 0) /\ ∀ j,j < i -> ∃ k,k < N /\ l' j k ≠ 0)
      ⟨v7,l',rfl,kb,ht',hlt',hcol,fun j hj => absurd hj (Nat.not_lt_zero j)⟩ ?_ ?_ ?_
     ·rintro i σ H'' _ ⟨v7,l',_,kb,_⟩
      exact SqL.of (kb _ _ nin hD3)
     ·rintro j u σ H'' hu ⟨v7,l',rfl,kb,ht',hlt',hcol,hrow⟩
      have hj : j < M := by rw [<- el]; exact (List.getElem?_eq_some_iff.mp hu).1
      obtain ⟨p,ep,hp⟩ := ht'.get hj
      rw [qC_ ep] at hu
      cases Option.some.inj hu
      have hX := kb _ _ nXp hX3
      refine ⟨_,rfl,p,(rowT N l' j).map (fun n : Nat => (n : Int)),rfl,(by rw [<- u7_]; exact SqL.of hp),(fun z => by have := congrArg List.length z; rw [List.length_map,qs_] at this; simp at this; omega),fun z hz hmax => ?_⟩
      refine ⟨rfl,_,rfl,?_⟩
      refine ite2 (fun y => ?_) (fun y => ?_)
      ·have g0 := qq_ (j := 0) (qW_ (row := xs) (i := 0) (by omega))
       generalize xs.getD 0 0 = x0 at g0
       refine ⟨_,rfl,XL,_,_,_,rfl,rfl,SqL.of hX,g0,_,rfl,_,_,rfl,rfl,by omega,_,_,rfl,rfl,_,rfl,p,_,_,0,rfl,rfl,hp,jE_ (j := 0) (by rw [qi_,qs_]; omega),?_⟩
       obtain ⟨x1,hx1,e1⟩ := modN ((x0 : Nat) : Int) (n := 2 ^ w - 1) (by omega)
       try dsimp only
       rw [e1,show (1 : Int) + (x1 : Int) = ((1 + x1 : Nat) : Int) by omega]
       refine ⟨_,setw l' j 0 (1 + x1),rfl,kb.upd (List.mem_of_getElem? ep),setW ht' nd ep (by omega),qda_ hlt' (by omega),fun k hk => ?_,fun i hi => ?_⟩
       ·obtain ⟨t,htt,hne⟩ := hcol k hk
        exact ⟨t,htt,uE_ hne (by omega)⟩
       ·by_cases z : i = j
        ·subst z
         exact ⟨0,by omega,qdb_ (by omega)⟩
        ·obtain ⟨k,hk,hne⟩ := hrow i (by omega)
         exact ⟨k,hk,uE_ hne (by omega)⟩
      ·refine ⟨_,l',rfl,kb,ht',hlt',hcol,fun i hi => ?_⟩
       by_cases z' : i = j
       ·subst z'
        obtain ⟨x,hx,rfl⟩ := List.mem_map.mp hz
        unfold rowT at hx
        obtain ⟨k,hk,rfl⟩ := List.mem_map.mp hx
        exact ⟨k,List.mem_range.mp hk,fun e => y (decide_eq_true (by rw [e]; rfl))⟩
       ·exact hrow i (by omega)
     ·rintro σ H'' ⟨v7,l',rfl,kb,ht',hlt',hcol,hrow⟩
      rw [el] at hrow
      exact ⟨_,rfl,q D H'' ps l' (fun b o e => kb b o (fun y => by rw [s1.free (hfr b y)] at e; cases e) (s3 b o (s1 b o e))) (kb _ _ nin hD3) ht' ⟨m1,m2,n1,n8,hlt',hrow,hcol⟩⟩
structure ObAt (H : Hp) (ps : List Addr) (n : Nat) (ob : Nat -> HO) : Prop where
 len : ps.length = n
 on : ∀ j p,ps[j]? = some p -> H p = some (ob j)
theorem ObAt.same {H H' : Hp} {ps : List Addr} {n : Nat} {ob : Nat -> HO} (h : ObAt H ps n ob) (s : Same H H') : ObAt H' ps n ob := ⟨h.len,fun j p e => s _ _ (h.on j p e)⟩
theorem ObAt.snoc {H : Hp} {ps : List Addr} {n : Nat} {ob : Nat -> HO} {p : Addr} (h : ObAt H ps n ob) (hp : H p = some (ob n)) : ObAt H (ps ++ [p]) (n + 1) ob := ⟨by rw [List.length_append,h.len]; rfl,fun j q e => by
 by_cases z : j < ps.length
 ·rw [List.getElem?_append_left z] at e
  exact h.on j q e
 ·rw [List.getElem?_append_right (by omega)] at e
  have : j - ps.length = 0 := by
   cases y : j - ps.length with
   | zero => rfl
   | succ m => rw [y] at e; cases e
  rw [this] at e
  cases Option.some.inj e
  have : j = n := by have := h.len; omega
  rw [this]
  exact hp⟩
theorem ObAt.get {H : Hp} {ps : List Addr} {n i : Nat} {ob : Nat -> HO} (h : ObAt H ps n ob) (hi : i < n) : ∃ p,ps[i]? = some p /\ H p = some (ob i) := ⟨ps[i]'(by rw [h.len]; exact hi),List.getElem?_eq_getElem _,h.on i _ (List.getElem?_eq_getElem _)⟩
theorem ObAt.congr {H : Hp} {ps : List Addr} {n : Nat} {ob ob' : Nat -> HO} (h : ObAt H ps n ob) (e : ∀ j,j < n -> ob j = ob' j) : ObAt H ps n ob' := ⟨h.len,fun j p y => by rw [<- e j (by rw [<- h.len]; exact (List.getElem?_eq_some_iff.mp y).1)]; exact h.on j p y⟩
theorem vg_ {J : It} {n : Nat} {g : TG} {stt : Nat -> L2.St} {Ok : L2.St -> Prop} {ob : Nat -> HO} {te : TE} {σ0 : L2.St} {H1 : Hp} {D : Addr} {Q : Hp -> Prop} (hD : H1 D = none) (hn : n <= sizeLine) (h0 : Ok σ0) (hok : ∀ i,i < n -> Ok (stt i))
  (stop : ∀ H,Same H1 H -> J.stop n H) (go : ∀ i H,i < n -> Same H1 H -> J.go i H)
  (tg : ∀ i σ H x H' (R : L2.St -> Hp -> Prop),i < n -> Same H1 H -> Ok σ -> J.yld i H x H' -> (∀ H'',Same H H'' -> R (stt i) H'') -> g x σ H' R)
  (he : ∀ i H (R : V -> Hp -> Prop),i < n -> Same H1 H -> (∀ p H4,H p = none -> Same H H4 -> H4 p = some (ob i) -> R (.ref p) H4) -> te (stt i) H R)
  (hQ : ∀ ps H,Same H1 H -> H D = some (.lst (ps.map V.ref)) -> ObAt H ps n ob -> Q H) : q3_ J g jd_ te σ0 H1 D Q := by
 refine ⟨fun i m ys σ H => m = n - i /\ i <= n /\ Same H1 H /\ (∃ ps : List Addr,ys = ps.map V.ref /\ ObAt H ps i ob /\ D ∉ ps) /\ H D = some (.lst ys) /\ Ok σ,
  ⟨n,rfl,Nat.zero_le _,(Same.refl _).up hD,⟨[],rfl,⟨rfl,fun j p e => by simp at e⟩,List.not_mem_nil⟩,qd_,h0⟩,?_⟩
 rintro i m ys σ H ⟨rfl,hi,sm,⟨ps,rfl,hr,hd'⟩,hd,ho⟩
 refine ⟨hd,?_⟩
 by_cases hlt : i < n
 ·refine .inr ⟨go i H hlt sm,fun x H' y => ?_⟩
  refine tg i σ H x H' _ hlt sm ho y fun H'' s2 => ?_
  unfold jd_
  refine iteT ?_
  refine he i H'' _ hlt (sm.trans s2) fun p H4 hp s4 h4 => ?_
  have np : p ≠ D := fun z => by rw [z,s2 _ _ hd] at hp; cases hp
  refine ⟨(s2.trans s4) _ _ hd,?_,n - (i + 1),by omega,rfl,hlt,(sm.trans (s2.trans s4)).up hD,⟨ps ++ [p],by rw [List.map_append]; rfl,?_,?_⟩,qd_,hok i hlt⟩
  ·rw [List.length_map,hr.len]
   omega
  ·have h5 := (hr.same (s2.trans s4)).snoc h4
   exact ⟨h5.len,fun j q e => by
    rw [qe_ fun z => ?_]
    ·exact h5.on j q e
    ·rcases List.mem_append.mp (List.mem_of_getElem? e) with y | y
     ·exact hd' (z ▸ y)
     ·exact np ((List.mem_singleton.mp y).symm.trans z)⟩
  ·intro z
   rcases List.mem_append.mp z with z | z
   ·exact hd' z
   ·exact np (List.mem_singleton.mp z).symm
 ·have e : i = n := by omega
  subst e
  exact .inl ⟨stop H sm,hQ ps H sm hd hr⟩
theorem qf8_ {n : Nat} {ob : Nat -> HO} {k : Nat} {te : TE} {cs : L2.St} {H1 : Hp} {D : Addr} {Q : Hp -> Prop} (hD : H1 D = none) (hk : k = cs.length) (hn : n <= sizeLine)
  (he : ∀ i H (R : V -> Hp -> Prop),i < n -> Same H1 H -> (∀ p H4,H p = none -> Same H H4 -> H4 p = some (ob i) -> R (.ref p) H4) -> te (cs ++ [some (.int (i : Nat))]) H R)
  (hQ : ∀ ps H,Same H1 H -> H D = some (.lst (ps.map V.ref)) -> ObAt H ps n ob -> Q H) : q3_ (Itr 0 n) (qT_ k) jd_ te (cs ++ [none]) H1 D Q :=
 vg_ (n := n) (stt := fun i => cs ++ [some (.int (i : Nat))]) (Ok := fun σ => ∃ o,σ = cs ++ [o]) hD hn ⟨none,rfl⟩ (fun i _ => ⟨_,rfl⟩) (fun H _ => Nat.le_refl _) (fun i H hi _ => hi) (fun i σ H x H' R hi sm ho y q => by
  obtain ⟨o,rfl⟩ := ho
  obtain ⟨e,rfl⟩ : H' = H /\ x = .int (0 + (i : Nat)) := y
  subst e
  unfold qT_
  rw [hk,List.set_append_right _ _ (Nat.le_refl _),Nat.sub_self,show (0 : Int) + (i : Nat) = ((i : Nat) : Int) by omega]
  exact q _ (Same.refl _)) he hQ
theorem qf9_ {K : PySem.W.Frag} {l : Addr} {qs : List Addr} {n : Nat} {ob : Nat -> HO} {c0 c1 : Nat -> V} {k : Nat} {te : TE} {cs : L2.St} {H1 : Hp} {D : Addr} {Q : Hp -> Prop} (hl : H1 l = some (.lst (qs.map V.ref))) (hq : ObAt H1 qs n fun i => .tup [c0 i,c1 i]) (hD : H1 D = none) (hk : k = cs.length) (hn : n <= sizeLine)
  (he : ∀ i H (R : V -> Hp -> Prop),i < n -> Same H1 H -> (∀ p H4,H p = none -> Same H H4 -> H4 p = some (ob i) -> R (.ref p) H4) -> te (cs ++ [some (c0 i),some (c1 i)]) H R)
  (hQ : ∀ ps H,Same H1 H -> H D = some (.lst (ps.map V.ref)) -> ObAt H ps n ob -> Q H) : q3_ (Itl K l) (gTup K 2 (jZ_ (qT_ k) (jZ_ (qT_ (k + 1)) gNil))) jd_ te (cs ++ [none,none]) H1 D Q :=
 vg_ (n := n) (stt := fun i => cs ++ [some (c0 i),some (c1 i)]) (Ok := fun σ => ∃ o1 o2,σ = cs ++ [o1,o2]) hD hn ⟨none,none,rfl⟩ (fun i _ => ⟨_,_,rfl⟩) (fun H sm => ⟨_,SqL.of (sm _ _ hl),by rw [List.length_map,hq.len]; exact Nat.le_refl _⟩) (fun i H hi sm => by
  obtain ⟨p,e,_⟩ := hq.get hi
  exact ⟨_,.ref p,SqL.of (sm _ _ hl),qC_ e⟩) (fun i σ H x H' R hi sm ho y q => by
  obtain ⟨o1,o2,rfl⟩ := ho
  obtain ⟨rfl,y⟩ := y
  obtain ⟨p,e,hp⟩ := hq.get hi
  have := (y _ (SqL.of (sm _ _ hl))).symm.trans (qC_ e)
  cases Option.some.inj this
  refine ⟨p,_,rfl,SqT.of (sm _ _ hp),rfl,_,_,rfl,_,_,rfl,rfl,?_⟩
  have e : ((cs ++ [o1,o2]).set k (some (c0 i))).set (k + 1) (some (c1 i)) = cs ++ [some (c0 i),some (c1 i)] := by
   subst hk
   have e1 : (List.length cs).succ - List.length cs = 1 := by omega
   rw [List.set_append_right _ _ (Nat.le_refl _),List.set_append_right _ _ (Nat.le_succ _),Nat.sub_self,e1]
   rfl
  rw [e]
  exact q _ (Same.refl _)) he hQ
def cl2 (M N : Nat) (l : Nat -> Nat -> Nat) (k : Nat) : Nat := if M = 2 then eqn N l 1 k else 0
def colO (M N : Nat) (l : Nat -> Nat -> Nat) (k : Nat) : HO := .tup [.int ((eqn N l 0 k : Nat) : Int),.int ((cl2 M N l k : Nat) : Int)]
def alB (r w M N : Nat) (l : Nat -> Nat -> Nat) (o k : Nat) : Bool := decide (GF.tm r w (eqn N l 0 o) (cl2 M N l k) = GF.tm r w (cl2 M N l o) (eqn N l 0 k))
theorem qbp_ {f h : Nat -> Bool} : ∀ {xs : List Nat},(∀ x ∈ xs,f x = h x) -> xs.all f = xs.all h
 | [],_ => rfl
 | x :: xs,e => by rw [List.all_cons,List.all_cons,e x (.head _),qbp_ fun y hy => e y (.tail _ hy)]
theorem qga_ {r w M N pl o : Nat} {l : Nat -> Nat -> Nat} {ks : List Bool} {os : List Nat} (g : GF.Full r w) (W : Wts w M N l) (hpl : pl < N + M) (h : jb_ (N + M) ks pl = o :: os) : fixB r w M N l ks pl = ((o :: os).all (alB r w M N l o) && !alB r w M N l o pl) := by
 have t16 := g.toGood.top16
 have mem : ∀ k ∈ o :: os,k < N + M /\ k ≠ pl := fun k hk => by
  have := j5_ (h ▸ hk)
  exact ⟨this.1,this.2.2⟩
 unfold fixB
 rw [h]
 dsimp only
 by_cases hM : M = 1
 ·rw [if_pos hM]
  have e : ∀ k,alB r w M N l o k = true := fun k => by
   unfold alB cl2
   rw [if_neg (by omega),if_neg (by omega),GF.tm_zero,GF.zero_tm]
   rfl
  rw [e pl,Bool.not_true,Bool.and_false]
 have hM2 : M = 2 := by have := W.m1; have := W.m2; omega
 rw [if_neg hM]
 have lt : ∀ t k,t < M -> k < N + M -> eqn N l t k < 2 ^ w := jQ_ W t16
 have ho := (mem o (.head _)).1
 have al : ∀ k,k < N + M -> alB r w M N l o k = decide (tot r w N l o k = 0) := fun k hk => by
  unfold alB cl2 tot
  rw [if_pos hM2,if_pos hM2]
  have R := g.toGood.rule
  have w1 := g.toGood.w1
  rw [GF.tm_comm R w1 (lt 0 k (by omega) hk) (lt 1 o (by omega) ho),GF.tm_comm R w1 (lt 1 k (by omega) hk) (lt 0 o (by omega) ho)]
  refine decide_eq_decide.mpr ⟨fun y => by rw [y,Nat.xor_self],fun y => (qfu_ y).symm⟩
 rw [List.all_append,List.all_cons (l := []),List.all_nil,Bool.and_true,al pl hpl]
 congr 1
 ·refine qbp_ fun k hk => ?_
  rw [al k (mem k hk).1]
  have hn := (mem k hk).2
  refine decide_eq_decide.mpr ⟨fun y => Decidable.byContradiction fun z => hn (y ▸ z),fun y => propext ⟨fun z => absurd y z,fun z => absurd z hn⟩⟩
 ·by_cases z : tot r w N l o pl = 0
  ·rw [decide_eq_true z,decide_eq_false fun y => by rw [eq_self] at y; exact (y ▸ trivial : tot r w N l o pl ≠ 0) z]
   rfl
  ·rw [decide_eq_false z,decide_eq_true (propext ⟨fun _ => rfl,fun _ => z⟩)]
   rfl
theorem zN_ {X : Cx} {K : PySem.W.Frag} (hK : X.K = K) : OpR X (compareOp .NotIn) (rIn K true) := hK ▸ j2_
theorem qii_ {F : Addr -> Hp -> Prop} {G : Prop} (Pz : Addr -> Hp -> Prop) (h : (∀ b H,Pz b H -> F b H) -> G) (key : ∀ b H,Pz b H -> F b H) : G := h key
theorem ObAt.up {H : Hp} {ps : List Addr} {n : Nat} {ob : Nat -> HO} {p : Addr} {o : HO} (h : ObAt H ps n ob) (hp : p ∉ ps) : ObAt (upd H p o) ps n ob := ⟨h.len,fun j q e => by
 have hn : q ≠ p := fun z => by
  have := List.mem_of_getElem? e
  rw [z] at this
  exact hp this
 rw [qe_ hn]
 exact h.on j q e⟩
def alV (r w M N : Nat) (l : Nat -> Nat -> Nat) (o : Nat) : List V := (List.range (N + M)).map fun k => V.bl (alB r w M N l o k)
def AlAt (H : Hp) (D : Addr) (r w M N : Nat) (l : Nat -> Nat -> Nat) : Prop := ∃ ps : List Addr,H D = some (.lst (ps.map V.ref)) /\ ObAt H ps (N + M) fun o => .lst (alV r w M N l o)
theorem AlAt.same {H H' : Hp} {D : Addr} {r w M N : Nat} {l : Nat -> Nat -> Nat} (h : AlAt H D r w M N l) (s : Same H H') : AlAt H' D r w M N l := by
 obtain ⟨ps,h1,h2⟩ := h
 exact ⟨ps,s _ _ h1,h2.same s⟩
def qgb_ : Sp := fun vs H Q _ => ∃ (WL : Addr) (ps : List Addr) (r w M N : Nat) (l : Nat -> Nat -> Nat),vs = [.ref WL,.int r] /\ GF.Good r w /\ H WL = some (.lst (ps.map V.ref)) /\ TabAt H ps M (rowT N l) /\ Wts w M N l ∧
 ∀ D H',Same H H' -> AlAt H' D r w M N l -> Q (.ref D) H'
theorem qh3_ (T : Txt K mg a) : FnO P wo K mg base 2 a.f53 ["_law_weights_here", "_law_rule_here"] qgb_ := by
 refine T.x53.F.okA (k := 1) sc_along (fun cdv A outer s H vs Q E hr h => ?_)
 ·obtain ⟨WL,ps,r,w,M,N,l,rfl,g,hWL,ht,W,q⟩ := h
  have m1 := W.m1
  have m2 := W.m2
  have n8 := W.n8
  have t16 := g.top16
  obtain ⟨p0',ep0,hp0⟩ := ht.get (i := 0) (by omega)
  obtain ⟨pl,epl,hpl⟩ := ht.get (i := M - 1) (by omega)
  have hlast : atI (ps.map V.ref) (-1) = some (.ref pl) := by
   have hl := ht.len
   match ps,hl,epl with
   | [x],hl,epl =>
    have : M - 1 = 0 := by simp at hl; omega
    rw [this] at epl
    cases Option.some.inj epl
    rfl
   | [x,y],hl,epl =>
    have : M - 1 = 1 := by simp at hl; omega
    rw [this] at epl
    cases Option.some.inj epl
    rfl
   | [],hl,_ => simp at hl; omega
   | x :: y :: z :: t,hl,_ => simp at hl; omega
  have gi : ∀ t k,k < N -> atI (rowV (rowT N l t)) (k : Int) = some (.int ((l t k : Nat) : Int)) := fun t k hk => by
   have := qq_ (qW_ (row := rowT N l t) (i := k) (by rw [qs_]; exact hk))
   rw [qX_ hk] at this
   exact this
  have en : (((rowV (rowT N l 0)).length : Nat) : Int).toNat = N := by rw [qi_,qs_]; omega
  have el : (ps.map V.ref).length = M := by rw [List.length_map,ht.len]
  have eN : ∀ t k,k < N -> eqn N l t k = l t k := fun t k hk => by unfold eqn; rw [if_pos hk]
  refine ⟨_,(qb_ (qj_ (i := 2) sc_along.nd rfl (Or.inl rfl) (qk_ zR_ (q4_ (CompOk.of (cap := [0]) (own := ["_law_role"]) (by kernel_rfl)) rfl (qF_ rfl T.n_range (qa_ (qw_ qu_ rfl T.n_len PySem.boot_len (qa_ (qx_ qy_ (pv 0) qg_ (fun _ _ => rfl)) qc_)) qc_)) (fun _ _ _ _ _ => (qm_ (i := 1) (of_decide_eq_true (by kernel_rfl)) rfl (Or.inl rfl))) (fun _ _ _ _ _ => qY_) (fun _ _ _ _ _ => by exact (j1_ (qa_ (qx_ (ja_ (K := K) rfl) (qx_ (ja_ (K := K) rfl) (pv 0) qg_ (fun _ _ => rfl)) (pv 1) (fun _ _ => rfl)) (qa_ (qx_ (ja_ (K := K) rfl) (qx_ (ja_ (K := K) rfl) (pv 0) (qic_ qef_ qg_) (fun _ _ => rfl)) (pv 1) (fun _ _ => rfl)) qc_))))) (qI_ (qa_ (j1_ (qa_ qg_ (qa_ qg_ qc_))) (qa_ (j1_ (qa_ qg_ (qa_ qg_ qc_))) qc_)))))
   (qb_ (qz_ (qp_ q6_ (qw_ qu_ rfl T.n_len PySem.boot_len (qa_ (pv 0) qc_)) qg_ (qr_ _)) (qf_ (jK_ (i := 2) sc_along.nd rfl (Or.inl rfl) (CompOk.of (cap := []) (own := ["_law_one", "_law_two"]) (by kernel_rfl)) rfl (qH_ (yG_ zg_ (pv 2) ze_ (zf_ (qic_ qef_ qg_)))) (fun _ _ _ _ _ => (vn_ (n := 2) (K := K) rfl rfl (qM_ (qm_ (i := 0) (of_decide_eq_true (by kernel_rfl)) rfl (Or.inl rfl)) (qM_ (qm_ (i := 1) (of_decide_eq_true (by kernel_rfl)) rfl (Or.inl rfl)) jw_)))) (fun _ _ _ _ _ => qY_) (fun _ _ _ _ _ => by exact (j1_ (qa_ (pv 0) (qa_ qg_ qc_)))))) qv_)
   (qb_ (qj_ (i := 3) sc_along.nd rfl (Or.inl rfl) (qI_ qc_))
   (qb_ (qD_ PassesOwn.never rfl (qH_ (pv 2)) (qm_ (i := 4) sc_along.nd rfl (Or.inl rfl)) (qb_ (qj_ (i := 5) sc_along.nd rfl (Or.inl rfl) (qI_ qc_))
   (qb_ (qD_ PassesOwn.never rfl (qH_ (pv 2)) (qm_ (i := 6) sc_along.nd rfl (Or.inl rfl)) (qf_ (qN_ (jm_ PySem.F.plainAttrs_list PySem.F.slot_list_append PySem.F.type_list_append qJ_ (pv 5) (qa_ (q2_ q6_ (qt_ (vS_ T) hr.u rfl T.x43.m T.x43.k T.x43.b .nil qn_ (qa_ (qx_ yj_ (pv 4) qg_ (fun _ _ => rfl)) (qa_ (qx_ yj_ (pv 6) qg_ (fun _ _ => rfl)) (qa_ (pv 1) qc_)))) (qt_ (vS_ T) hr.u rfl T.x43.m T.x43.k T.x43.b .nil qn_ (qa_ (qx_ yj_ (pv 4) qg_ (fun _ _ => rfl)) (qa_ (qx_ yj_ (pv 6) qg_ (fun _ _ => rfl)) (qa_ (pv 1) qc_)))) (qr_ _)) qc_)))))
   (qf_ (qN_ (jm_ PySem.F.plainAttrs_list PySem.F.slot_list_append PySem.F.type_list_append qJ_ (pv 3) (qa_ (pv 5) qc_)))))))
   (qf_ (qo_ (pv 3))))))),?_⟩
  refine ⟨_,rfl,WL,_,_,_,rfl,rfl,SqL.of hWL,qq_ (j := 0) (qC_ ep0),p0',_,rfl,.inl (SqL.of hp0),_,rfl,by rw [qi_,qs_]; omega,by rw [qi_,qs_]; omega,fun D nD => ?_⟩
  rw [en]
  refine qf8_ (n := N) (ob := fun k => .tup [.int ((l 0 k : Nat) : Int),.int ((l (M - 1) k : Nat) : Int)]) (cs := [some (.ref WL)]) nD rfl (Nat.le_trans (by omega : N <= 8) (by decide)) (fun k Hx Rx hk sx hR => ?_) (fun qs H1 s1 hD hq => ?_)
  ·exact ⟨_,rfl,WL,_,_,_,rfl,rfl,SqL.of (sx _ _ hWL),qq_ (j := 0) (qC_ ep0),_,rfl,p0',_,_,_,rfl,rfl,SqL.of (sx _ _ hp0),gi 0 k hk,_,rfl,_,rfl,WL,_,_,_,rfl,rfl,SqL.of (sx _ _ hWL),hlast,_,rfl,pl,_,_,_,rfl,rfl,SqL.of (sx _ _ hpl),gi (M - 1) k hk,(show 2 <= sizeLine by decide),fun p np => hR p _ np (Same.new np) qd_⟩
  refine ⟨(show 2 <= sizeLine by decide),fun p1 n1 => ⟨(show 2 <= sizeLine by decide),fun p2 n2 => ⟨(show 2 <= sizeLine by decide),fun p3 n3 => ⟨D,p3,qs.map V.ref,_,rfl,rfl,(Same.new n3) _ _ ((Same.new n2) _ _ ((Same.new n1) _ _ hD)),qd_,?_,fun p4 n4 => ?_⟩⟩⟩⟩
  ·rw [List.length_map,hq.len]
   exact Nat.le_trans (by show N + 2 <= 9; omega) (by decide)
  have s4 := Same.new (o := .lst (qs.map V.ref ++ [.ref p1,.ref p2])) n4
  have s3' := Same.new (o := .lst [.ref p1,.ref p2]) n3
  have s2' := Same.new (o := .tup [.int 0,.int 1]) n2
  have sR := (Same.new (o := .tup [.int 1,.int 0]) n1).trans (s2'.trans (s3'.trans s4))
  have hp1 := s4 _ _ (s3' _ _ (s2' _ _ (qd_ (H := H1) (a := p1) (o := .tup [.int 1,.int 0]))))
  have hp2 := s4 _ _ (s3' _ _ (qd_ (H := upd H1 p1 (.tup [.int 1,.int 0])) (a := p2) (o := .tup [.int 0,.int 1])))
  have h4 := qd_ (H := upd (upd (upd H1 p1 (.tup [.int 1,.int 0])) p2 (.tup [.int 0,.int 1])) p3 (.lst [.ref p1,.ref p2])) (a := p4) (o := .lst (qs.map V.ref ++ [.ref p1,.ref p2]))
  have hq4 := hq.same sR
  clear s4 s3' s2'
  generalize (upd (upd (upd (upd H1 p1 (.tup [.int 1,.int 0])) p2 (.tup [.int 0,.int 1])) p3 (.lst [.ref p1,.ref p2])) p4 (.lst (qs.map V.ref ++ [.ref p1,.ref p2]))) = H4 at sR hp1 hp2 h4 hq4
  have s4 := s1.trans sR
  refine ⟨_,rfl,WL,_,rfl,.inl (SqL.of (s4 _ _ hWL)),rfl,_,rfl,?_⟩
  refine qii_ (fun C H' => Same H H' /\ ∃ qs : List Addr,H' C = some (.lst (qs.map V.ref)) /\ ObAt H' qs (N + M) (colO M N l)) (fun key => by
   by_cases hM : M = 1
   ·refine ite2 (fun _ => ?_) (fun y => absurd (decide_eq_true (by rw [el,hM]; rfl)) y)
    refine ⟨_,rfl,_,rfl,_,rfl,p4,_,rfl,SqL.of h4,fun p5 n5 => ?_⟩
    have s5 := Same.new (o := .lst (cutV (qs.map V.ref ++ [.ref p1,.ref p2]) none (some (-1)))) n5
    have h5 := qd_ (H := H4) (a := p5) (o := .lst (cutV (qs.map V.ref ++ [.ref p1,.ref p2]) none (some (-1))))
    have ec : cutV (qs.map V.ref ++ [.ref p1,.ref p2]) none (some (-1)) = (qs ++ [p1]).map V.ref := by
     unfold cutV
     have e0 : HT.sIx (qs.map V.ref ++ [V.ref p1,V.ref p2]).length 0 none = 0 := rfl
     have e1 : HT.sIx (qs.map V.ref ++ [V.ref p1,V.ref p2]).length (qs.map V.ref ++ [V.ref p1,V.ref p2]).length (some (-1)) = qs.length + 1 := by
      rw [List.length_append,List.length_map]
      show ((-1 : Int) + ((qs.length + 2 : Nat) : Int)).toNat = _
      omega
     rw [e0,e1,List.drop_zero,Nat.sub_zero,List.map_append,show (qs.map V.ref ++ [V.ref p1,.ref p2]) = (qs.map V.ref ++ [V.ref p1]) ++ [.ref p2] by rw [List.append_assoc]; rfl,List.take_append_of_le_length (by rw [List.length_append,List.length_map]; exact Nat.le_refl _),List.take_of_length_le (by rw [List.length_append,List.length_map]; exact Nat.le_refl _)]
     rfl
    generalize (upd H4 p5 (.lst (cutV (qs.map V.ref ++ [.ref p1,.ref p2]) none (some (-1))))) = H5 at s5 h5
    rw [ec] at h5
    have eM : M - 1 = 0 := by omega
    have hq5 : ObAt H5 (qs ++ [p1]) (N + 1) fun k => .tup [.int ((eqn N l 0 k : Nat) : Int),.int ((if k < N then l 0 k else 0 : Nat) : Int)] := by
     refine (((hq4.same s5).congr fun j hj => ?_).snoc ((s5 _ _ hp1).trans ?_))
     ·rw [eN 0 j hj,if_pos hj,eM]
     ·unfold eqn
      rw [if_neg (Nat.lt_irrefl N),if_pos (by omega),if_neg (Nat.lt_irrefl N)]
      rfl
    refine ⟨p5,rfl,⟨_,SqL.of h5⟩,fun D2 nD2 => ?_⟩
    refine qf9_ (n := N + 1) (ob := colO 1 N l) (cs := []) h5 hq5 nD2 rfl (Nat.le_trans (by omega : N + 1 <= 9) (by decide)) (fun k Hx Rx hk sx hR => ?_) (fun qs2 H2 s2 hD2 hq2 => ?_)
    ·refine ⟨_,rfl,(show 2 <= sizeLine by decide),fun p np => hR p _ np (Same.new np) ?_⟩
     rw [qd_]
     rfl
    try dsimp only [L2.start,List.set,List.map,List.append,List.replicate,HAppend.hAppend,Append.append,List.length,Nat.reduceAdd,Nat.reduceSub]
    exact key D2 H2 ⟨s4.trans (s5.trans s2),qs2,hD2,by rw [hM]; exact hq2⟩
   ·refine ite2 (fun y => absurd (V.int.inj (of_decide_eq_true y)) (by rw [el]; omega)) (fun _ => ?_)
    have hM2 : M = 2 := by omega
    unfold qib_
    try dsimp only [L2.start,List.set,List.map,List.append,List.replicate,HAppend.hAppend,Append.append,List.length,Nat.reduceAdd,Nat.reduceSub]
    refine key p4 H4 ⟨s4,qs ++ [p1] ++ [p2],?_,?_⟩
    ·rw [h4,List.map_append,List.map_append,List.append_assoc]; rfl
    have eM : M - 1 = 1 := by omega
    rw [hM2]
    have h3 := hq4.congr (ob' := colO 2 N l) fun j hj => by
     rw [eM]
     unfold colO cl2
     rw [eN 0 j hj,if_pos rfl,eN 1 j hj]
    refine (h3.snoc (hp1.trans ?_)).snoc (hp2.trans ?_)
    ·unfold colO cl2 eqn
     rw [if_neg (Nat.lt_irrefl N),if_pos rfl,if_pos (by omega),if_neg (Nat.lt_irrefl N),if_neg (by omega)]
     rfl
    ·unfold colO cl2 eqn
     rw [if_neg (by omega),if_pos rfl,if_neg (by omega),if_neg (by omega),if_pos (by omega)]
     rfl) ?_
  clear hp1 hp2 h4 hq4 sR s4 hq hD s1
  rintro C H1 ⟨s1,qs,hC,hq⟩
  have elq : (qs.map V.ref).length = N + M := by rw [List.length_map,hq.len]
  refine ⟨Nat.zero_le _,fun AL nAL => ?_⟩
  have sA := Same.new (o := .lst []) nAL
  have hA0 := qd_ (H := H1) (a := AL) (o := .lst [])
  generalize (upd H1 AL (.lst [])) = H2 at sA hA0
  refine ⟨_,rfl,C,rfl,⟨_,SqL.of (sA _ _ hC)⟩,?_⟩
  refine js_ (xs := qs.map V.ref) (fun i σ H' => (∃ v4 v5 v6 : Option V,σ = [some (.ref WL),some (.int (r : Nat)),some (.ref C),some (.ref AL),v4,v5,v6]) /\ Same H1 H' /\ ∃ ps : List Addr,H' AL = some (.lst (ps.map V.ref)) /\ ObAt H' ps i (fun o => .lst (alV r w M N l o)) /\ AL ∉ ps) ⟨⟨none,none,none,rfl⟩,sA,[],hA0,⟨rfl,fun j p e => by simp at e⟩,List.not_mem_nil⟩ ?_ ?_ ?_
  ·rintro i σ H' _ ⟨_,sm,_⟩
   exact SqL.of (sm _ _ hC)
  ·rintro i x σ H' hx ⟨⟨v4,v5,v6,rfl⟩,sm,ps,hAL,hps,nps⟩
   have hi : i < N + M := by rw [<- elq]; exact (List.getElem?_eq_some_iff.mp hx).1
   obtain ⟨pi,epi,hpi⟩ := hq.get hi
   cases Option.some.inj (hx.symm.trans (qC_ epi))
   refine ⟨Nat.zero_le _,fun L nL => ?_⟩
   have sL := Same.new (o := .lst []) nL
   have hL0 := qd_ (H := H') (a := L) (o := .lst [])
   have hAL2 := sL _ _ hAL
   have hps2 := hps.same sL
   have dL : AL ≠ L := ql_ hAL nL
   have nL' : L ∉ ps := fun z => by
    obtain ⟨j,hj,e⟩ := List.getElem_of_mem z
    have := hps.on j L (by rw [List.getElem?_eq_getElem hj,e])
    rw [nL] at this; cases this
   have nL1 : H1 L = none := sm.free nL
   have sm2 := sm.trans sL
   generalize (upd H' L (.lst [])) = H3 at sL hL0 hAL2 hps2 sm2
   try dsimp only [L2.start,List.set,List.map,List.append,List.replicate,HAppend.hAppend,Append.append,List.length,Nat.reduceAdd,Nat.reduceSub]
   refine ⟨_,rfl,C,rfl,⟨_,SqL.of (sm2 _ _ hC)⟩,?_⟩
   refine js_ (xs := qs.map V.ref) (fun j σ H' => (∃ v6 : Option V,σ = [some (.ref WL),some (.int (r : Nat)),some (.ref C),some (.ref AL),some (.ref pi),some (.ref L),v6]) /\ Same H1 H' /\ H' AL = some (.lst (ps.map V.ref)) /\ ObAt H' ps i (fun o => .lst (alV r w M N l o)) /\ H' L = some (.lst ((List.range j).map fun k => V.bl (alB r w M N l i k)))) ⟨⟨_,rfl⟩,sm2,hAL2,hps2,hL0⟩ ?_ ?_ ?_
   ·rintro j σ H' _ ⟨_,sm,_⟩
    exact SqL.of (sm _ _ hC)
   ·rintro j x σ H4 hx ⟨⟨v6,rfl⟩,s4,h4A,h4p,h4L⟩
    have hj : j < N + M := by rw [<- elq]; exact (List.getElem?_eq_some_iff.mp hx).1
    obtain ⟨pj,epj,hpj⟩ := hq.get hj
    cases Option.some.inj (hx.symm.trans (qC_ epj))
    have b0 : eqn N l 0 i < 2 ^ w := jQ_ W t16 0 i (by omega) hi
    have b1 : cl2 M N l i < 2 ^ w := by
     unfold cl2
     split
     ·exact jQ_ W t16 1 i (by omega) hi
     ·omega
    have fits : ((List.range j).map fun k => V.bl (alB r w M N l i k)).length < sizeLine := by
     rw [List.length_map,List.length_range]
     exact Nat.lt_of_lt_of_le (by omega : j < 8) (by decide)
    have c1 := (s4 _ _ hpi)
    have c2 := (s4 _ _ hpj)
    unfold colO at c1 c2
    refine ⟨_,rfl,.inl ⟨rfl,_,SqL.of h4L⟩,_,rfl,pi,_,_,_,rfl,rfl,SqT.of c1,qq_ (j := 0) rfl,_,rfl,pj,_,_,_,rfl,rfl,SqT.of c2,qq_ (j := 1) rfl,_,rfl,_,_,r,w,rfl,g.rule,g.w8,b0,?_⟩
    refine ⟨_,rfl,pi,_,_,_,rfl,rfl,SqT.of c1,qq_ (j := 1) rfl,_,rfl,pj,_,_,_,rfl,rfl,SqT.of c2,qq_ (j := 0) rfl,_,rfl,_,_,r,w,rfl,g.rule,g.w8,b1,rfl,?_⟩
    have e : decide (V.int ((GF.tm r w (eqn N l 0 i) (cl2 M N l j) : Nat) : Int) = V.int ((GF.tm r w (cl2 M N l i) (eqn N l 0 j) : Nat) : Int)) = alB r w M N l i j := decide_eq_decide.mpr ⟨fun y => by have := V.int.inj y; omega,fun y => by rw [y]⟩
    rw [e]
    refine ⟨L,_,_,rfl,rfl,h4L,fits,⟨_,rfl⟩,s4.up nL1,?_,h4p.up nL',?_⟩
    ·rw [qe_ dL]; exact h4A
    ·rw [qd_,List.range_succ,List.map_append]; rfl
   ·rintro σ H4 ⟨⟨v6,rfl⟩,s4,h4A,h4p,h4L⟩
    rw [elq] at h4L
    have fits : (ps.map V.ref).length < sizeLine := by
     rw [List.length_map,hps.len]
     exact Nat.lt_of_lt_of_le (by omega : i < 8) (by decide)
    refine ⟨_,rfl,.inl ⟨rfl,_,SqL.of h4A⟩,_,rfl,AL,_,_,rfl,rfl,h4A,fits,⟨_,_,_,rfl⟩,s4.up nAL,ps ++ [L],?_,?_,?_⟩
    ·rw [qd_,List.map_append]; rfl
    ·refine (h4p.up nps).snoc ?_
     rw [qe_ (Ne.symm dL)]
     exact h4L
    ·intro z
     rcases List.mem_append.mp z with z | z
     ·exact nps z
     ·exact dL (List.mem_singleton.mp z)
  ·rintro σ H' ⟨⟨v4,v5,v6,rfl⟩,sm,ps,hAL,hps,nps⟩
   rw [elq] at hps
   exact ⟨_,rfl,q AL H' (s1.trans sm) ⟨ps,hAL,hps⟩⟩
theorem qgc_ {r w M N o k : Nat} {l : Nat -> Nat -> Nat} (hk : k < N + M) : (alV r w M N l o)[k]? = some (.bl (alB r w M N l o k)) := by
 unfold alV
 rw [List.getElem?_map,List.getElem?_range hk]
 rfl
def qgd_ (K : PySem.W.Frag) : Sp := fun vs H Q _ => ∃ (AL SL : Addr) (st : List Nat) (r w M N k : Nat) (l : Nat -> Nat -> Nat) (ks : List Bool),vs = [.ref AL,.ref SL,.int k] /\ GF.Full r w /\ Wts w M N l /\ AlAt H AL r w M N l /\ SqL K H SL (rowV st) /\ (∀ j,j < N + M -> st.contains j = ks.getD j false) /\ k < N + M /\ ∀ H',Same H H' -> Q (.bl (fx r w M N l ks k)) H'
theorem qbq_ (T : Txt K mg a) : FnO P wo K mg base 1 a.f54 ["_law_along_here", "_law_held", "_law_role"] (qgd_ K) := by
 refine T.x54.F.okA (k := 0) sc_fixed (fun cdv A outer s H vs Q E hr h => ?_)
 ·obtain ⟨AL,SL,st,r,w,M,N,k,l,ks,rfl,g,W,⟨ps,hAL,hps⟩,hSL,hst,hk,q⟩ := h
  have n8 := W.n8
  refine ⟨_,(qb_ (qz_ (qp_ zQ_ (pv 2) (pv 1) rfl) (qf_ (qo_ jI_)) qv_)
   (qb_ (jK_ (i := 3) sc_fixed.nd rfl (Or.inl rfl) (CompOk.of (cap := [1,2]) (own := ["_law_at"]) (by kernel_rfl)) rfl (qF_ rfl T.n_range (qa_ (qw_ qu_ rfl T.n_len PySem.boot_len (qa_ (pv 0) qc_)) qc_)) (fun _ _ _ _ _ => (qm_ (i := 2) (of_decide_eq_true (by kernel_rfl)) rfl (Or.inl rfl))) (fun _ _ _ _ _ => (jW_ (PW.pt (qar_ (qp_ (zN_ (K := K) rfl) (pv 2) (pv 0) rfl) (uo_ (qp_ zq_ (pv 2) (pv 1) (qr_ _))))))) (fun _ _ _ _ _ => by exact (pv 2)))
   (qb_ (qD_ PassesOwn.never rfl (qH_ (pv 3)) (qm_ (i := 4) sc_fixed.nd rfl (Or.inl rfl)) (qf_ (qz_ (jk_ (qZ_ (qx_ qy_ (qx_ qy_ (pv 0) (qx_ qy_ (pv 3) qg_ (fun _ _ => rfl)) (fun _ _ => rfl)) (pv 4) (fun _ _ => rfl)))) (qf_ (qo_ jI_)) qv_)))
   (qf_ (qo_ (qia_ (q2_ (zW_ hr.units) (pv 3) (qI_ qc_) (qr_ _)) (yB_ (qec_ (qx_ qy_ (qx_ qy_ (pv 0) (qx_ qy_ (pv 3) qg_ (fun _ _ => rfl)) (fun _ _ => rfl)) (pv 2) (fun _ _ => rfl)))))))))),?_⟩
  refine ⟨_,rfl,_,rfl,SL,_,rfl,.inl hSL,rfl,jC_ st,_,rfl,?_⟩
  rw [jR_,hst k hk]
  cases hkk : ks.getD k false with
  | true =>
   refine ite2 (fun _ => ?_) (fun y => absurd rfl y)
   have e : fx r w M N l ks k = true := by unfold fx; rw [hkk]; rfl
   rw [e] at q
   exact q H (Same.refl _)
  | false =>
   refine ite2 (fun y => absurd y (by decide)) (fun _ => ?_)
   have e : fx r w M N l ks k = fixB r w M N l ks k := by unfold fx; rw [hkk,Bool.false_or]
   rw [e] at q
   have el : (ps.map V.ref).length = N + M := by rw [List.length_map,hps.len]
   refine ⟨_,rfl,AL,_,rfl,.inl (SqL.of hAL),_,rfl,by omega,by rw [el]; omega,fun D nD => ?_⟩
   rw [el,Int.toNat_natCast]
   refine y6_ (n := N + M) (f := fun i => .int ((i : Nat) : Int)) (b := fun i => !(ks.getD i false) && !decide (i = k)) (cs := [some (.ref SL),some (.int (k : Nat))]) nD rfl (Nat.le_trans n8 (by decide)) (fun i Hx Rx hi sx hR => ?_) (fun i Hx Rx hi hb sx hR => ⟨_,rfl,hR _ (Same.refl _)⟩) (fun H2 s2 hD => ?_)
   ·refine ⟨_,rfl,_,rfl,SL,_,rfl,.inl (sx.seq hSL),rfl,jC_ st,_,rfl,?_⟩
    rw [jR_,hst i hi]
    cases hb : ks.getD i false with
    | true =>
     rw [hb] at hR
     refine ite2 (fun y => absurd y (by decide)) (fun _ => ?_)
     exact hR _ (Same.refl _)
    | false =>
     rw [hb] at hR
     refine ite2 (fun _ => ?_) (fun y => absurd rfl y)
     refine ⟨_,rfl,_,rfl,rfl,_,rfl,?_⟩
     have e : (!decide (V.int (i : Int) = V.int (k : Int))) = (!false && !decide (i = k)) := by
      by_cases z : i = k
      ·rw [decide_eq_true (by rw [z]),decide_eq_true z]
       rfl
      ·rw [decide_eq_false (fun y => z (by have := V.int.inj y; omega)),decide_eq_false z]
       rfl
     rw [e]
     exact hR _ (Same.refl _)
   have hD : H2 D = some (.lst (rowV (jb_ (N + M) ks k))) := hD
   have hmem : ∀ j ∈ jb_ (N + M) ks k,j < N + M := fun j hj => (j5_ hj).1
   refine ⟨_,rfl,D,rfl,⟨_,SqL.of hD⟩,?_⟩
   refine js_ (xs := rowV (jb_ (N + M) ks k)) (fun i σ H' => (∃ v4 : Option V,σ = [some (.ref AL),some (.ref SL),some (.int (k : Nat)),some (.ref D),v4]) /\ Same H2 H' /\ ∀ o os,jb_ (N + M) ks k = o :: os -> ∀ j ∈ (o :: os).take i,alB r w M N l o j = true) ⟨⟨none,rfl⟩,Same.refl _,fun o os _ j hj => absurd hj (by simp)⟩ ?_ ?_ ?_
   ·rintro i σ H' _ ⟨_,sm,_⟩
    exact SqL.of (sm _ _ hD)
   ·rintro i x σ H' hx ⟨⟨v4,rfl⟩,sm,hal⟩
    obtain ⟨j,ej,rfl⟩ := qV_ hx
    cases hoth : jb_ (N + M) ks k with
    | nil => rw [hoth] at ej; cases ej
    | cons o os =>
     have hal := hal o os hoth
     have e := qga_ g W hk hoth
     rw [e] at q
     have hj := hmem j (List.mem_of_getElem? ej)
     rw [hoth] at hD hmem ej
     have ho := hmem o List.mem_cons_self
     have sm' := s2.trans sm
     obtain ⟨po,epo,hpo⟩ := hps.get ho
     refine ⟨_,rfl,_,rfl,D,_,_,_,rfl,rfl,SqL.of (sm _ _ hD),qq_ (j := 0) rfl,AL,_,_,_,rfl,rfl,SqL.of (sm' _ _ hAL),qq_ (qC_ epo),_,rfl,po,_,_,_,rfl,rfl,SqL.of (sm' _ _ hpo),qq_ (qgc_ hj),_,rfl,?_⟩
     cases hab : alB r w M N l o j with
     | false =>
      have hf : ((o :: os).all (alB r w M N l o) && !alB r w M N l o k) = false := by
       cases z : (o :: os).all (alB r w M N l o) with
       | false => rfl
       | true => have := List.all_eq_true.mp z j (List.mem_of_getElem? ej); rw [hab] at this; cases this
      rw [hf] at q
      refine ite2 (fun _ => ?_) (fun y => absurd rfl y)
      exact q _ sm'
     | true =>
      refine ite2 (fun y => absurd y (by decide)) (fun _ => ?_)
      refine ⟨⟨_,rfl⟩,sm,fun o' os' e' j' hj' => ?_⟩
      cases e'
      rw [yq_ ej] at hj'
      rcases List.mem_append.mp hj' with y | y
      ·exact hal j' y
      ·rw [List.mem_singleton.mp y]; exact hab
   ·rintro σ H' ⟨⟨v4,rfl⟩,sm,hal⟩
    have sm' := s2.trans sm
    refine ⟨_,rfl,by decide,fun e0 ne0 => ?_⟩
    have s0 := Same.new (o := .lst []) ne0
    refine ⟨_,_,jh_ (s0 _ _ (sm _ _ hD)),(by rw [Sees]; exact ⟨e0,_,rfl,SqL.of qd_,by rw [SeesL]⟩ : Sees _ _ (.ref e0) (.lst [])),rfl,rfl,⟨_,rfl⟩,jV_ _,?_⟩
    generalize (upd H' e0 (.lst [])) = H3 at s0
    have s3 := sm'.trans s0
    cases hoth : jb_ (N + M) ks k with
    | nil =>
     have e : fixB r w M N l ks k = true := by unfold fixB; rw [hoth]
     rw [e] at q
     exact ⟨true,rfl,ite2 (fun _ => q _ s3) (fun y => absurd rfl y)⟩
    | cons o os =>
     have hal := hal o os hoth
     rw [qi_,hoth,List.take_length] at hal
     have e := qga_ g W hk hoth
     rw [e,List.all_eq_true.mpr hal,Bool.true_and] at q
     rw [hoth] at hD hmem
     have ho := hmem o List.mem_cons_self
     obtain ⟨po,epo,hpo⟩ := hps.get ho
     rw [y8_]
     exact ⟨false,rfl,ite2 (fun y => absurd y (by decide)) (fun _ => ⟨_,rfl,_,rfl,D,_,_,_,rfl,rfl,SqL.of (s0 _ _ (sm _ _ hD)),qq_ (j := 0) rfl,AL,_,_,_,rfl,rfl,SqL.of (s3 _ _ hAL),qq_ (qC_ epo),_,rfl,po,_,_,_,rfl,rfl,SqL.of (s3 _ _ hpo),qq_ (qgc_ hk),_,rfl,q _ s3⟩)⟩
def qb9_ (K : PySem.W.Frag) : Sp := fun vs H Q _ => ∃ (AL SL so : Addr) (st rs : List Nat) (r w M N : Nat) (l : Nat -> Nat -> Nat) (ks : List Bool),vs = [.ref AL,.ref SL,.ref so] /\ GF.Full r w /\ Wts w M N l /\ AlAt H AL r w M N l /\ SqL K H SL (rowV st) /\ (∀ j,j < N + M -> st.contains j = ks.getD j false) /\ SqL K H so (rowV rs) /\ rs.length <= 8 /\ (∀ k ∈ rs,k < N + M) /\ ∀ D H',Same H H' -> H D = none -> H' D = some (.lst (rowV (rs.filter fun k => !fx r w M N l ks k))) -> Q (.ref D) H'
theorem zB_ (T : Txt K mg a) : FnO P wo K mg base 2 a.f55 ["_law_along_here", "_law_known", "_law_some_here"] (qb9_ K) := by
 refine T.x55.F.okA (k := 1) qdt_ (fun cdv A outer s H vs Q E hr h => ?_)
 ·obtain ⟨AL,SL,so,st,rs,r,w,M,N,l,ks,rfl,g,W,hAL,hSL,hst,hso,h8,hrs,q⟩ := h
  refine ⟨_,(qf_ (qo_ (q4_ (CompOk.of (cap := [0,1]) (own := ["_law_role"]) (by kernel_rfl)) rfl (qH_ (pv 2)) (fun _ _ _ _ _ => (qm_ (i := 2) (of_decide_eq_true (by kernel_rfl)) rfl (Or.inl rfl))) (fun _ _ _ _ _ => (jW_ (jk_ (qZ_ (qt_ (qbq_ T) hr.u rfl T.x54.m T.x54.k T.x54.b .nil qn_ (qa_ (pv 0) (qa_ (pv 1) (qa_ (pv 2) qc_)))))))) (fun _ _ _ _ _ => by exact (pv 2))))),?_⟩
  refine ⟨_,rfl,so,rfl,⟨_,hso⟩,fun D nD => ?_⟩
  refine yy_ (rs := rs) (b := fun k => !fx r w M N l ks k) (cs := [some (.ref AL),some (.ref SL)]) hso nD rfl (Nat.le_trans h8 (by decide)) (fun x Hx Rx hx sx hR => ?_) (fun x Hx Rx hx _ sx hR => ⟨_,rfl,hR _ (Same.refl _)⟩) (fun H2 s2 hD => ?_)
  ·refine ⟨_,rfl,_,rfl,_,rfl,AL,SL,st,r,w,M,N,x,l,ks,rfl,g,W,hAL.same sx,sx.seq hSL,hst,hrs x hx,fun H' s' => ?_⟩
   exact ⟨_,rfl,hR _ s'⟩
  ·exact q D H2 s2 nD hD
theorem qd6_ (cs : List (Option Nat)) (xs : List Nat) (k : Nat) : ug_ cs (xs ++ [k]) = ug_ cs xs + (((cs.getD k none).getD 0 : Nat) : Int) := by
 unfold ug_
 rw [List.map_append,List.sum_append]
 simp
def qge_ (K : PySem.W.Frag) : Sp := fun vs H Q _ => ∃ (AL SL so CL SE : Addr) (st rs as : List Nat) (cs : List (Option Nat)) (r w M N : Nat) (l : Nat -> Nat -> Nat) (ks : List Bool),vs = [.ref so,.ref SL,.ref CL,.ref SE,.ref AL] /\ GF.Full r w /\ Wts w M N l /\ AlAt H AL r w M N l /\ SqL K H SL (rowV st) /\ (∀ j,j < N + M -> st.contains j = ks.getD j false) /\ SqL K H so (rowV rs) /\ rs.length <= 8 /\ (∀ k ∈ rs,k < N + M) /\ SqL K H CL (rowO cs) /\ cs.length = N + M /\ SqL K H SE (rowV as) /\ ∀ H',Same H H' -> Q (yR_ cs as (rs.filter fun k => !fx r w M N l ks k)) H'
theorem qh4_ (T : Txt K mg a) : FnO P wo K mg base 3 a.f56 ["_law_some_here", "_law_known", "_law_costs_here", "_law_seen", "_law_along_here"] (qge_ K) := by
 refine T.x56.F.okA (k := 2) sc_price (fun cdv A outer s H vs Q E hr h => ?_)
 ·obtain ⟨AL,SL,so,CL,SE,st,rs,as,cs,r,w,M,N,l,ks,rfl,g,W,hAL,hSL,hst,hso,h8,hrs,hCL,hcl,hSE,q⟩ := h
  refine ⟨_,(qb_ (qj_ (i := 5) sc_price.nd rfl (Or.inl rfl) qg_)
   (qb_ (qD_ PassesOwn.never rfl (qH_ (qt_ (zB_ T) hr.u rfl T.x55.m T.x55.k T.x55.b .nil qn_ (qa_ (pv 4) (qa_ (pv 1) (qa_ (pv 0) qc_))))) (qm_ (i := 6) sc_price.nd rfl (Or.inl rfl)) (qb_ (qz_ (PW.pt (jv_ (qp_ yi_ (qx_ qy_ (pv 2) (pv 6) (fun _ _ => rfl)) qK_ (qr_ _)) (jp_ (qp_ zQ_ (pv 6) (pv 3) rfl)))) (qf_ (qo_ qK_)) qv_)
   (qf_ (qj_ (i := 5) sc_price.nd rfl (Or.inl rfl) (qk_ qO_ (pv 5) (qx_ qy_ (pv 2) (pv 6) (fun _ _ => rfl)))))))
   (qf_ (qo_ (pv 5))))),?_⟩
  refine ⟨_,rfl,_,rfl,_,rfl,AL,SL,so,st,rs,r,w,M,N,l,ks,rfl,g,W,hAL,hSL,hst,hso,h8,hrs,fun D H1 s1 nD hD => ?_⟩
  have hlt : ∀ k ∈ (rs.filter fun k => !fx r w M N l ks k),k < N + M := fun k hk => hrs k (List.mem_filter.mp hk).1
  generalize (rs.filter fun k => !fx r w M N l ks k) = ls at q hD hlt
  refine ⟨D,rfl,⟨_,SqL.of hD⟩,?_⟩
  refine js_ (xs := rowV ls) (fun i σ H' => (∃ v6 : Option V,σ = [some (.ref so),some (.ref SL),some (.ref CL),some (.ref SE),some (.ref AL),some (.int (ug_ cs (ls.take i))),v6]) /\ Same H1 H' /\ ∀ k ∈ ls.take i,mayB cs as k = true) ⟨⟨none,rfl⟩,Same.refl _,fun j hj => absurd hj (by simp)⟩ ?_ ?_ ?_
  ·rintro i σ H' _ ⟨_,sm,_⟩
   exact SqL.of (sm _ _ hD)
  ·rintro i x σ H' hx ⟨⟨v6,rfl⟩,sm,hal⟩
   obtain ⟨k,ek,rfl⟩ := qV_ hx
   have hk := hlt k (List.mem_of_getElem? ek)
   have sm' := s1.trans sm
   have gi := qq_ (qU_ (jq_ (os := cs) (k := k) (by rw [hcl]; exact hk)))
   refine ⟨_,rfl,_,rfl,CL,_,_,_,rfl,rfl,sm'.seq hCL,gi,rfl,_,rfl,?_⟩
   have no : mayB cs as k = false -> Q .non H' := fun z => by
    unfold yR_ at q
    rw [if_neg (fun y => by rw [List.all_eq_true.mp y k (List.mem_of_getElem? ek)] at z; cases z)] at q
    exact q _ sm'
   cases hz : cs.getD k none with
   | none =>
    refine ite2 (fun _ => ite2 (fun _ => ?_) (fun y => absurd rfl y)) (fun y => absurd (decide_eq_true rfl) y)
    exact no (by unfold mayB; rw [hz]; rfl)
   | some b =>
    refine ite2 (fun y => absurd (of_decide_eq_true y) (fun z => by cases z)) (fun _ => ?_)
    refine ⟨_,rfl,_,rfl,SE,_,rfl,.inl (sm'.seq hSE),rfl,jC_ as,_,rfl,?_⟩
    rw [jR_]
    cases hc : as.contains k with
    | true =>
     refine ite2 (fun _ => ?_) (fun y => absurd rfl y)
     exact no (by unfold mayB; rw [hc,Bool.not_true,Bool.and_false])
    | false =>
     refine ite2 (fun y => absurd y (by decide)) (fun _ => ?_)
     rw [hz] at gi
     refine ⟨_,rfl,_,rfl,_,rfl,CL,_,_,_,rfl,rfl,sm'.seq hCL,gi,_,_,rfl,rfl,⟨some (.int (k : Nat)),?_⟩,sm,fun k' hk' => ?_⟩
     ·rw [yq_ ek,qd6_,hz]
      rfl
     ·rw [yq_ ek] at hk'
      rcases List.mem_append.mp hk' with y | y
      ·exact hal k' y
      ·rw [List.mem_singleton.mp y]; unfold mayB; rw [hz,hc]; rfl
  ·rintro σ H' ⟨⟨v6,rfl⟩,sm,hal⟩
   rw [qi_,List.take_length] at hal ⊢
   unfold yR_ at q
   rw [if_pos (List.all_eq_true.mpr hal)] at q
   exact ⟨_,rfl,q _ (s1.trans sm)⟩
def oiV : Option Int -> V
 | none => .non
 | some i => .int i
def qh5_ : Sp := fun vs H Q _ => ∃ x y : Option Int,vs = [oiV x,oiV y] /\ Q (.bl (decide (x = y))) H
theorem uG_ (T : Txt K mg a) : FnO P wo K mg base 2 a.f58 ["_law_found", "_law_due"] qh5_ := by
 refine T.x58.F.okA (k := 1) qi6_ (fun cdv A outer s H vs Q E hr h => ?_)
 ·obtain ⟨x,y,rfl,q⟩ := h
  refine ⟨_,(qb_ (qz_ (PW.pt (jv_ (qp_ yi_ (pv 1) qK_ (qr_ _)) (jp_ (qp_ yi_ (pv 0) qK_ (qr_ _))))) (qf_ (qo_ (zO_ (q2_ yi_ (pv 1) qK_ (qr_ _)) (yB_ (q2_ yi_ (pv 0) qK_ (qr_ _)))))) qv_)
   (qf_ (qo_ (zO_ (qt_ (qhx_ T) hr.u rfl T.x41.m T.x41.k T.x41.b .nil qn_ (qa_ (pv 0) qc_)) (yB_ (q2_ q6_ (pv 0) (pv 1) (qr_ _))))))),?_⟩
  refine ⟨_,rfl,rfl,_,rfl,?_⟩
  cases y with
  | none =>
   refine ite2 (fun _ => ite2 (fun _ => ?_) (fun y => absurd rfl y)) (fun y => absurd (decide_eq_true rfl) y)
   refine ⟨_,rfl,rfl,_,rfl,ite2 (fun _ => ⟨_,rfl,rfl,?_⟩) (fun y => absurd (decide_eq_true rfl) y)⟩
   have e : decide (oiV x = V.non) = decide (x = none) := by
    cases x with
    | none => rfl
    | some i => exact decide_eq_false (fun z => by cases z)
   rw [<- e] at q
   exact q
  | some j =>
   refine ite2 (fun y => absurd (of_decide_eq_true y) (fun z => by cases z)) (fun _ => ?_)
   refine ⟨_,rfl,rfl,_,rfl,?_⟩
   cases x with
   | none =>
    refine ite2 (fun _ => ?_) (fun y => absurd (decide_eq_true rfl) y)
    rw [decide_eq_false (fun z => by cases z)] at q
    exact ⟨_,rfl,rfl,_,rfl,ite2 (fun y => absurd (of_decide_eq_true y) (fun z => by cases z)) (fun _ => q)⟩
   | some i =>
    refine ite2 (fun y => absurd (of_decide_eq_true y) (fun z => by cases z)) (fun _ => ?_)
    have e : decide (some i = some j) = decide (V.int i = V.int j) := decide_eq_decide.mpr ⟨fun z => by rw [Option.some.inj z],fun z => by rw [V.int.inj z]⟩
    rw [e] at q
    exact ⟨_,rfl,i,rfl,_,rfl,ite2 (fun _ => ⟨_,rfl,_,rfl,rfl,q⟩) (fun y => absurd rfl y)⟩
def qh6_ : Sp := fun vs H Q _ => ∃ (c : Int) (R : Nat),vs = [.int c,.int R] /\ 1 <= R /\ R <= 8 /\ ∀ D H' (rs : List Nat),Same H H' -> H D = none -> H' D = some (.lst (rowV rs)) -> rs.length <= R -> (∀ k ∈ rs,k < R) -> Q (.ref D) H'
theorem qjy_ (T : Txt K mg a) : FnO P wo K mg base 1 a.f61 ["_law_cell_here", "_law_roles_here"] qh6_ := by
 refine T.x61.F.okA (k := 0) sc_list (fun cdv A outer s H vs Q E hr h => ?_)
 ·obtain ⟨c,R,rfl,h1,h8,q⟩ := h
  refine ⟨_,(qb_ (qj_ (i := 2) sc_list.nd rfl (Or.inl rfl) (qk_ qL_ (qk_ jo_ (pv 0) (pv 1)) (qk_ zc_ qg_ (pv 1))))
   (qb_ (qj_ (i := 3) sc_list.nd rfl (Or.inl rfl) (qI_ qc_))
   (qb_ (qD_ PassesOwn.never rfl (qF_ rfl T.n_range (qa_ (pv 1) qc_)) (qm_ (i := 4) sc_list.nd rfl (Or.inl rfl)) (qb_ (qz_ (qp_ q6_ (qk_ qL_ (pv 2) qg_) qg_ (qr_ _)) (qf_ (qN_ (jm_ PySem.F.plainAttrs_list PySem.F.slot_list_append PySem.F.type_list_append qJ_ (pv 3) (qa_ (pv 4) qc_)))) qv_)
   (qf_ (qj_ (i := 2) sc_list.nd rfl (Or.inl rfl) (qk_ jo_ (pv 2) qg_)))))
   (qb_ (qz_ (qp_ q6_ (qk_ qL_ (qk_ jo_ (pv 0) (qk_ zc_ (pv 1) (pv 1))) qg_) qg_ (qr_ _)) (qf_ (qN_ (yI_ PySem.F.plainAttrs_list PySem.F.slot_list_reverse PySem.F.type_list_reverse qdi_ (pv 3)))) qv_)
   (qf_ (qo_ (pv 3))))))),?_⟩
  have e2 : (1 : Int) * 2 ^ ((R : Nat) : Int).toNat = ((2 ^ R : Nat) : Int) := by
   rw [Int.toNat_natCast,Int.one_mul]
   exact (Int.natCast_pow 2 R).symm
  obtain ⟨z0,_,ez0⟩ := modN (c / (R : Int)) (n := 2 ^ R) (Nat.two_pow_pos R)
  refine ⟨_,rfl,_,rfl,_,_,rfl,rfl,⟨by omega,by omega⟩,_,rfl,_,_,rfl,rfl,⟨by omega,by omega⟩,_,_,rfl,rfl,?_,?_⟩
  ·show (0 : Int) < 1 * 2 ^ ((R : Nat) : Int).toNat
   rw [e2]
   exact Int.natCast_pos.mpr (Nat.two_pow_pos R)
  try dsimp only
  rw [e2,show (c / (R : Int)) % ((2 ^ R : Nat) : Int) = (z0 : Int) from ez0]
  refine ⟨Nat.zero_le _,fun D nD => ?_⟩
  have sD := Same.new (o := .lst []) nD
  have hD : (upd H D (.lst [])) D = some (.lst []) := qd_
  generalize (upd H D (.lst [])) = H1 at sD hD
  refine ⟨_,rfl,_,rfl,by omega,by omega,?_⟩
  rw [Int.toNat_natCast]
  refine qQ_ (lo := 0) (n := R) (fun i σ H' => (∃ (v4 : Option V) (z : Nat),σ = [some (.int c),some (.int R),some (.int z),some (.ref D),v4]) /\ Same H H' /\ ∃ rs : List Nat,H' D = some (.lst (rowV rs)) /\ rs.length <= i /\ ∀ k ∈ rs,k < i) ⟨⟨none,z0,rfl⟩,sD,[],hD,Nat.le_refl _,fun k hk => absurd hk List.not_mem_nil⟩ ?_ ?_
  ·rintro i σ H' hi ⟨⟨v4,z,rfl⟩,sm,rs,h1,hl,hlt⟩
   have fits : (rowV rs).length < sizeLine := by
    rw [qi_]
    exact Nat.lt_trans (by omega : rs.length < 9) (by decide)
   refine ⟨_,rfl,_,_,rfl,rfl,p0 (by decide),rfl,_,rfl,?_⟩
   refine ite2 (fun _ => ?_) (fun _ => ?_)
   ·refine ⟨_,rfl,.inl ⟨rfl,_,SqL.of h1⟩,_,rfl,D,_,_,rfl,rfl,h1,fits,?_⟩
    refine ⟨_,rfl,_,_,rfl,rfl,⟨by decide,by decide⟩,?_⟩
    try dsimp only
    rw [show (z : Int) / 2 = ((z / 2 : Nat) : Int) by omega]
    refine ⟨⟨_,_,rfl⟩,sm.up nD,rs ++ [i],by rw [qd_,← q5_,Int.zero_add],by rw [List.length_append]; exact Nat.succ_le_succ hl,fun k hk => ?_⟩
    rcases List.mem_append.mp hk with y | y
    ·exact Nat.lt_succ_of_lt (hlt k y)
    ·rw [List.mem_singleton.mp y]; exact Nat.lt_succ_self i
   ·refine ⟨_,rfl,_,_,rfl,rfl,⟨by decide,by decide⟩,?_⟩
    try dsimp only
    rw [show (z : Int) / 2 = ((z / 2 : Nat) : Int) by omega]
    exact ⟨⟨_,_,rfl⟩,sm,rs,h1,Nat.le_succ_of_le hl,fun k hk => Nat.lt_succ_of_lt (hlt k hk)⟩
  ·rintro σ H' ⟨⟨v4,z,rfl⟩,sm,rs,h1,hl,hlt⟩
   have hp : ∀ k : Nat,k <= 8 -> 1 <= k -> 0 < ((k : Int) * 2 ^ ((k : Nat) : Int).toNat) /\ ((k : Int) * 2 ^ ((k : Nat) : Int).toNat) < 1073741824 := by
    intro k h8 h1
    have : k = 1 \/ k = 2 \/ k = 3 \/ k = 4 \/ k = 5 \/ k = 6 \/ k = 7 \/ k = 8 := by omega
    rcases this with rfl | rfl | rfl | rfl | rfl | rfl | rfl | rfl <;> decide
   refine ⟨_,rfl,_,rfl,_,rfl,_,_,rfl,rfl,⟨by omega,by omega,by omega⟩,_,_,rfl,rfl,hp R h8 (by omega),_,_,rfl,rfl,p0 (by decide),rfl,_,rfl,?_⟩
   refine ite2 (fun _ => ?_) (fun _ => ⟨_,rfl,q D H' rs sm nD h1 hl hlt⟩)
   refine ⟨_,rfl,.inl ⟨rfl,_,SqL.of h1⟩,D,_,rfl,rfl,h1,?_⟩
   refine ⟨_,rfl,q D _ rs.reverse (sm.up nD) nD ?_ ?_ ?_⟩
   ·rw [qd_]
    unfold rowV
    rw [List.map_reverse]
   ·rw [List.length_reverse]; exact hl
   ·exact fun k hk => hlt k (List.mem_reverse.mp hk)
theorem qd7_ {K : PySem.W.Frag} {l : Addr} {xs : List V} {ob : Nat -> HO} {b : Nat -> Bool} {k : Nat} {tt : TT} {te : TE} {cs : L2.St} {H1 : Hp} {D : Addr} {Q : Hp -> Prop} (h1 : SqL K H1 l xs) (hD : H1 D = none) (hk : k = cs.length) (hn : xs.length <= sizeLine)
  (ht : ∀ i u H (R : Bool -> Hp -> Prop),xs[i]? = some u -> Same H1 H -> (∀ H4,Same H H4 -> R (b i) H4) -> tt (cs ++ [some (.int (i : Nat)),some u]) H R)
  (he : ∀ i u H (R : V -> Hp -> Prop),xs[i]? = some u -> b i = true -> Same H1 H -> (∀ p H4,H p = none -> Same H H4 -> H4 p = some (ob i) -> R (.ref p) H4) -> te (cs ++ [some (.int (i : Nat)),some u]) H R)
  (hQ : ∀ ps H,Same H1 H -> H D = some (.lst (ps.map V.ref)) -> ObAt H ps ((List.range xs.length).filter b).length (fun j => ob (((List.range xs.length).filter b).getD j 0)) -> Q H) : q3_ (Ite K l xs) (gTup K 2 (jZ_ (qT_ k) (jZ_ (qT_ (k + 1)) gNil))) tt te (cs ++ [none,none]) H1 D Q := by
 refine ⟨fun i m ys σ H => m = xs.length - i /\ i <= xs.length /\ Same H1 H /\ (∃ ps : List Addr,ys = ps.map V.ref /\ ObAt H ps ((List.range i).filter b).length (fun j => ob (((List.range i).filter b).getD j 0)) /\ D ∉ ps) /\ H D = some (.lst ys) /\ ∃ o1 o2,σ = cs ++ [o1,o2],⟨xs.length,rfl,Nat.zero_le _,(Same.refl _).up hD,⟨[],rfl,⟨rfl,fun j p e => by simp at e⟩,List.not_mem_nil⟩,qd_,none,none,rfl⟩,?_⟩
 rintro i m ys σ H ⟨rfl,hi,sm,⟨ps,rfl,hr,hd'⟩,hd,o1,o2,rfl⟩
 refine ⟨hd,?_⟩
 by_cases hlt : i < xs.length
 ·refine .inr ⟨⟨sm.seq h1,hlt⟩,fun x H' y => ?_⟩
  obtain ⟨T,u,hT,rfl,hu,rfl⟩ := y
  refine ut_ hk hT fun H2 s2 => ?_
  refine ht i u H2 _ hu (sm.trans s2) fun H4 s4 => ?_
  have s24 := s2.trans s4
  have er : (List.range (i + 1)).filter b = (List.range i).filter b ++ (if b i = true then [i] else []) := by
   rw [List.range_succ,List.filter_append]
   congr 1
   by_cases z : b i = true
   ·rw [if_pos z,List.filter_cons_of_pos z,List.filter_nil]
   ·rw [if_neg z,List.filter_cons_of_neg z,List.filter_nil]
  have hle : ((List.range i).filter b).length <= i := by
   have := List.length_filter_le b (List.range i)
   rwa [List.length_range] at this
  by_cases z : b i = true
  ·rw [if_pos z]
   refine he i u H4 _ hu z (sm.trans s24) fun p H5 np s5 h5 => ?_
   have npD : p ≠ D := fun e => by rw [e,s24 _ _ hd] at np; cases np
   refine ⟨s5 _ _ (s24 _ _ hd),?_,xs.length - (i + 1),by omega,rfl,hlt,((sm.trans s24).trans s5).up hD,⟨ps ++ [p],by rw [List.map_append]; rfl,?_,?_⟩,qd_,_,_,rfl⟩
   ·rw [List.length_map,hr.len]
    omega
   ·rw [er,if_pos z]
    have e1 : ((List.range i).filter b ++ [i]).length = ((List.range i).filter b).length + 1 := by rw [List.length_append]; rfl
    rw [e1]
    have h6 := ((hr.same (s24.trans s5)).congr (ob' := fun j => ob (((List.range i).filter b ++ [i]).getD j 0)) fun j hj => by
     rw [List.getD_eq_getElem?_getD,List.getD_eq_getElem?_getD,List.getElem?_append_left hj]).snoc (p := p) (by
     rw [List.getD_eq_getElem?_getD,List.getElem?_append_right (Nat.le_refl _),Nat.sub_self]
     exact h5)
    refine h6.up fun e => ?_
    rcases List.mem_append.mp e with e | e
    ·exact hd' e
    ·exact npD (List.mem_singleton.mp e).symm
   ·intro e
    rcases List.mem_append.mp e with e | e
    ·exact hd' e
    ·exact npD (List.mem_singleton.mp e).symm
  ·rw [if_neg z]
   refine ⟨xs.length - (i + 1),by omega,rfl,hlt,sm.trans s24,⟨ps,rfl,?_,hd'⟩,s24 _ _ hd,_,_,rfl⟩
   rw [er,if_neg z,List.append_nil]
   exact hr.same s24
 ·have e : i = xs.length := by omega
  subst e
  exact .inl ⟨⟨sm.seq h1,Nat.le_refl _⟩,hQ ps H sm hd hr⟩
theorem qd8_ (ms : List Nat) : ((List.range ms.length).map fun i => V.int ((ms.getD i 0 : Nat) : Int)) = rowV ms := by
 unfold rowV
 apply List.ext_getElem?
 intro i
 rw [List.getElem?_map,List.getElem?_map]
 by_cases hi : i < ms.length
 ·rw [List.getElem?_range hi,List.getElem?_eq_getElem hi,Option.map_some,List.getD_eq_getElem?_getD,List.getElem?_eq_getElem hi]
  rfl
 ·rw [List.getElem?_eq_none (by rw [List.length_range]; omega),List.getElem?_eq_none (by omega)]
  rfl
theorem jN_ {f : Nat -> Bool} : ∀ rs : List Nat,(rs.filter fun k => !f k) = [] ↔ rs.all f = true := fun rs => by
 rw [List.filter_eq_nil_iff,List.all_eq_true]
 exact ⟨fun h k hk => by have := h k hk; simpa using this,fun h k hk => by rw [h k hk]; decide⟩
def qd9_ (K : PySem.W.Frag) : Sp := fun vs H Q _ => ∃ (AL SL so CL SE : Addr) (st rs as : List Nat) (cs : List (Option Nat)) (r w M N : Nat) (l : Nat -> Nat -> Nat) (ks : List Bool),vs = [.ref so,.ref SL,.ref CL,.ref SE,.ref AL] /\ GF.Full r w /\ Wts w M N l /\ AlAt H AL r w M N l /\ H SL = some (.lst (rowV st)) /\ st.length <= 8 /\ (∀ j,j < N + M -> st.contains j = ks.getD j false) /\ ks.length = N + M /\ SqL K H so (rowV rs) /\ rs.length <= 8 /\ (∀ k ∈ rs,k < N + M) /\ SqL K H CL (rowO cs) /\ cs.length = N + M /\ SqL K H SE (rowV as) ∧
 ∀ H' ms,Same H H' -> ms.Perm ((List.range (N + M)).filter (mayB cs as)) -> ms.Pairwise (klt (ckO cs)) -> (∀ D j,yS_ r w M N l ks rs ms j -> H D = none -> H' D = some (.lst (rowV (ms.take j))) -> Q (.ref D) H') /\ (vW_ r w M N l ks rs ms -> Q .non H')
theorem qgf_ (T : Txt K mg a) : FnO P wo K mg base 3 a.f57 ["_law_some_here", "_law_known", "_law_costs_here", "_law_seen", "_law_along_here"] (qd9_ K) := by
 refine T.x57.F.okA (k := 2) sc_detour (fun cdv A outer s H vs Q E hr h => ?_)
 ·obtain ⟨AL,SL,so,CL,SE,st,rs,as,cs,r,w,M,N,l,ks,rfl,g,W,hAL,hSL,hsl,hst,hks,hso,h8,hrs,hCL,hcl,hSE,q⟩ := h
  have n8 := W.n8
  refine ⟨_,(qb_ (jK_ (i := 5) sc_detour.nd rfl (Or.inl rfl) (CompOk.of (cap := [3]) (own := ["_law_role", "_law_cost"]) (by kernel_rfl)) rfl (vm_ rfl T.n_enumerate (qa_ (pv 2) qc_)) (fun _ _ _ _ _ => (vn_ (n := 2) (K := K) rfl rfl (qM_ (qm_ (i := 1) (of_decide_eq_true (by kernel_rfl)) rfl (Or.inl rfl)) (qM_ (qm_ (i := 2) (of_decide_eq_true (by kernel_rfl)) rfl (Or.inl rfl)) jw_)))) (fun _ _ _ _ _ => (jW_ (PW.pt (qar_ (qp_ jx_ (pv 2) qK_ (qr_ _)) (uo_ (qp_ (zN_ (K := K) rfl) (pv 1) (pv 0) rfl)))))) (fun _ _ _ _ _ => by exact (j1_ (qa_ (pv 2) (qa_ (pv 1) qc_)))))
   (qb_ (jK_ (i := 6) sc_detour.nd rfl (Or.inl rfl) (CompOk.of (cap := []) (own := ["_law_pair"]) (by kernel_rfl)) rfl (qH_ (qw_ (qa8_ rfl hr.in1.in1.units) rfl T.n_sorted PyProof.Rows.Boot.sorted (qa_ (pv 5) qc_))) (fun _ _ _ _ _ => (qm_ (i := 0) (of_decide_eq_true (by kernel_rfl)) rfl (Or.inl rfl))) (fun _ _ _ _ _ => qY_) (fun _ _ _ _ _ => by exact (qx_ (qiy_ (K := K) rfl) (pv 0) qg_ (fun _ _ => rfl))))
   (qb_ (qD_ PassesOwn.never rfl (qF_ rfl T.n_range (qa_ (qk_ qO_ (qw_ qu_ rfl T.n_len PySem.boot_len (qa_ (pv 6) qc_)) qg_) qc_)) (qm_ (i := 7) sc_detour.nd rfl (Or.inl rfl)) (qf_ (qz_ (qp_ (zW_ hr.units) (qt_ (zB_ T) hr.u rfl T.x55.m T.x55.k T.x55.b .nil qn_ (qa_ (pv 4) (qa_ (qk_ zR_ (pv 1) (yG_ zg_ (pv 6) ze_ (zf_ (pv 7)))) (qa_ (pv 0) qc_)))) (qI_ qc_) (qr_ _)) (qf_ (qo_ (yG_ zg_ (pv 6) ze_ (zf_ (pv 7))))) qv_)))
   (qf_ (qo_ qK_))))),?_⟩
  refine ⟨_,rfl,CL,_,rfl,hCL,fun D nD => ?_⟩
  refine qd7_ (xs := rowO cs) (ob := fun i => keyV (ckO cs i) i) (b := mayB cs as) (cs := [some (.ref SE)]) hCL nD rfl (by rw [qP_,hcl]; exact Nat.le_trans n8 (by decide)) (fun i u Hx Rx hu sx hR => ?_) (fun i u Hx Rx hu hb sx hR => ?_) (fun ps H1 s1 hD hps => ?_)
  ·have hi : i < N + M := by
    have := (List.getElem?_eq_some_iff.mp hu).1
    rw [qP_,hcl] at this
    exact this
   cases Option.some.inj (hu.symm.trans (qU_ (jq_ (os := cs) (k := i) (by rw [hcl]; exact hi))))
   refine ⟨_,rfl,rfl,_,rfl,?_⟩
   rw [ye_]
   unfold mayB at hR
   cases hz : (cs.getD i none).isSome with
   | false =>
    rw [hz] at hR
    exact ite2 (fun y => absurd y (by decide)) (fun _ => hR _ (Same.refl _))
   | true =>
    rw [hz] at hR
    refine ite2 (fun _ => ⟨_,rfl,_,rfl,SE,_,rfl,.inl (sx.seq hSE),rfl,jC_ as,_,rfl,?_⟩) (fun y => absurd rfl y)
    rw [jR_]
    exact hR _ (Same.refl _)
  ·have hi : i < N + M := by
    have := (List.getElem?_eq_some_iff.mp hu).1
    rw [qP_,hcl] at this
    exact this
   cases Option.some.inj (hu.symm.trans (qU_ (jq_ (os := cs) (k := i) (by rw [hcl]; exact hi))))
   have ev : valO (cs.getD i none) = .int (ckO cs i) := by
    unfold mayB at hb
    unfold ckO
    cases hz : cs.getD i none with
    | none => rw [hz] at hb; cases hb
    | some b => rfl
   rw [ev]
   exact ⟨_,rfl,_,rfl,(show 2 <= sizeLine by decide),fun p np => hR p _ np (Same.new np) qd_⟩
  rw [qP_,hcl] at hps
  have fl := List.length_filter_le (mayB cs as) (List.range (N + M))
  rw [List.length_range] at fl
  refine ⟨_,rfl,D,ps,(List.range (N + M)).filter (mayB cs as),ckO cs,8,rfl,SqL.of hD,⟨hps.len,fun i t e => hps.on i t e⟩,List.Pairwise.filter _ List.nodup_range,fun k hk => ?_,by omega,fun L ts ms nL ⟨htl,hts⟩ pm pw => ?_⟩
  ·have := List.mem_range.mp (List.mem_filter.mp hk).1
   omega
  have ml : ms.length <= 8 := by rw [pm.length_eq]; omega
  have sL := Same.new (o := .lst (ts.map V.ref)) nL
  have hL := qd_ (H := H1) (a := L) (o := .lst (ts.map V.ref))
  have hts := fun i t e => sL _ _ (hts i t e)
  generalize (upd H1 L (.lst (ts.map V.ref))) = H2 at sL hL hts
  refine ⟨L,rfl,⟨_,SqL.of hL⟩,fun D2 nD2 => ?_⟩
  refine jn_ (xs := ts.map V.ref) (f := fun i => .int ((ms.getD i 0 : Nat) : Int)) (cs := []) (SqL.of hL) nD2 rfl (by rw [List.length_map,htl]; exact Nat.le_trans ml (by decide)) (fun i u Hx Rx hu sx hR => ?_) (fun H3 s3 hD2 => ?_)
  ·rw [List.getElem?_map] at hu
   cases et : ts[i]? with
   | none => rw [et] at hu; cases hu
   | some t =>
    rw [et] at hu
    cases Option.some.inj hu
    have := sx _ _ (hts i t et)
    unfold keyV at this
    exact ⟨_,rfl,t,_,_,_,rfl,rfl,SqT.of this,qq_ (j := 1) rfl,hR _ (Same.refl _)⟩
  have hD2 : H3 D2 = some (.lst (rowV ms)) := by
   rw [hD2,List.length_map,htl]
   exact congrArg (fun z => some (HO.lst z)) (qd8_ ms)
  have q := fun H' (s : Same H3 H') => q H' ms (((s1.trans sL).trans s3).trans s) pm pw
  have s13 := (s1.trans sL).trans s3
  clear hD nD hts hL
  have e1 : ((((rowV ms).length : Nat) : Int) + 1).toNat = ms.length + 1 := by rw [qi_]; omega
  refine ⟨_,rfl,D2,_,rfl,.inl (SqL.of hD2),_,_,rfl,rfl,_,rfl,by rw [qi_]; omega,by rw [qi_]; omega,?_⟩
  rw [e1]
  refine qQ_ (lo := 0) (n := ms.length + 1) (fun i σ H' => (∃ v7 : Option V,σ = [some (.ref so),some (.ref SL),some (.ref CL),some (.ref SE),some (.ref AL),some (.ref D),some (.ref D2),v7]) /\ Same H3 H' /\ ∀ i',i' < i -> rs.all (fx r w M N l (knW ks (ms.take i'))) = false) ⟨⟨none,rfl⟩,Same.refl _,fun i' hi' => absurd hi' (Nat.not_lt_zero i')⟩ ?_ ?_
  ·rintro i σ H' hi ⟨⟨v7,rfl⟩,sm,hno⟩
   have s4 := s13.trans sm
   have ei : (0 : Int) + (i : Nat) = ((i : Nat) : Int) := by omega
   rw [ei]
   refine ⟨_,rfl,_,rfl,_,rfl,_,rfl,_,rfl,D2,_,rfl,SqL.of (sm _ _ hD2),fun p5 n5 => ?_⟩
   rw [uF_]
   have s5 := Same.new (o := .lst ((rowV ms).take i)) n5
   have h5 := qd_ (H := H') (a := p5) (o := .lst ((rowV ms).take i))
   have et : (rowV ms).take i = rowV (ms.take i) := by unfold rowV; rw [List.map_take]
   generalize (upd H' p5 (.lst ((rowV ms).take i))) = H5 at s5 h5
   rw [et] at h5
   have s45 := s4.trans s5
   refine ⟨SL,p5,_,_,rfl,rfl,s45 _ _ hSL,h5,?_,fun p6 n6 => ?_⟩
   ·rw [qi_,qi_,List.length_take]
    exact Nat.le_trans (by omega : st.length + min i ms.length <= 16) (by decide)
   have s6 := Same.new (o := .lst (rowV st ++ rowV (ms.take i))) n6
   have h6 := qd_ (H := H5) (a := p6) (o := .lst (rowV st ++ rowV (ms.take i)))
   generalize (upd H5 p6 (.lst (rowV st ++ rowV (ms.take i)))) = H6 at s6 h6
   rw [y7_] at h6
   have s46 := s45.trans s6
   refine ⟨_,rfl,AL,p6,so,st ++ ms.take i,rs,r,w,M,N,l,knW ks (ms.take i),rfl,g,W,hAL.same s46,SqL.of h6,fun j hj => ?_,s46.seq hso,h8,hrs,fun U H7 s7 nU hU => ?_⟩
   ·rw [qhy_ _ _ (by rw [hks]; exact hj),← hst j hj]
    rw [Bool.eq_iff_iff]
    simp
   refine ⟨by decide,fun e0 ne0 => ?_⟩
   have s0 := Same.new (o := .lst []) ne0
   refine ⟨_,_,jh_ (s0 _ _ hU),(by rw [Sees]; exact ⟨e0,_,rfl,SqL.of qd_,by rw [SeesL]⟩ : Sees _ _ (.ref e0) (.lst [])),rfl,rfl,⟨_,rfl⟩,jV_ _,_,rfl,?_⟩
   generalize (upd H7 e0 (.lst [])) = H8 at s0
   have s58 := s6.trans (s7.trans s0)
   have s8 := sm.trans (s5.trans s58)
   cases hz : rs.all (fx r w M N l (knW ks (ms.take i))) with
   | true =>
    rw [(jN_ rs).mpr hz]
    refine ite2 (fun _ => ?_) (fun y => absurd rfl y)
    refine ⟨_,rfl,_,rfl,_,rfl,D2,_,rfl,SqL.of (s8 _ _ hD2),fun p9 n9 => ?_⟩
    rw [uF_,et]
    refine (q _ (s8.up ?_)).1 p9 i ⟨by omega,hz,hno⟩ ?_ qd_
    ·exact s8.free n9
    ·exact (s13.trans s8).free n9
   | false =>
    cases hf : rs.filter fun k => !fx r w M N l (knW ks (ms.take i)) k with
    | nil => rw [(jN_ rs).mp hf] at hz; cases hz
    | cons y ys =>
     rw [y8_]
     refine ite2 (fun y => absurd y (by decide)) (fun _ => ⟨⟨_,rfl⟩,s8,fun i' hi' => ?_⟩)
     by_cases z : i' = i
     ·rw [z]; exact hz
     ·exact hno i' (by omega)
  ·rintro σ H' ⟨⟨v7,rfl⟩,sm,hno⟩
   exact (q H' sm).2 fun i hi => hno i (by omega)
structure Lw (H0 : Hp) (SL CL SE AL : Addr) (r w M N : Nat) (l : Nat -> Nat -> Nat) (cs os : List (Option Nat)) (as st : List Nat) : Prop where
 al : AlAt H0 AL r w M N l
 kn : H0 SL = some (.lst (rowV st))
 stl : st.length <= 8
 stk : ∀ j,j < N + M -> st.contains j = (knO os).getD j false
 co : H0 CL = some (.lst (rowO cs))
 se : H0 SE = some (.lst (rowV as))
theorem qgg_ (cs : List (Option Nat)) (as ls : List Nat) : ∃ x : Option Int,yR_ cs as ls = oiV x := by
 unfold yR_
 by_cases h : ls.all (mayB cs as) = true
 ·rw [if_pos h]; exact ⟨some _,rfl⟩
 ·rw [if_neg h]; exact ⟨none,rfl⟩
theorem qh7_ {ck : Nat -> Int} {m n : Nat} (h1 : klt ck m n) (h2 : klt ck n m) : m = n := by
 unfold klt at h1 h2
 omega
theorem vh_ {ck : Nat -> Int} {f : Nat -> Bool} {R : Nat} {ms ms' : List Nat} (p1 : ms.Perm ((List.range R).filter f)) (w1 : ms.Pairwise (klt ck)) (p2 : ms'.Perm ((List.range R).filter f)) (w2 : ms'.Pairwise (klt ck)) : ms' = ms := List.Perm.eq_of_pairwise (le := klt ck) (fun _ _ _ _ h1 h2 => qh7_ h1 h2) w2 w1 (p2.trans p1.symm)
theorem ul_ {r w M N j j' : Nat} {l : Nat -> Nat -> Nat} {ks : List Bool} {rs ms : List Nat} (h : yS_ r w M N l ks rs ms j) (h' : yS_ r w M N l ks rs ms j') : j' = j := by
 rcases Nat.lt_trichotomy j j' with z | z | z
 ·have := h'.2.2 j z; rw [h.2.1] at this; cases this
 ·exact z.symm
 ·have := h.2.2 j' z; rw [h'.2.1] at this; cases this
theorem zC_ {r w M N j : Nat} {l : Nat -> Nat -> Nat} {ks : List Bool} {rs ms : List Nat} (h : yS_ r w M N l ks rs ms j) (h' : vW_ r w M N l ks rs ms) : False := by
 have := h' j h.1; rw [h.2.1] at this; cases this
theorem qea_ {f : Nat -> Bool} (rs : List Nat) : eqD (dRow (rs.filter fun k => !f k)) (.lst []) = rs.all f := by
 cases hz : rs.all f with
 | true => rw [(jN_ rs).mpr hz]; rfl
 | false =>
  cases hf : rs.filter fun k => !f k with
  | nil => rw [(jN_ rs).mp hf] at hz; cases hz
  | cons y ys => rw [y8_]
def qh8_ (a : Adr) : Sp := fun vs H Q _ => ∃ (H0 : Hp) (R : AskR) (so SL CL SE AL : Addr) (r w n M N : Nat) (l : Nat -> Nat -> Nat) (cs srow os : List (Option Nat)) (as st rs : List Nat),vs = [.ref R.A,.ref so,.ref SL,.ref CL,.ref SE,.ref AL] /\ AskI a H0 R r w n M N l cs srow /\ AskM a H0 H R (N + M) os as /\ Lw H0 SL CL SE AL r w M N l cs os as st /\ H0 so = some (.lst (rowV rs)) /\ rs.length <= 8 /\ (∀ k ∈ rs,k < N + M) /\ (∀ k,(cs.getD k none).getD 0 <= 1000000) /\ ∀ H',AskM a H0 H' R (N + M) os as -> Q (.bl true) H'
theorem qjz_ (T : Txt K mg a) (B : Tb base mg a) : FnO P wo K mg base 12 a.f59 ["_law_asking", "_law_some_here", "_law_known", "_law_costs_here", "_law_seen", "_law_along_here"] (qh8_ a) := by
 refine T.x59.F.okA (k := 11) sc_told (fun cdv A outer s H vs Q E hr h => ?_)
 ·obtain ⟨H0,R,so,SL,CL,SE,AL,r,w,n,M,N,l,cs,srow,os,as,st,rs,rfl,I,J,L,hso,h8,hrs,hc6,q⟩ := h
  obtain ⟨dx,hA⟩ := I.obj
  refine ⟨_,(qb_ (qj_ (i := 6) sc_told.nd rfl (Or.inl rfl) (qB_ (pv 0) T.cl_Asking T.x33.me (uf_ T) hr.u T.x33.b .nil qn_ (qa_ (jf_ q0_ rfl T.n_list (by decide +kernel) (qa_ (pv 1) qc_)) qc_)))
   (qb_ (qz_ (PW.pt (jv_ (jk_ (qZ_ (qw_ yL_ rfl T.n_isinstance boot_isinstance (qa_ (pv 6) (qa_ (za_ (v := .ty "bool") rfl T.n_bool (by decide +kernel) rfl) qc_))))) (jp_ (qp_ zq_ (pv 6) (q2_ (zW_ hr.units) (qt_ (zB_ T) hr.u rfl T.x55.m T.x55.k T.x55.b .nil qn_ (qa_ (pv 5) (qa_ (pv 2) (qa_ (pv 1) qc_)))) (qI_ qc_) (qr_ _)) (qr_ _))))) (qf_ (qo_ jI_)) qv_)
   (qb_ (qz_ (jk_ (qZ_ (qt_ (uG_ T) hr.u rfl T.x58.m T.x58.k T.x58.b .nil qn_ (qa_ (qB_ (pv 0) T.cl_Asking T.x39.me (uh_ T) hr.u T.x39.b .nil qn_ (qa_ (jf_ q0_ rfl T.n_list (by decide +kernel) (qa_ (pv 1) qc_)) qc_)) (qa_ (qt_ (qh4_ T) hr.u rfl T.x56.m T.x56.k T.x56.b .nil qn_ (qa_ (pv 1) (qa_ (pv 2) (qa_ (pv 3) (qa_ (pv 4) (qa_ (pv 5) qc_)))))) qc_))))) (qf_ (qo_ jI_)) qv_)
   (qb_ (qj_ (i := 7) sc_told.nd rfl (Or.inl rfl) (qB_ (pv 0) T.cl_Asking T.x36.me (yT_ T B) hr.u T.x36.b .nil qn_ (qa_ (jf_ q0_ rfl T.n_list (by decide +kernel) (qa_ (pv 1) qc_)) qc_)))
   (qb_ (qj_ (i := 8) sc_told.nd rfl (Or.inl rfl) (qt_ (qgf_ T) hr.u rfl T.x57.m T.x57.k T.x57.b .nil qn_ (qa_ (pv 1) (qa_ (pv 2) (qa_ (pv 3) (qa_ (pv 4) (qa_ (pv 5) qc_)))))))
   (qb_ (qz_ (qp_ yi_ (pv 8) qK_ (qr_ _)) (qf_ (qo_ (q2_ yi_ (pv 7) qK_ (qr_ _)))) qv_)
   (qb_ (qz_ (PW.pt (jv_ (jk_ (qZ_ (qw_ yL_ rfl T.n_isinstance boot_isinstance (qa_ (pv 7) (qa_ (za_ (v := .ty "list") rfl T.n_list (by decide +kernel) rfl) qc_))))) (jp_ (qp_ (qez_ hr.units) (pv 7) (pv 8) (qr_ _))))) (qf_ (qo_ jI_)) qv_)
   (qb_ (qN_ (yI_ PySem.F.plainAttrs_list PySem.F.slot_list_clear PySem.F.type_list_clear qgs_ (pv 7)))
   (qf_ (qo_ (q2_ (zW_ hr.units) (qB_ (pv 0) T.cl_Asking T.x36.me (yT_ T B) hr.u T.x36.b .nil qn_ (qa_ (jf_ q0_ rfl T.n_list (by decide +kernel) (qa_ (pv 1) qc_)) qc_)) (pv 8) (qr_ _)))))))))))),?_⟩
  refine ⟨_,rfl,R.A,dx,_,rfl,J.sm _ _ hA,rfl,_,rfl,so,_,rfl,.inl (SqL.of (J.sm _ _ hso)),fun p1 n1 => ?_⟩
  have s1 := Same.new (o := .lst (rowV rs)) n1
  have h1 := qd_ (H := H) (a := p1) (o := .lst (rowV rs))
  generalize (upd H p1 (.lst (rowV rs))) = H1 at s1 h1
  refine ⟨H0,R,p1,r,w,n,M,N,l,cs,srow,os,as,rs,rfl,I,J.same s1,SqL.of h1,hrs,fun H2 s2 => ?_⟩
  have J2 := (J.same s1).same s2
  refine ⟨_,rfl,_,_,_,_,rfl,.bl _,zt_ _ _,_,rfl,?_⟩
  refine ite2 (fun y => absurd y (by decide)) (fun _ => ?_)
  refine ⟨_,rfl,_,rfl,_,rfl,_,rfl,AL,SL,so,st,rs,r,w,M,N,l,knO os,rfl,I.full,I.W,L.al.same J2.sm,SqL.of (J2.sm _ _ L.kn),L.stk,SqL.of (J2.sm _ _ hso),h8,hrs,fun U H3 s3 nU hU => ?_⟩
  refine ⟨by decide,fun e0 ne0 => ?_⟩
  have s4 := Same.new (o := .lst []) ne0
  refine ⟨_,_,jh_ (s4 _ _ hU),(by rw [Sees]; exact ⟨e0,_,rfl,SqL.of qd_,by rw [SeesL]⟩ : Sees _ _ (.ref e0) (.lst [])),rfl,rfl,⟨_,rfl⟩,jV_ _,rfl,_,rfl,?_⟩
  generalize (upd H3 e0 (.lst [])) = H4 at s4
  have J4 := J2.same (s3.trans s4)
  rw [if_neg (by decide : ¬ (false = true)),qea_,decide_eq_true rfl]
  refine ite2 (fun y => absurd y (by decide)) (fun _ => ?_)
  refine ⟨_,rfl,R.A,dx,_,rfl,J4.sm _ _ hA,rfl,_,rfl,so,_,rfl,.inl (SqL.of (J4.sm _ _ hso)),fun p5 n5 => ?_⟩
  have s5 := Same.new (o := .lst (rowV rs)) n5
  have h5 := qd_ (H := H4) (a := p5) (o := .lst (rowV rs))
  generalize (upd H4 p5 (.lst (rowV rs))) = H5 at s5 h5
  refine ⟨H0,R,p5,r,w,n,M,N,l,cs,srow,os,as,rs,rfl,I,J4.same s5,SqL.of h5,h8,hrs,hc6,fun H6 s6 => ?_⟩
  have J6 := (J4.same s5).same s6
  refine ⟨_,rfl,_,rfl,_,rfl,_,rfl,_,rfl,AL,SL,so,CL,SE,st,rs,as,cs,r,w,M,N,l,knO os,rfl,I.full,I.W,L.al.same J6.sm,SqL.of (J6.sm _ _ L.kn),L.stk,SqL.of (J6.sm _ _ hso),h8,hrs,SqL.of (J6.sm _ _ L.co),I.csl,SqL.of (J6.sm _ _ L.se),fun H7 s7 => ?_⟩
  have J7 := J6.same s7
  obtain ⟨x,ex⟩ := qgg_ cs as (rs.filter fun k => !fx r w M N l (knO os) k)
  refine ⟨x,x,by rw [ex]; rfl,?_⟩
  rw [decide_eq_true rfl]
  refine ⟨_,rfl,?_⟩
  refine ite2 (fun y => absurd y (by decide)) (fun _ => ?_)
  refine ⟨_,rfl,R.A,dx,_,rfl,J7.sm _ _ hA,rfl,_,rfl,so,_,rfl,.inl (SqL.of (J7.sm _ _ hso)),fun p8 n8 => ?_⟩
  have s8 := Same.new (o := .lst (rowV rs)) n8
  have h8' := qd_ (H := H7) (a := p8) (o := .lst (rowV rs))
  generalize (upd H7 p8 (.lst (rowV rs))) = H8 at s8 h8'
  have J8 := J7.same s8
  refine ⟨H0,R,p8,r,w,n,M,N,l,cs,srow,os,as,rs,rfl,I,J8,h8',hrs,fun H9 ms J9 k9 pm pw => ⟨fun D j hd nD hD => ?_,fun hno => ?_⟩⟩
  ·refine ⟨_,rfl,_,rfl,_,rfl,_,rfl,_,rfl,AL,SL,so,CL,SE,st,rs,as,cs,r,w,M,N,l,knO os,rfl,I.full,I.W,L.al.same J9.sm,J9.sm _ _ L.kn,L.stl,L.stk,by rw [jr_,J.osl],SqL.of (J9.sm _ _ hso),h8,hrs,SqL.of (J9.sm _ _ L.co),I.csl,SqL.of (J9.sm _ _ L.se),fun H10 ms' s10 pm' pw' => ?_⟩
   cases vh_ pm pw pm' pw'
   refine ⟨fun D' j' hd' nD' hD' => ?_,fun hno' => (zC_ hd hno').elim⟩
   cases ul_ hd hd'
   have J10 := J9.same s10
   have hD10 := s10 _ _ hD
   try dsimp only [L2.start,List.set,List.map,List.append,List.replicate,HAppend.hAppend,Append.append,List.length,Nat.reduceAdd,Nat.reduceSub]
   refine ⟨_,rfl,rfl,_,rfl,ite2 (fun y => absurd (of_decide_eq_true y) (fun z => by cases z)) (fun _ => ?_)⟩
   refine ⟨_,rfl,_,_,_,_,rfl,.lst hD10,zt_ _ _,_,rfl,ite2 (fun y => absurd y (by decide)) (fun _ => ?_)⟩
   refine ⟨_,rfl,_,rfl,_,_,jh_ hD10,jh_ hD',rfl,rfl,⟨_,rfl⟩,jV_ _,_,rfl,?_⟩
   rw [if_pos rfl,jU_]
   refine ite2 (fun y => absurd y (by decide)) (fun _ => ?_)
   have dDD : D ≠ D' := ql_ hD nD'
   refine ⟨_,rfl,.inl ⟨rfl,_,SqL.of hD10⟩,D,_,rfl,rfl,hD10,?_⟩
   have hD'2 : (upd H10 D (.lst [])) D' = some (.lst (rowV (ms.take j))) := by rw [qe_ (Ne.symm dDD)]; exact hD'
   have J11 := J10.up (o := .lst []) (J8.sm.free nD) hD10 (ql_ J8.hr nD) (ql_ J8.hs nD) (ql_ J8.hz nD)
   generalize (upd H10 D (.lst [])) = H11 at hD'2 J11
   refine ⟨_,rfl,R.A,dx,_,rfl,J11.sm _ _ hA,rfl,_,rfl,so,_,rfl,.inl (SqL.of (J11.sm _ _ hso)),fun p12 n12 => ?_⟩
   have s12 := Same.new (o := .lst (rowV rs)) n12
   have h12 := qd_ (H := H11) (a := p12) (o := .lst (rowV rs))
   generalize (upd H11 p12 (.lst (rowV rs))) = H12 at s12 h12
   have J12 := J11.same s12
   refine ⟨H0,R,p12,r,w,n,M,N,l,cs,srow,os,as,rs,rfl,I,J12,h12,hrs,fun H13 ms2 J13 k13 pm2 pw2 => ?_⟩
   cases vh_ pm pw pm2 pw2
   refine ⟨fun D2 j2 hd2 nD2 hD2 => ?_,fun hno2 => (zC_ hd hno2).elim⟩
   cases ul_ hd hd2
   have ht : D' ≠ a.t35 := by
    obtain ⟨ps,hp,_⟩ := J12.tab
    exact yu_ (s12 _ _ hD'2) hp (fun y => by cases y)
   refine ⟨_,rfl,_,_,jh_ hD2,jh_ (k13 _ _ ht (s12 _ _ hD'2)),rfl,rfl,⟨_,rfl⟩,jV_ _,?_⟩
   rw [if_neg (by decide : ¬ (false = true)),jU_]
   exact q _ J13
  ·refine ⟨_,rfl,_,rfl,_,rfl,_,rfl,_,rfl,AL,SL,so,CL,SE,st,rs,as,cs,r,w,M,N,l,knO os,rfl,I.full,I.W,L.al.same J9.sm,J9.sm _ _ L.kn,L.stl,L.stk,by rw [jr_,J.osl],SqL.of (J9.sm _ _ hso),h8,hrs,SqL.of (J9.sm _ _ L.co),I.csl,SqL.of (J9.sm _ _ L.se),fun H10 ms' s10 pm' pw' => ?_⟩
   cases vh_ pm pw pm' pw'
   refine ⟨fun D' j' hd' nD' hD' => (zC_ hd' hno).elim,fun hno' => ?_⟩
   refine ⟨_,rfl,rfl,_,rfl,ite2 (fun _ => ⟨_,rfl,rfl,?_⟩) (fun y => absurd (decide_eq_true rfl) y)⟩
   exact q _ (J9.same s10)
theorem qll_ {F G : Prop} (h : F -> G) (key : F) : G := h key
def qgh_ (a : Adr) : Sp := fun vs H Q _ => ∃ (H0 : Hp) (R : AskR) (ML SL CL SE AL : Addr) (r w n M N : Nat) (l : Nat -> Nat -> Nat) (cs srow os : List (Option Nat)) (as st X : List Nat),vs = [.ref R.A,.ref ML,.ref SL,.ref CL,.ref SE,.ref AL] /\ AskI a H0 R r w n M N l cs srow /\ AskM a H0 H R (N + M) os as /\ Lw H0 SL CL SE AL r w M N l cs os as st /\ H0 ML = some (.lst (rowV X)) /\ X.length = N + M /\ (∀ b ∈ X,b < (2 ^ w) ^ n) /\ isMk r w n M N l X = true /\ zy_ (N + M) os X /\ ∀ H',AskM a H0 H' R (N + M) os as -> Q (.bl true) H'
theorem qbr_ (T : Txt K mg a) : FnO P wo K mg base 10 a.f60 ["_law_asking", "_law_make_here", "_law_known", "_law_costs_here", "_law_seen", "_law_along_here"] (qgh_ a) := by
 refine T.x60.F.okA (k := 9) sc_roles (fun cdv A outer s H vs Q E hr h => ?_)
 ·obtain ⟨H0,R,ML,SL,CL,SE,AL,r,w,n,M,N,l,cs,srow,os,as,st,X,rfl,I,J,L,hML,hXl,hX,hmk,hag,q⟩ := h
  obtain ⟨dx,hA⟩ := I.obj
  have n8 := I.W.n8
  refine ⟨_,(qb_ (qD_ PassesOwn.never rfl (qF_ rfl T.n_range (qa_ (qw_ qu_ rfl T.n_len PySem.boot_len (qa_ (pv 1) qc_)) qc_)) (qm_ (i := 6) sc_roles.nd rfl (Or.inl rfl)) (qb_ (qj_ (i := 7) sc_roles.nd rfl (Or.inl rfl) (qB_ (pv 0) T.cl_Asking T.x30.me (jT_ T) hr.u T.x30.b .nil qn_ (qa_ (pv 6) qc_)))
   (qb_ (qz_ (PW.pt (jv_ (jk_ (qZ_ (qw_ yL_ rfl T.n_isinstance boot_isinstance (qa_ (pv 7) (qa_ (za_ (v := .ty "bool") rfl T.n_bool (by decide +kernel) rfl) qc_))))) (jp_ (qp_ zq_ (pv 7) (zO_ (q2_ jx_ (qx_ qy_ (pv 3) (pv 6) (fun _ _ => rfl)) qK_ (qr_ _)) (yB_ (q2_ j2_ (pv 6) (pv 4) rfl))) (qr_ _))))) (qf_ (qo_ jI_)) qv_)
   (qb_ (qj_ (i := 8) sc_roles.nd rfl (Or.inl rfl) qK_)
   (qb_ (qz_ (qZ_ (qt_ (qbq_ T) hr.u rfl T.x54.m T.x54.k T.x54.b .nil qn_ (qa_ (pv 5) (qa_ (pv 2) (qa_ (pv 6) qc_))))) (qf_ (qj_ (i := 8) sc_roles.nd rfl (Or.inl rfl) (qx_ qy_ (pv 1) (pv 6) (fun _ _ => rfl)))) qv_)
   (qf_ (qz_ (jk_ (qZ_ (qt_ (uG_ T) hr.u rfl T.x58.m T.x58.k T.x58.b .nil qn_ (qa_ (qB_ (pv 0) T.cl_Asking T.x37.me (vf_ T) hr.u T.x37.b .nil qn_ (qa_ (pv 6) qc_)) (qa_ (pv 8) qc_))))) (qf_ (qo_ jI_)) qv_)))))))
   (qf_ (qo_ (q2_ (zW_ hr.units) (qA_ (pv 0) rfl) (pv 4) (qr_ _))))),?_⟩
  have e1 : (((rowV X).length : Nat) : Int).toNat = N + M := by rw [qi_,hXl]; omega
  refine ⟨_,rfl,ML,_,rfl,.inl (SqL.of (J.sm _ _ hML)),_,rfl,by rw [qi_]; omega,by rw [qi_]; omega,?_⟩
  rw [e1]
  refine qQ_ (lo := 0) (n := N + M) (fun i σ H' => (∃ v6 v7 v8 : Option V,σ = [some (.ref R.A),some (.ref ML),some (.ref SL),some (.ref CL),some (.ref SE),some (.ref AL),v6,v7,v8]) /\ AskM a H0 H' R (N + M) os as) ⟨⟨none,none,none,rfl⟩,J⟩ ?_ ?_
  ·rintro i σ H' hi ⟨⟨v6,v7,v8,rfl⟩,J1⟩
   have ei : (0 : Int) + (i : Nat) = ((i : Nat) : Int) := by omega
   rw [ei]
   refine ⟨_,rfl,R.A,dx,_,rfl,J1.sm _ _ hA,rfl,_,rfl,H0,R,r,w,n,M,N,i,l,cs,srow,os,as,rfl,I,J1,hi,?_⟩
   refine ⟨_,rfl,_,_,_,_,rfl,.bl _,zt_ _ _,_,rfl,ite2 (fun y => absurd y (by decide)) (fun _ => ?_)⟩
   have gi := qq_ (qU_ (jq_ (os := cs) (k := i) (by rw [I.csl]; exact hi)))
   refine ⟨_,rfl,_,rfl,_,rfl,CL,_,_,_,rfl,rfl,SqL.of (J1.sm _ _ L.co),gi,rfl,_,rfl,?_⟩
   rw [ye_]
   generalize hm : mayB cs as i = m
   unfold mayB at hm
   try dsimp only [L2.start,List.set,List.map,List.append,List.replicate,HAppend.hAppend,Append.append,List.length,Nat.reduceAdd,Nat.reduceSub]
   refine qll_ (fun key => by
    cases hz : (cs.getD i none).isSome with
    | false =>
     rw [hz,Bool.false_and] at hm
     refine ite2 (fun y => absurd y (by decide)) (fun _ => ⟨rfl,_,rfl,ite2 (fun y => ?_) (fun _ => key)⟩)
     rw [<- hm,decide_eq_true rfl] at y
     cases y
    | true =>
     rw [hz,Bool.true_and] at hm
     refine ite2 (fun _ => ⟨_,rfl,_,rfl,SE,_,rfl,.inl (SqL.of (J1.sm _ _ L.se)),rfl,jC_ as,?_⟩) (fun y => absurd rfl y)
     rw [jR_]
     refine ⟨rfl,_,rfl,ite2 (fun y => ?_) (fun _ => key)⟩
     have y := (Bool.not_eq_true' _).mp y
     exact absurd (by rw [<- hm]; rfl) (of_decide_eq_false y)) ?_
   refine ⟨_,rfl,_,rfl,_,rfl,AL,SL,st,r,w,M,N,i,l,knO os,rfl,I.full,I.W,L.al.same J1.sm,SqL.of (J1.sm _ _ L.kn),L.stk,hi,fun H2 s2 => ⟨_,rfl,?_⟩⟩
   have J2 := J1.same s2
   cases hf : fx r w M N l (knO os) i with
   | true =>
    refine ite2 (fun _ => ?_) (fun y => absurd rfl y)
    refine ⟨_,rfl,_,rfl,ML,_,_,_,rfl,rfl,SqL.of (J2.sm _ _ hML),qq_ (qW_ (row := X) (i := i) (by rw [hXl]; exact hi)),?_⟩
    refine ⟨_,rfl,R.A,dx,_,rfl,J2.sm _ _ hA,rfl,_,rfl,H0,R,r,w,n,M,N,i,l,cs,srow,os,as,X,rfl,I,J2,hi,hXl,hX,hmk,hag,fun H3 s3 => ?_⟩
    rw [if_pos hf]
    refine ⟨_,rfl,some ((X.getD i 0 : Nat) : Int),some ((X.getD i 0 : Nat) : Int),rfl,?_⟩
    rw [decide_eq_true rfl]
    exact ⟨_,rfl,ite2 (fun y => absurd y (by decide)) (fun _ => ⟨⟨_,_,_,rfl⟩,J2.same s3⟩)⟩
   | false =>
    refine ite2 (fun y => absurd y (by decide)) (fun _ => ?_)
    refine ⟨_,rfl,R.A,dx,_,rfl,J2.sm _ _ hA,rfl,_,rfl,H0,R,r,w,n,M,N,i,l,cs,srow,os,as,X,rfl,I,J2,hi,hXl,hX,hmk,hag,fun H3 s3 => ?_⟩
    rw [if_neg (by rw [hf]; decide)]
    refine ⟨_,rfl,none,none,rfl,?_⟩
    rw [decide_eq_true rfl]
    exact ⟨_,rfl,ite2 (fun y => absurd y (by decide)) (fun _ => ⟨⟨_,_,_,rfl⟩,J2.same s3⟩)⟩
  ·rintro σ H' ⟨⟨v6,v7,v8,rfl⟩,J1⟩
   refine ⟨_,rfl,R.A,_,_,_,_,rfl,J1.sm _ _ hA,T.cl_Asking,T.no_Asking_asked,vU_ _ _ _ _ _,_,rfl,_,_,jh_ J1.hs,jh_ (J1.sm _ _ L.se),rfl,rfl,⟨_,rfl⟩,jV_ _,?_⟩
   rw [if_neg (by decide : ¬ (false = true)),jU_]
   exact q _ J1
theorem qbs_ (X : List Nat) : rowV X = rowO (X.map some) := by
 unfold rowV rowO
 rw [List.map_map]
 rfl
theorem qgi_ {R : Nat} {X : List Nat} (h : X.length = R) : zy_ R (X.map some) X := fun j hj b hb => by
 rw [List.getD_eq_getElem?_getD,List.getElem?_map,List.getElem?_eq_getElem (by rw [h]; exact hj)] at hb
 cases hb
 rw [List.getD_eq_getElem?_getD,List.getElem?_eq_getElem (by rw [h]; exact hj)]
 rfl
theorem qbt_ {os : List (Option Nat)} {g j : Nat} (h : g < os.length) : (os.set g none).getD j none = if g = j then none else os.getD j none := by
 rw [List.getD_eq_getElem?_getD,List.getElem?_set]
 by_cases z : g = j
 ·rw [if_pos z,if_pos z,if_pos h]; rfl
 ·rw [if_neg z,if_neg z,← List.getD_eq_getElem?_getD]
theorem qgj_ {K : PySem.W.Frag} {l : Addr} {qs : List Addr} {ob : Nat -> HO} {k : Nat} {te : TE} {cs : L2.St} {H1 : Hp} {D : Addr} {Q : Hp -> Prop} (hl : H1 l = some (.lst (qs.map V.ref))) (hD : H1 D = none) (hk : k = cs.length) (hn : qs.length <= sizeLine)
  (he : ∀ i p H (R : V -> Hp -> Prop),qs[i]? = some p -> Same H1 H -> (∀ p H4,H p = none -> Same H H4 -> H4 p = some (ob i) -> R (.ref p) H4) -> te (cs ++ [some (.ref p)]) H R)
  (hQ : ∀ ps H,Same H1 H -> H D = some (.lst (ps.map V.ref)) -> ObAt H ps qs.length ob -> Q H) : q3_ (Itl K l) (qT_ k) jd_ te (cs ++ [none]) H1 D Q :=
 vg_ (n := qs.length) (stt := fun i => cs ++ [(qs.map V.ref)[i]?]) (Ok := fun σ => ∃ o,σ = cs ++ [o]) hD hn ⟨none,rfl⟩ (fun i _ => ⟨_,rfl⟩) (fun H sm => ⟨_,SqL.of (sm _ _ hl),by rw [List.length_map]; exact Nat.le_refl _⟩) (fun i H hi sm => ⟨_,_,SqL.of (sm _ _ hl),qC_ (List.getElem?_eq_getElem hi)⟩) (fun i σ H x H' R hi sm ho y q => by
  obtain ⟨o,rfl⟩ := ho
  obtain ⟨rfl,y⟩ := y
  have := y _ (SqL.of (sm _ _ hl))
  unfold qT_
  rw [hk,List.set_append_right _ _ (Nat.le_refl _),Nat.sub_self]
  show R (cs ++ [some x]) _
  rw [<- this]
  exact q _ (Same.refl _)) (fun i H R hi sm r => by
  have e : (qs.map V.ref)[i]? = some (.ref qs[i]) := qC_ (List.getElem?_eq_getElem hi)
  try dsimp only
  rw [e]
  exact he i _ H R (List.getElem?_eq_getElem hi) sm r) hQ
theorem AskM.rebs {a : Adr} {H0 H0' H : Hp} {R : AskR} {n : Nat} {os : List (Option Nat)} {as : List Nat} (J : AskM a H0' H R n os as) (s : Same H0 H0') : AskM a H0 H R n os as := ⟨s.trans J.sm,J.hr,J.hs,J.hz,J.tab,J.osl,J.nd,J.lt⟩
theorem qac_ {R : Nat} {cs srow os : List (Option Nat)} {as X : List Nat} (h : OkA R cs srow os as) (hs : zy_ R srow X) : zy_ R os X := fun j hj b hb => by
 rw [h.is j hj] at hb
 by_cases z : j ∈ as
 ·rw [if_pos z] at hb; exact hs j hj b hb
 ·rw [if_neg z] at hb; cases hb
def chg (a : Adr) (R : AskR) : List Addr := [R.z,R.rl,R.sl,a.t35]
theorem AskI.ch {a : Adr} {H0 : Hp} {R : AskR} {r w n M N : Nat} {l : Nat -> Nat -> Nat} {cs srow : List (Option Nat)} (I : AskI a H0 R r w n M N l cs srow) : ∀ x ∈ chg a R,H0 x = none := fun x hx => by
 unfold chg at hx
 rcases List.mem_cons.mp hx with y | hx
 ·rw [y]; exact I.nz
 rcases List.mem_cons.mp hx with y | hx
 ·rw [y]; exact I.nrl
 rcases List.mem_cons.mp hx with y | hx
 ·rw [y]; exact I.nsl
 ·rw [List.mem_singleton.mp hx]; exact I.nt
theorem AskI.rebase {a : Adr} {H0 H : Hp} {R : AskR} {r w n M N : Nat} {l : Nat -> Nat -> Nat} {cs srow : List (Option Nat)} (I : AskI a H0 R r w n M N l cs srow) (s : Same H0 H) : AskI a (qS_ (chg a R) H) R r w n M N l cs srow /\ Same H0 (qS_ (chg a R) H) := by
 have s1 : Same H0 (qS_ (chg a R) H) := uk_ s I.ch
 obtain ⟨dx,hA⟩ := I.obj
 exact ⟨⟨I.code.same s1,I.full,I.n16,I.W,⟨dx,s1 _ _ hA⟩,s1 _ _ I.cost,I.csl,I.asker.same s1,s1 _ _ I.row,I.srl,q7_ (.tail _ (.head _)),q7_ (.tail _ (.tail _ (.head _))),q7_ (.head _),q7_ (.tail _ (.tail _ (.tail _ (.head _)))),I.d1,I.d2,I.d3⟩,s1⟩
theorem vp_ {a : Adr} {H0 H : Hp} {R : AskR} {n : Nat} {os : List (Option Nat)} {as : List Nat} {b : Addr} (J : AskM a H0 H R n os as) (h : H b = none) : b ∉ chg a R := fun hx => by
 unfold chg at hx
 rcases List.mem_cons.mp hx with y | hx
 ·rw [y,J.hz] at h; cases h
 rcases List.mem_cons.mp hx with y | hx
 ·rw [y,J.hr] at h; cases h
 rcases List.mem_cons.mp hx with y | hx
 ·rw [y,J.hs] at h; cases h
 ·obtain ⟨ps,hp,_⟩ := J.tab
  rw [List.mem_singleton.mp hx,hp] at h; cases h
theorem AskM.reb {a : Adr} {H0 H : Hp} {R : AskR} {n : Nat} {os : List (Option Nat)} {as : List Nat} (J : AskM a H0 H R n os as) : AskM a (qS_ (chg a R) H) H R n os as := ⟨zA_ _ _,J.hr,J.hs,J.hz,J.tab,J.osl,J.nd,J.lt⟩
theorem qgk_ {K : PySem.W.Frag} {H1 H : Hp} {b : Addr} {xs : List V} {ts : List Addr} (h : SqL K H1 b xs) (s : Same H1 H) (ht : ∀ p ∈ ts,H1 p = none \/ ∃ ps,H1 p = some (.tbl ps)) : SqL K (qS_ ts H) b xs := by
 have k : ∀ {o : HO},H1 b = some o -> (∀ ps,o ≠ .tbl ps) -> qS_ ts H b = some o := fun {o} e n => by
  rw [ju_ fun z => ?_]
  ·exact s _ _ e
  ·rcases ht b z with y | ⟨ps,y⟩
   ·rw [y] at e; cases e
   ·rw [y] at e
    exact n ps (Option.some.inj e).symm
 rcases h with (h | ⟨o,h⟩) | h
 ·exact .inl (.inl (k h (fun _ y => by cases y)))
 ·exact .inl (.inr ⟨o,k h (fun _ y => by cases y)⟩)
 ·exact .inr h
theorem yU_ {H : Hp} {xs : List Addr} (hx : ∀ x ∈ xs,(∃ ps,H x = some (.tbl ps)) \/ H x = some (.lst [])) {b : Addr} {o : HO} (e : H b = some o) (n : ∀ ps,o ≠ .tbl ps) (n2 : o ≠ .lst []) : qS_ xs H b = some o := by
 rw [ju_ fun z => ?_]
 ·exact e
 ·rcases hx b z with ⟨ps,y⟩ | y
  ·rw [y] at e; exact n ps (Option.some.inj e).symm
  ·rw [y] at e; exact n2 (Option.some.inj e).symm
theorem yV_ {xs : List V} (h : 0 < xs.length) : HO.lst xs ≠ .lst [] := fun y => by
 have := HO.lst.inj y
 rw [this] at h; cases h
theorem CodeAt.hide2 {a : Adr} {H : Hp} {c bp fp : Addr} {r w n M N : Nat} {l : Nat -> Nat -> Nat} {xs : List Addr} (h : CodeAt a H c bp fp r w n M N l) (hM : 0 < M) (hx : ∀ x ∈ xs,(∃ ps,H x = some (.tbl ps)) \/ H x = some (.lst [])) : CodeAt a (qS_ xs H) c bp fp r w n M N l := by
 obtain ⟨dx,Lp,qs,h1,h2,h3⟩ := h.ins
 obtain ⟨⟨db,hb⟩,⟨dF,hF⟩⟩ := h.blk
 have k := fun {b : Addr} {o : HO} => yU_ (b := b) (o := o) hx
 exact ⟨⟨dx,Lp,qs,k h1 (fun _ y => by cases y) (fun y => by cases y),k h2 (fun _ y => by cases y) (yV_ (by rw [List.length_map,h3.len]; exact hM)),⟨h3.len,fun i p e => k (h3.on i p e) (fun _ y => by cases y) (yV_ (by rw [qi_,qs_]; omega))⟩⟩,⟨⟨db,k hb (fun _ y => by cases y) (fun y => by cases y)⟩,⟨dF,k hF (fun _ y => by cases y) (fun y => by cases y)⟩⟩⟩
theorem AlAt.hide {H : Hp} {D : Addr} {r w M N : Nat} {l : Nat -> Nat -> Nat} {xs : List Addr} (h : AlAt H D r w M N l) (hM : 0 < M) (hx : ∀ x ∈ xs,(∃ ps,H x = some (.tbl ps)) \/ H x = some (.lst [])) : AlAt (qS_ xs H) D r w M N l := by
 obtain ⟨ps,h1,h2⟩ := h
 have k := fun {b : Addr} {o : HO} => yU_ (b := b) (o := o) hx
 exact ⟨ps,k h1 (fun _ y => by cases y) (yV_ (by rw [List.length_map,h2.len]; omega)),h2.len,fun j p e => k (h2.on j p e) (fun _ y => by cases y) (yV_ (by unfold alV; rw [List.length_map,List.length_range]; omega))⟩
theorem qky_ {os : List (Option Nat)} {j : Nat} : (knO os).getD j false = (os.getD j none).isSome := by
 unfold knO
 rw [List.getD_eq_getElem?_getD,List.getElem?_map,List.getD_eq_getElem?_getD]
 cases os[j]? with
 | none => rfl
 | some o => rfl
theorem qj0_ (o : Option Nat) : valO o = oiV (o.map fun n => ((n : Nat) : Int)) := by cases o <;> rfl
structure Sc48 (G H : Hp) (RL CL : Addr) (R : Nat) (X : List Nat) (cs srow : List (Option Nat)) : Prop where
 sm : Same G H
 hR : H RL = some (.lst (rowO srow))
 hC : H CL = some (.lst (rowO cs))
 rl : srow.length = R
 cl : cs.length = R
 ag : zy_ R srow X
 c9 : ∀ j,(cs.getD j none).getD 0 <= 1000000
def um_ (K : PySem.W.Frag) (ts : List Addr) : Sp := fun vs H Q _ => ∃ (s : Addr) (ns : List Int),vs = [.ref s] /\ SqL K H s (ns.map V.int) /\ ns.length <= 63 /\ (∀ p ∈ ts,H p = some (.tbl #[])) /\ ∀ H',Q (.bl true) H'
theorem qkz_ (T : Txt K mg a) (B : Tb base mg a) : FnO P wo K mg base 13 a.f62 ["_law_script"] (um_ K [a.t35,a.t52]) := by
 refine T.x62.F.okA (k := 12) sc_law (fun cdv A outer s H vs Q E hr h => ?_)
 ·obtain ⟨sa,ns,rfl,hS,hlen,hT,q⟩ := h
  have ht1 := hT a.t35 (.head _)
  have ht2 := hT a.t52 (.tail _ (.head _))
  refine ⟨_,(qb_ (jF_ (qt_ (qho_ T) hr.u rfl T.x49.m T.x49.k T.x49.b .nil qn_ (qa_ (qt_ (jX_ T) hr.u rfl T.x40.m T.x40.k T.x40.b .nil qn_ (qa_ (pv 0) (qa_ qg_ qc_))) qc_)) (yh_ rfl (qM_ (qm_ (i := 1) sc_law.nd rfl (Or.inl rfl)) (qM_ (qm_ (i := 2) sc_law.nd rfl (Or.inl rfl)) jw_))))
   (qb_ (qj_ (i := 3) sc_law.nd rfl (Or.inl rfl) (qt_ (qjb_ T) hr.u rfl T.x42.m T.x42.k T.x42.b .nil qn_ (qa_ (qt_ (jX_ T) hr.u rfl T.x40.m T.x40.k T.x40.b .nil qn_ (qa_ (pv 0) (qa_ qg_ qc_))) qc_)))
   (qb_ (qj_ (i := 4) sc_law.nd rfl (Or.inl rfl) (qk_ qO_ qg_ (qk_ qL_ (qt_ (jX_ T) hr.u rfl T.x40.m T.x40.k T.x40.b .nil qn_ (qa_ (pv 0) (qa_ qg_ qc_))) qg_)))
   (qb_ (qj_ (i := 5) sc_law.nd rfl (Or.inl rfl) (qk_ yC_ (yI_ PySem.F.plainAttrs_int PyProof.Rows.slot_int_bit_length PyProof.Rows.type_int_bit_length yl_ (pv 3)) qg_))
   (qb_ (qj_ (i := 6) sc_law.nd rfl (Or.inl rfl) (qt_ (qd5_ T) hr.u rfl T.x48.m T.x48.k T.x48.b .nil qn_ (qa_ (qt_ (jX_ T) hr.u rfl T.x40.m T.x40.k T.x40.b .nil qn_ (qa_ (pv 0) (qa_ qg_ qc_))) (qa_ (pv 1) (qa_ (pv 2) (qa_ (qk_ yC_ (qk_ zc_ qg_ (pv 5)) qg_) qc_))))))
   (qb_ (qj_ (i := 7) sc_law.nd rfl (Or.inl rfl) (qt_ (qh3_ T) hr.u rfl T.x53.m T.x53.k T.x53.b .nil qn_ (qa_ (pv 6) (qa_ (pv 3) qc_))))
   (qb_ (qj_ (i := 8) sc_law.nd rfl (Or.inl rfl) (qt_ (qjl_ T) hr.u rfl T.x45.m T.x45.k T.x45.b .nil qn_ (qa_ (qt_ (qjn_ T) hr.u rfl T.x46.m T.x46.k T.x46.b .nil qn_ (qa_ (pv 0) (qa_ qg_ (qa_ (pv 1) (qa_ (qk_ zc_ qg_ (qk_ jl_ (pv 5) (pv 4))) qc_))))) (qa_ (pv 6) (qa_ (pv 3) qc_)))))
   (qb_ (qj_ (i := 9) sc_law.nd rfl (Or.inl rfl) (qk_ qO_ (pv 1) (pv 2)))
   (qb_ (qj_ (i := 10) sc_law.nd rfl (Or.inr rfl) (jf_ q0_ rfl T.n_list (by decide +kernel) (qa_ (pv 8) qc_)))
   (qb_ (qj_ (i := 11) sc_law.nd rfl (Or.inl rfl) (qt_ (qhq_ T) hr.u rfl T.x50.m T.x50.k T.x50.b .nil qn_ (qa_ (qt_ (jX_ T) hr.u rfl T.x40.m T.x40.k T.x40.b .nil qn_ (qa_ (pv 0) (qa_ qg_ qc_))) (qa_ (pv 9) qc_))))
   (qb_ (qD_ PassesOwn.never rfl (vm_ rfl T.n_enumerate (qa_ (qt_ (qh2_ T) hr.u rfl T.x51.m T.x51.k T.x51.b .nil qn_ (qa_ (qt_ (jX_ T) hr.u rfl T.x40.m T.x40.k T.x40.b .nil qn_ (qa_ (pv 0) (qa_ qg_ qc_))) (qa_ (pv 9) qc_))) qc_)) (yh_ rfl (qM_ (qm_ (i := 12) sc_law.nd rfl (Or.inl rfl)) (qM_ (qm_ (i := 13) sc_law.nd rfl (Or.inl rfl)) jw_))) (qf_ (qz_ (qp_ q6_ (pv 13) qg_ (qr_ _)) (qf_ (jF_ qK_ (jO_ (pv 11) (pv 12) jt_))) (qf_ (qz_ (qp_ q6_ (pv 13) qg_ (qr_ _)) (qf_ (jF_ qK_ (jO_ (pv 10) (pv 12) jt_))) qv_)))))
   (qb_ (qj_ (i := 14) sc_law.nd rfl (Or.inl rfl) (qI_ qc_))
   (qb_ (qj_ (i := 15) sc_law.nd rfl (Or.inl rfl) (vi_ T.mk_Asking (uC_ T) hr.u rfl T.m_Asking T.x29.b .nil qn_ (qa_ (vi_ T.mk_Code (qbo_ T) hr.u rfl T.m_Code T.x22.b .nil qn_ (qa_ (vi_ T.mk_Blocks (uy_ T) hr.u rfl T.m_Blocks T.x14.b .nil qn_ (qa_ (vi_ T.mk_Field (qal_ T) hr.u rfl T.m_Field T.x0.b .nil qn_ (qa_ (pv 3) qc_)) (qa_ (pv 4) qc_))) (qa_ (q4_ (CompOk.of (cap := []) (own := ["_law_line"]) (by kernel_rfl)) rfl (qH_ (pv 6)) (fun _ _ _ _ _ => (qm_ (i := 0) (of_decide_eq_true (by kernel_rfl)) rfl (Or.inl rfl))) (fun _ _ _ _ _ => qY_) (fun _ _ _ _ _ => by exact (jf_ (qag_ (K := K) rfl) rfl T.n_list (by decide +kernel) (qa_ (pv 0) qc_)))) qc_))) (qa_ (qt_ (qhr_ T B) hr.u rfl T.x52.m T.x52.k T.x52.b .nil qn_ (qa_ (pv 10) (qa_ (pv 14) qc_))) (qa_ (pv 11) qc_)))))
   (qb_ (qj_ (i := 16) sc_law.nd rfl (Or.inl rfl) (qI_ qc_))
   (qb_ (qD_ PassesOwn.never rfl (uI_ rfl T.n_range (qa_ qg_ (qa_ (qw_ (qeh_ rfl) rfl T.n_max boot_max (qa_ qg_ (qa_ (qw_ (qei_ rfl) rfl T.n_min boot_min (qa_ (qw_ qu_ rfl T.n_len PySem.boot_len (qa_ (pv 0) qc_)) (qa_ qg_ qc_))) qc_))) qc_))) (qm_ (i := 17) sc_law.nd rfl (Or.inl rfl)) (qb_ (qj_ (i := 18) sc_law.nd rfl (Or.inl rfl) (qt_ (jX_ T) hr.u rfl T.x40.m T.x40.k T.x40.b .nil qn_ (qa_ (pv 0) (qa_ (pv 17) qc_))))
   (qb_ (jK_ (i := 19) sc_law.nd rfl (Or.inl rfl) (CompOk.of (cap := [10]) (own := ["_law_role"]) (by kernel_rfl)) rfl (qH_ (pv 16)) (fun _ _ _ _ _ => (qm_ (i := 1) (of_decide_eq_true (by kernel_rfl)) rfl (Or.inl rfl))) (fun _ _ _ _ _ => (jW_ (qp_ jx_ (qx_ (ja_ (K := K) rfl) (pv 0) (pv 1) (fun _ _ => rfl)) qK_ (qr_ _)))) (fun _ _ _ _ _ => by exact (pv 1)))
   (qb_ (qz_ (jk_ (qZ_ (qt_ (qjz_ T B) hr.u rfl T.x59.m T.x59.k T.x59.b .nil qn_ (qa_ (pv 15) (qa_ (qt_ (qjy_ T) hr.u rfl T.x61.m T.x61.k T.x61.b .nil qn_ (qa_ (pv 18) (qa_ (pv 9) qc_))) (qa_ (pv 19) (qa_ (pv 11) (qa_ (pv 16) (qa_ (pv 7) qc_))))))))) (qf_ (qo_ jI_)) qv_)
   (qb_ (qz_ (jk_ (qZ_ (qt_ (qbr_ T) hr.u rfl T.x60.m T.x60.k T.x60.b .nil qn_ (qa_ (pv 15) (qa_ (pv 8) (qa_ (pv 19) (qa_ (pv 11) (qa_ (pv 16) (qa_ (pv 7) qc_))))))))) (qf_ (qo_ jI_)) qv_)
   (qb_ (qj_ (i := 12) sc_law.nd rfl (Or.inl rfl) (qk_ qL_ (pv 18) (pv 9)))
   (qb_ (qz_ (PW.pt (qar_ (qp_ jx_ (qx_ qy_ (pv 11) (pv 12) (fun _ _ => rfl)) qK_ (qr_ _)) (uo_ (qp_ j2_ (pv 12) (pv 16) rfl)))) (qf_ (qj_ (i := 16) sc_law.nd rfl (Or.inl rfl) (qk_ zR_ (pv 16) (qI_ (qa_ (pv 12) qc_))))) qv_)
   (qb_ (qj_ (i := 20) sc_law.nd rfl (Or.inl rfl) (qB_ (pv 15) T.cl_Asking T.x31.me (uD_ T) hr.u T.x31.b .nil qn_ (qa_ (pv 12) qc_)))
   (qf_ (qz_ (PW.pt (jv_ (qp_ (qez_ hr.units) (pv 14) (pv 16) (qr_ _)) (jp_ (jk_ (qZ_ (qt_ (uG_ T) hr.u rfl T.x58.m T.x58.k T.x58.b .nil qn_ (qa_ (pv 20) (qa_ (qx_ qy_ (qI_ (qa_ qK_ (qa_ (qx_ qy_ (pv 10) (pv 12) (fun _ _ => rfl)) qc_))) (jf_ qej_ rfl T.n_int (by decide +kernel) (qa_ (q2_ zQ_ (pv 12) (pv 16) rfl) qc_)) (fun _ _ => rfl)) qc_)))))))) (qf_ (qo_ jI_)) qv_))))))))))
   (qb_ (jK_ (i := 19) sc_law.nd rfl (Or.inl rfl) (CompOk.of (cap := [10]) (own := ["_law_role"]) (by kernel_rfl)) rfl (qH_ (pv 16)) (fun _ _ _ _ _ => (qm_ (i := 1) (of_decide_eq_true (by kernel_rfl)) rfl (Or.inl rfl))) (fun _ _ _ _ _ => (jW_ (qp_ jx_ (qx_ (ja_ (K := K) rfl) (pv 0) (pv 1) (fun _ _ => rfl)) qK_ (qr_ _)))) (fun _ _ _ _ _ => by exact (pv 1)))
   (qf_ (qo_ (qt_ (qbr_ T) hr.u rfl T.x60.m T.x60.k T.x60.b .nil qn_ (qa_ (pv 15) (qa_ (pv 8) (qa_ (pv 19) (qa_ (pv 11) (qa_ (pv 16) (qa_ (pv 7) qc_))))))))))))))))))))))))),?_⟩
  refine ⟨_,rfl,sa,ns,0,rfl,hS,by decide,hlen,fun c0 => ⟨_,rfl,fun tp H1 N M m1 m2 n1 n8 ntp s1 htp => ?_⟩⟩
  refine ⟨tp,_,rfl,SqT.of htp,rfl,_,_,rfl,_,_,rfl,rfl,?_⟩
  have hS1 := s1.seq hS
  refine ⟨_,rfl,sa,ns,1,rfl,hS1,by decide,hlen,fun c1 => ⟨_,rfl,fun r H2 R s2 => ?_⟩⟩
  generalize r.log2 = w at R
  have h16 := R.top16
  have h256 := R.top256
  have s02 := s1.trans s2
  have hS2 := s02.seq hS
  refine ⟨_,rfl,sa,ns,2,rfl,hS2,by decide,hlen,fun c2 => ?_⟩
  obtain ⟨m0,hm0,em0⟩ := modN c2 (n := 3) (by decide)
  have em0 : c2 % 3 = (m0 : Int) := em0
  obtain ⟨n,hn⟩ : ∃ n,n = 1 + m0 := ⟨_,rfl⟩
  refine ⟨_,_,rfl,rfl,p0 (by decide),_,_,rfl,rfl,?_⟩
  try dsimp only
  rw [em0,show (1 : Int) + (m0 : Int) = (n : Int) by omega]
  have hn1 : 1 <= n := by omega
  have hn16 : n <= 16 := by omega
  have hw8 : w <= 8 := R.w8
  have hw4 : 4 <= w := R.w4
  have ew : ((Builtin.Int.intBits (r : Int) : Nat) : Int) - 1 = (w : Int) := by
   rw [jD_ R.rule.lo R.rule.hi]
   omega
  refine ⟨_,rfl,rfl,_,rfl,rfl,_,_,rfl,rfl,?_⟩
  try dsimp only
  rw [ew]
  have eL1 : (1 : Int) * 2 ^ ((w : Int)).toNat = ((2 ^ w : Nat) : Int) := by rw [vK_]
  refine ⟨_,rfl,sa,ns,5,rfl,hS2,by decide,hlen,fun c3 => ?_⟩
  refine ⟨_,rfl,_,rfl,_,rfl,_,_,rfl,rfl,⟨by omega,by omega,by decide⟩,?_⟩
  try dsimp only
  rw [eL1]
  refine ⟨_,_,rfl,rfl,c3,w,M,N,congrArg (fun z => [V.int c3,V.int (N : Nat),V.int (M : Nat),V.int z]) (show ((2 ^ w : Nat) : Int) - 1 = ((2 ^ w - 1 : Nat) : Int) by omega),h16,h256,m1,m2,n1,n8,fun WL H3 ps l s3 hWL htW W => ?_⟩
  have s03 := s02.trans s3
  refine ⟨_,rfl,_,rfl,WL,ps,r,w,M,N,l,rfl,R.toGood,hWL,htW,W,fun AL H4 s4 hAL => ?_⟩
  have s04 := s03.trans s4
  have hwn : w * n <= 128 := Nat.mul_le_mul hw8 hn16
  have emn : (w : Int) * (n : Int) = ((w * n : Nat) : Int) := by simp
  have eL : (1 : Int) * 2 ^ ((w : Int) * (n : Int)).toNat = (((2 ^ w) ^ n : Nat) : Int) := by rw [emn,vK_,Nat.pow_mul]
  have hL0 : 0 < (2 ^ w) ^ n := Nat.pow_pos (Nat.two_pow_pos w)
  have hLB : (2 ^ w) ^ n <= 2 ^ 128 := by
   rw [<- Nat.pow_mul]
   exact Nat.pow_le_pow_right (by decide) hwn
  refine ⟨_,rfl,_,rfl,_,rfl,_,rfl,_,_,rfl,rfl,.inl ⟨by omega,by omega⟩,_,_,rfl,rfl,⟨by rw [emn]; omega,by rw [emn]; omega,by decide⟩,?_⟩
  try dsimp only
  rw [eL]
  refine ⟨sa,ns,6,N,(2 ^ w) ^ n,rfl,s04.seq hS,hlen,by omega,by omega,hL0,hLB,fun SL H8 xs s8 nSL hSL hxl hxlt => ?_⟩
  have s48 := s4.trans s8
  refine ⟨_,rfl,_,rfl,SL,WL,ps,r,w,n,M,N,l,xs,rfl,R.toGood,hSL,hxl,by omega,m2,hxlt,s48 _ _ hWL,htW.same s48,W.lt,fun ML H9 s9 nML hML => ?_⟩
  have s09 := (s03.trans s48).trans s9
  have s39 := s48.trans s9
  obtain ⟨X,hXe⟩ : ∃ X,X = y5_ r w n M N l xs := ⟨_,rfl⟩
  rw [<- hXe] at hML
  have hX1 : X.length = N + M := by rw [hXe]; exact qh1_ _ _ _ _ _ _ _ hxl
  have hXlt : ∀ b ∈ X,b < (2 ^ w) ^ n := by rw [hXe]; exact qjw_ R.toGood W hxlt
  have hXmk : isMk r w n M N l X = true := by rw [hXe]; exact qjv_ _ _ _ _ _ _ _ R.toGood W hxl
  have hAL9 := (hAL.same s8).same s9
  have hWL9 := s39 _ _ hWL
  have htW9 := htW.same s39
  clear hXe hxlt hSL hAL hWL htW s1 s2 s3 s4 s8 s9 s02 s03 s04 s48 hS1 hS2 htp ntp
  try dsimp only [L2.start,List.set,List.map,List.append,List.replicate,HAppend.hAppend,Append.append,List.length,Nat.reduceAdd,Nat.reduceSub]
  refine ⟨_,rfl,_,rfl,_,_,rfl,rfl,?_⟩
  try dsimp only
  rw [show (N : Int) + (M : Int) = ((N + M : Nat) : Int) by omega]
  refine ⟨_,rfl,ML,_,rfl,.inl (SqL.of hML),fun RL nRL => ?_⟩
  have s10 := Same.new (o := .lst (rowV X)) nRL
  have hR10 : (upd H9 RL (.lst (rowV X))) RL = some (.lst (rowO (X.map some))) := by rw [<- qbs_]; exact qd_
  generalize (upd H9 RL (.lst (rowV X))) = H10 at s10 hR10
  refine ⟨_,rfl,sa,ns,3,rfl,(s09.trans s10).seq hS,by decide,hlen,fun c4 => ⟨_,rfl,c4,N + M,rfl,n8,fun CL H11 cs0 s11 nCL hC11 hcl hc9 => ?_⟩⟩
  have s911 := s10.trans s11
  have dRC : RL ≠ CL := ql_ hR10 nCL
  have nCL9 : H9 CL = none := s10.free nCL
  refine ⟨_,rfl,sa,ns,4,rfl,(s09.trans s911).seq hS,by decide,hlen,fun c5 => ⟨_,rfl,c5,N + M,rfl,n8,fun KL H12 kd s12 nKL hKL hkl => ?_⟩⟩
  have S0 : Sc48 H9 H12 RL CL (N + M) X (cs0.map some) (X.map some) := ⟨s911.trans s12,(s11.trans s12) _ _ hR10,by rw [<- qbs_]; exact s12 _ _ hC11,by rw [List.length_map,hX1],by rw [List.length_map,hcl],qgi_ hX1,fun j => by
    rw [List.getD_eq_getElem?_getD,List.getElem?_map]
    cases e : cs0[j]? with
    | none => exact Nat.zero_le _
    | some x => exact Nat.le_trans (hc9 x (List.mem_of_getElem? e)).2 (by decide)⟩
  have dKR : KL ≠ RL := (ql_ (s11 _ _ hR10) nKL).symm
  have dKC : KL ≠ CL := (ql_ hC11 nKL).symm
  clear hR10 hC11 s10 s11 s12 nKL nCL hc9
  refine ⟨KL,_,rfl,SqL.of hKL,?_⟩
  refine qa6_ (l := KL) (xs := rowV kd) (fun i σ H' => (∃ v12 v13 : Option V,σ = [some (.ref sa),some (.int (N : Nat)),some (.int (M : Nat)),some (.int (r : Nat)),some (.int (n : Nat)),some (.int (w : Nat)),some (.ref WL),some (.ref AL),some (.ref ML),some (.int ((N + M : Nat) : Int)),some (.ref RL),some (.ref CL),v12,v13,none,none,none,none,none,none,none]) /\ H' KL = some (.lst (rowV kd)) /\ ∃ cs srow,Sc48 H9 H' RL CL (N + M) X cs srow) ⟨⟨none,none,rfl⟩,hKL,_,_,S0⟩ ?_ ?_ ?_
  ·rintro i σ H' _ ⟨_,hK',_⟩
   exact SqL.of hK'
  ·rintro i u Tp σ H' hi hu nT ⟨⟨v12,v13,rfl⟩,hK',cs,srow,S⟩
   rw [qi_,hkl] at hi
   obtain ⟨kk,_,rfl⟩ := qV_ hu
   have sT := Same.new (o := .tup [.int (i : Nat),.int (kk : Nat)]) nT
   refine ⟨Tp,_,rfl,SqT.of qd_,rfl,_,_,rfl,_,_,rfl,rfl,?_⟩
   have hR := sT _ _ S.hR
   have hC := sT _ _ S.hC
   have hK2 := sT _ _ hK'
   have sm := S.sm.trans sT
   generalize (upd H' Tp (.tup [.int (i : Nat),.int (kk : Nat)])) = H2 at hR hC sm hK2
   refine ⟨_,rfl,rfl,_,rfl,?_⟩
   refine ite2 (fun _ => ?_) (fun _ => ?_)
   ·refine ⟨_,rfl,_,rfl,CL,_,_,i,rfl,rfl,hC,jE_ (by rw [qP_,S.cl]; exact hi),?_⟩
    refine ⟨⟨_,_,rfl⟩,by rw [qe_ dKC]; exact hK2,cs.set i none,srow,sm.up nCL9,by rw [qe_ dRC]; exact hR,by rw [qd_,show V.non = valO none from rfl,vV_],S.rl,by rw [List.length_set,S.cl],S.ag,fun j => ?_⟩
    rw [qbt_ (by rw [S.cl]; exact hi)]
    split
    ·exact Nat.zero_le _
    ·exact S.c9 j
   ·refine ⟨_,rfl,rfl,_,rfl,?_⟩
    refine ite2 (fun _ => ?_) (fun _ => ⟨⟨_,_,rfl⟩,hK2,cs,srow,sm,hR,hC,S.rl,S.cl,S.ag,S.c9⟩)
    refine ⟨_,rfl,_,rfl,RL,_,_,i,rfl,rfl,hR,jE_ (by rw [qP_,S.rl]; exact hi),?_⟩
    refine ⟨⟨_,_,rfl⟩,by rw [qe_ dKR]; exact hK2,cs,srow.set i none,sm.up nRL,by rw [qd_,show V.non = valO none from rfl,vV_],by rw [qe_ dRC.symm]; exact hC,by rw [List.length_set,S.rl],S.cl,fun j hj b hb => ?_,S.c9⟩
    rw [qbt_ (by rw [S.rl]; exact hi)] at hb
    split at hb
    ·cases hb
    ·exact S.ag j hj b hb
  ·rintro σ H12 ⟨⟨v12,v13,rfl⟩,_,cs,srow,S⟩
   refine ⟨Nat.zero_le _,fun z nz => ?_⟩
   have sz := Same.new (o := .lst []) nz
   have hz : (upd H12 z (.lst [])) z = some (.lst []) := qd_
   generalize (upd H12 z (.lst [])) = H13 at sz hz
   have s913 := S.sm.trans sz
   try dsimp only [L2.start,List.set,List.map,List.append,List.replicate,HAppend.hAppend,Append.append,List.length,Nat.reduceAdd,Nat.reduceSub]
   refine ⟨_,rfl,fun x dx nx ndx nex => ⟨x,dx,r,w,rfl,qd_,R.toGood,rfl,?_⟩⟩
   have s5 := qfm_ (a := a) (r := r) (w := w) (Same.refl H13) nx ndx
   have hF : FieldAt a.C_Field (upd (upd (upd H13 dx (.own x)) x (.ins a.C_Field dx [])) x (.ins a.C_Field dx (ff r w))) x r w := ⟨dx,qd_⟩
   generalize (upd (upd (upd H13 dx (.own x)) x (.ins a.C_Field dx [])) x (.ins a.C_Field dx (ff r w))) = H14 at s5 hF
   refine ⟨_,rfl,fun b db nb ndb neb => ⟨b,db,x,r,w,n,rfl,qd_,?_,?_,R.toGood,hn1,hn16,rfl,?_⟩⟩
   ·obtain ⟨d,e⟩ := hF
    exact ⟨d,by rw [qe_ (ql_ e nb),qe_ (ql_ e ndb)]; exact e⟩
   ·obtain ⟨d,e⟩ := hF
    exact (ql_ e nb).symm
   have s6 := qdu_ (a := a) (fp := x) (w := w) (n := n) (Same.refl H14) nb ndb
   have hB : BlocksAt a (upd (upd (upd H14 db (.own b)) b (.ins a.C_Blocks db [])) b (.ins a.C_Blocks db (bf x w n))) b x r w n := ⟨⟨db,qd_⟩,hF.same s6⟩
   generalize (upd (upd (upd H14 db (.own b)) b (.ins a.C_Blocks db [])) b (.ins a.C_Blocks db (bf x w n))) = H15 at s6 hB
   have s1315 := s5.trans s6
   have s915 := s913.trans s1315
   have hW15 := s915 _ _ hWL9
   have htW15 := htW9.same s915
   refine ⟨_,rfl,WL,rfl,⟨_,SqL.of hW15⟩,fun W2 nW2 => ?_⟩
   refine qgj_ (ob := fun i => .lst (rowV (rowT N l i))) (cs := []) hW15 nW2 rfl (by rw [htW9.len]; exact Nat.le_trans m2 (by decide)) (fun i p Hx Rx hp sx hR => ?_) (fun ps2 H15b s15b hW2 hob2 => ?_)
   ·exact ⟨_,rfl,p,_,rfl,.inl (SqL.of (sx _ _ (htW15.on i p hp))),fun p' np' => hR p' _ np' (Same.new np') qd_⟩
   rw [htW9.len] at hob2
   have htW2 : TabAt H15b ps2 M (rowT N l) := ⟨hob2.len,hob2.on⟩
   have hB := hB.same s15b
   refine fun c dc nc ndc nec => ?_
   have s7 : Same H15b (upd (upd H15b dc (.own c)) c (.ins a.C_Code dc [])) := fun y o e => by
    rw [qe_ (ql_ e nc),qe_ (ql_ e ndc)]
    exact e
   refine ⟨c,dc,b,x,W2,r,w,n,M,N,ps2,l,rfl,qd_,hB.same s7,R.toGood,s7 _ _ hW2,htW2.same s7,W,fun H16 k16 hC16 => ⟨rfl,?_⟩⟩
   have s1516 : Same H15 H16 := s15b.trans fun y o e => k16 y o (ql_ e nc) (s7 _ _ e)
   have s1316 := s1315.trans s1516
   have s916 := s913.trans s1316
   have hz16 := s1316 _ _ hz
   have ht1' := (s09.trans s916) _ _ ht1
   have ht2' := (s09.trans s916) _ _ ht2
   have hhid : ∀ p ∈ [a.t35,a.t52,z],(∃ ps,H16 p = some (.tbl ps)) \/ H16 p = some (.lst []) := fun p hp => by
    rcases List.mem_cons.mp hp with y | hp
    ·rw [y]; exact .inl ⟨_,ht1'⟩
    rcases List.mem_cons.mp hp with y | hp
    ·rw [y]; exact .inl ⟨_,ht2'⟩
    ·rw [List.mem_singleton.mp hp]; exact .inr hz16
   have hCG := hC16.hide2 (by omega) hhid
   have hRG := yU_ hhid ((sz.trans s1316) _ _ S.hR) (fun _ y => by cases y) (yV_ (by rw [qP_,S.rl]; omega))
   have hcG := yU_ hhid ((sz.trans s1316) _ _ S.hC) (fun _ y => by cases y) (yV_ (by rw [qP_,S.cl]; omega))
   have hMG := yU_ hhid (s916 _ _ hML) (fun _ y => by cases y) (yV_ (by rw [qi_,hX1]; omega))
   have hAG := (hAL9.same s916).hide (by omega) hhid
   have hSG : SqL K (qS_ [a.t35,a.t52,z] H16) sa (ns.map V.int) := qgk_ hS (s09.trans s916) fun p hp => by
    rcases List.mem_cons.mp hp with y | hp
    ·rw [y]; exact .inr ⟨_,ht1⟩
    rcases List.mem_cons.mp hp with y | hp
    ·rw [y]; exact .inr ⟨_,ht2⟩
    ·rw [List.mem_singleton.mp hp]; exact .inl (s09.free (S.sm.free nz))
   have sG : Same (qS_ [a.t35,a.t52,z] H16) H16 := zA_ _ _
   have nt1 : qS_ [a.t35,a.t52,z] H16 a.t35 = none := q7_ (by simp)
   have nt2 : qS_ [a.t35,a.t52,z] H16 a.t52 = none := q7_ (by simp)
   have nzG : qS_ [a.t35,a.t52,z] H16 z = none := q7_ (by simp)
   generalize qS_ [a.t35,a.t52,z] H16 = G at hCG hRG hcG hMG hAG hSG sG nt1 nt2 nzG
   have T1 : TabS H16 a.t35 posL qL := ⟨_,ht1',.inl rfl⟩
   have T2 : TabS H16 a.t52 (posD inA) qA := ⟨_,ht2',.inl rfl⟩
   refine ⟨_,rfl,_,rfl,RL,z,rfl,T2,fun H17 f k2 t2' nf hf fr2 => ?_⟩
   have t1' := T1.kp B.d_Asking_order_asker ht2' k2
   have s2 : Same G H17 := fun b o e => k2 b o (fun y => by rw [y,nt2] at e; cases e) (sG b o e)
   have hz2 := k2 _ _ (yu_ hz16 ht2' (fun y => by cases y)) hz16
   refine ⟨_,rfl,fun y dy ny ndy ney => ?_⟩
   have sG4 : Same G (upd (upd H17 dy (.own y)) y (.ins a.C_Asking dy [])) := fun b o e => by
    have e3 := s2 b o e
    rw [qe_ (ql_ e3 ny),qe_ (ql_ e3 ndy)]
    exact e3
   refine ⟨y,dy,c,b,x,f,CL,r,w,n,M,N,l,cs,rfl,qd_,hCG.same sG4,W,SqL.of (sG4 _ _ hcG),by rw [S.cl]; exact n8,fun H5 cl rl sl k5 hx5 ncl nrl nsl d1 d2 d3 hcl hrl hsl => ?_⟩
   obtain ⟨I,J,sGh,s35⟩ := qhz_ [] s2 hCG R hn16 W hRG S.rl nzG nt1 hf hz2 t1' S.cl ny ndy k5 hx5 ncl nrl nsl d1 d2 d3 hcl hrl hsl (fun y hy => absurd hy List.not_mem_nil)
   have hRG := sGh _ _ hRG
   have hcG := sGh _ _ hcG
   have hMG := sGh _ _ hMG
   have hAG := hAG.same sGh
   have hSG := sGh.seq hSG
   have c9 := S.c9
   have hcl' := S.cl
   have hsl' := S.rl
   have hag := S.ag
   generalize qS_ (z :: rl :: sl :: a.t35 :: []) H5 = B0 at I J hRG hcG hMG hAG hSG
   refine ⟨rfl,?_⟩
   try dsimp only [L2.start,List.set,List.map,List.append,List.replicate,HAppend.hAppend,Append.append,List.length,Nat.reduceAdd,Nat.reduceSub]
   refine ⟨Nat.zero_le _,fun SE nSE => ?_⟩
   have J0 := J.same (Same.new (o := .lst []) nSE)
   have hSE : (upd H5 SE (.lst [])) SE = some (.lst (rowV [])) := qd_
   have cSE := vp_ J nSE
   generalize (upd H5 SE (.lst [])) = H6 at J0 hSE
   have hl63 : (ns.map V.int).length <= 63 := by rw [List.length_map]; exact hlen
   obtain ⟨JJ,hJ,hJ7,hJ14⟩ : ∃ J : Int,(if (if (14 : Int) < (((ns.map V.int).length : Nat) : Int) then 14 else (((ns.map V.int).length : Nat) : Int)) > 7 then (if (14 : Int) < (((ns.map V.int).length : Nat) : Int) then 14 else (((ns.map V.int).length : Nat) : Int)) else 7) = J /\ 7 <= J /\ J <= 14 := by
    refine ⟨_,rfl,?_,?_⟩
    ·split <;> omega
    ·split
     ·split <;> omega
     ·omega
   refine ⟨_,rfl,sa,_,rfl,.inl (J0.sm.seq hSG),_,_,rfl,_,_,rfl,?_⟩
   refine ⟨6,JJ,congrArg (fun z => [V.int 6,V.int z]) hJ,⟨by decide,by decide,by omega,by omega⟩,?_⟩
   have lw : ∀ {H' H2 : Hp} {os : List (Option Nat)} {as : List Nat} {SE D : Addr},AskM a B0 H' _ (N + M) os as -> H' SE = some (.lst (rowV as)) -> SE ∉ chg a ⟨y,c,b,x,f,cl,rl,sl,RL,z⟩ -> OkA (N + M) cs srow os as -> H' D = none -> Same H' H2 -> H2 D = some (.lst (rowV (as.filter fun k => (srow.getD k none).isSome))) -> Lw (qS_ (chg a ⟨y,c,b,x,f,cl,rl,sl,RL,z⟩) H2) D CL SE AL r w M N l cs os as (as.filter fun k => (srow.getD k none).isSome) := fun {H' H2 os as SE D} J1 hSE1 cSE1 ok nD s2 hD => by
    obtain ⟨_,sB⟩ := I.rebase (J1.same s2).sm
    have cD := vp_ J1 nD
    refine ⟨hAG.same sB,by rw [ju_ cD]; exact hD,?_,fun j hj => ?_,sB _ _ hcG,by rw [ju_ cSE1]; exact s2 _ _ hSE1⟩
    ·have := J1.asl
     have := List.length_filter_le (fun k => (srow.getD k none).isSome) as
     omega
    ·rw [qky_,ok.is j hj]
     by_cases m : j ∈ as
     ·rw [if_pos m]
      cases e : (srow.getD j none).isSome with
      | true => exact List.contains_iff_mem.mpr (List.mem_filter.mpr ⟨m,e⟩)
      | false =>
       cases e2 : (as.filter fun k => (srow.getD k none).isSome).contains j with
       | false => rfl
       | true => have := (List.mem_filter.mp (List.contains_iff_mem.mp e2)).2; rw [e] at this; cases this
     ·rw [if_neg m]
      cases e2 : (as.filter fun k => (srow.getD k none).isSome).contains j with
      | false => rfl
      | true => exact absurd (List.mem_filter.mp (List.contains_iff_mem.mp e2)).1 m
   refine qQ_ (lo := 6) (n := (JJ - 6).toNat) (fun i σ H' => ∃ (SE : Addr) (os : List (Option Nat)) (as : List Nat),(∃ v12 v13 v17 v18 v19 v20 : Option V,σ = [some (.ref sa),some (.int (N : Nat)),some (.int (M : Nat)),some (.int (r : Nat)),some (.int (n : Nat)),some (.int (w : Nat)),some (.ref WL),some (.ref AL),some (.ref ML),some (.int ((N + M : Nat) : Int)),some (.ref RL),some (.ref CL),v12,v13,some (.ref z),some (.ref y),some (.ref SE),v17,v18,v19,v20]) /\ AskM a B0 H' ⟨y,c,b,x,f,cl,rl,sl,RL,z⟩ (N + M) os as /\ H' SE = some (.lst (rowV as)) /\ SE ∉ chg a ⟨y,c,b,x,f,cl,rl,sl,RL,z⟩ /\ OkA (N + M) cs srow os as) ⟨SE,_,_,⟨_,_,_,_,_,_,rfl⟩,J0,hSE,cSE,qju_ _ _ _⟩ ?_ ?_
   ·rintro i σ H' hi ⟨SE,os,as,⟨v12,v13,v17,v18,v19,v20,rfl⟩,J1,hSE1,cSE1,ok⟩
    rw [show (6 : Int) + (i : Nat) = ((6 + i : Nat) : Int) by omega]
    refine ⟨_,rfl,_,rfl,sa,ns,6 + i,rfl,J1.sm.seq hSG,by omega,hlen,fun c6 => ?_⟩
    try dsimp only [L2.start,List.set,List.map,List.append,List.replicate,HAppend.hAppend,Append.append,List.length,Nat.reduceAdd,Nat.reduceSub]
    refine ⟨_,rfl,SE,rfl,⟨_,SqL.of hSE1⟩,fun D nD => ?_⟩
    refine yy_ (rs := as) (b := fun k => (srow.getD k none).isSome) (cs := [some (.ref RL)]) (SqL.of hSE1) nD rfl (by have := J1.asl; exact Nat.le_trans this (Nat.le_trans n8 (by decide))) (fun k Hx Rx hk sx hR => ?_) (fun k Hx Rx hk _ sx hR => ⟨_,rfl,hR _ (Same.refl _)⟩) (fun H2 s2 hD => ?_)
    ·refine ⟨_,rfl,_,rfl,RL,_,_,_,rfl,rfl,SqL.of ((J1.sm.trans sx) _ _ hRG),qq_ (qU_ (jq_ (os := srow) (k := k) (by rw [hsl']; exact J1.lt k hk))),rfl,_,rfl,?_⟩
     rw [ye_]
     exact hR _ (Same.refl _)
    try dsimp only [L2.start,List.set,List.map,List.append,List.replicate,HAppend.hAppend,Append.append,List.length,Nat.reduceAdd,Nat.reduceSub]
    have J2 := J1.same s2
    refine ⟨_,rfl,_,rfl,_,rfl,c6,N + M,rfl,by omega,n8,fun so H3 rs s3 nso hso hrl hrlt => ?_⟩
    have s23 := s2.trans s3
    have J3 := J2.same s3
    obtain ⟨I3,sB3⟩ := I.rebase J3.sm
    have L3 := lw J1 hSE1 cSE1 ok nD s23 (s3 _ _ hD)
    have hso3 : qS_ (chg a ⟨y,c,b,x,f,cl,rl,sl,RL,z⟩) H3 so = some (.lst (rowV rs)) := by rw [ju_ (vp_ J2 nso)]; exact hso
    refine ⟨_,rfl,_,rfl,_,rfl,_,rfl,_,_,so,D,CL,SE,AL,r,w,n,M,N,l,cs,srow,os,as,_,rs,rfl,I3,J3.reb,L3,hso3,by omega,hrlt,c9,fun H4 J4 => ?_⟩
    refine ⟨_,rfl,ite2 (fun y => absurd y (by decide)) (fun _ => ?_)⟩
    refine ⟨_,rfl,_,rfl,_,rfl,_,rfl,_,rfl,_,rfl,_,_,ML,D,CL,SE,AL,r,w,n,M,N,l,cs,srow,os,as,_,X,rfl,I3,J4,L3,sB3 _ _ hMG,hX1,hXlt,hXmk,qac_ ok hag,fun H5 J5 => ?_⟩
    refine ⟨_,rfl,ite2 (fun y => absurd y (by decide)) (fun _ => ?_)⟩
    have hSE5 := J5.sm _ _ L3.se
    have J5 := J5.rebs sB3
    clear L3 hso3 I3 J4 J3 J2 hD hSE1 nD hso J1
    obtain ⟨k,hk,ek⟩ := modN c6 (n := N + M) (by omega)
    refine ⟨_,rfl,_,rfl,_,_,rfl,rfl,by omega,?_⟩
    try dsimp only
    rw [show c6 % ((N + M : Nat) : Int) = (k : Int) from ek]
    refine ⟨_,rfl,_,rfl,CL,_,_,_,rfl,rfl,SqL.of (J5.sm _ _ hcG),qq_ (qU_ (jq_ (os := cs) (k := k) (by rw [hcl']; exact hk))),rfl,_,rfl,?_⟩
    rw [ye_]
    try dsimp only [L2.start,List.set,List.map,List.append,List.replicate,HAppend.hAppend,Append.append,List.length,Nat.reduceAdd,Nat.reduceSub]
    refine qii_ (fun SE' H' => AskM a B0 H' ⟨y,c,b,x,f,cl,rl,sl,RL,z⟩ (N + M) os as /\ H' SE' = some (.lst (rowV (tk cs srow os as k).2)) /\ SE' ∉ chg a ⟨y,c,b,x,f,cl,rl,sl,RL,z⟩) (fun key => by
     cases hm : mayB cs as k with
     | true =>
      have hm' := hm
      unfold mayB at hm'
      rw [Bool.and_eq_true] at hm'
      refine ite2 (fun _ => ?_) (fun y => absurd hm'.1 y)
      refine ⟨_,rfl,_,rfl,SE,_,rfl,.inl (SqL.of hSE5),rfl,jC_ as,_,rfl,?_⟩
      rw [jR_,hm'.2]
      refine ite2 (fun _ => ?_) (fun y => absurd rfl y)
      refine ⟨_,rfl,_,rfl,(show 1 <= sizeLine by decide),fun p1 n1 => ?_⟩
      have s1 := Same.new (o := .lst [.int (k : Nat)]) n1
      have h1 := qd_ (H := H5) (a := p1) (o := .lst [.int (k : Nat)])
      generalize (upd H5 p1 (.lst [.int (k : Nat)])) = H6 at s1 h1
      refine ⟨SE,p1,_,_,rfl,rfl,s1 _ _ hSE5,h1,?_,fun p2 n2 => ?_⟩
      ·rw [qi_]
       have := J5.asl
       exact Nat.le_trans (by show as.length + 1 <= 9; omega) (by decide)
      have J7 := (J5.same s1).same (Same.new (o := .lst (rowV as ++ [.int (k : Nat)])) n2)
      have h2 := qd_ (H := H6) (a := p2) (o := .lst (rowV as ++ [.int (k : Nat)]))
      have c2 := vp_ (J5.same s1) n2
      generalize (upd H6 p2 (.lst (rowV as ++ [.int (k : Nat)]))) = H7 at J7 h2
      try dsimp only [L2.start,List.set,List.map,List.append,List.replicate,HAppend.hAppend,Append.append,List.length,Nat.reduceAdd,Nat.reduceSub]
      refine key p2 H7 ⟨J7,?_,c2⟩
      unfold tk
      rw [if_pos hm,h2,q5_]
     | false =>
      have e : (tk cs srow os as k).2 = as := by unfold tk; rw [if_neg (by rw [hm]; decide)]
      unfold mayB at hm
      refine ite2 (fun y => ?_) (fun _ => ?_)
      ·rw [y,Bool.true_and] at hm
       refine ⟨_,rfl,_,rfl,SE,_,rfl,.inl (SqL.of hSE5),rfl,jC_ as,_,rfl,?_⟩
       rw [jR_,hm]
       refine ite2 (fun y => by rw [if_pos rfl] at y; cases y) (fun _ => ?_)
       exact key SE H5 ⟨J5,by rw [e]; exact hSE5,cSE1⟩
      ·exact key SE H5 ⟨J5,by rw [e]; exact hSE5,cSE1⟩) ?_
    rintro SE2 H6 ⟨J6,hSE6,cSE6⟩
    obtain ⟨dy,hA⟩ := I.obj
    obtain ⟨I6,sB6⟩ := I.rebase J6.sm
    have hSE6' : qS_ (chg a ⟨y,c,b,x,f,cl,rl,sl,RL,z⟩) H6 SE2 = some (.lst (rowV (tk cs srow os as k).2)) := by rw [ju_ cSE6]; exact hSE6
    refine ⟨_,rfl,y,dy,_,rfl,J6.sm _ _ hA,rfl,_,rfl,_,_,r,w,n,M,N,k,l,cs,srow,os,as,rfl,I6,J6.reb,hk,fun H7 J7 => ?_⟩
    have hSE7 := J7.sm _ _ hSE6'
    have ok7 := qkx_ (cs := cs) (k := k) ok hk
    have J7 := J7.rebs sB6
    try dsimp only [L2.start,List.set,List.map,List.append,List.replicate,HAppend.hAppend,Append.append,List.length,Nat.reduceAdd,Nat.reduceSub]
    refine ⟨_,rfl,_,rfl,_,_,jh_ J7.hz,jh_ hSE7,rfl,rfl,⟨_,rfl⟩,jV_ _,_,rfl,?_⟩
    rw [if_pos rfl,jU_]
    refine ite2 (fun y => absurd y (by decide)) (fun _ => ?_)
    refine ⟨_,rfl,_,rfl,_,rfl,RL,_,_,_,rfl,rfl,SqL.of (J7.sm _ _ hRG),qq_ (qU_ (jq_ (os := srow) (k := k) (by rw [hsl']; exact hk))),(show 2 <= sizeLine by decide),fun p8 n8' => ?_⟩
    have s8 := Same.new (o := .lst [.non,valO (srow.getD k none)]) n8'
    have h8 := qd_ (H := H7) (a := p8) (o := .lst [.non,valO (srow.getD k none)])
    generalize (upd H7 p8 (.lst [.non,valO (srow.getD k none)])) = H8 at s8 h8
    refine ⟨_,rfl,_,rfl,SE2,_,rfl,.inl (SqL.of (s8 _ _ hSE7)),rfl,jC_ _,.inr ⟨_,rfl,?_⟩⟩
    rw [jR_]
    have hv := ok7.is k hk
    have fin : ∀ H9,Same H8 H9 -> AskM a B0 H9 ⟨y,c,b,x,f,cl,rl,sl,RL,z⟩ (N + M) (tk cs srow os as k).1 (tk cs srow os as k).2 /\ H9 SE2 = some (.lst (rowV (tk cs srow os as k).2)) := fun H9 s9 => ⟨J7.same (s8.trans s9),(s8.trans s9) _ _ hSE7⟩
    by_cases hin : k ∈ (tk cs srow os as k).2
    ·rw [if_pos hin] at hv
     rw [List.contains_iff_mem.mpr hin]
     refine ⟨p8,_,_,_,rfl,rfl,SqL.of h8,qq_ (j := 1) rfl,?_⟩
     rw [hv,qj0_]
     refine ⟨_,_,rfl,?_⟩
     rw [decide_eq_true rfl]
     obtain ⟨f1,f2⟩ := fin H8 (Same.refl _)
     exact ⟨_,rfl,ite2 (fun y => absurd y (by decide)) (fun _ => ⟨SE2,_,_,⟨_,_,_,_,_,_,rfl⟩,f1,f2,cSE6,ok7⟩)⟩
    ·rw [if_neg hin] at hv
     have e : (tk cs srow os as k).2.contains k = false := by
      cases e : (tk cs srow os as k).2.contains k with
      | false => rfl
      | true => exact absurd (List.contains_iff_mem.mp e) hin
     rw [e]
     refine ⟨p8,_,_,_,rfl,rfl,SqL.of h8,qq_ (j := 0) rfl,?_⟩
     rw [hv]
     refine ⟨none,none,rfl,?_⟩
     rw [decide_eq_true rfl]
     obtain ⟨f1,f2⟩ := fin H8 (Same.refl _)
     exact ⟨_,rfl,ite2 (fun y => absurd y (by decide)) (fun _ => ⟨SE2,_,_,⟨_,_,_,_,_,_,rfl⟩,f1,f2,cSE6,ok7⟩)⟩
   ·rintro σ H' ⟨SE,os,as,⟨v12,v13,v17,v18,v19,v20,rfl⟩,J1,hSE1,cSE1,ok⟩
    refine ⟨_,rfl,SE,rfl,⟨_,SqL.of hSE1⟩,fun D nD => ?_⟩
    refine yy_ (rs := as) (b := fun k => (srow.getD k none).isSome) (cs := [some (.ref RL)]) (SqL.of hSE1) nD rfl (by have := J1.asl; exact Nat.le_trans this (Nat.le_trans n8 (by decide))) (fun k Hx Rx hk sx hR => ?_) (fun k Hx Rx hk _ sx hR => ⟨_,rfl,hR _ (Same.refl _)⟩) (fun H2 s2 hD => ?_)
    ·refine ⟨_,rfl,_,rfl,RL,_,_,_,rfl,rfl,SqL.of ((J1.sm.trans sx) _ _ hRG),qq_ (qU_ (jq_ (os := srow) (k := k) (by rw [hsl']; exact J1.lt k hk))),rfl,_,rfl,?_⟩
     rw [ye_]
     exact hR _ (Same.refl _)
    try dsimp only [L2.start,List.set,List.map,List.append,List.replicate,HAppend.hAppend,Append.append,List.length,Nat.reduceAdd,Nat.reduceSub]
    have J2 := J1.same s2
    obtain ⟨I2,sB2⟩ := I.rebase J2.sm
    have L2 := lw J1 hSE1 cSE1 ok nD s2 hD
    exact ⟨_,rfl,_,rfl,_,rfl,_,rfl,_,rfl,_,rfl,_,_,ML,D,CL,SE,AL,r,w,n,M,N,l,cs,srow,os,as,_,X,rfl,I2,J2.reb,L2,sB2 _ _ hMG,hX1,hXlt,hXmk,qac_ ok hag,fun H5 J5 => q H5⟩
theorem walk {l : PySem.W.OpenLaw} {q : Program} {loose : List Str} {XP : (Str -> Option Value) -> Heap -> Prop} {YP : World -> Heap -> Prop} {d : DefRec} {K : Params -> PySem.W.Frag} {ts : List Addr} (hn : l.most = some 63) (hdf : d.params.defaults = [])
  (hY : ∀ (w : World) (h : Heap),YP w h -> (K w.params).In h /\ ∀ p ∈ ts,h.get? p = some (PySem.W.tabObj #[]))
  (F : ∀ (w : World) (mg : Str -> Option Value) (fa : Addr) (h : Heap),(K w.params).In h -> h.Ns mainGlobals mg -> mg d.name = some (.ref fa) →
   ∃ fd : FuncData,(∀ (s : Shared) (u : Value),BindsTo s fd ⟨[u],[]⟩ [("_law_script",u)]) ∧ (∀ p ∈ ts,(K w.params).lookup p = none) ∧ (∀ p ∈ ts,∃ c,PySem.W.codeHdIn (K w.params) c p = true) ∧ ∀ base : Heap,(K w.params).In base → base.Ns mainGlobals mg → (∀ p ∈ ts,mainGlobals ≠ p ∧ base.BuiltinsAt mg p) → FnOk l.prog w (K w.params) mg base CX0 13 fa fd ["_law_script"] (um_ (K w.params) ts)) :
  PySem.W.WalkO q loose XP YP l.row.toRowW d [] (fun f vs => PySem.call f vs) :=
 L2.walk_ofT (n := 63) (k := 13) (x := "_law_script") (CX := fun _ => CX0) (sp := fun w => um_ (K w.params) ts) hn (by decide) hdf ⟨rfl,by decide,by decide,rfl⟩ hY F (fun _ _ a ns hl hS hT => ⟨a,ns,rfl,hS,hl,hT,fun _ => rfl⟩) fun _ _ _ _ _ z => z
end My
namespace My
open PySem L2 PyProof.Rows
theorem txt_ex {K : PySem.W.Frag} {mg : Str -> Option Value} {ts : List Addr} {z0 z1 z2 z3 z4 z5 z6 z7 z8 z9 z10 z11 z12 z13 z14 z15 z16 z17 z18 z19 z20 z21 z22 z23 z24 z25 z26 z27 z28 z29 z30 z31 z32 z33 z34 z35 z36 z37 z38 z39 z40 z41 z42 z43 z44 z45 z46 z47 z48 z49 z50 z51 z52 z53 z54 z55 z56 z57 z58 z59 z60 z61 z62 z63 z64 z65 z66 z67 z68 z69 z70 : Addr} {z71 z72 z73 z74 z75 : Tok} (T : Txt K mg ⟨z0,z1,z2,z3,z4,z5,z6,z7,z8,z9,z10,z11,z12,z13,z14,z15,z16,z17,z18,z19,z20,z21,z22,z23,z24,z25,z26,z27,z28,z29,z30,z31,z32,z33,z34,z35,z36,z37,z38,z39,z40,z41,z42,z43,z44,z45,z46,z47,z48,z49,z50,z51,z52,z53,z54,z55,z56,z57,z58,z59,z60,z61,z62,z63,z64,z65,z66,z67,z68,z69,z70,z71,z72,z73,z74,z75⟩) (E : ts.Perm [z68,z70]) : ∃ a : Adr,Txt K mg a /\ ts.Perm [a.t35,a.t52] := ⟨_,T,E⟩
theorem fin {P : Program} {w : World} {K : PySem.W.Frag} {mg : Str → Option Value} {fa : Addr} {h : Heap} {ts : List Addr} (_ : K.In h) (hmg : mg "law" = some (.ref fa)) (nd : ts.Nodup) (T : ∃ a : Adr,Txt K mg a ∧ ts.Perm [a.t35,a.t52]) :
  ∃ fd : FuncData,(∀ (s : Shared) (u : Value),BindsTo s fd ⟨[u],[]⟩ [("_law_script",u)]) ∧ (∀ p ∈ ts,K.lookup p = none) ∧ (∀ p ∈ ts,∃ c,PySem.W.codeHdIn K c p = true) ∧ ∀ base : Heap,K.In base → base.Ns mainGlobals mg → (∀ p ∈ ts,mainGlobals ≠ p ∧ base.BuiltinsAt mg p) → FnOk P w K mg base CX0 13 fa fd ["_law_script"] (um_ K ts) := by
 obtain ⟨a,T,hp⟩ := T
 cases hmg.symm.trans T.x62.m
 refine ⟨fd K a.f62,fun s v => ?_,fun p z => ?_,fun p z => ?_,fun base kb nb hB => (qkz_ T ⟨(hB _ (hp.mem_iff.mpr (by simp))).2,(hB _ (hp.mem_iff.mpr (by simp))).1,(hB _ (hp.mem_iff.mpr (by simp))).2,(hB _ (hp.mem_iff.mpr (by simp))).1,(by have := hp.nodup_iff.mp nd; simp at this; simp [this])⟩).imp fun vs H Q E ⟨s,n,e,y,l,t,q⟩ => ⟨s,n,e,y,l,fun p z => t p (hp.mem_iff.mpr z),q⟩⟩
 ·obtain ⟨_,_,_,_,_,_,_,_,_,e,_⟩ := T.x62.F.ex
  rw [e]
  exact .of_eq rfl
 ·have z := hp.mem_iff.mp z
  simp at z
  rcases z with z | z
  ·rw [z]; exact T.x35.nl
  ·rw [z]; exact T.x52.nl
 ·have z := hp.mem_iff.mp z
  simp at z
  rcases z with z | z
  ·rw [z]; exact ⟨_,T.x35.F.hd⟩
  ·rw [z]; exact ⟨_,T.x52.F.hd⟩
end My
open PySem PySem.W PyProof.Rows
-- names the tactics below would else use for second copies of large terms; nothing uses these
def PySem.W.Fast.tw11191852673124683416 : Nat := 0
def PySem.W.Fast.tw2379998674257478477 : Nat := 0
def PySem.W.Fast.tw3150398212482785446 : Nat := 0
def PySem.W.Fast.tw11550169278641967978 : Nat := 0
def PySem.W.Fast.tw3120397039927112560 : Nat := 0
def PySem.W.Fast.tw715332567351000584 : Nat := 0
def PySem.W.Fast.tw1044620627101873415 : Nat := 0
def PySem.W.Fast.tw10359203500364458761 : Nat := 0
def PySem.W.Fast.tw731308914174758616 : Nat := 0
def PySem.W.Fast.tw1373785722290081454 : Nat := 0
def PySem.W.Fast.tw13646590591001676788 : Nat := 0
def PySem.W.Fast.tw11794494290586304940 : Nat := 0
def PySem.W.Fast.tw13411325094665256816 : Nat := 0
def PySem.W.Fast.tw1336347907005113923 : Nat := 0
def PySem.W.Fast.tw1573318275256350453 : Nat := 0
def PySem.W.Fast.tw5547414223321206284 : Nat := 0
def PySem.W.Fast.tw6545503677291201234 : Nat := 0
def PySem.W.Fast.tw4059582965135788856 : Nat := 0
def PySem.W.Fast.tw14972362003660958024 : Nat := 0
def PySem.W.Fast.tw10385976698883464085 : Nat := 0
def PySem.W.Fast.tw1580657261862903417 : Nat := 0
def PySem.W.Fast.tw9743949622654327662 : Nat := 0
def PySem.W.Fast.tw12713036485040661466 : Nat := 0
def PySem.W.Fast.tw16179755883984179313 : Nat := 0
def PySem.W.Fast.tw1109142385439857605 : Nat := 0
def PySem.W.Fast.tw5312967228502961966 : Nat := 0
def PySem.W.Fast.tw6220546641000267521 : Nat := 0
def PySem.W.Fast.tw16380321499595948064 : Nat := 0
def PySem.W.Fast.tw13783556570796354752 : Nat := 0
def PySem.W.Fast.tw11349687173472499333 : Nat := 0
def PySem.W.Fast.tw10556144301779664894 : Nat := 0
def PySem.W.Fast.tw15178191650875886385 : Nat := 0
def PySem.W.Fast.tw244650821631097011 : Nat := 0
def PySem.W.Fast.tw14613849537068645818 : Nat := 0
def PySem.W.Fast.tw719818056207950891 : Nat := 0
def PySem.W.Fast.tw9137586803260570485 : Nat := 0
def PySem.W.Fast.tw6318115271917118069 : Nat := 0
def PySem.W.Fast.tw8377679020084906749 : Nat := 0
def PySem.W.Fast.tw11270927162213326017 : Nat := 0
def PySem.W.Fast.tw11896840645694104361 : Nat := 0
def PySem.W.Fast.tw17697032921205369771 : Nat := 0
def PySem.W.Fast.tw14620016584285302131 : Nat := 0
def PySem.W.Fast.tw9975632199612173336 : Nat := 0
def PySem.W.Fast.tw5175793085108605874 : Nat := 0
def PySem.W.Fast.tw61925592329353563 : Nat := 0
def PySem.W.Fast.tw10944004352640441854 : Nat := 0
def PySem.W.Fast.tw1459913331249713428 : Nat := 0
def PySem.W.Fast.tw6993674009808824293 : Nat := 0
def PySem.W.Fast.tw8398651020603890594 : Nat := 0
def PySem.W.Fast.tw4555377820879315091 : Nat := 0
def PySem.W.Fast.tw14756669423266625856 : Nat := 0
def PySem.W.Fast.tw17441304948219764807 : Nat := 0
def PySem.W.Fast.tw17121131796076163257 : Nat := 0
def PySem.W.Fast.tw4677473911221737455 : Nat := 0
def PySem.W.Fast.tw2178409286296876460 : Nat := 0
def PySem.W.Fast.tw15304710886679537187 : Nat := 0
def PySem.W.Fast.tw1013033636223213176 : Nat := 0
def PySem.W.Fast.tw12314644988496984618 : Nat := 0
def PySem.W.Fast.tw5385394796605889967 : Nat := 0
def PySem.W.Fast.tw11550970081038022976 : Nat := 0
def PySem.W.Fast.tw1557975586663047664 : Nat := 0
def PySem.W.Fast.tw5310354226456479292 : Nat := 0
def PySem.W.Fast.tw12669644536972119228 : Nat := 0
def PySem.W.Fast.tw15281231613399678519 : Nat := 0
def PySem.W.Fast.tw12455818491722852983 : Nat := 0
def PySem.W.Fast.tw18210841462041328340 : Nat := 0
def PySem.W.Fast.tw15253971610208678262 : Nat := 0
def PySem.W.Fast.tw8719581076624651043 : Nat := 0
def PySem.W.Fast.tw202983895345529352 : Nat := 0
def PySem.W.Fast.tw17059528347424575391 : Nat := 0
def PySem.W.Fast.tw14226626988759589255 : Nat := 0
def PySem.W.Fast.tw7235025851904805479 : Nat := 0
def PySem.W.Fast.tw2612231978560217681 : Nat := 0
def PySem.W.Fast.tw9245645126728836250 : Nat := 0
def PySem.W.Fast.tw3926347651395996155 : Nat := 0
def PySem.W.Fast.tw4610926985396915952 : Nat := 0
def PySem.W.Fast.tw2913101128237087323 : Nat := 0
def PySem.W.Fast.tw7835325285339252129 : Nat := 0
def PySem.W.Fast.tw7343602001725143279 : Nat := 0
def PySem.W.Fast.tw11527119799968264853 : Nat := 0
def PySem.W.Fast.tw17623363279335755596 : Nat := 0
def PySem.W.Fast.tw6686719942032930863 : Nat := 0
def PySem.W.Fast.tw11922518127228334267 : Nat := 0
def PySem.W.Fast.tw13307381295036643819 : Nat := 0
def PySem.W.Fast.tw16320242157639943021 : Nat := 0
def PySem.W.Fast.tw13625826060694395194 : Nat := 0
def PySem.W.Fast.tw12031348754280156930 : Nat := 0
def PySem.W.Fast.tw8533901409916617363 : Nat := 0
def PySem.W.Fast.tw11008842506182760861 : Nat := 0
def PySem.W.Fast.tw14197891294669060875 : Nat := 0
def PySem.W.Fast.tw13123421477025306790 : Nat := 0
def PySem.W.Fast.tw11985715006103676433 : Nat := 0
def PySem.W.Fast.tw13520274096579754700 : Nat := 0
def PySem.W.Fast.tw3692936127929297825 : Nat := 0
def PySem.W.Fast.tw2705388106643570057 : Nat := 0
def PySem.W.Fast.tw15601372157174393870 : Nat := 0
def PySem.W.Fast.tw13563159283813461752 : Nat := 0
def PySem.W.Fast.tw7974384951403487742 : Nat := 0
def PySem.W.Fast.tw13540287840726261861 : Nat := 0
def PySem.W.Fast.tw55370169332857882 : Nat := 0
def PySem.W.Fast.tw12527498575107916063 : Nat := 0
def PySem.W.Fast.tw13866273642013693478 : Nat := 0
def PySem.W.Fast.tw10075016770223079687 : Nat := 0
def PySem.W.Fast.tw16523051838146931567 : Nat := 0
def PySem.W.Fast.tw3281665691573988409 : Nat := 0
def PySem.W.Fast.tw12564661034015120329 : Nat := 0
def PySem.W.Fast.tw6873883097879373371 : Nat := 0
def PySem.W.Fast.tw3989039766507499362 : Nat := 0
def PySem.W.Fast.tw8109816225430643594 : Nat := 0
def PySem.W.Fast.tw11127168047165492504 : Nat := 0
def PySem.W.Fast.tw13219717262408780263 : Nat := 0
def PySem.W.Fast.tw13538585863155265216 : Nat := 0
def PySem.W.Fast.tw10115667177216244128 : Nat := 0
def PySem.W.Fast.tw4487521790122924983 : Nat := 0
def PySem.W.Fast.tw8702531402850552289 : Nat := 0
def PySem.W.Fast.tw15282832330083041099 : Nat := 0
def PySem.W.Fast.tw11363247733731589322 : Nat := 0
def PySem.W.Fast.tw9696659628631816120 : Nat := 0
def PySem.W.Fast.tw15196366775947258768 : Nat := 0
def PySem.W.Fast.tw18119514907962343478 : Nat := 0
def PySem.W.Fast.tw5726115553459486519 : Nat := 0
def PySem.W.Fast.tw11237784724275040973 : Nat := 0
def PySem.W.Fast.tw16814930482628573478 : Nat := 0
def PySem.W.Fast.tw3344019068225261555 : Nat := 0
def PySem.W.Fast.tw965717518435533893 : Nat := 0
def PySem.W.Fast.tw6302542513547554388 : Nat := 0
def PySem.W.Fast.tw13591117207261494009 : Nat := 0
def PySem.W.Fast.tw10652122710499435414 : Nat := 0
def PySem.W.Fast.tw7935312980095812877 : Nat := 0
def PySem.W.Fast.tw14354459840193177025 : Nat := 0
def PySem.W.Fast.tw16758823786809407768 : Nat := 0
def PySem.W.Fast.tw5022407772361432189 : Nat := 0
def PySem.W.Fast.tw4493638650433607553 : Nat := 0
def PySem.W.Fast.tw18361854490572497807 : Nat := 0
def PySem.W.Fast.tw1219091235002070924 : Nat := 0
def PySem.W.Fast.tw11595880574787148364 : Nat := 0
def PySem.W.Fast.tw9720494191036414969 : Nat := 0
def PySem.W.Fast.tw12158620108830140046 : Nat := 0
def PySem.W.Fast.tw15350263533002970893 : Nat := 0
def PySem.W.Fast.tw10458811859912578748 : Nat := 0
def PySem.W.Fast.tw5742780868351352204 : Nat := 0
def PySem.W.Fast.tw13544942660358823595 : Nat := 0
def PySem.W.Fast.tw4563153184015120081 : Nat := 0
def PySem.W.Fast.tw12968997502602373388 : Nat := 0
def PySem.W.Fast.tw3721636032278901619 : Nat := 0
def PySem.W.Fast.tw2822474083897692863 : Nat := 0
def PySem.W.Fast.tw4498797688183061399 : Nat := 0
def PySem.W.Fast.tw7645860165072589101 : Nat := 0
def PySem.W.Fast.tw16395587961009878616 : Nat := 0
def PySem.W.Fast.tw16058149875765839130 : Nat := 0
def PySem.W.Fast.tw10262637659017803212 : Nat := 0
def PySem.W.Fast.tw11513284109627463297 : Nat := 0
def PySem.W.Fast.tw10988632125146187843 : Nat := 0
def PySem.W.Fast.tw15520863700361340219 : Nat := 0
def PySem.W.Fast.tw10804888697622199032 : Nat := 0
def PySem.W.Fast.tw7965850511780107579 : Nat := 0
def PySem.W.Fast.tw13890037065481962732 : Nat := 0
def PySem.W.Fast.tw11902317195673339366 : Nat := 0
def PySem.W.Fast.tw7430964608421937008 : Nat := 0
def PySem.W.Fast.tw2626257196986005286 : Nat := 0
def PySem.W.Fast.tw5504893560808633099 : Nat := 0
def PySem.W.Fast.tw17543876204284389281 : Nat := 0
def PySem.W.Fast.tw6630025519679280935 : Nat := 0
def PySem.W.Fast.tw16368609546429218941 : Nat := 0
def PySem.W.Fast.tw6445594278929730803 : Nat := 0
def PySem.W.Fast.tw4008376628828700533 : Nat := 0
def PySem.W.Fast.tw7557411516817351392 : Nat := 0
def PySem.W.Fast.tw14726199604755456628 : Nat := 0
def PySem.W.Fast.tw15454593428527360977 : Nat := 0
def PySem.W.Fast.tw3563461461304241325 : Nat := 0
def PySem.W.Fast.tw1632731866002736020 : Nat := 0
def PySem.W.Fast.tw15887503050439755077 : Nat := 0
def PySem.W.Fast.tw6782344079286802223 : Nat := 0
def PySem.W.Fast.tw12701361235710652361 : Nat := 0
def PySem.W.Fast.tw16583378418780573915 : Nat := 0
def PySem.W.Fast.tw6921013827929022375 : Nat := 0
def PySem.W.Fast.tw15927172820238354155 : Nat := 0
def PySem.W.Fast.tw5029517550636355103 : Nat := 0
def PySem.W.Fast.tw3011915553617439049 : Nat := 0
def PySem.W.Fast.tw3108061210992991556 : Nat := 0
def PySem.W.Fast.tw2838120437245103645 : Nat := 0
def PySem.W.Fast.tw1873953109027857596 : Nat := 0
def PySem.W.Fast.tw8900880357937163360 : Nat := 0
def PySem.W.Fast.tw7092957838510604407 : Nat := 0
def PySem.W.Fast.tw4164842736052715919 : Nat := 0
def PySem.W.Fast.tw9634642014054750676 : Nat := 0
def PySem.W.Fast.tw7307309113733546826 : Nat := 0
def PySem.W.Fast.tw6863999508821201232 : Nat := 0
def PySem.W.Fast.tw18306208453907145955 : Nat := 0
def PySem.W.Fast.tw8424914536420191101 : Nat := 0
def PySem.W.Fast.tw11045312186461390797 : Nat := 0
def PySem.W.Fast.tw10182860571118513712 : Nat := 0
def PySem.W.Fast.tw9558427408278590590 : Nat := 0
def PySem.W.Fast.tw18387623480011752368 : Nat := 0
def PySem.W.Fast.tw13881858700749594402 : Nat := 0
def PySem.W.Fast.tw3243447673184199605 : Nat := 0
def PySem.W.Fast.tw8087179603243262670 : Nat := 0
def PySem.W.Fast.tw5094019223849612074 : Nat := 0
def PySem.W.Fast.tw4828723835583660998 : Nat := 0
def PySem.W.Fast.tw9247242633713627612 : Nat := 0
def PySem.W.Fast.tw8120328496534052295 : Nat := 0
def PySem.W.Fast.tw6796546616862699424 : Nat := 0
def PySem.W.Fast.tw14304851501711973074 : Nat := 0
def PySem.W.Fast.tw8705492331564903833 : Nat := 0
def PySem.W.Fast.tw32777343921378904 : Nat := 0
def PySem.W.Fast.tw4606877617207731092 : Nat := 0
def PySem.W.Fast.tw9484001346510223317 : Nat := 0
def PySem.W.Fast.tw16276170374282268452 : Nat := 0
def PySem.W.Fast.tw10257417462166151345 : Nat := 0
def PySem.W.Fast.tw14566467123984902672 : Nat := 0
def PySem.W.Fast.tw13692142619512378461 : Nat := 0
def PySem.W.Fast.tw16742952623753042899 : Nat := 0
def PySem.W.Fast.tw8728628590468747717 : Nat := 0
def PySem.W.Fast.tw15052510734394939974 : Nat := 0
def PySem.W.Fast.tw18034825206787603132 : Nat := 0
def PySem.W.Fast.tw8457560123375207065 : Nat := 0
def PySem.W.Fast.tw16959589317504394691 : Nat := 0
def PySem.W.Fast.tw6195434145037898040 : Nat := 0
def PySem.W.Fast.tw12604165609413297499 : Nat := 0
def PySem.W.Fast.tw17186771541158531906 : Nat := 0
def PySem.W.Fast.tw6028362192576969800 : Nat := 0
def PySem.W.Fast.tw13007518427389394130 : Nat := 0
def PySem.W.Fast.tw2827481216181054120 : Nat := 0
def PySem.W.Fast.tw2421623645071560354 : Nat := 0
def PySem.W.Fast.tw18029749765040365336 : Nat := 0
def PySem.W.Fast.tw17677602878556106369 : Nat := 0
def PySem.W.Fast.tw8409503469674930129 : Nat := 0
def PySem.W.Fast.tw5256159498176601325 : Nat := 0
def PySem.W.Fast.tw1448172707544381731 : Nat := 0
def PySem.W.Fast.tw17634126223356414083 : Nat := 0
def PySem.W.Fast.tw16907601070753324886 : Nat := 0
def PySem.W.Fast.tw1843140619613829830 : Nat := 0
def PySem.W.Fast.tw5766481335376591688 : Nat := 0
def PySem.W.Fast.tw5012784604323551290 : Nat := 0
def PySem.W.Fast.tw17723575515482759201 : Nat := 0
def PySem.W.Fast.tw9946499994594389534 : Nat := 0
def PySem.W.Fast.tw12377169304684187574 : Nat := 0
def PySem.W.Fast.tw9416391046250700496 : Nat := 0
def PySem.W.Fast.tw16301726360365920818 : Nat := 0
def PySem.W.Fast.tw17767297397362032152 : Nat := 0
def PySem.W.Fast.tw13681996814158909229 : Nat := 0
def PySem.W.Fast.tw17316183276610028561 : Nat := 0
def PySem.W.Fast.tw13346309065756358248 : Nat := 0
def PySem.W.Fast.tw5934976388039897312 : Nat := 0
def PySem.W.Fast.tw6201519697280244736 : Nat := 0
def PySem.W.Fast.tw7768176331347038413 : Nat := 0
def PySem.W.Fast.tw2607033163282662496 : Nat := 0
def PySem.W.Fast.tw11744584634037575148 : Nat := 0
def PySem.W.Fast.tw2424300884798610757 : Nat := 0
def PySem.W.Fast.tw3900933360472904622 : Nat := 0
def PySem.W.Fast.tw12884838176249350610 : Nat := 0
def PySem.W.Fast.tw15054078969032333103 : Nat := 0
def PySem.W.Fast.tw1208709521531643160 : Nat := 0
def PySem.W.Fast.tw16959573324656619784 : Nat := 0
def PySem.W.Fast.tw14395227414726201043 : Nat := 0
def PySem.W.Fast.tw11785158297841688014 : Nat := 0
def PySem.W.Fast.tw17664986170247816870 : Nat := 0
def PySem.W.Fast.tw15154373329738047133 : Nat := 0
def PySem.W.Fast.tw4836602381281781833 : Nat := 0
def PySem.W.Fast.tw13312506996446048259 : Nat := 0
def PySem.W.Fast.tw3691366392510311674 : Nat := 0
def PySem.W.Fast.tw8471745210099212556 : Nat := 0
def PySem.W.Fast.tw9412926880791789821 : Nat := 0
def PySem.W.Fast.tw10761764830009161037 : Nat := 0
def PySem.W.Fast.tw17662192939452202969 : Nat := 0
def PySem.W.Fast.tw17151501292638243073 : Nat := 0
def PySem.W.Fast.tw8290711458101669792 : Nat := 0
def PySem.W.Fast.tw12254911880729197945 : Nat := 0
def PySem.W.Fast.tw11775347583971389568 : Nat := 0
def PySem.W.Fast.tw1041383358267332176 : Nat := 0
def PySem.W.Fast.tw11421946809113653586 : Nat := 0
def PySem.W.Fast.tw3520494581448229489 : Nat := 0
def PySem.W.Fast.tw5865836146879925124 : Nat := 0
def PySem.W.Fast.tw15447870617083258739 : Nat := 0
def PySem.W.Fast.tw13358641467437787294 : Nat := 0
def PySem.W.Fast.tw15653896132994958932 : Nat := 0
def PySem.W.Fast.tw8564994825534218414 : Nat := 0
def PySem.W.Fast.tw11631424486753634549 : Nat := 0
def PySem.W.Fast.tw12381135669304058064 : Nat := 0
def PySem.W.Fast.tw3465425929101171894 : Nat := 0
def PySem.W.Fast.tw2104878880324694630 : Nat := 0
def PySem.W.Fast.tw12350221001022129520 : Nat := 0
def PySem.W.Fast.tw11340852891237988321 : Nat := 0
def PySem.W.Fast.tw4806605393105501231 : Nat := 0
def PySem.W.Fast.tw2363570851059361607 : Nat := 0
def PySem.W.Fast.tw14735837704393336256 : Nat := 0
def PySem.W.Fast.tw10716517491258756521 : Nat := 0
def PySem.W.Fast.tw11980604983756920692 : Nat := 0
def PySem.W.Fast.tw16832147748929576330 : Nat := 0
def PySem.W.Fast.tw5531636314853968963 : Nat := 0
def PySem.W.Fast.tw12025376086564188088 : Nat := 0
def PySem.W.Fast.tw11222952269478483807 : Nat := 0
def PySem.W.Fast.tw13937346029070776010 : Nat := 0
def PySem.W.Fast.tw1530888250507934539 : Nat := 0
def PySem.W.Fast.tw17507608407376516219 : Nat := 0
def PySem.W.Fast.tw17710653870351291373 : Nat := 0
def PySem.W.Fast.tw10115968353938265236 : Nat := 0
def PySem.W.Fast.tw8946900810901779454 : Nat := 0
def PySem.W.Fast.tw11712390657916072230 : Nat := 0
def PySem.W.Fast.tw1921141462666594245 : Nat := 0
def PySem.W.Fast.tw7158452379144743999 : Nat := 0
def PySem.W.Fast.tw505506444077085723 : Nat := 0
def PySem.W.Fast.tw2625987219789955422 : Nat := 0
def PySem.W.Fast.tw4647917940428175078 : Nat := 0
def PySem.W.Fast.tw1621584129145555442 : Nat := 0
def PySem.W.Fast.tw6042667291345900900 : Nat := 0
def PySem.W.Fast.tw1644840309687462319 : Nat := 0
def PySem.W.Fast.tw12658333747334656865 : Nat := 0
def PySem.W.Fast.tw10236987212438216830 : Nat := 0
def PySem.W.Fast.tw17020075033035411165 : Nat := 0
def PySem.W.Fast.tw15648023165973601012 : Nat := 0
def PySem.W.Fast.tw14724111221635228111 : Nat := 0
def PySem.W.Fast.tw17443789477977999407 : Nat := 0
def PySem.W.Fast.tw1630713635270316903 : Nat := 0
def PySem.W.Fast.tw8458501226198625019 : Nat := 0
def PySem.W.Fast.tw7472696691985250161 : Nat := 0
def PySem.W.Fast.tw8916487281979640836 : Nat := 0
def PySem.W.Fast.tw5339309049733206452 : Nat := 0
def PySem.W.Fast.tw1815897336581335161 : Nat := 0
def PySem.W.Fast.tw17605397630241554078 : Nat := 0
def PySem.W.Fast.tw9451654808422985688 : Nat := 0
def PySem.W.Fast.tw4699188164874944071 : Nat := 0
def PySem.W.Fast.tw6625453839360564538 : Nat := 0
def PySem.W.Fast.tw3014312348616671270 : Nat := 0
def PySem.W.Fast.tw1706368173041337756 : Nat := 0
def PySem.W.Fast.tw822352877813350785 : Nat := 0
def PySem.W.Fast.tw15324200780320850881 : Nat := 0
def PySem.W.Fast.tw13158403058202212895 : Nat := 0
def PySem.W.Fast.tw13808585277119180554 : Nat := 0
def PySem.W.Fast.tw16330769960265636054 : Nat := 0
def PySem.W.Fast.tw2825978896903149814 : Nat := 0
def PySem.W.Fast.tw17001201104695821066 : Nat := 0
def PySem.W.Fast.tw14165003071980508074 : Nat := 0
def PySem.W.Fast.tw11950803197771762205 : Nat := 0
def PySem.W.Fast.tw11097159514584490313 : Nat := 0
def PySem.W.Fast.tw1093754930184167868 : Nat := 0
def PySem.W.Fast.tw11813550881535538014 : Nat := 0
def PySem.W.Fast.tw16656734668350982426 : Nat := 0
def PySem.W.Fast.tw17157653713671113983 : Nat := 0
def PySem.W.Fast.tw654177590217782633 : Nat := 0
def PySem.W.Fast.tw6806233032986524546 : Nat := 0
def PySem.W.Fast.tw13967624756955318243 : Nat := 0
def PySem.W.Fast.tw11052791900407893996 : Nat := 0
def PySem.W.Fast.tw14947884367620663908 : Nat := 0
def PySem.W.Fast.tw13713774595982522279 : Nat := 0
def PySem.W.Fast.tw9351147404323210941 : Nat := 0
def PySem.W.Fast.tw6997863136771919380 : Nat := 0
def PySem.W.Fast.tw17857112999059934488 : Nat := 0
def PySem.W.Fast.tw4944489607435977989 : Nat := 0
def PySem.W.Fast.tw8295790444911254360 : Nat := 0
def PySem.W.Fast.tw13543996066091788990 : Nat := 0
def PySem.W.Fast.tw8564808046357016165 : Nat := 0
def PySem.W.Fast.tw12040250896485112467 : Nat := 0
def PySem.W.Fast.tw18407438176150739745 : Nat := 0
def PySem.W.Fast.tw11386442341182818139 : Nat := 0
def PySem.W.Fast.tw1427025164001399998 : Nat := 0
def PySem.W.Fast.tw16050156133288072591 : Nat := 0
def PySem.W.Fast.tw1435184817752587204 : Nat := 0
def PySem.W.Fast.tw12726182250464822124 : Nat := 0
def PySem.W.Fast.tw2301142577260324914 : Nat := 0
def PySem.W.Fast.tw17160319766684967231 : Nat := 0
def PySem.W.Fast.tw12169078660088072770 : Nat := 0
def PySem.W.Fast.tw1441923979699953387 : Nat := 0
def PySem.W.Fast.tw3713061176393070950 : Nat := 0
def PySem.W.Fast.tw18005495133254840093 : Nat := 0
def PySem.W.Fast.tw13757679314705800729 : Nat := 0
def PySem.W.Fast.tw15601895301639086768 : Nat := 0
def PySem.W.Fast.tw15255323170377004565 : Nat := 0
def PySem.W.Fast.tw3111227126870250589 : Nat := 0
def PySem.W.Fast.tw5039603296405121159 : Nat := 0
def PySem.W.Fast.tw4102340168418416116 : Nat := 0
def PySem.W.Fast.tw5816331866280742766 : Nat := 0
def PySem.W.Fast.tw3259973279700386312 : Nat := 0
def PySem.W.Fast.tw1926609057561828590 : Nat := 0
def PySem.W.Fast.tw16877801000330248915 : Nat := 0
def PySem.W.Fast.tw10675715813009726614 : Nat := 0
def PySem.W.Fast.tw17357774537536402506 : Nat := 0
def PySem.W.Fast.tw12436264132450425840 : Nat := 0
def PySem.W.Fast.tw2773451540511909169 : Nat := 0
def PySem.W.Fast.tw8481945043174162831 : Nat := 0
def PySem.W.Fast.tw9278560659603678391 : Nat := 0
def PySem.W.Fast.tw1898009894644727595 : Nat := 0
def PySem.W.Fast.tw4582798228761815980 : Nat := 0
def PySem.W.Fast.tw7913049874109504187 : Nat := 0
def PySem.W.Fast.tw16033785007320741824 : Nat := 0
def PySem.W.Fast.tw6548398664478095577 : Nat := 0
def PySem.W.Fast.tw8194576920907854680 : Nat := 0
def PySem.W.Fast.tw11021360829194121223 : Nat := 0
def PySem.W.Fast.tw5307390287021834700 : Nat := 0
def PySem.W.Fast.tw4253110169732145997 : Nat := 0
def PySem.W.Fast.tw713363015588026517 : Nat := 0
def PySem.W.Fast.tw3236072405673258043 : Nat := 0
def PySem.W.Fast.tw10945807049185547149 : Nat := 0
def PySem.W.Fast.tw9819243401378095182 : Nat := 0
def PySem.W.Fast.tw8649367907104535467 : Nat := 0
def PySem.W.Fast.tw9704155162061702063 : Nat := 0
def PySem.W.Fast.tw16047433333029252019 : Nat := 0
def PySem.W.Fast.tw3320594240331766809 : Nat := 0
def PySem.W.Fast.tw7242743385176031280 : Nat := 0
def PySem.W.Fast.tw110083036775139456 : Nat := 0
def PySem.W.Fast.tw2925016942871136377 : Nat := 0
def PySem.W.Fast.tw15908162415124288859 : Nat := 0
def PySem.W.Fast.tw1036883946337047018 : Nat := 0
def PySem.W.Fast.tw7457257059889536626 : Nat := 0
def PySem.W.Fast.tw9920827854415664484 : Nat := 0
def PySem.W.Fast.tw17540391601030024935 : Nat := 0
def PySem.W.Fast.tw3355257151895847278 : Nat := 0
def PySem.W.Fast.tw6071682243978256717 : Nat := 0
def PySem.W.Fast.tw6526707783689885015 : Nat := 0
def PySem.W.Fast.tw3822215222190487360 : Nat := 0
def PySem.W.Fast.tw15999395775969387333 : Nat := 0
def PySem.W.Fast.tw5606800094600806945 : Nat := 0
def PySem.W.Fast.tw12384926948151253151 : Nat := 0
def PySem.W.Fast.tw10732687216676606934 : Nat := 0
def PySem.W.Fast.tw766862904161456621 : Nat := 0
def PySem.W.Fast.tw12186921794408552443 : Nat := 0
def PySem.W.Fast.tw16842081656434781313 : Nat := 0
def PySem.W.Fast.tw71130390428922825 : Nat := 0
def PySem.W.Fast.tw5999446310828533555 : Nat := 0
def PySem.W.Fast.tw12787610631089088931 : Nat := 0
def PySem.W.Fast.tw14347728904730971346 : Nat := 0
def PySem.W.Fast.tw17831801891714452940 : Nat := 0
def PySem.W.Fast.tw16360111127436902851 : Nat := 0
set_option maxRecDepth 100000 in
set_option maxHeartbeats 0 in
theorem PySem.Challenge.cw_spareplank_k48_an_asking_step_by_step_holds : PySem.Challenge.rw_spareplank_k48_an_asking_step_by_step.Holds := by
 w_on; o_law; k_head; (case hw => w_witness2)
 k_fill
 refine My.walk (l := PySem.Challenge.rw_spareplank_k48_an_asking_step_by_step) rfl rfl (fun w h Y => ⟨PySem.W.km_in_of Y,PySem.W.km_tabs_of Y⟩) ?F
 case F =>
  intro w mg fa h KX G hmg
  refine My.fin KX hmg (by decide) ?X
  refine' My.txt_ex ?T ?E
  case T =>
   constructor
   all_goals (try dsimp only)
   all_goals first
    | (refine' L2.gd_mk KX G ?ya ?yl ?yc ?yk ?yb; (case ya => k_is); (case yl => k_is); (case yc => k_is); (case yk => k_is); (case yb => first | (exact fun _ _ _ _ _ _ us hl => match us,hl with | [],_ => rfl) | (exact fun _ _ _ _ _ _ us hl => match us,hl with | [_],_ => rfl) | (exact fun _ _ _ _ _ _ us hl => match us,hl with | [_,_],_ => rfl) | (exact fun _ _ _ _ _ _ us hl => match us,hl with | [_,_,_],_ => rfl) | (exact fun _ _ _ _ _ _ us hl => match us,hl with | [_,_,_,_],_ => rfl) | (exact fun _ _ _ _ _ _ us hl => match us,hl with | [_,_,_,_,_],_ => rfl) | (exact fun _ _ _ _ _ _ us hl => match us,hl with | [_,_,_,_,_,_],_ => rfl)))
    | (refine' L2.md_mk ?ya ?yi ?yl ?yc ?yk ?yb; (case ya => k_is); (case yi => k_is); (case yl => k_is); (case yc => k_is); (case yk => k_is); (case yb => first | (exact fun _ _ _ _ _ _ us hl => match us,hl with | [],_ => rfl) | (exact fun _ _ _ _ _ _ us hl => match us,hl with | [_],_ => rfl) | (exact fun _ _ _ _ _ _ us hl => match us,hl with | [_,_],_ => rfl) | (exact fun _ _ _ _ _ _ us hl => match us,hl with | [_,_,_],_ => rfl) | (exact fun _ _ _ _ _ _ us hl => match us,hl with | [_,_,_,_],_ => rfl) | (exact fun _ _ _ _ _ _ us hl => match us,hl with | [_,_,_,_,_],_ => rfl) | (exact fun _ _ _ _ _ _ us hl => match us,hl with | [_,_,_,_,_,_],_ => rfl)))
    | (refine' L2.gt_mk KX G ?ya ?yl ?yc ?yx ?yy ?yh ?yn ?yk ?yb; (case ya => k_is); (case yl => k_is); (case yc => k_is); (case yx => k_is); (case yy => first | rfl | k_is); (case yh => first | rfl | k_is); (case yn => first | rfl | k_is); (case yk => k_is); (case yb => first | (exact fun _ _ _ _ _ _ us hl => match us,hl with | [],_ => rfl) | (exact fun _ _ _ _ _ _ us hl => match us,hl with | [_],_ => rfl) | (exact fun _ _ _ _ _ _ us hl => match us,hl with | [_,_],_ => rfl) | (exact fun _ _ _ _ _ _ us hl => match us,hl with | [_,_,_],_ => rfl) | (exact fun _ _ _ _ _ _ us hl => match us,hl with | [_,_,_,_],_ => rfl) | (exact fun _ _ _ _ _ _ us hl => match us,hl with | [_,_,_,_,_],_ => rfl) | (exact fun _ _ _ _ _ _ us hl => match us,hl with | [_,_,_,_,_,_],_ => rfl)))
    | (refine' L2.mt_mk ?ya ?yi ?yl ?yc ?yx ?yy ?yh ?yn ?yk ?yb; (case ya => k_is); (case yi => k_is); (case yl => k_is); (case yc => k_is); (case yx => k_is); (case yy => first | rfl | k_is); (case yh => first | rfl | k_is); (case yn => first | rfl | k_is); (case yk => k_is); (case yb => first | (exact fun _ _ _ _ _ _ us hl => match us,hl with | [],_ => rfl) | (exact fun _ _ _ _ _ _ us hl => match us,hl with | [_],_ => rfl) | (exact fun _ _ _ _ _ _ us hl => match us,hl with | [_,_],_ => rfl) | (exact fun _ _ _ _ _ _ us hl => match us,hl with | [_,_,_],_ => rfl) | (exact fun _ _ _ _ _ _ us hl => match us,hl with | [_,_,_,_],_ => rfl) | (exact fun _ _ _ _ _ _ us hl => match us,hl with | [_,_,_,_,_],_ => rfl) | (exact fun _ _ _ _ _ _ us hl => match us,hl with | [_,_,_,_,_,_],_ => rfl)))
    | (refine' PySem.W.mg_of KX G ?_; k_is)
    | (refine' PySem.W.mg_none_of KX G ?_; k_is)
    | (refine' (show PySem.W.findIn _ _ _ = some none from ?_); k_is)
    | (refine' L2.Cls.mk ?_ ?_ ?_ ?_ <;> k_is)
    | (refine' L2.Mk.mk ?_ ?_ ?_ ?_ <;> k_is)
    | rfl
    | (constructor <;> first | k_is | rfl)
  case E => first | exact .refl _ | decide
#print axioms PySem.Challenge.cw_spareplank_k48_an_asking_step_by_step_holds
