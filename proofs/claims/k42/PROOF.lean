import PyProof.Rows.All
import Wide.All
import OpenK.AllK
import Wide.FinOn
import Lean
import PyProof.EqAt
import PyProof.EqKinds
import PyProof.TupleCall
import PyProof.NeKinds
import PySem.Challenge.RW_spareplank_k42_whole_least_price_of_a_re
set_option Elab.async false
set_option linter.all false
set_option maxRecDepth 100000
namespace L2
open PySem PySem.Spec PyProof.Rows
abbrev Key := Sum Int Str
def qgy_ : Key -> Value -> Bool
 | .inl k, v => Value.isInt k v
 | .inr x, v => Value.isStrOf x v
def keyH (w : World) : Key -> Int
 | .inl k => hashInt k
 | .inr x => hashStr w x
theorem jt_ : ∀ {k : Key} {v : Value}, qgy_ k v = true -> (∃ i t, k = Sum.inl i /\ v = Value.int i t) \/ (∃ x t, k = Sum.inr x /\ v = Value.str x t)
 | .inl i, v, h => by
  obtain ⟨t, e⟩ := Value.isInt_shape (k := i) (v := v) h
  exact .inl ⟨i, t, rfl, e⟩
 | .inr x, v, h => by
  obtain ⟨t, e⟩ := Value.isStrOf_shape (x := x) (v := v) h
  exact .inr ⟨x, t, rfl, e⟩
theorem qip_ (a b : Int) : decide ((Sum.inl a : Key) = Sum.inl b) = (a == b) := by
 by_cases e : a = b
 ·subst e; simp
 ·have h : ¬ (Sum.inl a : Key) = Sum.inl b := fun q => e (Sum.inl.inj q)
  rw [decide_eq_false h]
  exact (beq_eq_false_iff_ne.mpr e).symm
theorem qiq_ (a b : Str) : decide ((Sum.inr a : Key) = Sum.inr b) = decide (a = b) := by
 by_cases e : a = b
 ·subst e; simp
 ·have h : ¬ (Sum.inr a : Key) = Sum.inr b := fun q => e (Sum.inr.inj q)
  rw [decide_eq_false h, decide_eq_false e]
theorem qir_ (a : Int) (b : Str) : decide ((Sum.inl a : Key) = Sum.inr b) = false := decide_eq_false (fun q => nomatch q)
theorem qis_ (a : Str) (b : Int) : decide ((Sum.inr a : Key) = Sum.inl b) = false := decide_eq_false (fun q => nomatch q)
def qb0_ (prog : Program) (w : World) : PySem.KeyKind prog w Key where
 is := qgy_
 hash := keyH w
 inj := fun v a b ha hb => by
  rcases jt_ ha with ⟨i, t, rfl, rfl⟩ | ⟨x, t, rfl, rfl⟩
  ·rcases jt_ hb with ⟨j, u, rfl, e⟩ | ⟨y, u, rfl, e⟩
   ·injection e with e1 _; rw [e1]
   ·exact nomatch e
  ·rcases jt_ hb with ⟨j, u, rfl, e⟩ | ⟨y, u, rfl, e⟩
   ·exact nomatch e
   ·injection e with e1 _; rw [e1]
 byValue := fun k v h => by
  rcases jt_ h with ⟨i, t, rfl, rfl⟩ | ⟨x, t, rfl, rfl⟩ <;> rfl
 pyHash := fun hv h => by
  rcases jt_ hv with ⟨i, t, rfl, rfl⟩ | ⟨x, t, rfl, rfl⟩
  ·exact wpAny_pyHash_int h
  ·exact wpAny_pyHash_str h
 eqBool := fun hu hv h => by
  rcases jt_ hu with ⟨i, t, rfl, rfl⟩ | ⟨x, t, rfl, rfl⟩
  ·rcases jt_ hv with ⟨j, u, rfl, rfl⟩ | ⟨y, u, rfl, rfl⟩
   ·rw [qip_] at h; exact wpAny_eqBool_int h
   ·rw [qir_] at h; exact SeqAt.EqAt.int_str i t y u _ _ _ _ h
  ·rcases jt_ hv with ⟨j, u, rfl, rfl⟩ | ⟨y, u, rfl, rfl⟩
   ·rw [qis_] at h; exact SeqAt.EqAt.str_int x t j u _ _ _ _ h
   ·rw [qiq_] at h; exact wpAny_eqBool_str h
 «strs» := fun k x t v h => by
  rcases jt_ h with ⟨i, u, rfl, e⟩ | ⟨y, u, rfl, e⟩
  ·exact nomatch e
  ·injection e with e1 _
   subst e1
   cases v <;> rfl
end L2
namespace L2
open PySem PySem.Spec PyProof.Rows
inductive V where
 | non | bl (b : Bool) | int (i : Int) | str (x : Str) | byt (b : Array UInt8) | flt (b : UInt64) | ref (a : Addr) | ty (n : String)
 deriving DecidableEq
def RelV : V -> Value -> Prop
 | .non, u => u = Value.none
 | .bl b, u => u = Value.bool b
 | .int i, u => ∃ t, u = Value.int i t
 | .str x, u => ∃ t, u = Value.str x t
 | .byt b, u => ∃ t, u = Value.bytes b t
 | .flt b, u => ∃ t, u = Value.float b t
 | .ref a, u => u = Value.ref a
 | .ty n, u => u = Value.type n
abbrev Vals : List V -> List Value -> Prop := Paired RelV
theorem Vals.length {xs : List V} {us : List Value} (r : Vals xs us) : xs.length = us.length := Paired.length r
theorem Vals.get : ∀ {xs : List V} {us : List Value} {i : Nat} {x : V}, Vals xs us -> xs[i]? = some x -> ∃ u, us[i]? = some u /\ RelV x u
 | _, _, _, _, .nil, e => by simp at e
 | _, _, 0, _, .cons r _, e => by simp at e; subst e; exact ⟨_, rfl, r⟩
 | _, _, i + 1, x, .cons _ t, e => by
  obtain ⟨u, h1, h2⟩ := Vals.get (i := i) (x := x) t (by simpa using e)
  exact ⟨u, by simpa using h1, h2⟩
theorem Vals.set {x : V} {u : Value} (r : RelV x u) : ∀ {xs : List V} {us : List Value} (i : Nat), Vals xs us -> Vals (xs.set i x) (us.set i u)
 | _, _, _, .nil => .nil
 | _, _, 0, .cons _ t => .cons r t
 | _, _, i + 1, .cons q t => .cons q (Vals.set r i t)
theorem Vals.append : ∀ {xs ys : List V} {us ws : List Value}, Vals xs us -> Vals ys ws -> Vals (xs ++ ys) (us ++ ws)
 | _, _, _, _, .nil, s => s
 | _, _, _, _, .cons r t, s => .cons r (Vals.append t s)
theorem Vals.take : ∀ {xs : List V} {us : List Value} (n : Nat), Vals xs us -> Vals (xs.take n) (us.take n)
 | _, _, 0, _ => .nil
 | _, _, _ + 1, .nil => .nil
 | _, _, n + 1, .cons r t => .cons r (Vals.take n t)
theorem Vals.drop : ∀ {xs : List V} {us : List Value} (n : Nat), Vals xs us -> Vals (xs.drop n) (us.drop n)
 | _, _, 0, r => r
 | _, _, _ + 1, .nil => .nil
 | _, _, n + 1, .cons _ t => Vals.drop n t
def RelO : Option V -> Option Value -> Prop
 | some v, some u => RelV v u
 | none, none => True
 | _, _ => False
def KV {κ : Type} : List (κ × V) -> List (κ × Value) -> Prop := Paired fun (p : κ × V) (q : κ × Value) => p.1 = q.1 /\ RelV p.2 q.2
def kV : Key -> V
 | .inl i => .int i
 | .inr x => .str x
inductive HO where
 | lst (xs : List V)
 | tup (xs : List V)
 | dK (kvs : List (Key × V)) | dT (kvs : List (List Key × V))
 | set (S : Int -> Bool) (n : Nat)
 | ins (C dx : Addr) (fs : List (Str × V))
 | own (x : Addr)
 | xd (fs : List (Str × V))
 | met (f x : Addr)
 | rng (lo hi : Int)
 | frz (o : Obj) (u : HO)
 | tbl (ps : Array Value)
 | ext (φ : Heap -> Prop)
abbrev Hp := Addr -> Option HO
def upd (H : Hp) (a : Addr) (o : HO) : Hp := fun b => if b = a then some o else H b
theorem qd_ {H : Hp} {a : Addr} {o : HO} : upd H a o a = some o := by unfold upd; rw [if_pos rfl]
theorem qe_ {H : Hp} {a b : Addr} {o : HO} (h : b ≠ a) : upd H a o b = H b := by unfold upd; rw [if_neg h]
theorem js_ {H : Hp} {a : Addr} {o u : HO} : upd (upd H a o) a u = upd H a u := by
 funext b; unfold upd; split <;> rfl
theorem yL_ {H : Hp} {a b : Addr} {o u : HO} (h : H a = some o) (h' : H b = some u) (d : o ≠ u) : a ≠ b := by
 intro e; subst e; rw [h] at h'; exact d (Option.some.inj h')
theorem qk_ {H : Hp} {a b : Addr} {o : HO} (h : H a = some o) (h' : H b = none) : a ≠ b := by
 intro e; subst e; rw [h] at h'; cases h'
section
variable (P : Program) (w : World)
def ObjOk (H : Hp) (h : Heap) (a : Addr) : HO -> Prop
 | .lst xs => xs.length ≤ sizeLine ∧ ∃ (its : List Value) (n : Nat), Vals xs its ∧ h.get? a = some { cls := .type "list", data := .seq its.toArray n }
 | .tup xs => xs.length <= sizeLine /\ ∃ its : List Value, Vals xs its /\ IsTup h a its.toArray
 | .dK kvs => kvs.length <= sizeLine /\ (a == sysModules) = false /\ ∃ vs, KV kvs vs /\ h.DictOf (qb0_ P w) a vs
 | .dT kvs => kvs.length <= sizeLine /\ (a == sysModules) = false /\ ∃ xs : List (List Key × Addr × Value),
   Paired (fun (p : List Key × V) (q : List Key × Addr × Value) => p.1 = q.1 /\ H q.2.1 = some (.tup (p.1.map kV)) /\ RelV p.2 q.2.2) kvs xs ∧
   ∃ o es ep, h.get? a = some o /\ o.ExactDict /\ o.data = .dict es ep /\ es.toList = xs.map (entryOfKey (tupleKind (qb0_ P w))) /\ (xs.map (·.1)).Nodup
 | .set S n => h.SetOf (intKind P w) a S n
 | .ins C dx fs => H dx = some (.own a) /\ fs.length <= 1000 /\ dx ≠ a /\ h.get? a = some (PySem.W.instObj C dx) ∧
   ∃ mA, h.Ns1 dx mA /\ (∀ f, RelO (fs.lookup f) (mA f)) /\ PySem.Within mA (fs.map (·.1))
 | .own _ => ∃ o, h.get? a = some o
 | .xd fs => ∃ mA, h.Ns1 a mA /\ ∀ f, RelO (fs.lookup f) (mA f)
 | .rng lo hi => ∃ t u v, h.get? a = some { cls := .type "range", data := .fields #[.int lo t, .int hi u, .int 1 v] }
 | .frz o u => h.get? a = some o /\ ObjOk H h a u
 | .tbl ps => h.get? a = some { cls := .none, data := .fields ps }
 | .met f x => h.get? a = some (PySem.W.methodObj (.ref f) (.ref x))
 | .ext φ => φ h /\ (∃ o, h.get? a = some o) /\ ∀ h1 h2 : Heap, φ h1 -> (∀ o, h1.get? a = some o -> h2.get? a = some o) -> φ h2
def HOk (H : Hp) (h : Heap) : Prop := ∀ a o, H a = some o -> ObjOk P w H h a o
end
section
variable {P : Program} {w : World} {H H' : Hp} {h h' : Heap} {a : Addr} {o : HO}
theorem ObjOk.lt (x : ObjOk P w H h a o) : a < h.objs.size := by
 cases o with
 | lst xs => obtain ⟨_, _, _, _, e⟩ := x; exact Heap.lt_size e
 | tup xs => obtain ⟨_, _, _, p⟩ := x; exact p.lt
 | dK kvs => obtain ⟨_, _, _, _, o, _, _, e, _⟩ := x; exact Heap.lt_size e
 | dT kvs => obtain ⟨_, _, _, _, o, _, _, e, _⟩ := x; exact Heap.lt_size e
 | set S n => obtain ⟨o, _, _, _, e, _⟩ := x; exact Heap.lt_size e
 | ins C dx fs => obtain ⟨_, _, _, e, _⟩ := x; exact Heap.lt_size e
 | own y => obtain ⟨_, e⟩ := x; exact Heap.lt_size e
 | xd fs => obtain ⟨_, ⟨_, _, _, e, _⟩, _⟩ := x; exact Heap.lt_size e
 | rng lo hi => obtain ⟨_, _, _, e⟩ := x; exact Heap.lt_size e
 | frz ob u => obtain ⟨e, _⟩ := x; exact Heap.lt_size e
 | tbl ps => exact Heap.lt_size (show h.get? a = some _ from x)
 | met f y => exact Heap.lt_size (show h.get? a = some _ from x)
 | ext φ => obtain ⟨_, ⟨_, e⟩, _⟩ := x; exact Heap.lt_size e
theorem Paired.mapP {α β : Type} {F G : α -> β -> Prop} : ∀ {l₁ : List α} {l₂ : List β}, Paired F l₁ l₂ -> (∀ a b, F a b -> G a b) -> Paired G l₁ l₂
 | _, _, .nil, _ => .nil
 | _, _, .cons r t, f => .cons (f _ _ r) (Paired.mapP t f)
theorem ObjOk.stay (x : ObjOk P w H h a o) (k : ∀ b u, (b = a \/ H b = some (.own a)) -> h.get? b = some u -> h'.get? b = some u)
  (ho : ∀ b, H b = some (.own a) -> H' b = some (.own a)) (ht : ∀ b xs, H b = some (.tup xs) -> H' b = some (.tup xs)) : ObjOk P w H' h' a o := by
 induction o with
 | lst xs => obtain ⟨z, its, n, r, e⟩ := x; exact ⟨z, its, n, r, k _ _ (.inl rfl) e⟩
 | tup xs => obtain ⟨z, its, r, ob, e, c⟩ := x; exact ⟨z, its, r, ob, k _ _ (.inl rfl) e, c⟩
 | dK kvs => obtain ⟨z, y, vs, r, ob, es, ep, e, c⟩ := x; exact ⟨z, y, vs, r, ob, es, ep, k _ _ (.inl rfl) e, c⟩
 | dT kvs =>
  obtain ⟨z, y, xs, r, ob, es, ep, e, c⟩ := x
  exact ⟨z, y, xs, Paired.mapP r fun p q z => ⟨z.1, ht _ _ z.2.1, z.2.2⟩, ob, es, ep, k _ _ (.inl rfl) e, c⟩
 | set S n => obtain ⟨ob, es, ep, t, e, c⟩ := x; exact ⟨ob, es, ep, t, k _ _ (.inl rfl) e, c⟩
 | ins C dx fs =>
  obtain ⟨d, z, ne, e, mA, ⟨od, es, ep, e2, c⟩, r⟩ := x
  exact ⟨ho _ d, z, ne, k _ _ (.inl rfl) e, mA, ⟨od, es, ep, k _ _ (.inr d) e2, c⟩, r⟩
 | own y => obtain ⟨ob, e⟩ := x; exact ⟨ob, k _ _ (.inl rfl) e⟩
 | xd fs => obtain ⟨mA, ⟨od, es, ep, e, c⟩, r⟩ := x; exact ⟨mA, ⟨od, es, ep, k _ _ (.inl rfl) e, c⟩, r⟩
 | rng lo hi => obtain ⟨t, u, v, e⟩ := x; exact ⟨t, u, v, k _ _ (.inl rfl) e⟩
 | frz ob u ih => obtain ⟨e, q⟩ := x; exact ⟨k _ _ (.inl rfl) e, ih q⟩
 | tbl ps =>
  have e : h.get? a = some { cls := .none, data := .fields ps } := x
  show h'.get? a = some { cls := .none, data := .fields ps }
  exact k a _ (.inl rfl) e
 | met f y =>
  have e : h.get? a = some (PySem.W.methodObj (.ref f) (.ref y)) := x
  show h'.get? a = some (PySem.W.methodObj (.ref f) (.ref y))
  exact k a _ (.inl rfl) e
 | ext φ => obtain ⟨p, ⟨o, e⟩, st⟩ := x; exact ⟨st _ _ p fun o q => k _ _ (.inl rfl) q, ⟨o, k _ _ (.inl rfl) e⟩, st⟩
theorem HOk.lt (x : HOk P w H h) (e : H a = some o) : a < h.objs.size := (x a o e).lt
theorem HOk.fresh (x : HOk P w H h) (e : h.objs.size <= a) : H a = none := by
 cases q : H a with
 | none => rfl
 | some u => exact absurd (Nat.lt_of_lt_of_le (x.lt q) e) (Nat.lt_irrefl _)
theorem HOk.kept (x : HOk P w H h) (k : ∀ b u, h.get? b = some u -> h'.get? b = some u) : HOk P w H h' := fun a o e =>
 (x a o e).stay (fun b u _ q => k b u q) (fun _ q => q) fun _ _ q => q
theorem HOk.laid (x : HOk P w H h) (k : ∀ b u, h.get? b = some u -> h'.get? b = some u) (hp : h.objs.size <= a) (new : ObjOk P w (upd H a o) h' a o) : HOk P w (upd H a o) h' := fun b u e => by
 have hn := x.fresh hp
 by_cases hb : b = a
 ·subst hb; rw [qd_] at e; cases e; exact new
 ·rw [qe_ hb] at e
  exact (x b u e).stay (fun c v _ q => k c v q) (fun c q => by rw [qe_ (qk_ q hn)]; exact q) fun c xs q => by rw [qe_ (qk_ q hn)]; exact q
end
def Rd (H : Hp) (a : Addr) (u : HO) : Prop := H a = some u \/ ∃ o, H a = some (.frz o u)
theorem Rd.ok {P : Program} {w : World} {H : Hp} {h : Heap} {a : Addr} {u : HO} (r : Rd H a u) (x : HOk P w H h) : ObjOk P w H h a u := by
 rcases r with r | ⟨o, r⟩
 ·exact x a u r
 ·obtain ⟨_, q⟩ := x a _ r
  exact q
def Mut : Option HO -> Prop
 | some (.lst _) => True
 | some (.dK _) => True
 | some (.dT _) => True
 | some (.set _ _) => True
 | some (.ins _ _ _) => True
 | some (.ext _) => True
 | _ => False
section
variable {P : Program} {w : World} {H : Hp} {h h' : Heap} {x e : Addr} {o' : HO}
theorem HOk.write (ok : HOk P w H h) (mu : Mut (H x)) (he : e = x \/ H e = some (.own x)) (k : ∀ b u, b ≠ e -> h.get? b = some u -> h'.get? b = some u) (heo : ∃ u, h'.get? e = some u)
  (new : ObjOk P w (upd H x o') h' x o') : HOk P w (upd H x o') h' := fun b u q => by
 have nown : ∀ c y, H c = some (.own y) -> c ≠ x := fun c y r z => by subst z; rw [r] at mu; exact mu
 have ntup : ∀ c xs, H c = some (.tup xs) -> c ≠ x := fun c xs r z => by subst z; rw [r] at mu; exact mu
 by_cases hb : b = x
 ·subst hb; rw [qd_] at q; cases q; exact new
 ·rw [qe_ hb] at q
  by_cases hbe : b = e
  ·have q' : H b = some (.own x) := by
    rcases he with z | z
    ·exact absurd (hbe.trans z) hb
    ·rw [hbe]; exact z
   rw [q] at q'; cases q'
   obtain ⟨v, hv⟩ := heo
   exact ⟨v, by rw [hbe]; exact hv⟩
  ·refine (ok b u q).stay (fun c v hc r => k c v ?_ r) (fun c r => by rw [qe_ (nown c b r)]; exact r) fun c xs r => by rw [qe_ (ntup c xs r)]; exact r
   rcases hc with rfl | hc
   ·exact hbe
   ·rintro rfl
    rcases he with z | z
    ·exact nown c b hc z
    ·rw [hc] at z; cases z; exact hb rfl
end
structure Un (fs ex : List Addr) (H H' : Hp) (h h' : Heap) : Prop where
 keep : ∀ b o, h.get? b = some o -> H b = none -> b ∉ fs -> b ∉ ex -> h'.get? b = some o
 slot : ∀ b o, h.get? b = some o -> H b = none -> b ∈ fs -> b ∉ ex -> ∃ sl, h'.get? b = some { o with slots := sl }
 free : ∀ b o, h.get? b = some o -> H b = none -> b ∉ ex -> H' b = none
 there : ∀ b o, h.get? b = some o -> b ∉ ex -> ∃ o', h'.get? b = some o'
 tups : ∀ b xs, H b = some (.tup xs) -> H' b = some (.tup xs)
 frzs : ∀ b o u, H b = some (.frz o u) -> H' b = some (.frz o u)
 tbls : ∀ b ps, H b = some (.tbl ps) -> ∃ more, H' b = some (.tbl (ps ++ more))
section
variable {fs fs' ex ex' : List Addr} {H H1 H2 : Hp} {h h1 h2 h' : Heap} {a x e : Addr} {o : HO}
theorem Un.any (u : Un fs ex H H1 h h1) {b : Addr} {ob : Obj} (q : h.get? b = some ob) (n : H b = none) (hx : b ∉ ex) : ∃ sl, h1.get? b = some { ob with slots := sl } := by
 by_cases hb : b ∈ fs
 ·exact u.slot b ob q n hb hx
 ·exact ⟨ob.slots, u.keep b ob q n hb hx⟩
theorem Un.trans (a : Un fs ex H H1 h h1) (b : Un fs ex H1 H2 h1 h2) : Un fs ex H H2 h h2 where
 keep := fun c ob q n hc hx => b.keep c ob (a.keep c ob q n hc hx) (a.free c ob q n hx) hc hx
 slot := fun c ob q n hc hx => by
  obtain ⟨sl, e1⟩ := a.slot c ob q n hc hx
  obtain ⟨sl', e2⟩ := b.slot c _ e1 (a.free c ob q n hx) hc hx
  exact ⟨sl', e2⟩
 free := fun c ob q n hx => by
  obtain ⟨o', e1⟩ := a.there c ob q hx
  exact b.free c o' e1 (a.free c ob q n hx) hx
 there := fun c ob q hx => by
  obtain ⟨o', e1⟩ := a.there c ob q hx
  exact b.there c o' e1 hx
 tups := fun c xs q => b.tups c xs (a.tups c xs q)
 frzs := fun c ob xs q => b.frzs c ob xs (a.frzs c ob xs q)
 tbls := fun c ps q => by
  obtain ⟨m1, e1⟩ := a.tbls c ps q
  obtain ⟨m2, e2⟩ := b.tbls c _ e1
  exact ⟨m1 ++ m2, by rw [e2, Array.append_assoc]⟩
theorem Un.kept (k : ∀ b u, h.get? b = some u -> h'.get? b = some u) : Un fs ex H H h h' :=
 ⟨fun b ob q _ _ _ => k b ob q, fun b ob q _ _ _ => ⟨ob.slots, k b ob q⟩, fun _ _ _ n _ => n, fun b ob q _ => ⟨ob, k b ob q⟩, fun _ _ q => q, fun _ _ _ q => q, fun _ ps q => ⟨#[], by rw [q]; simp⟩⟩
theorem Un.refl : Un fs ex H H h h := Un.kept fun _ _ q => q
theorem Un.laid (k : ∀ b u, h.get? b = some u -> h'.get? b = some u) (hp : h.objs.size <= a) (hn : H a = none) : Un fs ex H (upd H a o) h h' where
 keep := fun b u q _ _ _ => k b u q
 slot := fun b u q _ _ _ => ⟨u.slots, k b u q⟩
 free := fun b u q n _ => by rw [qe_ (Nat.ne_of_lt (Nat.lt_of_lt_of_le (Heap.lt_size q) hp))]; exact n
 there := fun b u q _ => ⟨u, k b u q⟩
 tups := fun b xs q => by rw [qe_ (qk_ q hn)]; exact q
 frzs := fun b u xs q => by rw [qe_ (qk_ q hn)]; exact q
 tbls := fun b ps q => ⟨#[], by rw [qe_ (qk_ q hn), q]; simp⟩
theorem Un.write (mu : Mut (H x)) (he : e = x \/ H e = some (.own x)) (k : ∀ b u, b ≠ e -> h.get? b = some u -> h'.get? b = some u) (heo : ∃ u, h'.get? e = some u) : Un fs ex H (upd H x o) h h' := by
 have hx : ∀ b, H b = none -> b ≠ x := fun b n z => by subst z; rw [n] at mu; exact mu
 have hb : ∀ b, H b = none -> b ≠ e := fun b n z => by
  subst z
  rcases he with r | r
  ·exact hx b n r
  ·rw [n] at r; cases r
 have hm : ∀ b u, H b = some u -> ¬ Mut (some u) -> b ≠ x := fun b u q nm z => by subst z; rw [q] at mu; exact nm mu
 refine ⟨fun b u q n _ _ => k b u (hb b n) q, fun b u q n _ _ => ⟨u.slots, k b u (hb b n) q⟩, fun b u q n _ => by rw [qe_ (hx b n)]; exact n, fun b u q _ => ?_,
  fun b xs q => by rw [qe_ (hm b _ q fun z => z)]; exact q, fun b u xs q => by rw [qe_ (hm b _ q fun z => z)]; exact q, fun b ps q => ⟨#[], by rw [qe_ (hm b _ q fun z => z), q]; simp⟩⟩
 by_cases hbe : b = e
 ·subst hbe; exact heo
 ·exact ⟨u, k b u hbe q⟩
end
def trk (h : Heap) (H : Hp) : List Addr := (List.range h.objs.size).filter fun a => (H a).isSome
def hidT (h : Heap) (H : Hp) : Heap := PySem.W.hideAll h (trk h H)
theorem qdl_ (h : Heap) (H : Hp) : (hidT h H).objs.size = h.objs.size := PySem.W.hideAll_size _ _
theorem qfe_ {h : Heap} {H : Hp} {b : Addr} {o : Obj} (e : h.get? b = some o) (n : H b = none) : (hidT h H).get? b = some o :=
 PySem.W.hideAll_get _ e fun hm => by
  have q : (H b).isSome = true := (List.mem_filter.mp hm).2
  rw [n] at q; simp at q
theorem qg4_ {h : Heap} {H : Hp} {b : Addr} {o : Obj} (e : (hidT h H).get? b = some o) : h.get? b = some o /\ H b = none := by
 have e' : h.get? b = some o := PySem.W.of_hideAll (trk h H) e
 refine ⟨e', ?_⟩
 cases q : H b with
 | none => rfl
 | some x =>
  have hm : b ∈ trk h H := List.mem_filter.mpr ⟨List.mem_range.mpr (Heap.lt_size e'), by simp [q]⟩
  have z : (hidT h H).get? b = none := PySem.W.hideAll_none (trk h H) hm
  rw [z] at e; cases e
def qg5_ (g h : Heap) (L : Addr) : List (Addr × Obj) := (List.range h.objs.size).filterMap fun a => if a = L \/ (g.get? a).isSome = true then none else (h.get? a).map fun o => (a, o)
def rest (g h : Heap) (L d : Addr) : List (Addr × Obj) := (qg5_ g h L).filter fun p => decide (p.1 ≠ d)
end L2
namespace L2
open PySem PySem.Spec PyProof.Rows
structure Mod (K : PySem.W.Frag) (mg : Str -> Option Value) (base : Heap) : Prop where
 kin : K.In base
 glob : base.Ns mainGlobals mg
 blt : ∃ mb, base.Ns builtinsNs mb ∧ ∀ x : Str, x ≠ "__name__" → mb x = bootBuiltins x
 nolimit : base.NoLimit
structure Cx where
 prog : Program
 w : World
 K : PySem.W.Frag
 mg : Str -> Option Value
 base : Heap
 A : Around
 N : List Str
 s₀ : Shared
 H₀ : Hp
 env : Env
 outer : List Env
 stack : List Env
 ex : List Addr
 fn : Str -> Bool
 calm : Bool
 pn : List (Addr × Obj)
 xe : Value -> Shared -> Prop
def frs (l : List Env) : List Addr := l.filterMap (·.frame)
abbrev Cx.fs (X : Cx) : List Addr := frs X.outer
def Vis (sc : Scope) (x : Str) : Prop := sc.names.lookup x = some .local \/ sc.names.lookup x = some .cell \/ sc.names.lookup x = some .free
def Loc (sc : Scope) (x : Str) : Prop := sc.names.lookup x = some .local \/ sc.names.lookup x = some .cell
def Look (env : Env) (h : Heap) (m : Str -> Option Value) (x : Str) (u : Value) : Prop :=
 (env.kindOf x = some .local /\ m x = some u) \/ ((env.kindOf x = some .cell \/ env.kindOf x = some .free) /\ ∃ c, env.cells.lookup x = some c /\ h.IsCell c (some u))
structure Cx.Ok (X : Cx) : Prop where
 mod : Mod X.K X.mg X.base
 kind : X.env.scope.kind = .function
 glob : X.env.globals = mainGlobals
 blt : X.env.builtins = builtinsNs
 above : X.s₀.heap.objs.size <= X.env.locals
 inj : ∀ x y c, X.env.cells.lookup x = some c -> X.env.cells.lookup y = some c -> x = y
 has : ∀ x, (X.env.kindOf x = some .cell \/ X.env.kindOf x = some .free) -> ∃ c, X.env.cells.lookup x = some c
 cab : ∀ x c, X.fn x = true -> X.env.cells.lookup x = some c -> X.s₀.heap.objs.size <= c
 hd : X.calm = true -> X.A.handled = none
 frames : X.A.frames = some X.stack
 stk : X.stack = X.outer \/ (X.stack = X.env :: X.outer /\ X.env.frame = some X.env.locals)
 exf : ∀ b ∈ X.ex, b ≠ X.env.locals /\ ∀ x c, X.env.cells.lookup x = some c -> c ≠ b
 bs : ∀ b o, X.base.get? b = some o -> X.s₀.heap.get? b = some o /\ X.H₀ b = none
 bsz : X.base.objs.size <= X.s₀.heap.objs.size
 noex : ∀ b o, X.base.get? b = some o -> b ∉ X.ex
 exfs : ∀ b ∈ X.ex, b ∉ X.fs
 funs : X.s₀.heap.FunFrames X.base X.outer
 frf : ∀ b ∈ X.fs, X.H₀ b = none
structure Inv (X : Cx) (pins : List (Addr × Obj)) (σ : List (Option V)) (H : Hp) (s : Shared) : Prop where
 ok : X.Ok
 os : s.os = X.s₀.os
 bare : AllBare s.gens
 base : Un X.fs X.ex X.H₀ H X.s₀.heap s.heap
 loc : ∃ m, s.heap.Ns X.env.locals m /\ ∀ (i : Nat) (x : Str) (v : V), X.N[i]? = some x -> σ[i]? = some (some v) -> Vis X.env.scope x -> ∃ u, RelV v u /\ Look X.env s.heap m x u
 cell : ∀ x c, X.env.cells.lookup x = some c -> ∃ v, s.heap.IsCell c v
 free : H X.env.locals = none
 freeC : ∀ x c, X.env.cells.lookup x = some c -> H c = none
 pin : ∀ p ∈ X.pn ++ pins, s.heap.get? p.1 = some p.2 /\ H p.1 = none /\ p.1 ≠ X.env.locals /\ p.1 ∉ X.fs /\ ∀ v, p.2.data ≠ .cell v
 hok : HOk X.prog X.w H s.heap
 len : σ.length = X.N.length
section
variable {X : Cx} {pins : List (Addr × Obj)} {σ : List (Option V)} {H H' : Hp} {s : Shared} {h' : Heap}
theorem Cx.Ok.nofr (ok : X.Ok) {b : Addr} {o : Obj} (e : X.base.get? b = some o) : b ∉ X.fs := fun hb => by
 have := (ok.funs.mem hb).1
 rw [e] at this; cases this
theorem Inv.bs (I : Inv X pins σ H s) : ∀ b o, X.base.get? b = some o -> s.heap.get? b = some o /\ H b = none := fun b o e =>
 ⟨I.base.keep b o (I.ok.bs b o e).1 (I.ok.bs b o e).2 (I.ok.nofr e) (I.ok.noex b o e), I.base.free b o (I.ok.bs b o e).1 (I.ok.bs b o e).2 (I.ok.noex b o e)⟩
theorem Inv.bk (I : Inv X pins σ H s) : ∀ b o, X.base.get? b = some o -> s.heap.get? b = some o := fun b o e => (I.bs b o e).1
theorem Inv.mod (I : Inv X pins σ H s) : Mod X.K X.mg X.base := I.ok.mod
theorem Inv.kIn (I : Inv X pins σ H s) : X.K.In s.heap := I.ok.mod.kin.keeps I.bk
theorem Inv.lt (I : Inv X pins σ H s) : X.env.locals < s.heap.objs.size := let ⟨_, hn, _⟩ := I.loc; hn.lt
theorem Inv.sz (I : Inv X pins σ H s) : X.s₀.heap.objs.size <= s.heap.objs.size := Nat.le_trans I.ok.above (Nat.le_of_lt I.lt)
theorem Inv.nofs (I : Inv X pins σ H s) {a : Addr} (h : s.heap.objs.size <= a) : a ∉ X.fs := fun hb => by
 obtain ⟨_, o, ho, _⟩ := I.ok.funs.mem hb
 exact absurd (Nat.lt_of_lt_of_le (Heap.lt_size ho) (Nat.le_trans I.sz h)) (Nat.lt_irrefl _)
theorem Inv.cne (I : Inv X pins σ H s) : ∀ x c, X.env.cells.lookup x = some c -> c ≠ X.env.locals := fun x c e z => by
 obtain ⟨v, o, ho, hd⟩ := I.cell x c e
 obtain ⟨m, ⟨o', es, ep, ho', hd', _⟩, _⟩ := I.loc
 rw [z, ho'] at ho; cases ho; rw [hd'] at hd; cases hd
theorem Inv.funs (I : Inv X pins σ H s) : s.heap.FunFrames X.base X.outer := by
 have all : ∀ (l : List Env), (∀ b ∈ frs l, b ∈ X.fs) -> X.s₀.heap.FunFrames X.base l -> s.heap.FunFrames X.base l := by
  intro l
  induction l with
  | nil => intro _ _; trivial
  | cons env r ih =>
   intro hs hl
   obtain ⟨hk, ⟨L, o, hf, hn, ho, hd⟩, hr⟩ := hl
   have hL : L ∈ X.fs := hs L (by unfold frs; rw [List.filterMap_cons, hf]; exact List.mem_cons_self)
   obtain ⟨sl, e⟩ := I.base.slot L o ho (I.ok.frf L hL) hL fun z => I.ok.exfs L z hL
   exact ⟨hk, ⟨L, _, hf, hn, e, hd⟩, ih (fun b hb => hs b (by unfold frs; rw [List.filterMap_cons, hf]; exact List.mem_cons_of_mem _ hb)) hr⟩
 exact all X.outer (fun _ hb => hb) I.ok.funs
theorem Inv.stack (I : Inv X pins σ H s) : s.heap.FunFrames X.base X.stack := by
 rcases I.ok.stk with e | ⟨e, hf⟩
 ·rw [e]; exact I.funs
 ·rw [e]
  obtain ⟨m, hn, _⟩ := I.loc
  refine .cons (by rw [I.ok.kind]; decide) hf hn ?_ I.funs
  exact Heap.get?_none_of_le (Nat.le_trans I.ok.bsz I.ok.above)
theorem Inv.stkSub (I : Inv X pins σ H s) : ∀ b ∈ frs X.stack, b ∈ X.env.locals :: X.fs := fun b hb => by
 rcases I.ok.stk with e | ⟨e, hf⟩
 ·rw [e] at hb; exact List.mem_cons_of_mem _ hb
 ·rw [e] at hb
  unfold frs at hb
  rw [List.filterMap_cons, hf] at hb
  exact hb
theorem Inv.stkFree (I : Inv X pins σ H s) : ∀ b ∈ frs X.stack, H b = none := fun b hb => by
 rcases List.mem_cons.mp (I.stkSub b hb) with e | hb
 ·rw [e]; exact I.free
 ·obtain ⟨_, o, ho, _⟩ := I.ok.funs.mem hb
  exact I.base.free b o ho (I.ok.frf b hb) fun z => I.ok.exfs b z hb
theorem Inv.step {g' : Array GenState} {t' : Nat} {d' : Drawn} {ch : List Addr} (I : Inv X pins σ H s)
  (hch : ∀ b ∈ ch, (b ∈ X.ex \/ X.s₀.heap.objs.size <= b) /\ b ≠ X.env.locals /\ (∀ x c, X.env.cells.lookup x = some c -> c ≠ b) /\ ∀ p ∈ X.pn ++ pins, p.1 ≠ b)
  (keep : ∀ b o, b ≠ X.env.locals -> b ∉ X.fs -> b ∉ ch -> s.heap.get? b = some o -> H b = none -> h'.get? b = some o)
  (slot : ∀ b o, b ≠ X.env.locals -> b ∈ X.fs -> b ∉ ch -> s.heap.get? b = some o -> H b = none -> ∃ sl, h'.get? b = some { o with slots := sl }) (free : ∀ b o, b ∉ ch -> s.heap.get? b = some o -> H b = none -> H' b = none)
  (there : ∀ b o, b ∉ ch -> s.heap.get? b = some o -> ∃ o', h'.get? b = some o')
  (tups : ∀ b xs, H b = some (.tup xs) -> H' b = some (.tup xs)) (frzs : ∀ b o u, H b = some (.frz o u) -> H' b = some (.frz o u)) (tbls : ∀ b ps, H b = some (.tbl ps) -> ∃ more, H' b = some (.tbl (ps ++ more)))
  (ns : ∀ m, s.heap.Ns X.env.locals m -> h'.Ns X.env.locals m) (hok : HOk X.prog X.w H' h') (hg : AllBare g') :
  Inv X pins σ H' { s with heap := h', gens := g', drawn := d', toks := t' } := by
 have neL : ∀ b o, X.s₀.heap.get? b = some o -> b ≠ X.env.locals := fun b o e => Nat.ne_of_lt (Nat.lt_of_lt_of_le (Heap.lt_size e) I.ok.above)
 have neC : ∀ b o, X.s₀.heap.get? b = some o -> b ∉ X.ex -> b ∉ ch := fun b o e hx hb => by
  rcases (hch b hb).1 with z | z
  ·exact hx z
  ·exact absurd (Nat.lt_of_lt_of_le (Heap.lt_size e) z) (Nat.lt_irrefl _)
 have cellK : ∀ x c, X.env.cells.lookup x = some c -> ∀ v, s.heap.IsCell c v -> h'.IsCell c v := fun x c e v ⟨o, ho, hd⟩ => by
  have nch : c ∉ ch := fun z => (hch c z).2.2.1 x c e rfl
  by_cases hc : c ∈ X.fs
  ·obtain ⟨sl, q⟩ := slot c o (I.cne x c e) hc nch ho (I.freeC x c e)
   exact ⟨_, q, hd⟩
  ·exact ⟨o, keep c o (I.cne x c e) hc nch ho (I.freeC x c e), hd⟩
 refine ⟨I.ok, I.os, hg, ⟨fun b o e n hb hx => ?_, fun b o e n hb hx => ?_, fun b o e n hx => ?_, fun b o e hx => ?_, fun b xs e => tups b xs (I.base.tups b xs e), fun b o xs e => frzs b o xs (I.base.frzs b o xs e), fun b ps e => ?_⟩, ?_, fun x c e => ?_, ?_, fun x c e => ?_, fun p hp => ?_, hok, I.len⟩
 ·exact keep b o (neL b o e) hb (neC b o e hx) (I.base.keep b o e n hb hx) (I.base.free b o e n hx)
 ·obtain ⟨sl, e1⟩ := I.base.slot b o e n hb hx
  obtain ⟨sl', e2⟩ := slot b _ (neL b o e) hb (neC b o e hx) e1 (I.base.free b o e n hx)
  exact ⟨sl', e2⟩
 ·obtain ⟨o', e1⟩ := I.base.there b o e hx
  exact free b o' (neC b o e hx) e1 (I.base.free b o e n hx)
 ·obtain ⟨o', e1⟩ := I.base.there b o e hx
  exact there b o' (neC b o e hx) e1
 ·obtain ⟨m1, e1⟩ := I.base.tbls b ps e
  obtain ⟨m2, e2⟩ := tbls b _ e1
  exact ⟨m1 ++ m2, by rw [e2, Array.append_assoc]⟩
 ·obtain ⟨m, hn, hl⟩ := I.loc
  refine ⟨m, ns m hn, fun i x v e1 e2 e3 => ?_⟩
  obtain ⟨u, r, l⟩ := hl i x v e1 e2 e3
  refine ⟨u, r, ?_⟩
  rcases l with l | ⟨k, c, e, z⟩
  ·exact .inl l
  ·exact .inr ⟨k, c, e, cellK x c e _ z⟩
 ·obtain ⟨v, z⟩ := I.cell x c e
  exact ⟨v, cellK x c e v z⟩
 ·obtain ⟨m, ⟨o, _, _, ho, _⟩, _⟩ := I.loc
  exact free _ o (fun z => (hch _ z).2.1 rfl) ho I.free
 ·obtain ⟨v, o, ho, hd⟩ := I.cell x c e
  exact free c o (fun z => (hch c z).2.2.1 x c e rfl) ho (I.freeC x c e)
 ·obtain ⟨e, n, ne, nf, d⟩ := I.pin p hp
  have nch : p.1 ∉ ch := fun z => (hch p.1 z).2.2.2 p hp rfl
  exact ⟨keep p.1 p.2 ne nf nch e n, free p.1 p.2 nch e n, ne, nf, d⟩
theorem Inv.un {t' : Nat} (I : Inv X pins σ H s) (u : Un X.fs [] H H' s.heap h') (hok : HOk X.prog X.w H' h') : Inv X pins σ H' { s with heap := h', toks := t' } := by
 obtain ⟨m, ⟨o, es, ep, ho, r⟩, _⟩ := id I.loc
 obtain ⟨sl, hL⟩ := u.any ho I.free (by simp)
 exact I.step (g' := s.gens) (d' := s.drawn) (ch := []) (fun _ z => nomatch z) (fun b o _ hb _ e n => u.keep b o e n hb (by simp)) (fun b o _ hb _ e n => u.slot b o e n hb (by simp)) (fun b o _ e n => u.free b o e n (by simp)) (fun b o _ e => u.there b o e (by simp)) u.tups u.frzs u.tbls (fun m' hm => by
  obtain ⟨o', es', ep', ho', r'⟩ := hm
  rw [ho] at ho'; cases ho'
  exact ⟨_, es', ep', hL, r'⟩) hok I.bare
theorem Inv.call {g' : Array GenState} {t' : Nat} {d' : Drawn} {ch : List Addr} (I : Inv X pins σ H s) (u : Un (frs X.stack) ch H H' s.heap h') (hok : HOk X.prog X.w H' h') (hg : AllBare g')
  (hch : ∀ b ∈ ch, (b ∈ X.ex \/ X.s₀.heap.objs.size <= b) /\ b ≠ X.env.locals /\ (∀ x c, X.env.cells.lookup x = some c -> c ≠ b) /\ ∀ p ∈ X.pn ++ pins, p.1 ≠ b) :
  Inv X pins σ H' { s with heap := h', gens := g', drawn := d', toks := t' } := by
 obtain ⟨m, ⟨o, es, ep, ho, r⟩, _⟩ := id I.loc
 obtain ⟨sl, hL⟩ := u.any ho I.free fun z => (hch _ z).2.1 rfl
 exact I.step (ch := ch) hch (fun b o hL hb hc e n => u.keep b o e n (fun z => (List.mem_cons.mp (I.stkSub b z)).elim hL hb) hc) (fun b o _ _ hc e n => u.any e n hc) (fun b o hc e n => u.free b o e n hc) (fun b o hc e => u.there b o e hc) u.tups u.frzs u.tbls (fun m' hm => by
  obtain ⟨o', es', ep', ho', r'⟩ := hm
  rw [ho] at ho'; cases ho'
  exact ⟨_, es', ep', hL, r'⟩) hok hg
theorem Inv.turned {t' : Nat} {it : Addr} (I : Inv X pins σ H s) (k : ∀ b o, b ≠ it -> s.heap.get? b = some o -> h'.get? b = some o) (hn : H it = none) (hL : it ≠ X.env.locals)
  (h1 : it ∈ X.ex \/ X.s₀.heap.objs.size <= it) (h2 : ∀ x c, X.env.cells.lookup x = some c -> c ≠ it) (h3 : ∀ p ∈ X.pn ++ pins, p.1 ≠ it) : Inv X pins σ H { s with heap := h', toks := t' } := by
 have nit : ∀ b u, H b = some u -> b ≠ it := fun b u e z => by rw [z, hn] at e; cases e
 refine I.step (g' := s.gens) (d' := s.drawn) (ch := [it]) (fun b hb => ?_) (fun b o _ _ hc e _ => k b o (fun z => hc (by simp [z])) e) (fun b o _ _ hc e _ => ⟨o.slots, k b o (fun z => hc (by simp [z])) e⟩) (fun _ _ _ _ n => n)
  (fun b o hc e => ⟨o, k b o (fun z => hc (by simp [z])) e⟩) (fun _ _ e => e) (fun _ _ _ e => e) (fun b ps e => ⟨#[], by rw [e]; simp⟩) (fun m hm => ?_) (fun b u e => ?_) I.bare
 ·have e : b = it := by simpa using hb
  subst e
  exact ⟨h1, hL, h2, h3⟩
 ·obtain ⟨o, es, ep, ho, r⟩ := hm
  exact ⟨o, es, ep, k _ o (Ne.symm hL) ho, r⟩
 ·refine (I.hok b u e).stay (fun c v hc q => k c v ?_ q) (fun _ q => q) fun _ _ q => q
  rcases hc with z | z
  ·rw [z]; exact nit b u e
  ·exact nit c _ z
theorem Inv.tok (I : Inv X pins σ H s) (t : Nat) : Inv X pins σ H { s with toks := t } := I.un (h' := s.heap) (t' := t) Un.refl I.hok
theorem Inv.kept {t' : Nat} (I : Inv X pins σ H s) (k : ∀ b u, s.heap.get? b = some u -> h'.get? b = some u) : Inv X pins σ H { s with heap := h', toks := t' } := I.un (Un.kept k) (I.hok.kept k)
theorem Inv.laid {a : Addr} {o : HO} {t' : Nat} (I : Inv X pins σ H s) (k : ∀ b u, s.heap.get? b = some u -> h'.get? b = some u) (hp : s.heap.objs.size <= a) (new : ObjOk X.prog X.w (upd H a o) h' a o) :
  Inv X pins σ (upd H a o) { s with heap := h', toks := t' } := I.un (Un.laid k hp (I.hok.fresh hp)) (I.hok.laid k hp new)
theorem Inv.write {x e : Addr} {o : HO} {t' : Nat} (I : Inv X pins σ H s) (mu : Mut (H x)) (he : e = x \/ H e = some (.own x)) (k : ∀ b u, b ≠ e -> s.heap.get? b = some u -> h'.get? b = some u) (heo : ∃ u, h'.get? e = some u)
  (new : ObjOk X.prog X.w (upd H x o) h' x o) : Inv X pins σ (upd H x o) { s with heap := h', toks := t' } := I.un (Un.write mu he k heo) (I.hok.write mu he k heo new)
theorem Inv.pins_of {pins' : List (Addr × Obj)} (I : Inv X pins σ H s) (h : ∀ p ∈ pins', s.heap.get? p.1 = some p.2 /\ H p.1 = none /\ p.1 ≠ X.env.locals /\ p.1 ∉ X.fs /\ ∀ v, p.2.data ≠ .cell v) : Inv X pins' σ H s :=
 ⟨I.ok, I.os, I.bare, I.base, I.loc, I.cell, I.free, I.freeC, fun p hp => (List.mem_append.mp hp).elim (fun z => I.pin p (List.mem_append_left _ z)) (h p), I.hok, I.len⟩
theorem vj_ {N : List Str} (hN : N.Nodup) {i j : Nat} {x : Str} (a : N[i]? = some x) (b : N[j]? = some x) : i = j := by
 obtain ⟨h1, e1⟩ := List.getElem?_eq_some_iff.mp a
 obtain ⟨h2, e2⟩ := List.getElem?_eq_some_iff.mp b
 exact (List.getElem_inj hN).mp (e1.trans e2.symm)
theorem um_ {M : Model} {A : Around} {E : Value -> Shared -> Prop} {i : Nat} {x : Str} {v : V} {u : Value} {Q : Unit -> Shared -> Prop} (I : Inv X pins σ H s) (hN : X.N.Nodup) (hi : X.N[i]? = some x) (hx : Loc X.env.scope x) (r : RelV v u)
  (h : ∀ s', Inv X pins (σ.set i (some v)) H s' -> (∃ a, Heap.SameBut a s.heap s'.heap /\ (a = X.env.locals \/ X.env.cells.lookup x = some a)) -> Q () s') (hf : X.fn x = true \/ X.env.scope.names.lookup x = some .local := by first | exact .inl rfl | exact .inr rfl | assumption) : wpAny M A (storeName X.env x u) Q E s := by
 obtain ⟨m, hn, hl⟩ := id I.loc
 have hcls : (X.env.scope.kind == .class || (X.env.scope.kind == .module && X.env.locals != X.env.globals)) = false := by rw [I.ok.kind]; rfl
 have hiσ : i < σ.length := by rw [I.len]; exact (List.getElem?_eq_some_iff.mp hi).1
 have cne := I.cne
 have tracked : ∀ {a : Addr} {h' : Heap}, (∃ o, s.heap.get? a = some o /\ H a = none) -> Heap.SameBut a s.heap h' -> HOk X.prog X.w H h' := fun {a h'} ha hs b ob e => by
  obtain ⟨_, _, hfree⟩ := ha
  refine (I.hok b ob e).stay (fun c w' hc q => (hs.2 c ?_).trans q) (fun _ q => q) fun _ _ q => q
  rintro rfl
  rcases hc with rfl | hc
  ·rw [hfree] at e; cases e
  ·rw [hfree] at hc; cases hc
 rcases hx with hk | hk
 ·refine wpAny_storeName_local hk hn (fun h' hn' hs => ?_) hcls
  obtain ⟨oL, _, _, hoL, _⟩ := id hn
  refine h _ ⟨I.ok, I.os, I.bare, ⟨fun b o e n hb hx => ?_, fun b o e n hb hx => ?_, I.base.free, fun b o e hx => ?_, I.base.tups, I.base.frzs, I.base.tbls⟩, ⟨_, hn', fun j y v' e1 e2 e3 => ?_⟩, fun y c e => ?_, I.free, I.freeC, fun p hp => ?_, tracked ⟨oL, hoL, I.free⟩ hs, by simpa using I.len⟩ ⟨_, hs, .inl rfl⟩
  ·exact (hs.2 b (Nat.ne_of_lt (Nat.lt_of_lt_of_le (Heap.lt_size e) I.ok.above))).trans (I.base.keep b o e n hb hx)
  ·obtain ⟨sl, e1⟩ := I.base.slot b o e n hb hx
   exact ⟨sl, (hs.2 b (Nat.ne_of_lt (Nat.lt_of_lt_of_le (Heap.lt_size e) I.ok.above))).trans e1⟩
  ·obtain ⟨o', e1⟩ := I.base.there b o e hx
   exact ⟨o', (hs.2 b (Nat.ne_of_lt (Nat.lt_of_lt_of_le (Heap.lt_size e) I.ok.above))).trans e1⟩
  ·by_cases hj : j = i
   ·subst hj
    rw [hi] at e1; cases e1
    rw [List.getElem?_set_self hiσ] at e2
    cases e2
    exact ⟨u, r, .inl ⟨hk, by simp⟩⟩
   ·rw [List.getElem?_set_ne (Ne.symm hj)] at e2
    obtain ⟨u', r', q⟩ := hl j y v' e1 e2 e3
    refine ⟨u', r', ?_⟩
    rcases q with ⟨k, e⟩ | ⟨k, c, e, z⟩
    ·refine .inl ⟨k, ?_⟩
     have : y ≠ x := fun e => hj (vj_ hN e1 (e ▸ hi))
     simp [this, e]
    ·exact .inr ⟨k, c, e, z.sameBut hs (cne y c e)⟩
  ·obtain ⟨w', z⟩ := I.cell y c e
   exact ⟨w', z.sameBut hs (cne y c e)⟩
  ·obtain ⟨e, n, ne, nf, d⟩ := I.pin p hp
   exact ⟨(hs.2 p.1 ne).trans e, n, ne, nf, d⟩
 ·have hfn : X.fn x = true := by
   rcases hf with z | z
   ·exact z
   ·rw [z] at hk; cases hk
  obtain ⟨c, hc⟩ := I.ok.has x (.inl hk)
  obtain ⟨w', z⟩ := I.cell x c hc
  refine wpAny_storeName_cell I.ok.kind hk hc z (fun h' hc' hs => ?_)
  obtain ⟨oc, hoc, hocd⟩ := id z
  refine h { s with heap := h' } ⟨I.ok, I.os, I.bare, ⟨fun b o e n hb hx => ?_, fun b o e n hb hx => ?_, I.base.free, fun b o e hx => ?_, I.base.tups, I.base.frzs, I.base.tbls⟩, ⟨m, hn.sameBut hs (Ne.symm (cne x c hc)), fun j y v' e1 e2 e3 => ?_⟩, fun y c' e => ?_, I.free, I.freeC, fun p hp => ?_, tracked ⟨oc, hoc, I.freeC x c hc⟩ hs, by simpa using I.len⟩ ⟨c, hs, .inr hc⟩
  ·exact (hs.2 b (Nat.ne_of_lt (Nat.lt_of_lt_of_le (Heap.lt_size e) (I.ok.cab x c hfn hc)))).trans (I.base.keep b o e n hb hx)
  ·obtain ⟨sl, e1⟩ := I.base.slot b o e n hb hx
   exact ⟨sl, (hs.2 b (Nat.ne_of_lt (Nat.lt_of_lt_of_le (Heap.lt_size e) (I.ok.cab x c hfn hc)))).trans e1⟩
  ·obtain ⟨o', e1⟩ := I.base.there b o e hx
   exact ⟨o', (hs.2 b (Nat.ne_of_lt (Nat.lt_of_lt_of_le (Heap.lt_size e) (I.ok.cab x c hfn hc)))).trans e1⟩
  ·by_cases hj : j = i
   ·subst hj
    rw [hi] at e1; cases e1
    rw [List.getElem?_set_self hiσ] at e2
    cases e2
    exact ⟨u, r, .inr ⟨.inl hk, c, hc, hc'⟩⟩
   ·rw [List.getElem?_set_ne (Ne.symm hj)] at e2
    obtain ⟨u', r', q⟩ := hl j y v' e1 e2 e3
    refine ⟨u', r', ?_⟩
    rcases q with q | ⟨k, c', e, z'⟩
    ·exact .inl q
    ·refine .inr ⟨k, c', e, z'.sameBut hs ?_⟩
     rintro rfl
     exact hj (vj_ hN e1 (I.ok.inj _ _ _ e hc ▸ hi))
  ·by_cases hcc : c' = c
   ·subst hcc; exact ⟨_, hc'⟩
   ·obtain ⟨w2, z2⟩ := I.cell y c' e
    exact ⟨w2, z2.sameBut hs hcc⟩
  ·obtain ⟨e, n, ne, nf, d⟩ := I.pin p hp
   refine ⟨(hs.2 p.1 ?_).trans e, n, ne, nf, d⟩
   intro q
   rw [q, hoc] at e
   have q' : oc = p.2 := Option.some.inj e
   exact d w' (by rw [<- q']; exact hocd)
theorem zq_ {M : Model} {A : Around} {E : Value -> Shared -> Prop} {i : Nat} {x : Str} {v : V} {u : Value} {Q : Unit -> Shared -> Prop} (I : Inv X pins σ H s) (hN : X.N.Nodup) (hi : X.N[i]? = some x) (hx : Loc X.env.scope x) (r : RelV v u)
  (h : ∀ s', Inv X pins (σ.set i (some v)) H s' -> Q () s') (hf : X.fn x = true \/ X.env.scope.names.lookup x = some .local := by first | exact .inl rfl | exact .inr rfl | assumption) : wpAny M A (storeName X.env x u) Q E s :=
 um_ I hN hi hx r (fun s' I' _ => h s' I') hf
theorem Inv.call' {s' : Shared} {ch : List Addr} (I : Inv X pins σ H s) (ho : s'.os = s.os) (u : Un (frs X.stack) ch H H' s.heap s'.heap) (hok : HOk X.prog X.w H' s'.heap) (hg : AllBare s'.gens)
  (hch : ∀ b ∈ ch, (b ∈ X.ex \/ X.s₀.heap.objs.size <= b) /\ b ≠ X.env.locals /\ (∀ x c, X.env.cells.lookup x = some c -> c ≠ b) /\ ∀ p ∈ X.pn ++ pins, p.1 ≠ b) : Inv X pins σ H' s' := by
 obtain ⟨h', g', d', t', o'⟩ := s'
 have e : o' = s.os := ho
 subst e
 exact I.call (g' := g') (t' := t') (d' := d') u hok hg hch
end
abbrev XK := Value -> Option Addr -> Hp -> Prop
abbrev St := List (Option V)
abbrev VK := V -> Hp -> Prop
abbrev TE := St -> Hp -> VK -> Prop
abbrev TT := St -> Hp -> (Bool -> Hp -> Prop) -> Prop
abbrev TA := St -> Hp -> (List V -> Hp -> Prop) -> Prop
structure Ends where
 nx : St -> Hp -> Prop
 rt : VK
 bk : St -> Hp -> Prop := fun _ _ => False
 ct : St -> Hp -> Prop := fun _ _ => False
abbrev TS := Ends -> St -> Hp -> Prop
def EP (X : Cx) (pins : List (Addr × Obj)) (σ : St) (Q : VK) (u : Value) (s' : Shared) : Prop := ∃ v H', Inv X pins σ H' s' /\ RelV v u /\ Q v H'
def TP (X : Cx) (pins : List (Addr × Obj)) (σ : St) (Q : Bool -> Hp -> Prop) (b : Bool) (s' : Shared) : Prop := ∃ H', Inv X pins σ H' s' /\ Q b H'
def AP (X : Cx) (pins : List (Addr × Obj)) (σ : St) (Q : List V -> Hp -> Prop) (us : List Value) (s' : Shared) : Prop := ∃ vs H', Inv X pins σ H' s' /\ Vals vs us /\ Q vs H'
def SP (X : Cx) (pins : List (Addr × Obj)) (D : Ends) (f : Flow) (s' : Shared) : Prop :=
 match f with
 | .next => ∃ σ' H', Inv X pins σ' H' s' /\ D.nx σ' H'
 | .brk => ∃ σ' H', Inv X pins σ' H' s' /\ D.bk σ' H'
 | .cont => ∃ σ' H', Inv X pins σ' H' s' /\ D.ct σ' H'
 | .ret u => ∃ v σ' H', Inv X pins σ' H' s' /\ RelV v u /\ D.rt v H'
def PE (X : Cx) (e : Expr) (t : TE) : Prop :=
 ∀ (pins : List (Addr × Obj)) (s : Shared) (σ : St) (H : Hp) (Q : VK), Inv X pins σ H s -> t σ H Q -> wpAny (model X.prog X.w) X.A (eval e X.env) (EP X pins σ Q) X.xe s
def PT (X : Cx) (e : Expr) (t : TT) : Prop :=
 ∀ (pins : List (Addr × Obj)) (s : Shared) (σ : St) (H : Hp) (Q : Bool -> Hp -> Prop), Inv X pins σ H s -> t σ H Q -> wpAny (model X.prog X.w) X.A (isTrue e X.env (eval e X.env)) (TP X pins σ Q) X.xe s
def PW (X : Cx) (e : Expr) (t : TT) : Prop :=
 ∀ (whole : Sem Value) (pins : List (Addr × Obj)) (s : Shared) (σ : St) (H : Hp) (Q : Bool -> Hp -> Prop), Inv X pins σ H s -> t σ H Q -> wpAny (model X.prog X.w) X.A (isTrue e X.env whole) (TP X pins σ Q) X.xe s
theorem PW.pt {X : Cx} {e : Expr} {t : TT} (h : PW X e t) : PT X e t := h _
def PA (X : Cx) (es : List Expr) (t : TA) : Prop :=
 ∀ (pos : Pos) (pins : List (Addr × Obj)) (s : Shared) (σ : St) (H : Hp) (Q : List V -> Hp -> Prop), Inv X pins σ H s -> t σ H Q -> wpAny (model X.prog X.w) X.A (spliced (backTo pos (starEach es X.env))) (AP X pins σ Q) X.xe s
def PS (X : Cx) (st : Stmt) (t : TS) : Prop :=
 ∀ (pins : List (Addr × Obj)) (s : Shared) (σ : St) (H : Hp) (D : Ends), Inv X pins σ H s -> t D σ H -> wpAny (model X.prog X.w) X.A (exec st X.env) (SP X pins D) X.xe s
def PSs (X : Cx) (st : List Stmt) (t : TS) : Prop :=
 ∀ (pins : List (Addr × Obj)) (s : Shared) (σ : St) (H : Hp) (D : Ends), Inv X pins σ H s -> t D σ H -> wpAny (model X.prog X.w) X.A (execs st X.env) (SP X pins D) X.xe s
theorem thn {α : Type} {t : Sem α} {Q Q' : α -> Shared -> Prop} {M : Model} {A : Around} {E : Value -> Shared -> Prop} {s : Shared} (h : wpAny M A t Q E s) (hQ : ∀ a s, Q a s -> Q' a s) : wpAny M A t Q' E s := wpAny_mono h hQ fun _ _ x => x
end L2
namespace L2
open PySem PySem.Spec PyProof.Rows
section
variable {X : Cx}
def tVar (i : Nat) : TE := fun σ H Q => ∃ v, σ[i]? = some (some v) /\ Q v H
def tC (v : V) : TE := fun _ H Q => Q v H
theorem qit_ {i : Nat} {x : Str} {pos : Pos} (hN : X.N[i]? = some x) (hv : Vis X.env.scope x) (hd : (x == ("__debug__" : Str)) = false := by decide) (hcd : (x == ("__classdict__" : Str)) = false := by decide) : PE X (.Name x pos) (tVar i) := by
 intro pins s σ H Q I h
 obtain ⟨v, e, h⟩ := h
 obtain ⟨m, hn, hl⟩ := I.loc
 obtain ⟨u, r, l⟩ := hl i x v hN e hv
 have fin : EP X pins σ Q u s := ⟨v, H, I, r, h⟩
 rcases l with ⟨hk, hm⟩ | ⟨hk, c, hc, hcell⟩
 ·exact wpAny_Name (wpAny_loadName_local I.ok.kind hk hn hm fin) hd
 ·rcases hk with hk | hk
  ·exact wpAny_Name (wpAny_loadName_cell I.ok.kind hk hc hcell fin) hd
  ·exact wpAny_Name (wpAny_loadName_free I.ok.kind hk hc hcell fin hcd) hd
theorem qj_ {i j pos} : PE X (.Constant (.int i) j pos) (tC (.int i)) := fun _ _ _ H _ I h => wpAny_Constant_int ⟨.int i, H, I.tok _, ⟨_, rfl⟩, h⟩
theorem zr_ {b j pos} : PE X (.Constant (.bool b) j pos) (tC (.bl b)) := fun _ _ _ H _ I h => Constant_bool ⟨.bl b, H, I, rfl, h⟩
theorem jr_ {j pos} : PE X (.Constant .none j pos) (tC .non) := fun _ _ _ H _ I h => Constant_none ⟨.non, H, I, rfl, h⟩
theorem vz_ {x j pos} : PE X (.Constant (.str x) j pos) (tC (.str x)) := fun _ _ _ H _ I h => Calls.Constant_str ⟨.str x, H, I.tok _, ⟨_, rfl⟩, h⟩
def Gl (X : Cx) (x : Str) : Prop := X.env.kindOf x = some .globalImplicit
theorem vZ_ {E : Value -> Shared -> Prop} {pins : List (Addr × Obj)} {s : Shared} {σ : St} {H : Hp} {x : Str} {u : Value} {pos : Pos} {Q : Value -> Shared -> Prop} (I : Inv X pins σ H s) (hg : Gl X x) (hm : X.mg x = some u) (h : Q u s)
  (hd : (x == ("__debug__" : Str)) = false := by decide) : wpAny (model X.prog X.w) X.A (eval (.Name x pos) X.env) Q E s :=
 Calls.Name_function_global I.ok.kind hg (Calls.loadGlobal_global (by rw [I.ok.glob]; exact I.mod.glob.keeps I.bk) hm h) hd
theorem yr_ {E : Value -> Shared -> Prop} {pins : List (Addr × Obj)} {s : Shared} {σ : St} {H : Hp} {x : Str} {u : Value} {pos : Pos} {Q : Value -> Shared -> Prop} (I : Inv X pins σ H s) (hg : Gl X x) (hm : X.mg x = none) (hv : bootBuiltins x = some u) (h : Q u s)
  (hn : x ≠ "__name__" := by decide) (hd : (x == ("__debug__" : Str)) = false := by decide) : wpAny (model X.prog X.w) X.A (eval (.Name x pos) X.env) Q E s := by
 obtain ⟨mb, h1, h2⟩ := I.mod.blt
 exact Calls.Name_function_global I.ok.kind hg (Calls.loadGlobal_builtin (by rw [I.ok.glob]; exact I.mod.glob.keeps I.bk) hm (by rw [I.ok.blt]; exact h1.keeps I.bk) ((h2 x hn).trans hv) h) hd
theorem zk_ {x : Str} {v : V} {u : Value} {pos : Pos} (hg : Gl X x) (hm : X.mg x = some u) (r : RelV v u) (hd : (x == ("__debug__" : Str)) = false := by decide) : PE X (.Name x pos) (tC v) :=
 fun _ _ _ H _ I h => vZ_ I hg hm ⟨v, H, I, r, h⟩ hd
def t2I (ta tb : TE) (k : Int -> Int -> Hp -> Prop) : St -> Hp -> Prop := fun σ H => ta σ H fun x H1 => tb σ H1 fun y H2 => ∃ i j, x = .int i /\ y = .int j /\ k i j H2
def tAdd (ta tb : TE) : TE := fun σ H Q => t2I ta tb (fun i j H2 => Q (.int (i + j)) H2) σ H
def tSub (ta tb : TE) : TE := fun σ H Q => t2I ta tb (fun i j H2 => Q (.int (i - j)) H2) σ H
def tMul (ta tb : TE) : TE := fun σ H Q => t2I ta tb (fun i j H2 => (-(2 ^ 64) < i /\ i < 2 ^ 64) /\ Q (.int (i * j)) H2) σ H
variable {a b : Expr} {ta tb : TE} {pos : Pos}
def PC (X : Cx) (op : CmpOp) (a b : Expr) (t : TE) : Prop :=
 ∀ (pins : List (Addr × Obj)) (s : Shared) (σ : St) (H : Hp) (Q : VK), Inv X pins σ H s -> t σ H Q →
  wpAny (model X.prog X.w) X.A (eval a X.env) (fun v s₁ => wpAny (model X.prog X.w) X.A (eval b X.env) (fun u s₂ => wpAny (model X.prog X.w) X.A (compareOp op v u) (EP X pins σ Q) X.xe s₂) X.xe s₁) X.xe s
def tCmp (p : Int -> Int -> Bool) (ta tb : TE) : TE := fun σ H Q => t2I ta tb (fun i j H2 => Q (.bl (p i j)) H2) σ H
abbrev tLt : TE -> TE -> TE := tCmp fun i j => decide (i < j)
abbrev tLe : TE -> TE -> TE := tCmp fun i j => decide (i <= j)
abbrev tGt : TE -> TE -> TE := tCmp fun i j => decide (j < i)
abbrev tGe : TE -> TE -> TE := tCmp fun i j => decide (j <= i)
abbrev tEqI : TE -> TE -> TE := tCmp fun i j => decide (i = j)
abbrev tNeI : TE -> TE -> TE := tCmp fun i j => !decide (i = j)
def tIsN (ta : TE) : TE := fun σ H Q => ta σ H fun x H1 => Q (.bl (decide (x = .non))) H1
def qk8_ (ta : TE) : TE := fun σ H Q => ta σ H fun x H1 => Q (.bl (!decide (x = .non))) H1
def tB (t : TE) : TT := fun σ H Q => t σ H fun x H1 => ∃ c, x = .bl c /\ Q c H1
theorem j3_ {e : Expr} {t : TE} (h : PE X e t) (he : ∀ whole, isTrue e X.env whole = (do let v ← whole; standAt e.pos; holding [v] (truthy v)) := by intro _; rfl) : PT X e (tB t) := by
 intro pins s σ H Q I hw
 refine isTrue_plain (thn (h pins s σ H _ I hw) fun v s1 ⟨x, H1, I1, r1, q1⟩ => ?_) (he _)
 obtain ⟨d, rfl, q⟩ := q1
 cases r1
 exact wpAny_truthy_bool ⟨H1, I1, q⟩
variable {tA tB' : TT} {rest : List Expr}
def tAnd (t u : TT) : TT := fun σ H Q => t σ H fun c H1 => if c = true then u σ H1 Q else Q false H1
def tOr (t u : TT) : TT := fun σ H Q => t σ H fun c H1 => if c = true then Q true H1 else u σ H1 Q
def tNot (t : TT) : TT := fun σ H Q => t σ H fun c H1 => Q (!c) H1
theorem v0_ (ha : PT X a tA) : PW X (.BoolOp .And [a] pos) tA := by
 intro wh pins s σ H Q I h
 refine isTrue_and (thn (ha pins s σ H Q I h) fun c s1 e => ?_)
 cases c with
 | true => exact isTrue_and_nil e
 | false => exact e
theorem ys_ (ha : PT X a tA) : PW X (.BoolOp .Or [a] pos) tA := by
 intro wh pins s σ H Q I h
 refine isTrue_or (thn (ha pins s σ H Q I h) fun c s1 e => ?_)
 cases c with
 | false => exact isTrue_or_nil e
 | true => exact e
theorem u6_ (ha : PT X a tA) (hb : PW X (.BoolOp .And (b :: rest) pos) tB') : PW X (.BoolOp .And (a :: b :: rest) pos) (tAnd tA tB') := by
 intro wh pins s σ H Q I h
 refine isTrue_and (thn (ha pins s σ H _ I h) fun c s1 ⟨H1, I1, q1⟩ => ?_)
 cases c with
 | true => exact hb wh pins s1 σ H1 Q I1 q1
 | false => exact ⟨H1, I1, q1⟩
theorem yt_ (ha : PT X a tA) (hb : PW X (.BoolOp .Or (b :: rest) pos) tB') : PW X (.BoolOp .Or (a :: b :: rest) pos) (tOr tA tB') := by
 intro wh pins s σ H Q I h
 refine isTrue_or (thn (ha pins s σ H _ I h) fun c s1 ⟨H1, I1, q1⟩ => ?_)
 cases c with
 | true => exact ⟨H1, I1, q1⟩
 | false => exact hb wh pins s1 σ H1 Q I1 q1
theorem zl_ (ha : PT X a tA) : PT X (.UnaryOp .Not a pos) (tNot tA) := by
 intro pins s σ H Q I h
 exact isTrue_not (ha pins s σ H (fun c H1 => Q (!c) H1) I h)
def qjt_ (ta tb : TE) : TE := fun σ H Q => ta σ H fun x H1 => ∃ c, x = .bl c /\ if c = true then tb σ H1 Q else Q (.bl false) H1
def tOrV (ta tb : TE) : TE := fun σ H Q => ta σ H fun x H1 => ∃ c, x = .bl c /\ if c = true then Q (.bl true) H1 else tb σ H1 Q
def qk9_ (ta : TE) : TE := fun σ H Q => ta σ H fun x H1 => ∃ c, x = .bl c /\ Q (.bl (!c)) H1
theorem qdm_ {op} {t : TE} (h : PE X a t) : PE X (.BoolOp op [a] pos) t := fun pins s σ H Q I hw => BoolOp_one (h pins s σ H Q I hw)
theorem qiu_ (ha : PE X a ta) (hb : PE X (.BoolOp .And (b :: rest) pos) tb) : PE X (.BoolOp .And (a :: b :: rest) pos) (qjt_ ta tb) := by
 intro pins s σ H Q I h
 refine BoolOp_and (thn (ha pins s σ H _ I h) fun v s1 ⟨x, H1, I1, r1, q1⟩ => ?_)
 obtain ⟨c, rfl, q1⟩ := q1
 cases r1
 refine wpAny_truthy_bool ?_
 cases c with
 | true => exact hb pins s1 σ H1 Q I1 q1
 | false => exact ⟨.bl false, H1, I1, rfl, q1⟩
theorem qju_ (ha : PE X a ta) (hb : PE X (.BoolOp .Or (b :: rest) pos) tb) : PE X (.BoolOp .Or (a :: b :: rest) pos) (tOrV ta tb) := by
 intro pins s σ H Q I h
 refine BoolOp_or (thn (ha pins s σ H _ I h) fun v s1 ⟨x, H1, I1, r1, q1⟩ => ?_)
 obtain ⟨c, rfl, q1⟩ := q1
 cases r1
 refine wpAny_truthy_bool ?_
 cases c with
 | false => exact hb pins s1 σ H1 Q I1 q1
 | true => exact ⟨.bl true, H1, I1, rfl, q1⟩
def tIf (t : TT) (ta tb : TE) : TE := fun σ H Q => t σ H fun c H1 => if c = true then ta σ H1 Q else tb σ H1 Q
theorem qff_ {c : Expr} (hc : PT X c tA) (ha : PE X a ta) (hb : PE X b tb) : PE X (.IfExp c a b pos) (tIf tA ta tb) := by
 intro pins s σ H Q I h
 refine wpAny_IfExp (thn (hc pins s σ H _ I h) fun d s1 ⟨H1, I1, q1⟩ => ?_)
 cases d with
 | true => exact ha pins s1 σ H1 Q I1 q1
 | false => exact hb pins s1 σ H1 Q I1 q1
end
end L2
namespace L2
open PySem PySem.Spec PyProof.Rows
def SqL (K : PySem.W.Frag) (H : Hp) (a : Addr) (xs : List V) : Prop :=
 Rd H a (.lst xs) ∨
  ∃ (o : Obj) (its : Array Value) (n : Nat), K.lookup a = some o ∧ o.cls = .type "list" ∧ o.dict = none ∧ o.data = .seq its n ∧ its.size ≤ sizeLine ∧ Vals xs its.toList
def SqT (K : PySem.W.Frag) (H : Hp) (a : Addr) (xs : List V) : Prop :=
 Rd H a (.tup xs) ∨
  ∃ (o : Obj) (its : Array Value) (n : Nat), K.lookup a = some o ∧ o.cls = .type "tuple" ∧ o.data = .seq its n ∧ its.size ≤ sizeLine ∧ Vals xs its.toList
def absV : Value -> Option V
 | .none => some .non
 | .bool b => some (.bl b)
 | .int i _ => some (.int i)
 | .str x _ => some (.str x)
 | .bytes b _ => some (.byt b)
 | .float b _ => some (.flt b)
 | .ref a => some (.ref a)
 | .type n => some (.ty n)
 | _ => none
theorem RelV.abs {x : V} {u : Value} (r : RelV x u) : absV u = some x := by
 cases x with
 | non => cases r; rfl
 | bl _ => cases r; rfl
 | int _ => obtain ⟨t, rfl⟩ := r; rfl
 | str _ => obtain ⟨t, rfl⟩ := r; rfl
 | byt _ => obtain ⟨t, rfl⟩ := r; rfl
 | flt _ => obtain ⟨t, rfl⟩ := r; rfl
 | ref _ => cases r; rfl
 | ty _ => cases r; rfl
theorem RelV.inj {x y : V} {u : Value} (r : RelV x u) (q : RelV y u) : x = y := Option.some.inj (r.abs.symm.trans q.abs)
theorem Vals.inj : ∀ {xs ys : List V} {us : List Value}, Vals xs us -> Vals ys us -> xs = ys
 | _, _, _, .nil, .nil => rfl
 | _, _, _, .cons r t, .cons r' t' => by rw [r.inj r', Vals.inj t t']
section
variable {X : Cx} {pins : List (Addr × Obj)} {σ : St} {H : Hp} {s : Shared} {a : Addr} {xs ys : List V}
theorem SqL.of {K : PySem.W.Frag} (h : H a = some (.lst xs)) : SqL K H a xs := .inl (.inl h)
theorem SqT.of {K : PySem.W.Frag} (h : H a = some (.tup xs)) : SqT K H a xs := .inl (.inl h)
theorem Inv.list (I : Inv X pins σ H s) (h : SqL X.K H a xs) : ∃ its : List Value, Vals xs its /\ PlainL s.heap a its.toArray /\ xs.length <= sizeLine := by
 rcases h with h | ⟨o, its, n, hk, hc, hd, hs, hz, r⟩
 ·obtain ⟨z, its, n, r, e⟩ := h.ok I.hok
  exact ⟨its, r, ⟨_, n, e, rfl, rfl, rfl⟩, z⟩
 ·refine ⟨its.toList, r, ⟨o, n, I.kIn a o hk, hc, hd, by simpa using hs⟩, ?_⟩
  have e := r.length
  simp only [Array.length_toList] at e
  omega
theorem Inv.tuple (I : Inv X pins σ H s) (h : SqT X.K H a xs) : ∃ its : List Value, Vals xs its /\ IsTup s.heap a its.toArray /\ xs.length <= sizeLine := by
 rcases h with h | ⟨o, its, n, hk, hc, hs, hz, r⟩
 ·obtain ⟨z, its, r, p⟩ := h.ok I.hok
  exact ⟨its, r, p, z⟩
 ·refine ⟨its.toList, r, ⟨o, I.kIn a o hk, hc, n, by simpa using hs⟩, ?_⟩
  have e := r.length
  simp only [Array.length_toList] at e
  omega
theorem Inv.list_inj (I : Inv X pins σ H s) (h : SqL X.K H a xs) (h' : SqL X.K H a ys) : xs = ys := by
 obtain ⟨its, r, ⟨o, n, e, _, _, d⟩, _⟩ := I.list h
 obtain ⟨its', r', ⟨o', n', e', _, _, d'⟩, _⟩ := I.list h'
 rw [e] at e'; cases e'
 rw [d] at d'
 injection d' with d1 _
 have : its = its' := by simpa using congrArg Array.toList d1
 subst this
 exact r.inj r'
end
abbrev Cx.wish (X : Cx) (E : Value -> Shared -> Prop) : Cx := { X with xe := E }
abbrev Cx.nox (X : Cx) : Cx := X.wish fun _ _ => False
theorem Cx.Ok.wish {X : Cx} (ok : X.Ok) (E : Value -> Shared -> Prop) : (X.wish E).Ok :=
 ⟨ok.mod, ok.kind, ok.glob, ok.blt, ok.above, ok.inj, ok.has, ok.cab, ok.hd, ok.frames, ok.stk, ok.exf, ok.bs, ok.bsz, ok.noex, ok.exfs, ok.funs, ok.frf⟩
theorem Cx.Ok.unwish {X : Cx} {E : Value -> Shared -> Prop} (ok : (X.wish E).Ok) : X.Ok :=
 ⟨ok.mod, ok.kind, ok.glob, ok.blt, ok.above, ok.inj, ok.has, ok.cab, ok.hd, ok.frames, ok.stk, ok.exf, ok.bs, ok.bsz, ok.noex, ok.exfs, ok.funs, ok.frf⟩
section
variable {X : Cx} {pins : List (Addr × Obj)} {σ : St} {H : Hp} {s : Shared} {E : Value -> Shared -> Prop}
theorem Inv.wish (I : Inv X pins σ H s) (E : Value -> Shared -> Prop) : Inv (X.wish E) pins σ H s := ⟨I.ok.wish E, I.os, I.bare, I.base, I.loc, I.cell, I.free, I.freeC, I.pin, I.hok, I.len⟩
theorem Inv.unwish (I : Inv (X.wish E) pins σ H s) : Inv X pins σ H s := ⟨I.ok.unwish, I.os, I.bare, I.base, I.loc, I.cell, I.free, I.freeC, I.pin, I.hok, I.len⟩
theorem SP.unwish {D : Ends} {f : Flow} {s' : Shared} (h : SP (X.wish E) pins D f s') : SP X pins D f s' := by
 cases f with
 | next => obtain ⟨σ', H', I, q⟩ := h; exact ⟨σ', H', I.unwish, q⟩
 | brk => obtain ⟨σ', H', I, q⟩ := h; exact ⟨σ', H', I.unwish, q⟩
 | cont => obtain ⟨σ', H', I, q⟩ := h; exact ⟨σ', H', I.unwish, q⟩
 | ret u => obtain ⟨v, σ', H', I, r, q⟩ := h; exact ⟨v, σ', H', I.unwish, r, q⟩
theorem PSs.nox {st : List Stmt} {t : TS} (h : PSs X.nox st t) : PSs X st t := fun pins s σ H D I hw =>
 wpAny_mono (h pins s σ H D (I.wish _) hw) (fun _ _ q => q.unwish) fun _ _ z => False.elim z
end
section
variable {X : Cx} {st : Stmt} {rest : List Stmt} {t u : TS} {e : Expr} {te : TE} {pos : Pos}
def qjv_ : TS := fun D σ H => D.nx σ H
def tSeq (t u : TS) : TS := fun D σ H => t { D with nx := u D } σ H
theorem qB_ : PSs X [] qjv_ := fun _ _ σ H _ I h => wpAny_execs_nil ⟨σ, H, I, h⟩
theorem qc_ (h1 : PS X st t) (h2 : PSs X rest u) : PSs X (st :: rest) (tSeq t u) := by
 intro pins s σ H D I h
 refine wpAny_execs_cons (thn (h1 pins s σ H { D with nx := u D } I h) fun f s1 q => ?_)
 cases f with
 | next =>
  obtain ⟨σ', H', I', q⟩ := q
  exact h2 pins s1 σ' H' D I' q
 | ret v => exact q
 | brk => exact q
 | cont => exact q
theorem qg_ (h1 : PS X st t) : PSs X [st] t := by
 intro pins s σ H D I h
 refine wpAny_execs_cons (thn (h1 pins s σ H D I h) fun f s1 q => ?_)
 cases f with
 | next => exact wpAny_execs_nil q
 | ret v => exact q
 | brk => exact q
 | cont => exact q
def qiv_ : TS := fun D σ H => D.bk σ H
def qjw_ : TS := fun D σ H => D.ct σ H
theorem qfg_ : PS X (.Break pos) qiv_ := fun _ _ σ H _ I h => wpAny_Break ⟨σ, H, I, h⟩
theorem qbg_ : PS X (.Continue pos) qjw_ := fun _ _ σ H _ I h => wpAny_Continue ⟨σ, H, I, h⟩
theorem Inv.quiet {pins : List (Addr × Obj)} {σ : St} {H : Hp} {s : Shared} (I : Inv X pins σ H s) : interactive X.env = false := by simp [interactive, I.ok.kind]
def qjx_ (te : TE) : TS := fun D σ H => te σ H fun _ H1 => D.nx σ H1
theorem q4_ (he : PE X e te) (hs : swapsWith e none pos.line X.env = pure false := by rfl) : PS X (.Expr e pos) (qjx_ te) := by
 intro pins s σ H D I h
 exact wpAny_Expr_any (thn (he pins s σ H _ I h) fun v s1 ⟨x, H1, I1, r1, q1⟩ => ⟨σ, H1, I1, q1⟩) I.quiet hs
def tRet (te : TE) : TS := fun D σ H => te σ H D.rt
theorem qq_ (he : PE X e te) : PS X (.Return (some e) pos) (tRet te) := by
 intro pins s σ H D I h
 exact wpAny_Return_some (thn (he pins s σ H _ I h) fun v s1 ⟨x, H1, I1, r1, q1⟩ => ⟨x, σ, H1, I1, r1, q1⟩)
def qla_ : TS := fun D _ H => D.rt .non H
def tIfS (c : TT) (t u : TS) : TS := fun D σ H => c σ H fun b H1 => if b = true then t D σ H1 else u D σ H1
theorem qH_ {c : Expr} {a b : List Stmt} {tc : TT} (hc : PT X c tc) (ha : PSs X a t) (hb : PSs X b u) : PS X (.If c a b pos) (tIfS tc t u) := by
 intro pins s σ H D I h
 refine wpAny_If (thn (hc pins s σ H _ I h) fun d s1 ⟨H1, I1, q1⟩ => ?_)
 cases d with
 | true => exact ha pins s1 σ H1 D I1 q1
 | false => exact hb pins s1 σ H1 D I1 q1
def qiw_ : TS := fun _ _ _ => False
theorem jE_ : PS X st qiw_ := fun _ _ _ _ _ _ h => h.elim
end
abbrev TG := V -> St -> Hp -> (St -> Hp -> Prop) -> Prop
abbrev TGs := List V -> St -> Hp -> (St -> Hp -> Prop) -> Prop
def PG (X : Cx) (target : Expr) (t : TG) : Prop :=
 ∀ (pins : List (Addr × Obj)) (s : Shared) (σ : St) (H : Hp) (v : V) (u : Value) (Q : St -> Hp -> Prop), Inv X pins σ H s -> RelV v u -> t v σ H Q →
  wpAny (model X.prog X.w) X.A (assign target X.env u) (fun _ s' => ∃ σ' H', Inv X pins σ' H' s' /\ Q σ' H') X.xe s
def PGs (X : Cx) (ts : List Expr) (t : TGs) : Prop :=
 ∀ (pins : List (Addr × Obj)) (s : Shared) (σ : St) (H : Hp) (vs : List V) (us : List Value) (Q : St -> Hp -> Prop), Inv X pins σ H s -> Vals vs us -> t vs σ H Q →
  wpAny (model X.prog X.w) X.A (assignInOrder ((assignEach ts X.env).map (·.2)) us) (fun _ s' => ∃ σ' H', Inv X pins σ' H' s' /\ Q σ' H') X.xe s
abbrev TSet := V -> V -> V -> Hp -> (Hp -> Prop) -> Prop
def PSet (X : Cx) (t : TSet) : Prop :=
 ∀ (pins : List (Addr × Obj)) (s : Shared) (σ : St) (H : Hp) (o i v : V) (ov iv u : Value) (Q : Hp -> Prop), Inv X pins σ H s -> RelV o ov -> RelV i iv -> RelV v u -> t o i v H Q →
  wpAny (model X.prog X.w) X.A (setItem ov iv u) (fun _ s' => ∃ H', Inv X pins σ H' s' /\ Q H') X.xe s
abbrev TIp := V -> V -> Hp -> VK -> Prop
def PIp (X : Cx) (op : Operator) (t : TIp) : Prop :=
 ∀ (pins : List (Addr × Obj)) (s : Shared) (σ : St) (H : Hp) (x y : V) (v u : Value) (Q : VK), Inv X pins σ H s -> RelV x v -> RelV y u -> t x y H Q →
  wpAny (model X.prog X.w) X.A (inplaceOp op v u) (EP X pins σ Q) X.xe s
section
variable {X : Cx} {pos : Pos}
def jh_ (i : Nat) : TG := fun v σ H Q => Q (σ.set i (some v)) H
theorem qs_ {i : Nat} {x : Str} (hN : X.N.Nodup) (hi : X.N[i]? = some x) (hx : Loc X.env.scope x) (hf : X.fn x = true \/ X.env.scope.names.lookup x = some .local := by first | exact .inl rfl | exact .inr rfl | assumption) : PG X (.Name x pos) (jh_ i) := by
 intro pins s σ H v u Q I r h
 exact wpAny_assign_Name (zq_ I hN hi hx r (fun s' I' => ⟨_, H, I', h⟩) hf)
def gNil : TGs := fun vs σ H Q => vs = [] /\ Q σ H
def yW_ (t : TG) (u : TGs) : TGs := fun vs σ H Q => ∃ v r, vs = v :: r /\ t v σ H fun σ' H' => u r σ' H' Q
theorem yb_ : PGs X [] gNil := by
 intro pins s σ H vs us Q I r h
 obtain ⟨e, h⟩ := h
 subst e
 cases r
 exact assignInOrder_nil ⟨σ, H, I, h⟩
theorem qO_ {e : Expr} {es : List Expr} {t : TG} {u : TGs} (h1 : PG X e t) (h2 : PGs X es u)
  (hs : (assignEach (e :: es) X.env).map (·.2) = assign e X.env :: (assignEach es X.env).map (·.2) := by rfl) : PGs X (e :: es) (yW_ t u) := by
 intro pins s σ H vs us Q I r h
 obtain ⟨v, vr, e1, h⟩ := h
 subst e1
 cases r with
 | cons r rr =>
  rw [hs]
  refine assignInOrder_cons (thn (h1 pins s σ H _ _ _ I r h) fun _ s1 ⟨σ1, H1, I1, q1⟩ => ?_)
  exact h2 pins s1 σ1 H1 _ _ Q I1 rr q1
def gTup (K : PySem.W.Frag) (n : Nat) (t : TGs) : TG := fun v σ H Q => ∃ a xs, v = .ref a /\ SqT K H a xs /\ xs.length = n /\ t xs σ H Q
theorem y6_ {es : List Expr} {k : Nat} {t : TGs} {n : Nat} (hc : X.calm = true) (h : PGs X es t)
  (hn : (assignEach es X.env).length = n := by rfl) (hst : (assignEach es X.env).findIdx? (·.1) = none := by rfl) : PG X (.Tuple es k pos) (gTup X.K n t) := by
 intro pins s σ H v u Q I r hw
 obtain ⟨a, xs, e1, hq, hl, hw⟩ := hw
 subst e1
 cases r
 obtain ⟨its, rv, ht, hz⟩ := I.tuple hq
 refine assign_Tuple_tuple (I.ok.hd hc) ht (by simp [hn, ← hl, rv.length]) hst fun h' hx => ?_
 have I1 : Inv X pins σ H { s with heap := h' } := I.kept (t' := s.toks) fun b o e => hx b o (Nat.ne_of_lt (Heap.lt_size e)) e
 exact h pins _ σ H xs _ Q I1 (by simpa using rv) hw
def gSub (to ti : TE) (t : TSet) : TG := fun v σ H Q => to σ H fun o H1 => ti σ H1 fun i H2 => t o i v H2 fun H3 => Q σ H3
theorem y7_ {o i : Expr} {to ti : TE} {t : TSet} (ho : PE X o to) (hi : PE X i ti) (hs : PSet X t)
  (ha : ∀ v, assign (.Subscript o i pos) X.env v = (do
   let ov ← holding [v] (eval o X.env)
   let iv ← holding [v, ov] (eval i X.env)
   standAt pos
   holding [v, ov, iv] (setItem ov iv v)
   release [v, ov, iv] []) := by intro _; rfl) : PG X (.Subscript o i pos) (gSub to ti t) := by
 intro pins s σ H v u Q I r h
 rw [ha]
 refine wpAny_bind (wpAny_holding (thn (ho pins s σ H _ I h) fun ov s1 ⟨x, H1, I1, r1, q1⟩ => ?_))
 refine wpAny_bind (wpAny_holding (thn (hi pins s1 σ H1 _ I1 q1) fun iv s2 ⟨y, H2, I2, r2, q2⟩ => ?_))
 refine wpAny_bind (wpAny_standAt (wpAny_bind (wpAny_holding (thn (hs pins s2 σ H2 x y v ov iv u _ I2 r1 r2 r q2) fun _ s3 ⟨H3, I3, q3⟩ => ?_))))
 exact wpAny_release ⟨σ, H3, I3, q3⟩
def tAsg (te : TE) (g : TG) : TS := fun D σ H => te σ H fun x H1 => g x σ H1 D.nx
theorem yQ_ {tg e : Expr} {te : TE} {g : TG} (he : PE X e te) (hg : PG X tg g) (hs : swapsWithSole [tg] e pos.line X.env = pure false := by rfl) (hw : swappedStores [tg] e X.env = pure none := by rfl)
  (h1 : (assignEach [tg] X.env).map (·.2) = [assign tg X.env] := by rfl) : PS X (.Assign [tg] e pos) (tAsg te g) := by
 intro pins s σ H D I h
 refine wpAny_Assign_stores (thn (he pins s σ H _ I h) fun v s1 ⟨x, H1, I1, r1, q1⟩ => ?_) hs hw
 rw [h1]
 exact thn (hg pins s1 σ H1 x v _ I1 r1 q1) fun _ s2 q => q
theorem qm_ {i : Nat} {x : Str} {e : Expr} {te : TE} {pos' : Pos} (hN : X.N.Nodup) (hi : X.N[i]? = some x) (hx : Loc X.env.scope x) (he : PE X e te) (hs : swapsWith e (some (.Name x pos')) pos.line X.env = pure false := by rfl) (hf : X.fn x = true \/ X.env.scope.names.lookup x = some .local := by first | exact .inl rfl | exact .inr rfl | assumption) :
  PS X (.Assign [.Name x pos'] e pos) (tAsg te (jh_ i)) := by
 intro pins s σ H D I h
 refine wpAny_Assign_Name (thn (he pins s σ H _ I h) fun v s1 ⟨y, H1, I1, r1, q1⟩ => ?_) hs
 exact zq_ I1 hN hi hx r1 (fun s2 I2 => ⟨_, H1, I2, q1⟩) hf
def tPar (i j : Nat) (ta : TA) : TS := fun D σ H => ta σ H fun vs H1 => ∃ v w, vs = [v, w] /\ D.nx ((σ.set i (some v)).set j (some w)) H1
def tAug (i : Nat) (te : TE) (ti : TIp) : TS := fun D σ H => ∃ x, σ[i]? = some (some x) /\ te σ H fun y H1 => ti x y H1 fun z H2 => D.nx (σ.set i (some z)) H2
theorem qix_ {i : Nat} {x : Str} {e : Expr} {te : TE} {op : Operator} {ti : TIp} {pos' : Pos} (hN : X.N.Nodup) (hi : X.N[i]? = some x) (hx : Loc X.env.scope x) (he : PE X e te) (ho : PIp X op ti) (hf : X.fn x = true \/ X.env.scope.names.lookup x = some .local := by first | exact .inl rfl | exact .inr rfl | assumption) :
  PS X (.AugAssign (.Name x pos') op e pos) (tAug i te ti) := by
 intro pins s σ H D I h
 obtain ⟨v, e1, h⟩ := h
 obtain ⟨m, hn, hl⟩ := I.loc
 have vis : Vis X.env.scope x := by rcases hx with k | k; exact .inl k; exact .inr (.inl k)
 obtain ⟨u, r, l⟩ := hl i x v hi e1 vis
 refine wpAny_AugAssign_Name ?_
 have go : wpAny (model X.prog X.w) X.A (eval e X.env) (fun w s₂ => wpAny (model X.prog X.w) X.A (inplaceOp op u w) (fun r s₃ => wpAny (model X.prog X.w) X.A (storeName X.env x r) (fun _ => SP X pins D .next) X.xe s₃) X.xe s₂) X.xe s := by
  refine thn (he pins s σ H _ I h) fun w s1 ⟨y, H1, I1, r1, q1⟩ => ?_
  refine thn (ho pins s1 σ H1 v y u w _ I1 r r1 q1) fun z s2 ⟨zv, H2, I2, r2, q2⟩ => ?_
  exact zq_ I2 hN hi hx r2 (fun s3 I3 => ⟨_, H2, I3, q2⟩) hf
 rcases l with ⟨hk, hm⟩ | ⟨hk, c, hc, hcell⟩
 ·exact wpAny_loadName_local I.ok.kind hk hn hm go
 ·rcases hk with hk | hk
  ·exact wpAny_loadName_cell I.ok.kind hk hc hcell go
  ·rcases hx with k | k
   ·have : X.env.scope.names.lookup x = some .free := hk
    rw [k] at this; cases this
   ·have : X.env.scope.names.lookup x = some .free := hk
    rw [k] at this; cases this
def qlb_ (to ti te : TE) (tget : V -> V -> Hp -> VK -> Prop) (tip : TIp) (tset : TSet) : TS := fun D σ H => to σ H fun o H1 => ti σ H1 fun i H2 => tget o i H2 fun x H3 => te σ H3 fun y H4 => tip x y H4 fun z H5 => tset o i z H5 fun H6 => D.nx σ H6
def PGet (X : Cx) (t : V -> V -> Hp -> VK -> Prop) : Prop :=
 ∀ (pins : List (Addr × Obj)) (s : Shared) (σ : St) (H : Hp) (o i : V) (ov iv : Value) (Q : VK), Inv X pins σ H s -> RelV o ov -> RelV i iv -> t o i H Q →
  wpAny (model X.prog X.w) X.A (getItem ov iv) (EP X pins σ Q) X.xe s
def ipI (f : Int -> Int -> Int) : TIp := fun x y H Q => ∃ i j, x = .int i /\ y = .int j /\ Q (.int (f i j)) H
theorem qiy_ : PIp X .Add (ipI fun i j => i + j) := by
 intro pins s σ H x y v u Q I r1 r2 h
 obtain ⟨i, j, e1, e2, q⟩ := h
 subst e1; subst e2
 obtain ⟨t, rfl⟩ := r1
 obtain ⟨t', rfl⟩ := r2
 exact iadd_int ⟨.int _, H, I.tok _, ⟨_, rfl⟩, q⟩
end
section
variable {X : Cx} {pos : Pos}
def qiz_ (c : TT) (tb : TS) : TS := fun D σ H => ∃ W : Nat -> St -> Hp -> Prop, (∃ m, W m σ H) /\ ∀ m σ H, W m σ H →
 c σ H fun b H1 => if b = true then ∃ N : St -> Hp -> Prop, (∀ σ' H', N σ' H' -> ∃ m', m' < m /\ W m' σ' H') /\ tb { D with nx := N, ct := N, bk := D.nx } σ H1 else D.nx σ H1
theorem yo_ {c : Expr} {body : List Stmt} {tc : TT} {tb : TS} (hp : PassesOwn (model X.prog X.w) X.A X.env X.xe) (hc : PT X c tc) (hb : PSs X body tb) : PS X (.While c body [] pos) (qiz_ tc tb) := by
 intro pins s σ H D I h
 obtain ⟨W, ⟨m0, w0⟩, turn⟩ := h
 refine wpAny_While (codeAny_whileLoop (fun n s' => ∃ σ' H', Inv X pins σ' H' s' /\ W n σ' H') ?_ m0 ⟨σ, H, I, w0⟩)
 rintro n s1 ⟨σ1, H1, I1, w1⟩
 refine wpAny_passesOwn hp (thn (hc pins s1 σ1 H1 _ I1 (turn n σ1 H1 w1)) fun b s2 ⟨H2, I2, q2⟩ => ?_)
 cases b with
 | true =>
  obtain ⟨N, hN, q2⟩ := q2
  rw [if_pos rfl]
  refine wpAny_passesOwn hp (thn (hb pins s2 σ1 H2 _ I2 q2) fun f s3 q3 => ?_)
  cases f with
  | next =>
   obtain ⟨σ3, H3, I3, n3⟩ := q3
   obtain ⟨m', hm, w3⟩ := hN σ3 H3 n3
   exact ⟨m', hm, σ3, H3, I3, w3⟩
  | cont =>
   obtain ⟨σ3, H3, I3, n3⟩ := q3
   obtain ⟨m', hm, w3⟩ := hN σ3 H3 n3
   exact ⟨m', hm, σ3, H3, I3, w3⟩
  | brk => exact q3
  | ret v => exact q3
 | false =>
  rw [if_neg Bool.false_ne_true]
  exact wpAny_execs_nil ⟨σ1, H2, I2, q2⟩
end
structure It where
 go : Nat -> Hp -> Prop
 yld : Nat -> Hp -> V -> Hp -> Prop
 stop : Nat -> Hp -> Prop
def FpOk (X : Cx) (pins : List (Addr × Obj)) (H : Hp) (b : Addr) : Prop :=
 H b = none /\ b ≠ X.env.locals /\ b ∉ X.fs /\ (b ∈ X.ex \/ X.s₀.heap.objs.size <= b) /\ (∀ x c, X.env.cells.lookup x = some c -> c ≠ b) /\ ∀ p ∈ X.pn ++ pins, p.1 ≠ b
theorem Inv.fpOk {X : Cx} {pins : List (Addr × Obj)} {σ : St} {H H' : Hp} {s : Shared} {b : Addr} (I : Inv X pins σ H s) (hb : s.heap.objs.size <= b) (hn : H' b = none) : FpOk X pins H' b := by
 refine ⟨hn, Nat.ne_of_gt (Nat.lt_of_lt_of_le I.lt hb), I.nofs hb, .inr (Nat.le_trans I.sz hb), fun x c e z => ?_, fun p hp z => ?_⟩
 ·obtain ⟨v, q⟩ := I.cell x c e
  exact absurd (Nat.lt_of_lt_of_le q.lt (by rw [z]; exact hb)) (Nat.lt_irrefl _)
 ·exact absurd (Nat.lt_of_lt_of_le (Heap.lt_size (I.pin p hp).1) (by rw [z]; exact hb)) (Nat.lt_irrefl _)
structure Turn (P : Program) (w : World) (K : PySem.W.Frag) (tg : Expr) (J : It) (fp : List Addr) (it : Addr) (tn : Nat -> Heap -> Prop) : Prop where
 mem : it ∈ fp
 obj : ∀ i h, tn i h -> ∀ b ∈ fp, ∃ o, h.get? b = some o /\ ∀ v, o.data ≠ .cell v
 keep : ∀ i h h', tn i h -> (∀ b ∈ fp, ∀ o, h.get? b = some o -> h'.get? b = some o) -> tn i h'
 item : ∀ (X : Cx), X.prog = P -> X.w = w -> X.K = K -> X.calm = true -> ∀ (i : Nat) (pins : List (Addr × Obj)) (s : Shared) (σ : St) (H : Hp) (E : Value -> Shared -> Prop), Inv X pins σ H s -> (∀ b ∈ fp, FpOk X pins H b) -> tn i s.heap -> J.go i H →
  wpAny (model P w) X.A (pyNext (.ref it)) (fun r s1 => ∃ u, r = some u ∧
   wpAny (model P w) X.A (letOwnedTupleGo tg (.ref it) u) (fun _ s2 => ∃ x H', Inv X pins σ H' s2 /\ RelV x u /\ J.yld i H x H' /\ tn (i + 1) s2.heap /\ ∀ b ∈ fp, H' b = none) E s1) E s
 done : ∀ (X : Cx), X.prog = P -> X.w = w -> X.K = K -> X.calm = true -> ∀ (i : Nat) (pins : List (Addr × Obj)) (s : Shared) (σ : St) (H : Hp) (E : Value -> Shared -> Prop), Inv X pins σ H s -> (∀ b ∈ fp, FpOk X pins H b) -> tn i s.heap -> J.stop i H →
  wpAny (model P w) X.A (pyNext (.ref it)) (fun r s1 => r = none /\ Inv X pins σ H s1) E s
 self : ∀ (A : Around) (i : Nat) (s : Shared) (Q : Value -> Shared -> Prop) (E : Value -> Shared -> Prop), tn i s.heap -> Q (.ref it) s -> wpAny (model P w) A (pyIter (.ref it)) Q E s
abbrev TI := St -> Hp -> (It -> Hp -> Prop) -> Prop
def PIE (X : Cx) (pins : List (Addr × Obj)) (σ : St) (tg : Expr) (R : It -> Hp -> Prop) (itv : Value) (s2 : Shared) : Prop :=
 ∃ (it : Addr) (fp : List Addr) (tn : Nat -> Heap -> Prop) (J : It) (H' : Hp), itv = .ref it /\ Inv X pins σ H' s2 /\ Turn X.prog X.w X.K tg J fp it tn /\ tn 0 s2.heap /\ (∀ b ∈ fp, FpOk X pins H' b) /\ R J H'
def PI (X : Cx) (tg iter : Expr) (wi : TI) : Prop :=
 ∀ (pins : List (Addr × Obj)) (s : Shared) (σ : St) (H : Hp) (R : It -> Hp -> Prop), Inv X pins σ H s -> wi σ H R →
  wpAny (model X.prog X.w) X.A (eval iter X.env) (fun v s1 => wpAny (model X.prog X.w) X.A (pyIter v) (PIE X pins σ tg R) X.xe s1) X.xe s
theorem u1_ {M : Model} {A : Around} {E : Value -> Shared -> Prop} {s : Shared} {tg : Expr} {it : Addr} {u : Value} {o : Obj} {n : String} {vs : Array Value} {Q : Unit -> Shared -> Prop} (ho : s.heap.get? it = some o) (hc : o.cls = .type n) (hd : o.data = .fields vs)
  (hn : ["enumerate", "zip", "dict_itemiterator", "dict_reverseitemiterator", "odict_iterator", "itertools.zip_longest", "itertools.pairwise"].contains n = false) (hQ : Q () s) : wpAny M A (letOwnedTupleGo tg (.ref it) u) Q E s := by
 unfold letOwnedTupleGo
 cases tg <;> first
  | exact wpAny_pure hQ
  | (cases u <;> first
    | exact wpAny_pure hQ
    | (refine wpAny_bind (wpAny_load ho ?_)
       rw [hc, hd]
       show wpAny M A (if (["enumerate", "zip", "dict_itemiterator", "dict_reverseitemiterator", "odict_iterator", "itertools.zip_longest", "itertools.pairwise"].contains n && vs[0]? == some (rawInt _)) = true then _ else _) Q E s
       rw [if_neg (by intro h; rw [hn, Bool.false_and] at h; cases h)]
       exact wpAny_pure hQ))
def Itl (K : PySem.W.Frag) (a : Addr) : It :=
 ⟨fun i H => ∃ xs x, SqL K H a xs /\ xs[i]? = some x, fun i H x H' => H' = H /\ ∀ xs, SqL K H a xs -> xs[i]? = some x, fun i H => ∃ xs, SqL K H a xs /\ xs.length <= i⟩
def Itt (K : PySem.W.Frag) (a : Addr) : It :=
 ⟨fun i H => ∃ xs x, SqT K H a xs /\ xs[i]? = some x, fun i H x H' => H' = H /\ ∀ xs, SqT K H a xs -> xs[i]? = some x, fun i H => ∃ xs, SqT K H a xs /\ xs.length <= i⟩
def Itr (lo : Int) (n : Nat) : It := ⟨fun i _ => i < n, fun i H x H' => H' = H /\ x = .int (lo + i), fun i _ => n <= i⟩
theorem qdn_ {P : Program} {w : World} {K : PySem.W.Frag} {tg : Expr} (a it : Addr) : Turn P w K tg (Itl K a) [it] it (fun i h => h.IsListIter it a i) where
 mem := by simp
 obj := fun i h st b hb => by
  have e : b = it := by simpa using hb
  subst e
  obtain ⟨o, e, c, d⟩ := st
  exact ⟨o, e, fun v z => by rw [d] at z; cases z⟩
 keep := fun i h h' st k => st.at fun o e => k it (by simp) o e
 item := by
  intro X hP hw hK hc i pins s σ H E I hf st hg
  subst hP hw hK
  obtain ⟨xs, x, hq, hx⟩ := hg
  obtain ⟨its, rv, p, hz⟩ := I.list hq
  obtain ⟨u, hu, ru⟩ := rv.get hx
  obtain ⟨f0, f1, f2, f3, f4, f5⟩ := hf it (by simp)
  refine wpAny_pyNext_list_item st p.isList (x := u) (by simpa using hu) fun h' st' sb => ?_
  have I1 : Inv X pins σ H { s with heap := h' } := I.turned (t' := s.toks) (fun b o hb e => (sb.2 b hb).trans e) f0 f1 f3 f4 f5
  obtain ⟨o, e, c, d⟩ := id st'
  exact ⟨u, rfl, u1_ (s := { s with heap := h' }) e c d (by decide) ⟨x, H, I1, ru, ⟨rfl, fun ys hy => by rw [I.list_inj hy hq]; exact hx⟩, st', fun b hb => (hf b hb).1⟩⟩
 done := by
  intro X hP hw hK hc i pins s σ H E I hf st hg
  subst hP hw hK
  obtain ⟨xs, hq, hx⟩ := hg
  obtain ⟨its, rv, p, hz⟩ := I.list hq
  obtain ⟨f0, f1, f2, f3, f4, f5⟩ := hf it (by simp)
  have hl := rv.length
  exact wpAny_pyNext_list_end (I.ok.hd hc) st p.isList (by simp; omega) fun h' eb => ⟨rfl, I.turned (t' := s.toks) (fun b o hb e => eb b o hb e) f0 f1 f3 f4 f5⟩
 self := fun _ _ _ _ _ st h => wpAny_pyIter_listiter st h
theorem qcq_ {P : Program} {w : World} {K : PySem.W.Frag} {tg : Expr} (it : Addr) (lo : Int) (n : Nat) : Turn P w K tg (Itr lo n) [it] it (fun i h => IsRangeIter h it (lo + (i : Nat) * 1) ((n : Int) - (i : Nat)) 1) where
 mem := by simp
 obj := fun i h st b hb => by
  have e : b = it := by simpa using hb
  subst e
  exact ⟨_, st, fun v z => by
   have z' : Data.fields _ = Data.cell v := z
   cases z'⟩
 keep := fun i h h' st k => k it (by simp) _ st
 item := by
  intro X hP hw hK hc i pins s σ H E I hf st hg
  subst hP hw hK
  obtain ⟨f0, f1, f2, f3, f4, f5⟩ := hf it (by simp)
  have W := Walks.range (prog := X.prog) (w := X.w) (I.ok.hd hc) it lo 1 n
  refine W.item i s _ _ hg st fun v h' tk hv st' kk => ?_
  obtain ⟨t, rfl⟩ := hv
  have I1 : Inv X pins σ H { s with heap := h', toks := tk } := I.turned (fun b o hb e => kk b o (by simpa using hb) e) f0 f1 f3 f4 f5
  refine ⟨_, rfl, u1_ (s := { s with heap := h', toks := tk }) (n := "range_iterator") st' rfl rfl (by decide) ⟨.int (lo + i), H, I1, ⟨t, ?_⟩, ⟨rfl, rfl⟩, st', fun b hb => (hf b hb).1⟩⟩
  rw [Int.mul_one]
 done := by
  intro X hP hw hK hc i pins s σ H E I hf st hg
  subst hP hw hK
  obtain ⟨f0, f1, f2, f3, f4, f5⟩ := hf it (by simp)
  exact wpAny_pyNext_range_end (I.ok.hd hc) st (by have : n <= i := hg; omega) fun h' eb => ⟨rfl, I.turned (t' := s.toks) (fun b o hb e => eb b o hb e) f0 f1 f3 f4 f5⟩
 self := fun _ _ _ _ _ st h => wpAny_pyIter_rangeiter st h
end L2
namespace L2
open PySem PySem.Spec PyProof.Rows
section
variable {X : Cx} {tg : Expr}
def qjy_ (K : PySem.W.Frag) (tl : TE) : TI := fun σ H R => tl σ H fun x H1 => ∃ a, x = .ref a /\ (∃ xs, SqL K H1 a xs) /\ R (Itl K a) H1
def iTup (K : PySem.W.Frag) (tl : TE) : TI := fun σ H R => tl σ H fun x H1 => ∃ a, x = .ref a /\ (∃ xs, SqT K H1 a xs) /\ R (Itt K a) H1
theorem jp_ {l : Expr} {tl : TE} (hl : PE X l tl) : PI X tg l (qjy_ X.K tl) := by
 intro pins s σ H R I h
 refine thn (hl pins s σ H _ I h) fun v s1 ⟨x, H1, I1, r1, q1⟩ => ?_
 obtain ⟨a, e, ⟨xs, hq⟩, q⟩ := q1
 subst e
 cases r1
 obtain ⟨its, rv, p, hz⟩ := I1.list hq
 refine wpAny_pyIter_list p.isList ?_
 refine ⟨s1.heap.objs.size, [s1.heap.objs.size], _, _, H1, rfl, I1.kept (t' := s1.toks) fun b o e => Heap.get?_push_of_some _ e, qdn_ a _, ⟨_, Heap.get?_push_size _ rfl, rfl, rfl⟩, fun b hb => ?_, q⟩
 have e : b = s1.heap.objs.size := by simpa using hb
 subst e
 exact I1.fpOk (Nat.le_refl _) (I1.hok.fresh (Nat.le_refl _))
theorem u7_ {pins : List (Addr × Obj)} {σ : St} {H : Hp} {s : Shared} {R : It -> Hp -> Prop} {E : Value -> Shared -> Prop} {lo hi : Int} {t u v : Tok} {tk : Nat} (I : Inv X pins σ H s) (h1 : -(2 ^ 62) <= lo) (h2 : lo < 2 ^ 62) (h3 : -(2 ^ 62) <= hi) (h4 : hi < 2 ^ 62)
  (q : R (Itr lo (hi - lo).toNat) H) : wpAny (model X.prog X.w) X.A (pyIter (.ref s.heap.objs.size)) (PIE X pins σ tg R) E { s with heap := s.heap.push { cls := .type "range", data := .fields #[.int lo t, .int hi u, .int 1 v] }, toks := tk } := by
 refine wpAny_pyIter_range (IsRange.new ..) (small_one h1 h2 h3 h4) ?_
 have I1 : Inv X pins σ H { s with heap := s.heap.push { cls := .type "range", data := .fields #[.int lo t, .int hi u, .int 1 v] }, toks := tk } := I.kept fun b o e => Heap.get?_push_of_some _ e
 refine ⟨(s.heap.push { cls := .type "range", data := .fields #[.int lo t, .int hi u, .int 1 v] }).objs.size, [(s.heap.push { cls := .type "range", data := .fields #[.int lo t, .int hi u, .int 1 v] }).objs.size], _, _, H, rfl,
  I1.kept (t' := tk) fun b o e => Heap.get?_push_of_some _ e, qcq_ _ lo (hi - lo).toNat, ?_, fun b hb => ?_, q⟩
 ·have e1 : lo + ((0 : Nat) : Int) * 1 = lo := by simp
  have e2 : (((hi - lo).toNat : Nat) : Int) - ((0 : Nat) : Int) = Builtin.Range.rangeSize lo hi 1 := by rw [rangeSize_one]; split <;> omega
  show IsRangeIter _ _ (lo + ((0 : Nat) : Int) * 1) ((((hi - lo).toNat : Nat) : Int) - ((0 : Nat) : Int)) 1
  rw [e1, e2]
  exact Heap.get?_push_size _ rfl
 ·have e : b = (s.heap.push { cls := .type "range", data := .fields #[.int lo t, .int hi u, .int 1 v] }).objs.size := by simpa using hb
  subst e
  exact I1.fpOk (Nat.le_refl _) (I1.hok.fresh (Nat.le_refl _))
def qjz_ (ta : TA) : TI := fun σ H R => ta σ H fun vs H1 => ∃ j : Int, vs = [.int j] /\ -(2 ^ 62) <= j /\ j < 2 ^ 62 /\ R (Itr 0 j.toNat) H1
def qj0_ (ta : TA) : TI := fun σ H R => ta σ H fun vs H1 => ∃ i j : Int, vs = [.int i, .int j] /\ (-(2 ^ 62) <= i /\ i < 2 ^ 62 /\ -(2 ^ 62) <= j /\ j < 2 ^ 62) /\ R (Itr i (j - i).toNat) H1
theorem jz_ {a : Expr} {ta : TA} {p pos : Pos} (hg : Gl X "range") (hm : X.mg "range" = none) (ha : PA X [a] ta) (hs : starEach [a] X.env = [(false, eval a X.env)] := by rfl) : PI X tg (.Call (.Name "range" p) [a] [] pos) (qjz_ ta) := by
 intro pins s σ H R I h
 refine Call_ (yr_ I hg hm boot_range (PyProof.Rows.callWith_type1 (thn (ha pos pins s σ H _ I h) fun us s1 ⟨vs, H1, I1, r1, q1⟩ => ?_) hs rfl))
 obtain ⟨j, e, q1, q2, q⟩ := q1
 subst e
 cases r1 with
 | cons r rr =>
  cases rr
  obtain ⟨t, rfl⟩ := r
  exact call_range_1 (u7_ I1 (by omega) (by omega) q1 q2 (by simpa using q))
theorem qdo_ {a b : Expr} {ta : TA} {p pos : Pos} (hg : Gl X "range") (hm : X.mg "range" = none) (ha : PA X [a, b] ta) (hs : starEach [a, b] X.env = [(false, eval a X.env), (false, eval b X.env)] := by rfl) (hs2 : starEach [b] X.env = [(false, eval b X.env)] := by rfl) :
  PI X tg (.Call (.Name "range" p) [a, b] [] pos) (qj0_ ta) := by
 intro pins s σ H R I h
 refine Call_ (yr_ I hg hm boot_range (PyProof.Rows.callWith_type1 (thn (ha pos pins s σ H _ I h) fun us s1 ⟨vs, H1, I1, r1, q1⟩ => ?_) (by rw [hs, hs2]) (by rw [hs2]; rfl)))
 obtain ⟨i, j, e, ⟨q1, q2, q3, q4⟩, q⟩ := q1
 subst e
 cases r1 with
 | cons r rr =>
  cases rr with
  | cons r' rr =>
   cases rr
   obtain ⟨t, rfl⟩ := r
   obtain ⟨t', rfl⟩ := r'
   exact call_range_2 (u7_ I1 q1 q2 q3 q4 q)
def tFor (wi : TI) (g : TG) (tb : TS) : TS := fun D σ H => wi σ H fun J H1 => ∃ W : Nat -> Nat -> St -> Hp -> Prop, (∃ m, W 0 m σ H1) /\ ∀ i m σ H, W i m σ H →
 (J.stop i H /\ D.nx σ H) \/ (J.go i H /\ ∃ N : St -> Hp -> Prop, (∀ σ' H', N σ' H' -> ∃ m', m' < m /\ W (i + 1) m' σ' H') /\ ∀ x H', J.yld i H x H' -> g x σ H' fun σ2 H2 => tb { D with nx := N, ct := N, bk := D.nx } σ2 H2)
def zm_ (fp : List Addr) (h : Heap) : List (Addr × Obj) := fp.filterMap fun b => (h.get? b).map fun o => (b, o)
theorem yX_ {fp : List Addr} {h : Heap} {b : Addr} {o : Obj} (hb : b ∈ fp) (e : h.get? b = some o) : (b, o) ∈ zm_ fp h := List.mem_filterMap.mpr ⟨b, hb, by rw [e]; rfl⟩
theorem qdp_ {fp : List Addr} {h : Heap} {p : Addr × Obj} (hp : p ∈ zm_ fp h) : p.1 ∈ fp /\ h.get? p.1 = some p.2 := by
 obtain ⟨b, hb, e⟩ := List.mem_filterMap.mp hp
 cases q : h.get? b with
 | none => rw [q] at e; cases e
 | some o =>
  rw [q] at e
  have e' : (b, o) = p := Option.some.inj e
  subst e'
  exact ⟨hb, q⟩
theorem Inv.pinned {pins : List (Addr × Obj)} {σ : St} {H : Hp} {s : Shared} {fp : List Addr} (I : Inv X pins σ H s) (hf : ∀ b ∈ fp, FpOk X pins H b) (ho : ∀ b ∈ fp, ∃ o, s.heap.get? b = some o /\ ∀ v, o.data ≠ .cell v) : Inv X (pins ++ zm_ fp s.heap) σ H s :=
 I.pins_of fun p hp => (List.mem_append.mp hp).elim (fun z => I.pin p (List.mem_append_right _ z)) fun z => by
  obtain ⟨hb, e⟩ := qdp_ z
  obtain ⟨f0, f1, f2, _⟩ := hf p.1 hb
  obtain ⟨o, e', d⟩ := ho p.1 hb
  rw [e] at e'; cases e'
  exact ⟨e, f0, f1, f2, d⟩
theorem Inv.unpinned {pins pl : List (Addr × Obj)} {σ : St} {H : Hp} {s : Shared} (I : Inv X (pins ++ pl) σ H s) : Inv X pins σ H s := I.pins_of fun p hp => I.pin p (List.mem_append_right _ (List.mem_append_left _ hp))
theorem qY_ {iter : Expr} {body : List Stmt} {wi : TI} {g : TG} {tb : TS} {pos : Pos} (hp : PassesOwn (model X.prog X.w) X.A X.env X.xe) (hc : X.calm = true) (hi : PI X tg iter wi) (hg : PG X tg g) (hb : PSs X body tb)
  (hs : ∀ x, foldedSetIterable iter X.env x = pure x := by intro _; rfl) : PS X (.For tg iter body [] pos) (tFor wi g tb) := by
 intro pins s σ H D I h
 refine wpAny_For (thn (hi pins s σ H _ I h) fun v s1 h1 => thn h1 fun itv s2 h2 => ?_) hs
 obtain ⟨it, fp, tn, J, H2, e, I2, T, st2, f2, W, ⟨m0, w0⟩, turn⟩ := h2
 subst e
 have stat : ∀ {H' : Hp}, (∀ b ∈ fp, H' b = none) -> ∀ b ∈ fp, FpOk X pins H' b := fun hn b hb => ⟨hn b hb, (f2 b hb).2⟩
 refine codeAny_forLoop_any (fun n s' => ∃ i σ' H', Inv X pins σ' H' s' /\ tn i s'.heap /\ (∀ b ∈ fp, H' b = none) /\ W i n σ' H') ?_ m0 ⟨0, σ, H2, I2, st2, fun b hb => (f2 b hb).1, w0⟩
 rintro n s3 ⟨i, σ3, H3, I3, st3, fr3, w3⟩
 rcases turn i n σ3 H3 w3 with ⟨stop, qn⟩ | ⟨go, N, hN, step⟩
 ·refine wpAny_passesOwn hp (thn (T.done X rfl rfl rfl hc i pins s3 σ3 H3 X.xe I3 (stat fr3) st3 stop) fun r s4 ⟨hr, I4⟩ => ?_)
  subst hr
  exact wpAny_execs_nil ⟨σ3, H3, I4, qn⟩
 ·refine wpAny_passesOwn hp (thn (T.item X rfl rfl rfl hc i pins s3 σ3 H3 X.xe I3 (stat fr3) st3 go) fun r s4 ⟨u, hr, h4⟩ => ?_)
  subst hr
  refine wpAny_passesOwn hp (thn h4 fun _ s5 ⟨x, H5, I5, r5, y5, st5, fr5⟩ => ?_)
  have I5' := I5.pinned (stat fr5) (T.obj _ _ st5)
  refine wpAny_passesOwn hp (thn (hg _ s5 σ3 H5 x u _ I5' r5 (step x H5 y5)) fun _ s6 ⟨σ6, H6, I6, q6⟩ => ?_)
  refine wpAny_passesOwn hp (thn (hb _ s6 σ6 H6 _ I6 q6) fun f s7 q7 => ?_)
  have again : ∀ {σ7 : St} {H7 : Hp}, Inv X (pins ++ zm_ fp s5.heap) σ7 H7 s7 -> N σ7 H7 -> ∃ m, m < n /\ ∃ i σ' H', Inv X pins σ' H' s7 /\ tn i s7.heap /\ (∀ b ∈ fp, H' b = none) /\ W i m σ' H' := fun {σ7 H7} I7 n7 => by
   obtain ⟨m', hm, w7⟩ := hN σ7 H7 n7
   refine ⟨m', hm, i + 1, σ7, H7, I7.unpinned, T.keep _ _ _ st5 fun b hb o e => (I7.pin (b, o) (List.mem_append_right _ (List.mem_append_right _ (yX_ hb e)))).1, fun b hb => ?_, w7⟩
   obtain ⟨o, e, d⟩ := T.obj _ _ st5 b hb
   exact (I7.pin (b, o) (List.mem_append_right _ (List.mem_append_right _ (yX_ hb e)))).2.1
  cases f with
  | next => obtain ⟨σ7, H7, I7, n7⟩ := q7; exact again I7 n7
  | cont => obtain ⟨σ7, H7, I7, n7⟩ := q7; exact again I7 n7
  | brk => obtain ⟨σ7, H7, I7, q7⟩ := q7; exact ⟨σ7, H7, I7.unpinned, q7⟩
  | ret v => obtain ⟨x7, σ7, H7, I7, r7, q7⟩ := q7; exact ⟨x7, σ7, H7, I7.unpinned, r7, q7⟩
end
theorem j4_ {K : PySem.W.Frag} {a : Addr} {xs : List V} {g : TG} {tb : TS} {D : Ends} {σ : St} {H : Hp} (Pv : Nat -> St -> Hp -> Prop) (h0 : Pv 0 σ H) (hl : ∀ i σ H, i <= xs.length -> Pv i σ H -> SqL K H a xs)
  (hs : ∀ i x σ H, xs[i]? = some x -> Pv i σ H -> g x σ H fun σ2 H2 => tb { D with nx := Pv (i + 1), ct := Pv (i + 1), bk := D.nx } σ2 H2) (hd : ∀ σ H, Pv xs.length σ H -> D.nx σ H) :
  ∃ W : Nat -> Nat -> St -> Hp -> Prop, (∃ m, W 0 m σ H) /\ ∀ i m σ H, W i m σ H →
   ((Itl K a).stop i H /\ D.nx σ H) \/ ((Itl K a).go i H /\ ∃ N : St -> Hp -> Prop, (∀ σ' H', N σ' H' -> ∃ m', m' < m /\ W (i + 1) m' σ' H') /\ ∀ x H', (Itl K a).yld i H x H' -> g x σ H' fun σ2 H2 => tb { D with nx := N, ct := N, bk := D.nx } σ2 H2) := by
 refine ⟨fun i m σ H => m = xs.length - i /\ i <= xs.length /\ Pv i σ H, ⟨xs.length, by simp, Nat.zero_le _, h0⟩, ?_⟩
 rintro i m σ H ⟨rfl, hi, p⟩
 have q := hl i σ H hi p
 by_cases hlt : i < xs.length
 ·refine .inr ⟨⟨xs, xs[i], q, by simp [hlt]⟩, Pv (i + 1), fun σ' H' p' => ⟨xs.length - (i + 1), by omega, rfl, hlt, p'⟩, fun x H' y => ?_⟩
  obtain ⟨e, y⟩ := y
  subst e
  exact hs i x σ _ (y xs q) p
 ·have e : i = xs.length := by omega
  subst e
  exact .inl ⟨⟨xs, q, Nat.le_refl _⟩, hd σ H p⟩
theorem jS_ {lo : Int} {n : Nat} {g : TG} {tb : TS} {D : Ends} {σ : St} {H : Hp} (Pv : Nat -> St -> Hp -> Prop) (h0 : Pv 0 σ H)
  (hs : ∀ i σ H, i < n -> Pv i σ H -> g (.int (lo + i)) σ H fun σ2 H2 => tb { D with nx := Pv (i + 1), ct := Pv (i + 1), bk := D.nx } σ2 H2) (hd : ∀ σ H, Pv n σ H -> D.nx σ H) :
  ∃ W : Nat -> Nat -> St -> Hp -> Prop, (∃ m, W 0 m σ H) /\ ∀ i m σ H, W i m σ H →
   ((Itr lo n).stop i H /\ D.nx σ H) \/ ((Itr lo n).go i H /\ ∃ N : St -> Hp -> Prop, (∀ σ' H', N σ' H' -> ∃ m', m' < m /\ W (i + 1) m' σ' H') /\ ∀ x H', (Itr lo n).yld i H x H' -> g x σ H' fun σ2 H2 => tb { D with nx := N, ct := N, bk := D.nx } σ2 H2) := by
 refine ⟨fun i m σ H => m = n - i /\ i <= n /\ Pv i σ H, ⟨n, by simp, Nat.zero_le _, h0⟩, ?_⟩
 rintro i m σ H ⟨rfl, hi, p⟩
 by_cases hlt : i < n
 ·refine .inr ⟨hlt, Pv (i + 1), fun σ' H' p' => ⟨n - (i + 1), by omega, rfl, hlt, p'⟩, fun x H' y => ?_⟩
  obtain ⟨e, y⟩ := y
  subst e y
  exact hs i σ _ hlt p
 ·have e : i = n := by omega
  subst e
  exact .inl ⟨Nat.le_refl _, hd σ H p⟩
end L2
namespace L2
open PySem PySem.Spec PyProof.Rows
abbrev R2 := V -> V -> Hp -> VK -> Prop
def OpR (X : Cx) (f : Value -> Value -> Sem Value) (r : R2) : Prop :=
 ∀ (pins : List (Addr × Obj)) (s : Shared) (σ : St) (H : Hp) (x y : V) (v u : Value) (Q : VK), Inv X pins σ H s -> RelV x v -> RelV y u -> r x y H Q →
  wpAny (model X.prog X.w) X.A (f v u) (EP X pins σ Q) X.xe s
def UnR (X : Cx) (f : Value -> Sem Value) (r : V -> Hp -> VK -> Prop) : Prop :=
 ∀ (pins : List (Addr × Obj)) (s : Shared) (σ : St) (H : Hp) (x : V) (v : Value) (Q : VK), Inv X pins σ H s -> RelV x v -> r x H Q →
  wpAny (model X.prog X.w) X.A (f v) (EP X pins σ Q) X.xe s
def yM_ (X : Cx) (f : Value) (r : List V -> Hp -> VK -> Prop) : Prop :=
 ∀ (pins : List (Addr × Obj)) (s : Shared) (σ : St) (H : Hp) (xs : List V) (us : List Value) (Q : VK), Inv X pins σ H s -> Vals xs us -> r xs H Q →
  wpAny (model X.prog X.w) X.A (call f us) (EP X pins σ Q) X.xe s
def TruR (X : Cx) (r : V -> Hp -> (Bool -> Hp -> Prop) -> Prop) : Prop :=
 ∀ (pins : List (Addr × Obj)) (s : Shared) (σ : St) (H : Hp) (x : V) (v : Value) (Q : Bool -> Hp -> Prop), Inv X pins σ H s -> RelV x v -> r x H Q →
  wpAny (model X.prog X.w) X.A (truthy v) (TP X pins σ Q) X.xe s
def tOp (r : R2) (ta tb : TE) : TE := fun σ H Q => ta σ H fun x H1 => tb σ H1 fun y H2 => r x y H2 Q
def tUn (r : V -> Hp -> VK -> Prop) (ta : TE) : TE := fun σ H Q => ta σ H fun x H1 => r x H1 Q
def rI (C : Int -> Int -> Prop) (g : Int -> Int -> V) : R2 := fun x y H Q => ∃ i j, x = .int i /\ y = .int j /\ C i j /\ Q (g i j) H
def rI0 (g : Int -> Int -> V) : R2 := fun x y H Q => ∃ i j, x = .int i /\ y = .int j /\ Q (g i j) H
def rU (g : Int -> V) : V -> Hp -> VK -> Prop := fun x H Q => ∃ i, x = .int i /\ Q (g i) H
section
variable {X : Cx} {a b c : Expr} {ta tb tc : TE} {pos : Pos}
theorem binT (ha : PE X a ta) (hb : PE X b tb) {pins : List (Addr × Obj)} {s : Shared} {σ : St} {H : Hp} {R : V -> V -> Hp -> Prop} (I : Inv X pins σ H s)
  (h : ta σ H fun x H1 => tb σ H1 fun y H2 => R x y H2) {Q : Value -> Shared -> Prop} {f : Value -> Value -> Sem Value}
  (hf : ∀ v u s2 x y H2, Inv X pins σ H2 s2 -> RelV x v -> RelV y u -> R x y H2 -> wpAny (model X.prog X.w) X.A (f v u) Q X.xe s2) :
  wpAny (model X.prog X.w) X.A (eval a X.env) (fun v s₁ => wpAny (model X.prog X.w) X.A (eval b X.env) (fun u s₂ => wpAny (model X.prog X.w) X.A (f v u) Q X.xe s₂) X.xe s₁) X.xe s := by
 refine thn (ha pins s σ H _ I h) fun v s1 ⟨x, H1, I1, r1, q1⟩ => ?_
 refine thn (hb pins s1 σ H1 _ I1 q1) fun u s2 ⟨y, H2, I2, r2, q2⟩ => ?_
 exact hf v u s2 x y H2 I2 r1 r2 q2
theorem qn_ {op : Operator} {r : R2} (ho : OpR X (binaryOp op) r) (ha : PE X a ta) (hb : PE X b tb) : PE X (.BinOp a op b pos) (tOp r ta tb) := by
 intro pins s σ H Q I h
 exact wpAny_BinOp (binT ha hb I h fun v u s2 x y H2 I2 rx ry q => ho pins s2 σ H2 x y v u Q I2 rx ry q)
theorem opI {f : Value -> Value -> Sem Value} {C : Int -> Int -> Prop} {g : Int -> Int -> Int}
  (rule : ∀ (i j : Int) (t u : Tok) (s : Shared) (Q : Value -> Shared -> Prop) (E : Value -> Shared -> Prop), C i j -> Q (.int (g i j) s.toks) { s with toks := s.toks + 1 } -> wpAny (model X.prog X.w) X.A (f (.int i t) (.int j u)) Q E s) :
  OpR X f (rI C fun i j => .int (g i j)) := by
 intro pins s σ H x y v u Q I rx ry h
 obtain ⟨i, j, rfl, rfl, hc, q⟩ := h
 obtain ⟨t, rfl⟩ := rx
 obtain ⟨t', rfl⟩ := ry
 exact rule i j t t' s _ _ hc ⟨.int (g i j), H, I.tok _, ⟨_, rfl⟩, q⟩
theorem opI0 {f : Value -> Value -> Sem Value} {g : Int -> Int -> Int}
  (rule : ∀ (i j : Int) (t u : Tok) (s : Shared) (Q : Value -> Shared -> Prop) (E : Value -> Shared -> Prop), Q (.int (g i j) s.toks) { s with toks := s.toks + 1 } -> wpAny (model X.prog X.w) X.A (f (.int i t) (.int j u)) Q E s) :
  OpR X f (rI0 fun i j => .int (g i j)) := by
 intro pins s σ H x y v u Q I rx ry h
 obtain ⟨i, j, rfl, rfl, q⟩ := h
 obtain ⟨t, rfl⟩ := rx
 obtain ⟨t', rfl⟩ := ry
 exact rule i j t t' s _ _ ⟨.int (g i j), H, I.tok _, ⟨_, rfl⟩, q⟩
theorem opB0 {f : Value -> Value -> Sem Value} {g : Int -> Int -> Bool}
  (rule : ∀ (i j : Int) (t u : Tok) (s : Shared) (Q : Value -> Shared -> Prop) (E : Value -> Shared -> Prop), Q (.bool (g i j)) s -> wpAny (model X.prog X.w) X.A (f (.int i t) (.int j u)) Q E s) :
  OpR X f (rI0 fun i j => .bl (g i j)) := by
 intro pins s σ H x y v u Q I rx ry h
 obtain ⟨i, j, rfl, rfl, q⟩ := h
 obtain ⟨t, rfl⟩ := rx
 obtain ⟨t', rfl⟩ := ry
 exact rule i j t t' s _ _ ⟨.bl (g i j), H, I, rfl, q⟩
def CDiv (i j : Int) : Prop := 0 < j /\ j < 1073741824
def qlc_ (i j : Int) : Prop := j ≠ 0 /\ j.natAbs < 1073741824
def CPow (i j : Int) : Prop := 0 <= j /\ j <= 1000000 /\ i.natAbs < 2 ^ 64
def CMul (i j : Int) : Prop := (-(2 ^ 64) < i /\ i < 2 ^ 64) \/ (-(2 ^ 64) < j /\ j < 2 ^ 64)
theorem CMul.ok {i j : Int} (h : CMul i j) : IntMulOk i j := by
 rcases h with ⟨h1, h2⟩ | ⟨h1, h2⟩
 ·exact .of_left (intBits_le_64 h1 h2)
 ·exact .of_right (intBits_le_64 h1 h2)
theorem qP_ : OpR X (binaryOp .Add) (rI0 fun i j => .int (i + j)) := opI0 fun _ _ _ _ _ _ _ q => add_int q
theorem y8_ : OpR X (binaryOp .Sub) (rI0 fun i j => .int (i - j)) := opI0 fun _ _ _ _ _ _ _ q => sub_int q
theorem yk_ : OpR X (binaryOp .Mult) (rI CMul fun i j => .int (i * j)) := opI fun _ _ _ _ _ _ _ hc q => mul_int q hc.ok
theorem jY_ : OpR X (binaryOp .FloorDiv) (rI CDiv fun i j => .int (i / j)) := opI fun i j _ _ _ _ _ hc q => by
 have h1 : (0 : Int) < j := hc.1
 have h2 : j < 1073741824 := hc.2
 exact floordiv_int (by omega) (by rw [Int.fdiv_eq_ediv_of_nonneg i (by omega)]; exact q) (.inl (PyProof.noPylong_small (by omega)))
theorem q6_ : OpR X (binaryOp .Mod) (rI (fun _ j => 0 < j) fun i j => .int (i % j)) := opI fun i j _ _ _ _ _ hc q => by
 have h1 : (0 : Int) < j := hc
 exact mod_int' (by omega) (by rw [Int.fmod_eq_emod_of_nonneg i (by omega)]; exact q)
theorem qi0_ : OpR X (binaryOp .Pow) (rI CPow fun i j => .int (i ^ j.toNat)) := opI fun _ _ _ _ _ _ _ hc q => pow_int_small hc.1 hc.2.1 hc.2.2 q
theorem u8_ : OpR X (binaryOp .LShift) (rI CPow fun i j => .int (i * 2 ^ j.toNat)) := opI fun _ _ _ _ _ _ _ hc q => lshift_int_small hc.1 hc.2.1 hc.2.2 q
theorem y9_ : OpR X (binaryOp .BitXor) (rI0 fun i j => .int (Builtin.bitXor i j)) := opI0 fun _ _ _ _ _ _ _ q => xor_int q
end
def scal : V -> V -> Bool
 | .non, .non => true | .non, .int _ => true | .int _, .non => true | .non, .bl _ => true | .bl _, .non => true | .non, .str _ => true | .str _, .non => true
 | .int _, .int _ => true | .bl _, .bl _ => true | .str _, .str _ => true | .byt _, .byt _ => true
 | .int _, .str _ => true | .str _, .int _ => true | .bl _, .str _ => true | .str _, .bl _ => true
 | _, _ => false
def rEq : R2 := fun x y H Q => scal x y = true /\ Q (.bl (decide (x = y))) H
def rNe : R2 := fun x y H Q => scal x y = true /\ Q (.bl (!decide (x = y))) H
theorem qb1_ {i j : Int} : decide (V.int i = V.int j) = (i == j) := by
 rw [Bool.eq_iff_iff]
 simp
theorem qdq_ {i j : Bool} : decide (V.bl i = V.bl j) = (i == j) := by
 rw [Bool.eq_iff_iff]
 simp
theorem qb2_ {i j : Str} : decide (V.str i = V.str j) = (i == j) := by
 rw [Bool.eq_iff_iff]
 simp
theorem qb3_ {i j : Array UInt8} : decide (V.byt i = V.byt j) = (i.toList == j.toList) := by
 rw [Bool.eq_iff_iff]
 cases i
 cases j
 simp
section
variable {X : Cx} {a b c : Expr} {ta tb tc : TE} {pos : Pos}
theorem qF_ {pins : List (Addr × Obj)} {σ : St} {H : Hp} {s : Shared} {Q : VK} {k k' : Bool} (I : Inv X pins σ H s) (q : Q (.bl k) H) (e : k = k') : EP X pins σ Q (.bool k') s := by
 subst e
 exact ⟨.bl k, H, I, rfl, q⟩
theorem j1_ : OpR X (compareOp .Eq) rEq := by
 intro pins s σ H x y v u Q I rx ry h
 obtain ⟨hs, q⟩ := h
 cases x with
 | non =>
  cases rx
  cases y with
  | non => cases ry; exact PySem.EqNone.eq_none_none (qF_ I q (by simp))
  | bl j => cases ry; exact PySem.EqNone.eq_none_bool (qF_ I q (by simp))
  | int j => obtain ⟨t', rfl⟩ := ry; exact PySem.EqNone.eq_none_int (qF_ I q (by simp))
  | str j => obtain ⟨t', rfl⟩ := ry; exact PySem.EqNone.eq_none_str (qF_ I q (by simp))
  | _ => exact absurd (show false = true from hs) Bool.false_ne_true
 | bl i =>
  cases rx
  cases y with
  | non => cases ry; exact PySem.EqNone.eq_bool_none (qF_ I q (by simp))
  | bl j => cases ry; exact eq_bool (qF_ I q qdq_)
  | str j => obtain ⟨t', rfl⟩ := ry; exact PySem.EqMixed.eq_bool_str (qF_ I q (by simp))
  | _ => exact absurd (show false = true from hs) Bool.false_ne_true
 | int i =>
  obtain ⟨t, rfl⟩ := rx
  cases y with
  | non => cases ry; exact PySem.EqNone.eq_int_none (qF_ I q (by simp))
  | int j => obtain ⟨t', rfl⟩ := ry; exact eq_int (qF_ I q qb1_)
  | str j => obtain ⟨t', rfl⟩ := ry; exact PySem.EqMixed.eq_int_str (qF_ I q (by simp))
  | _ => exact absurd (show false = true from hs) Bool.false_ne_true
 | str i =>
  obtain ⟨t, rfl⟩ := rx
  cases y with
  | non => cases ry; exact PySem.EqNone.eq_str_none (qF_ I q (by simp))
  | bl j => cases ry; exact PySem.EqMixed.eq_str_bool (qF_ I q (by simp))
  | int j => obtain ⟨t', rfl⟩ := ry; exact PySem.EqMixed.eq_str_int (qF_ I q (by simp))
  | str j => obtain ⟨t', rfl⟩ := ry; exact eq_str (qF_ I q qb2_)
  | _ => exact absurd (show false = true from hs) Bool.false_ne_true
 | byt i =>
  obtain ⟨t, rfl⟩ := rx
  cases y with
  | byt j => obtain ⟨t', rfl⟩ := ry; exact PySem.W.eq_bytes (qF_ I q qb3_)
  | _ => exact absurd (show false = true from hs) Bool.false_ne_true
 | _ => cases y <;> exact absurd (show false = true from hs) Bool.false_ne_true
theorem zY_ : OpR X (compareOp .NotEq) rNe := by
 intro pins s σ H x y v u Q I rx ry h
 obtain ⟨hs, q⟩ := h
 cases x with
 | non =>
  cases rx
  cases y with
  | non => cases ry; exact PySem.EqNone.ne_none_none (qF_ I q (by simp))
  | bl j => cases ry; exact PySem.EqNone.ne_none_bool (qF_ I q (by simp))
  | int j => obtain ⟨t', rfl⟩ := ry; exact PySem.EqNone.ne_none_int (qF_ I q (by simp))
  | str j => obtain ⟨t', rfl⟩ := ry; exact PySem.EqNone.ne_none_str (qF_ I q (by simp))
  | _ => exact absurd (show false = true from hs) Bool.false_ne_true
 | bl i =>
  cases rx
  cases y with
  | non => cases ry; exact PySem.EqNone.ne_bool_none (qF_ I q (by simp))
  | bl j => cases ry; exact ne_bool (qF_ I q (congrArg not qdq_))
  | str j => obtain ⟨t', rfl⟩ := ry; exact PySem.EqMixed.ne_bool_str (qF_ I q (by simp))
  | _ => exact absurd (show false = true from hs) Bool.false_ne_true
 | int i =>
  obtain ⟨t, rfl⟩ := rx
  cases y with
  | non => cases ry; exact PySem.EqNone.ne_int_none (qF_ I q (by simp))
  | int j => obtain ⟨t', rfl⟩ := ry; exact ne_int (qF_ I q (congrArg not qb1_))
  | str j => obtain ⟨t', rfl⟩ := ry; exact PySem.EqMixed.ne_int_str (qF_ I q (by simp))
  | _ => exact absurd (show false = true from hs) Bool.false_ne_true
 | str i =>
  obtain ⟨t, rfl⟩ := rx
  cases y with
  | non => cases ry; exact PySem.EqNone.ne_str_none (qF_ I q (by simp))
  | bl j => cases ry; exact PySem.EqMixed.ne_str_bool (qF_ I q (by simp))
  | int j => obtain ⟨t', rfl⟩ := ry; exact PySem.EqMixed.ne_str_int (qF_ I q (by simp))
  | str j => obtain ⟨t', rfl⟩ := ry; exact ne_str (qF_ I q (congrArg not qb2_))
  | _ => exact absurd (show false = true from hs) Bool.false_ne_true
 | byt i =>
  obtain ⟨t, rfl⟩ := rx
  cases y with
  | byt j => obtain ⟨t', rfl⟩ := ry; exact PySem.W.ne_bytes (qF_ I q (congrArg not qb3_))
  | _ => exact absurd (show false = true from hs) Bool.false_ne_true
 | _ => cases y <;> exact absurd (show false = true from hs) Bool.false_ne_true
theorem yN_ : OpR X (compareOp .Lt) (rI0 fun i j => .bl (decide (i < j))) := opB0 fun _ _ _ _ _ _ _ q => lt_int q
theorem qj1_ : OpR X (compareOp .LtE) (rI0 fun i j => .bl (decide (i <= j))) := opB0 fun _ _ _ _ _ _ _ q => le_int q
theorem ym_ : OpR X (compareOp .Gt) (rI0 fun i j => .bl (decide (j < i))) := opB0 fun _ _ _ _ _ _ _ q => gt_int q
theorem qgz_ : OpR X (compareOp .GtE) (rI0 fun i j => .bl (decide (j <= i))) := opB0 fun _ _ _ _ _ _ _ q => ge_int q
theorem vA_ : OpR X (compareOp .Is) (fun x y H Q => y = .non /\ Q (.bl (decide (x = .non))) H) := by
 intro pins s σ H x y v u Q I rx ry h
 obtain ⟨rfl, q⟩ := h
 cases ry
 refine is_none_gen (qF_ I q ?_)
 cases x <;> first
  | (cases rx; rfl)
  | (obtain ⟨t, rfl⟩ := rx; rfl)
theorem yq_ : OpR X (compareOp .IsNot) (fun x y H Q => y = .non /\ Q (.bl (!decide (x = .non))) H) := by
 intro pins s σ H x y v u Q I rx ry h
 obtain ⟨rfl, q⟩ := h
 cases ry
 refine isnot_none_gen (qF_ I q ?_)
 cases x <;> first
  | (cases rx; rfl)
  | (obtain ⟨t, rfl⟩ := rx; rfl)
def qld_ : HO -> Bool
 | .lst _ => true
 | .ins _ _ _ => true
 | _ => false
theorem qr_ (b : Expr) {op : CmpOp} (h : op ≠ .In := by decide) (h2 : op ≠ .NotIn := by decide) : behindInMarks op b = false := by
 have e1 : (op == CmpOp.In) = false := by cases op <;> first | rfl | exact absurd rfl h
 have e2 : (op == CmpOp.NotIn) = false := by cases op <;> first | rfl | exact absurd rfl h2
 cases b <;> simp [behindInMarks, e1, e2]
theorem y3_ {op : CmpOp} {r : R2} (ho : OpR X (compareOp op) r) (ha : PE X a ta) (hb : PE X b tb) (hm : behindInMarks op b = false) : PE X (.Compare a [op] [b] pos) (tOp r ta tb) := by
 intro pins s σ H Q I h
 exact wpAny_Compare1 (binT ha hb I h fun v u s2 x y H2 I2 rx ry q => ho pins s2 σ H2 x y v u Q I2 rx ry q) hm
def qj2_ (t : TE) : TT := fun σ H Q => t σ H fun x H' => ∃ k, x = .bl k /\ Q k H'
theorem qp_ {op : CmpOp} {r : R2} (ho : OpR X (compareOp op) r) (ha : PE X a ta) (hb : PE X b tb) (hm : behindInMarks op b = false) : PT X (.Compare a [op] [b] pos) (qj2_ (tOp r ta tb)) := by
 intro pins s σ H Q I h
 refine wpAny_isTrue_Compare1 (thn (ha pins s σ H _ I h) fun v s1 ⟨x, H1, I1, r1, q1⟩ => thn (hb pins s1 σ H1 _ I1 q1) fun u s2 ⟨y, H2, I2, r2, q2⟩ =>
  thn (ho pins s2 σ H2 x y v u _ I2 r1 r2 q2) fun c s3 ⟨z, H3, I3, r3, k, e, q3⟩ => ?_) hm
 subst e
 cases r3
 exact wpAny_truthy_bool ⟨H3, I3, q3⟩
def qkr_ (r r' : R2) (ta tb tc : TE) : TE := fun σ H Q => ta σ H fun x H1 => tb σ H1 fun y H2 => r x y H2 fun z H3 => ∃ k, z = .bl k ∧
 (if k = true then tc σ H3 fun w' H4 => r' y w' H4 Q else Q (.bl false) H3)
def TruV (K : PySem.W.Frag) (x : V) (H : Hp) (k : Bool) : Prop :=
 match x with
 | .non => k = false
 | .bl b => k = b
 | .int i => k = (i != 0)
 | .str y => y.length <= sizeLine /\ k = ((y.length : Int) != 0)
 | .byt y => y.size <= sizeLine /\ k = ((y.size : Int) != 0)
 | .ref p => (∃ xs, SqL K H p xs /\ k = !xs.isEmpty) \/ (∃ xs, SqT K H p xs /\ k = !xs.isEmpty) \/ ∃ kvs, H p = some (.dK kvs) /\ k = !kvs.isEmpty
 | _ => False
theorem vB_ : (sizeLine : Nat) < 2 ^ 63 := by rw [sizeLine_eq]; decide
def qkk_ (b : Expr) : Prop := ∀ o i, subscripted b false o i = operate [o, i] (getItem o i)
theorem yY_ {x : V} {us : List Value} (r : Vals [x] us) : ∃ u, us = [u] /\ RelV x u := by
 cases r with
 | cons r1 r2 => cases r2; exact ⟨_, rfl, r1⟩
theorem zZ_ {x y : V} {us : List Value} (r : Vals [x, y] us) : ∃ u w', us = [u, w'] /\ RelV x u /\ RelV y w' := by
 cases r with
 | cons r1 r2 =>
  cases r2 with
  | cons r3 r4 => cases r4; exact ⟨_, _, rfl, r1, r3⟩
theorem qdr_ (hc : X.calm = true) : yM_ X (.builtin "max") (fun xs H Q => ∃ i j, xs = [.int i, .int j] ∧ Q (.int (if j > i then j else i)) H) := by
 intro pins s σ H xs us Q I r h
 obtain ⟨i, j, rfl, q⟩ := h
 obtain ⟨u, w', rfl, ⟨t, rfl⟩, ⟨t', rfl⟩⟩ := zZ_ r
 refine max_two_ints (I.ok.hd hc) fun h' tk k => ⟨_, H, I.kept k, ?_, q⟩
 by_cases hj : j > i
 ·rw [if_pos hj, if_pos hj]; exact ⟨_, rfl⟩
 ·rw [if_neg hj, if_neg hj]; exact ⟨_, rfl⟩
theorem qds_ (hc : X.calm = true) : yM_ X (.builtin "min") (fun xs H Q => ∃ i j, xs = [.int i, .int j] ∧ Q (.int (if j < i then j else i)) H) := by
 intro pins s σ H xs us Q I r h
 obtain ⟨i, j, rfl, q⟩ := h
 obtain ⟨u, w', rfl, ⟨t, rfl⟩, ⟨t', rfl⟩⟩ := zZ_ r
 refine min_two_ints (I.ok.hd hc) fun h' tk k => ⟨_, H, I.kept k, ?_, q⟩
 by_cases hj : j < i
 ·rw [if_pos hj, if_pos hj]; exact ⟨_, rfl⟩
 ·rw [if_neg hj, if_neg hj]; exact ⟨_, rfl⟩
def LenV (K : PySem.W.Frag) (x : V) (H : Hp) (n : Nat) : Prop :=
 match x with
 | .str y => y.length <= sizeLine /\ n = y.length
 | .byt y => y.size <= sizeLine /\ n = y.size
 | .ref p => (∃ xs, SqL K H p xs /\ n = xs.length) \/ ∃ xs, SqT K H p xs /\ n = xs.length
 | _ => False
end
end L2
namespace L2
open PySem PySem.Spec PyProof.Rows
structure ObjM (h : Heap) (x dx C : Addr) (mA : Str -> Option Value) : Prop where
 obj : h.get? x = some (PySem.W.instObj C dx)
 ns : h.Ns1 dx mA
 ne : dx ≠ x
theorem qdt_ {h : Heap} {dx : Addr} {mA : Str -> Option Value} (n : h.Ns1 dx mA) : ∃ od, h.get? dx = some od /\ ∀ name, PySem.W.lookIn name od = some (mA name) := by
 obtain ⟨o, es, ep, ho, hd, hk, _, hm⟩ := n
 refine ⟨o, ho, fun name => ?_⟩
 have e := hm name
 unfold nsFind findBy at e
 rw [<- Array.find?_toList] at e
 unfold PySem.W.lookIn
 rw [hd]
 dsimp only
 split
 ·rename_i y q
  rw [q] at e
  exact congrArg some e
 ·rename_i q
  rw [q] at e
  have a : es.toList.any (·.refKey) = false := by
   rw [List.any_eq_false]
   intro y hy
   obtain ⟨z, t, hkey⟩ := hk y (Array.mem_toList_iff.mp hy)
   simp [DictEntry.refKey, hkey]
  have a' : ¬ es.toList.any (·.refKey) = true := by rw [a]; exact Bool.false_ne_true
  rw [if_neg a']
  exact congrArg some e
theorem ObjM.look {h : Heap} {x dx C : Addr} {mA : Str -> Option Value} (I : ObjM h x dx C mA) : ∃ od, PySem.W.InstAt h x (PySem.W.instObj C dx) C (some od) /\ ∀ name, PySem.W.lookIn name od = some (mA name) :=
 let ⟨od, ho, hl⟩ := qdt_ I.ns
 ⟨od, ⟨I.obj, rfl, rfl, ho⟩, hl⟩
section
variable {prog : Program} {w : World} {A : Around} {E : Value -> Shared -> Prop} {s : Shared} {K : PySem.W.Frag} {x dx C f : Addr} {mA : Str -> Option Value} {name : Str} {v : Value}
theorem qg6_ {expr : Bool} {Q : Value -> Shared -> Prop} (X : K.In s.heap) (I : ObjM s.heap x dx C mA) (hg : PySem.W.plainGet K C name = true) (hh : PySem.W.hasDictIn K C = true)
  (ha : PySem.W.findIn K (.ref C) name = some none) (hv : mA name = some v) (hv' : PySem.W.handedIn v = true) (h : Q v { s with toks := s.toks + 1 }) :
  wpAny (model prog w) A (getAttr (.ref x) name expr) Q E s := by
 obtain ⟨od, J, hl⟩ := I.look
 exact PySem.W.get_value X J (PySem.W.plainGet_of hg).1 (PySem.W.findObj_own hh ha rfl (by rw [hl, hv])) hv' h
theorem qfh_ {pl : Sem Bool} {Q : Value × List Value -> Shared -> Prop} (X : K.In s.heap) (I : ObjM s.heap x dx C mA) (hg : PySem.W.plainGet K C name = true)
  (hf : PySem.W.findIn K (.ref C) name = some (some (.ref f))) (ht : PySem.W.isFn K (.ref f) = true) (hv : mA name = none) (h : Q (.ref f, [.ref x]) s) :
  wpAny (model prog w) A (getMethod (.ref x) name pl) Q E s := by
 obtain ⟨od, J, hl⟩ := I.look
 exact PySem.W.method_fn X J (PySem.W.plainGet_of hg).1 (PySem.W.plainGet_of hg).2 hf (beq_iff_eq.mp ht) (by show (PySem.W.lookIn name od).map (·.isSome) = some false; rw [hl, hv]; rfl) h
theorem qg7_ {ns : List Str} {Q : Unit -> Shared -> Prop} (X : K.In s.heap) (I : ObjM s.heap x dx C mA)
  (hs : PySem.W.findIn K (.ref C) "__setattr__" = some (some (.builtin "object.__setattr__"))) (hp : PySem.W.plainOver K C = true) (ht : PySem.W.takerIn K C name = some none) (hh : PySem.W.hasDictIn K C = true)
  (hw : PySem.Within mA ns) (hsz : ns.length <= sizeLine)
  (h : ∀ h', ObjM h' x dx C (fun y => if y = name then some v else mA y) -> Heap.SameBut dx s.heap h' -> Q () { s with heap := h', toks := s.toks + 2 }) :
  wpAny (model prog w) A (setAttr (.ref x) name v) Q E s := by
 obtain ⟨od, J, hl⟩ := I.look
 refine PySem.W.set_plain X J hs (PySem.W.osa_open (s := { s with toks := s.toks + 1 }) (r := none) X J hp ht fun b => ?_)
 obtain ⟨cd, hc, hd'⟩ := PySem.W.any_some hh
 have hx : s.heap.get? x = some ⟨.ref C, some dx, .plain, #[]⟩ := I.obj
 refine wpAny_bind (wpAny_pure (wpAny_bind (wpAny_bind (wpAny_loadPart hx (wpAny_bind (PySem.W.Looks.here (s := { s with toks := s.toks + 1 }) (PySem.W.looks_clsIn X hc) ?_))))))
 rw [hd']
 refine wpAny_pure (a := some dx) (wpAny_bind (wpAny_pure (wpAny_bind ?_)))
 refine wpAny_nsSet1 (s := { s with toks := s.toks + 1 }) I.ns fun h' hn2 hs2 => ?_
 obtain ⟨oD, esD, epD, hoD, hdD, hcD⟩ := hn2.count (PySem.Within.cons name v hw)
 refine wpAny_bind (wpAny_lookBehind hoD (by rw [hdD]; exact pastItsLine_dict (Nat.le_trans hcD (by rw [List.length_cons]; omega))) ?_)
 exact wpAny_pure (h _ ⟨(hs2.2 _ (Ne.symm I.ne)).trans I.obj, hn2, I.ne⟩ hs2)
theorem qfi_ {R : Result -> Shared -> Prop} {vs : List Value} {kw : List (Str × Value)} (X : K.In s.heap) (hm : PySem.W.makesIn K C = true)
  (hi : PySem.W.findIn K (.ref C) "__init__" = some (some (.ref f))) (hf : PySem.W.typeIn K (.ref f) = some (.type "function"))
  (h : codeAny (model prog w) (A.under (.builtin "type.__call__" ⟨.ref C :: vs, kw⟩)) (.call (.ref f) ⟨.ref (s.heap.objs.size + 1) :: vs, kw⟩) (PySem.W.InitBack (s.heap.objs.size + 1) R)
   { s with heap := (s.heap.push PySem.W.emptyDict).push (PySem.W.instObj C s.heap.objs.size) }) :
  codeAny (model prog w) A (.call (.ref C) ⟨vs, kw⟩) R s := by
 obtain ⟨hh, g, d, t, os⟩ := s
 exact PySem.W.make_core (PySem.W.makes_of X hm) (PySem.W.looks_findIn X hi) (fun self => PySem.W.bind_fn X self hf) (.inl rfl) h
end
def putF (f : Str) (v : V) : List (Str × V) -> List (Str × V)
 | [] => [(f, v)]
 | (g, x) :: r => if g = f then (g, v) :: r else (g, x) :: putF f v r
theorem va_ (f g : Str) (v : V) : ∀ fs : List (Str × V), (putF f v fs).lookup g = if g = f then some v else fs.lookup g
 | [] => by
  show List.lookup g [(f, v)] = _
  by_cases h : g = f
  ·have hb : (g == f) = true := beq_iff_eq.mpr h
   simp only [List.lookup, hb, if_pos h]
  ·have hb : (g == f) = false := beq_eq_false_iff_ne.mpr h
   simp only [List.lookup, hb, if_neg h]
 | (k, x) :: r => by
  have ih := va_ f g v r
  rw [show putF f v ((k, x) :: r) = (if k = f then (k, v) :: r else (k, x) :: putF f v r) from rfl]
  by_cases hk : k = f
  ·rw [if_pos hk]
   by_cases h : g = k
   ·have hb : (g == k) = true := beq_iff_eq.mpr h
    simp only [List.lookup, hb, if_pos (h.trans hk)]
   ·have hb : (g == k) = false := beq_eq_false_iff_ne.mpr h
    simp only [List.lookup, hb, if_neg (fun e : g = f => h (e.trans hk.symm))]
  ·rw [if_neg hk]
   by_cases h : g = k
   ·have hb : (g == k) = true := beq_iff_eq.mpr h
    simp only [List.lookup, hb, if_neg (fun e : g = f => hk (h.symm.trans e))]
   ·have hb : (g == k) = false := beq_eq_false_iff_ne.mpr h
    simp only [List.lookup, hb]
    exact ih
theorem zF_ (f : Str) (v : V) : ∀ fs : List (Str × V), f ∈ (putF f v fs).map (·.1) /\ ∀ g, g ∈ fs.map (·.1) -> g ∈ (putF f v fs).map (·.1)
 | [] => ⟨by simp [putF], fun g h => by simp at h⟩
 | (k, x) :: r => by
  obtain ⟨i1, i2⟩ := zF_ f v r
  rw [show putF f v ((k, x) :: r) = (if k = f then (k, v) :: r else (k, x) :: putF f v r) from rfl]
  by_cases hk : k = f
  ·rw [if_pos hk]
   subst hk
   exact ⟨by simp, fun g h => by simpa using h⟩
  ·rw [if_neg hk]
   refine ⟨?_, fun g h => ?_⟩
   ·rw [List.map_cons]
    exact List.mem_cons_of_mem _ i1
   ·rw [List.map_cons] at h ⊢
    rcases List.mem_cons.mp h with e | e
    ·exact List.mem_cons.mpr (.inl e)
    ·exact List.mem_cons_of_mem _ (i2 g e)
theorem vb_ (f : Str) (v : V) : ∀ fs : List (Str × V), (putF f v fs).length <= fs.length + 1
 | [] => by simp [putF]
 | (k, x) :: r => by
  have ih := vb_ f v r
  rw [show putF f v ((k, x) :: r) = (if k = f then (k, v) :: r else (k, x) :: putF f v r) from rfl]
  by_cases hk : k = f
  ·rw [if_pos hk, List.length_cons, List.length_cons]; omega
  ·rw [if_neg hk, List.length_cons, List.length_cons]; omega
theorem RelO.some_of {v : V} {o : Option Value} (r : RelO (some v) o) : ∃ u, o = some u /\ RelV v u := by
 cases o with
 | none => exact (show False from r).elim
 | some u => exact ⟨u, rfl, r⟩
theorem RelO.none_of {o : Option Value} (r : RelO none o) : o = none := by
 cases o with
 | none => rfl
 | some u => exact (show False from r).elim
theorem qdu_ {v : V} {u : Value} (r : RelV v u) : PySem.W.handedIn u = true := by
 cases v with
 | non => cases (show u = Value.none from r); rfl
 | bl b => cases (show u = Value.bool b from r); rfl
 | int i => obtain ⟨t, e⟩ := (show ∃ t, u = Value.int i t from r); cases e; rfl
 | str x => obtain ⟨t, e⟩ := (show ∃ t, u = Value.str x t from r); cases e; rfl
 | byt b => obtain ⟨t, e⟩ := (show ∃ t, u = Value.bytes b t from r); cases e; rfl
 | flt b => obtain ⟨t, e⟩ := (show ∃ t, u = Value.float b t from r); cases e; rfl
 | ref a => cases (show u = Value.ref a from r); rfl
 | ty n => cases (show u = Value.type n from r); rfl
section
variable {P : Program} {w : World} {H H' : Hp} {h h' : Heap} {a C dx : Addr} {fs fs' : List (Str × V)}
theorem z0_ (hok : HOk P w H h) (e : H a = some (.ins C dx fs)) : ∃ mA, ObjM h a dx C mA /\ (∀ f, RelO (fs.lookup f) (mA f)) /\ PySem.Within mA (fs.map (·.1)) /\ fs.length <= 1000 /\ H dx = some (.own a) := by
 obtain ⟨d, z, ne, ob, mA, n, r, q⟩ := (show ObjOk P w H h a (.ins C dx fs) from hok a _ e)
 exact ⟨mA, ⟨ob, n, ne⟩, r, q, z, d⟩
end
structure Cls (K : PySem.W.Frag) (C : Addr) : Prop where
 pg : PySem.W.plainGet K C Str.empty = true
 hd : PySem.W.hasDictIn K C = true
 po : PySem.W.plainOver K C = true
 sa : PySem.W.findIn K (.ref C) "__setattr__" = some (some (.builtin "object.__setattr__"))
theorem Cls.get {K : PySem.W.Frag} {C : Addr} (c : Cls K C) (f : Str) : PySem.W.plainGet K C f = true := c.pg
def NoAttr (K : PySem.W.Frag) (C : Addr) (f : Str) : Prop := PySem.W.findIn K (.ref C) f = some none
theorem NoAttr.taker {K : PySem.W.Frag} {C : Addr} {f : Str} (n : NoAttr K C f) : PySem.W.takerIn K C f = some none := by
 unfold PySem.W.takerIn
 rw [show PySem.W.findIn K (.ref C) f = some none from n]
 rfl
structure Con (K : PySem.W.Frag) (C : Addr) (f : Str) (v : V) (u : Value) : Prop where
 at_ : PySem.W.findIn K (.ref C) f = some (some u)
 rel : RelV v u
 get : PySem.W.specialIn K u "__get__" = some none
 cp : PySem.W.copiedNames.contains f = false
structure Meth (K : PySem.W.Frag) (C : Addr) (m : Str) (f : Addr) : Prop where
 at_ : PySem.W.findIn K (.ref C) m = some (some (.ref f))
 fn : PySem.W.isFn K (.ref f) = true
 kp : PySem.W.keepIn K (.ref f) = true
section
variable {X : Cx} {pins : List (Addr × Obj)} {σ : St} {H : Hp} {s : Shared} {a C dx : Addr} {fs : List (Str × V)} {f : Str} {v : V} {A : Around} {E : Value -> Shared -> Prop}
theorem vC_ {b : Bool} {Q : Value -> Shared -> Prop} (I : Inv X pins σ H s) (e : H a = some (.ins C dx fs)) (c : Cls X.K C) (n : NoAttr X.K C f) (l : fs.lookup f = some v)
  (h : ∀ u s', Inv X pins σ H s' -> RelV v u -> Q u s') : wpAny (model X.prog X.w) A (getAttr (.ref a) f b) Q E s := by
 obtain ⟨mA, O, r, _, _, _⟩ := z0_ I.hok e
 obtain ⟨u, hu, ru⟩ := RelO.some_of (v := v) (o := mA f) (by rw [<- l]; exact r f)
 exact qg6_ I.kIn O (c.get f) c.hd n hu (qdu_ ru) (h u _ (I.tok _) ru)
theorem vD_ {m : Str} {g : Addr} {pl : Sem Bool} {Q : Value × List Value -> Shared -> Prop} (I : Inv X pins σ H s) (e : H a = some (.ins C dx fs)) (c : Cls X.K C) (k : Meth X.K C m g) (l : fs.lookup m = none)
  (h : Q (.ref g, [.ref a]) s) : wpAny (model X.prog X.w) A (getMethod (.ref a) m pl) Q E s := by
 obtain ⟨mA, O, r, _, _, _⟩ := z0_ I.hok e
 have hn : mA m = none := RelO.none_of (by rw [<- l]; exact r m)
 exact qfh_ I.kIn O (c.get m) k.at_ k.fn hn h
theorem qcr_ {y : V} {u : Value} {Q : Unit -> Shared -> Prop} (I : Inv X pins σ H s) (e : H a = some (.ins C dx fs)) (c : Cls X.K C) (n : NoAttr X.K C f) (hl : fs.length < 1000) (ry : RelV y u)
  (h : ∀ s', Inv X pins σ (upd H a (.ins C dx (putF f y fs))) s' -> Q () s') : wpAny (model X.prog X.w) A (setAttr (.ref a) f u) Q E s := by
 obtain ⟨mA, O, r, wi, _, ho⟩ := z0_ I.hok e
 have hz : (fs.map (·.1)).length <= sizeLine := by rw [List.length_map, sizeLine_eq]; omega
 refine qg7_ I.kIn O c.sa c.po n.taker c.hd wi hz fun h' O' sb => h _ ?_
 have hd : ∃ o, h'.get? dx = some o := let ⟨o, _, _, e', _⟩ := O'.ns; ⟨o, e'⟩
 refine I.write (x := a) (e := dx) (by rw [e]; exact True.intro) (.inr ho) (fun b q hb z => (sb.2 b hb).trans z) hd ?_
 refine ⟨by rw [qe_ O.ne]; exact ho, ?_, O.ne, O'.obj, _, O'.ns, fun g => ?_, fun g hg => ?_⟩
 ·have := vb_ f y fs; omega
 ·show RelO ((putF f y fs).lookup g) (if g = f then some u else mA g)
  rw [va_]
  by_cases q : g = f
  ·rw [if_pos q, if_pos q]; exact ry
  ·rw [if_neg q, if_neg q]; exact r g
 ·by_cases q : g = f
  ·rw [q]; exact (zF_ f y fs).1
  ·refine (zF_ f y fs).2 g (wi g fun z => hg ?_)
   show (if g = f then some u else mA g) = none
   rw [if_neg q]; exact z
theorem Inv.made (I : Inv X pins σ H s) : Inv X pins σ (upd (upd H s.heap.objs.size (.own (s.heap.objs.size + 1))) (s.heap.objs.size + 1) (.ins C s.heap.objs.size []))
  { s with heap := (s.heap.push PySem.W.emptyDict).push (PySem.W.instObj C s.heap.objs.size) } := by
 have e1 : (s.heap.push PySem.W.emptyDict).get? s.heap.objs.size = some PySem.W.emptyDict := Heap.get?_push_size s.heap rfl
 have e2 : ((s.heap.push PySem.W.emptyDict).push (PySem.W.instObj C s.heap.objs.size)).get? (s.heap.objs.size + 1) = some (PySem.W.instObj C s.heap.objs.size) := by
  have := Heap.get?_push_size (s.heap.push PySem.W.emptyDict) (o := PySem.W.instObj C s.heap.objs.size) rfl
  rwa [Heap.size_push] at this
 have e3 : (s.heap.push PySem.W.emptyDict).Ns s.heap.objs.size (fun _ => none) := ⟨PySem.W.emptyDict, #[], _, e1, rfl, (fun e he => absurd he (by simp)), fun _ => rfl⟩
 have I1 := I.laid (a := s.heap.objs.size) (o := .own (s.heap.objs.size + 1)) (h' := s.heap.push PySem.W.emptyDict) (t' := s.toks) (fun b u q => Heap.get?_push_of_some _ q) (Nat.le_refl _) ⟨_, e1⟩
 refine I1.laid (a := s.heap.objs.size + 1) (o := .ins C s.heap.objs.size []) (t' := s.toks) (fun b u q => Heap.get?_push_of_some _ q) (Nat.le_of_eq (Heap.size_push _ _)) ?_
 have ne : s.heap.objs.size ≠ s.heap.objs.size + 1 := Nat.ne_of_lt (Nat.lt_succ_self _)
 refine ⟨by rw [qe_ ne, qd_], Nat.zero_le _, ne, e2, fun _ => none, (Heap.Ns1.of_empty e3).at fun o q => Heap.get?_push_of_some _ q, fun _ => True.intro, fun y hy => absurd rfl hy⟩
theorem qg8_ {prog : Program} {w : World} {env : Env} {e : Expr} {f : Str} {pos : Pos} {s : Shared} {Q : Value -> Shared -> Prop} (hb : attributeBase e f env (eval e env) = eval e env)
  (h : wpAny (model prog w) A (eval e env) (fun o s₁ => wpAny (model prog w) A (getAttr o f true) Q E s₁) E s) : wpAny (model prog w) A (eval (.Attribute e f pos) env) Q E s :=
 Attribute_any_ h (by rw [arm_eval_Attribute, hb])
end
def tFld (K : PySem.W.Frag) (ta : TE) (f : Str) : TE := fun σ H Q => ta σ H fun x H1 => ∃ a C dx fs v, x = .ref a /\ H1 a = some (.ins C dx fs) /\ Cls K C /\ NoAttr K C f /\ fs.lookup f = some v /\ Q v H1
def tCon (K : PySem.W.Frag) (ta : TE) (f : Str) : TE := fun σ H Q => ta σ H fun x H1 => ∃ a C dx fs v u, x = .ref a /\ H1 a = some (.ins C dx fs) /\ Cls K C /\ Con K C f v u /\ fs.lookup f = none /\ Q v H1
def sFld (K : PySem.W.Frag) (ta tv : TE) (f : Str) : TS := fun D σ H => tv σ H fun y H1 => ta σ H1 fun x H2 => ∃ a C dx fs, x = .ref a /\ H2 a = some (.ins C dx fs) /\ Cls K C /\ NoAttr K C f /\ fs.length < 1000 ∧
 D.nx σ (upd H2 a (.ins C dx (putF f y fs)))
def InOp (X : Cx) (op : Operator) (rd : V -> V -> Hp -> VK -> Prop) : Prop :=
 ∀ (pins : List (Addr × Obj)) (s : Shared) (σ : St) (H : Hp) (x y : V) (u v : Value) (Q : VK), Inv X pins σ H s -> RelV x u -> RelV y v -> rd x y H Q -> wpAny (model X.prog X.w) X.A (inplaceOp op u v) (EP X pins σ Q) X.xe s
def qkm_ (K : PySem.W.Frag) (ta tv : TE) (rd : V -> V -> Hp -> VK -> Prop) (f : Str) : TS := fun D σ H => ta σ H fun x H1 => ∃ a C dx fs v, x = .ref a /\ H1 a = some (.ins C dx fs) /\ Cls K C /\ NoAttr K C f /\ fs.lookup f = some v ∧
 tv σ H1 fun y H2 => rd v y H2 fun z H3 => ∃ dx' fs', H3 a = some (.ins C dx' fs') /\ fs'.length < 1000 /\ D.nx σ (upd H3 a (.ins C dx' (putF f z fs')))
section
variable {X : Cx} {o e value : Expr} {f : Str} {pos pos' tpos : Pos} {ta tv : TE}
theorem qA_ (he : PE X e ta) (hb : attributeBase e f X.env (eval e X.env) = eval e X.env) : PE X (.Attribute e f pos) (tFld X.K ta f) := by
 intro pins s σ H Q I h
 refine qg8_ hb (thn (he pins s σ H _ I h) fun u s1 ⟨x, H1, I1, rx, a, C, dx, fs, v, ex, ea, c, n, l, q⟩ => ?_)
 subst ex
 obtain rfl : u = Value.ref a := rx
 exact vC_ I1 ea c n l fun u' s2 I2 ru => ⟨v, H1, I2, ru, q⟩
theorem jA_ (ha : PE X o ta) (hv : PE X value tv) (hs : swapsWith value (some (.Attribute o f pos')) pos.line X.env = pure false) : PS X (.Assign [.Attribute o f pos'] value pos) (sFld X.K ta tv f) := by
 intro pins s σ H D I h
 refine plainObj_wpAny_Assign_Attribute (thn (hv pins s σ H _ I h) fun u s1 ⟨y, H1, I1, ry, q⟩ => thn (ha pins s1 σ H1 _ I1 q) fun ov s2 ⟨x, H2, I2, rx, a, C, dx, fs, ex, ea, c, n, l, q2⟩ => ?_) hs
 subst ex
 obtain rfl : ov = Value.ref a := rx
 exact qcr_ I2 ea c n l ry fun s3 I3 => ⟨σ, _, I3, q2⟩
def rAdd : V -> V -> Hp -> VK -> Prop := fun x y H Q => ∃ i j, x = .int i /\ y = .int j /\ Q (.int (i + j)) H
def rSub : V -> V -> Hp -> VK -> Prop := fun x y H Q => ∃ i j, x = .int i /\ y = .int j /\ Q (.int (i - j)) H
end
section
variable {X : Cx} {pins : List (Addr × Obj)} {σ : St} {H : Hp} {s : Shared} {A : Around} {E : Value -> Shared -> Prop} {Q : Value -> Shared -> Prop} {c : Value} {b : Bool}
inductive TyOf (K : PySem.W.Frag) (H : Hp) : V -> Value -> Prop where
 | non : TyOf K H .non (.type "NoneType")
 | bl (x : Bool) : TyOf K H (.bl x) (.type "bool")
 | int (i : Int) : TyOf K H (.int i) (.type "int")
 | str (x : Str) : TyOf K H (.str x) (.type "str")
 | flt (x : UInt64) : TyOf K H (.flt x) (.type "float")
 | lst {a : Addr} {xs : List V} (e : H a = some (.lst xs)) : TyOf K H (.ref a) (.type "list")
 | frz {a : Addr} {o : Obj} {xs : List V} (e : H a = some (.frz o (.lst xs))) : TyOf K H (.ref a) (.type "list")
 | tup {a : Addr} {xs : List V} (e : H a = some (.tup xs)) : TyOf K H (.ref a) (.type "tuple")
 | dK {a : Addr} {kvs : List (Key × V)} (e : H a = some (.dK kvs)) : TyOf K H (.ref a) (.type "dict")
 | dT {a : Addr} {kvs : List (List Key × V)} (e : H a = some (.dT kvs)) : TyOf K H (.ref a) (.type "dict")
 | ins {a C dx : Addr} {fs : List (Str × V)} (e : H a = some (.ins C dx fs)) (cl : Cls K C) (ha : PySem.W.findIn K (.ref C) "__class__" = some (some (.builtin "object.__class__")))
   (hn : PySem.W.specialIn K (.builtin "object.__class__") "__get__" = some (some (.builtin "getset_descriptor.__get__"))) (htk : PySem.W.takesIn K (.builtin "object.__class__") = some true)
   (hm : PySem.W.mroIn K C (.type "object") = some true) : TyOf K H (.ref a) (.ref C)
end
end L2
namespace L2
open PySem PySem.Spec PyProof.Rows
structure Room (k : Nat) (A : Around) : Prop where
 hd : A.handled = none
 dp : A.depth + 3 * k + 5 < recursionLimit
 un : A.units + 16 * k + 200 < cLine
 gd : A.guards = some [] := by rfl
theorem Room.mono {j k : Nat} {A : Around} (r : Room k A) (h : j <= k) : Room j A := ⟨r.hd, by have := r.dp; omega, by have := r.un; omega, r.gd⟩
theorem Room.deeper {k : Nat} {A : Around} (r : Room (k + 1) A) (env : Env) : Room k (A.deeper env) :=
 ⟨r.hd, by have := r.dp; show A.depth + 1 + 3 * k + 5 < _; omega, by have := r.un; show A.units + 3 + 16 * k + 200 < _; omega, r.gd⟩
theorem Room.in1 {k : Nat} {A : Around} (r : Room (k + 1) A) : Room k A.in1 :=
 ⟨r.hd, by have := r.dp; show A.depth + 3 * k + 5 < _; omega, by have := r.un; show A.units + 1 + 16 * k + 200 < _; omega, r.gd⟩
theorem qcs_ {A : Around} {C : Addr} {us : List Value} {kw : List (Str × Value)} : (A.under (.builtin "type.__call__" ⟨.ref C :: us, kw⟩)).depth = A.depth + 1 := by
 first | rfl | simp [Around.under, Code.weight, Code.isCreation, Code.isGuard, Code.isCaller, Code.frames, Code.isFrame, guardIds]
theorem qct_ {A : Around} {C : Addr} {us : List Value} {kw : List (Str × Value)} : (A.under (.builtin "type.__call__" ⟨.ref C :: us, kw⟩)).units = A.units + 1 := by
 first | rfl | simp [Around.under, Code.cUnits, Code.frames, Code.isFrame]
theorem Room.make {k : Nat} {A : Around} (r : Room (k + 1) A) (C : Addr) (us : List Value) (kw : List (Str × Value)) : Room k (A.under (.builtin "type.__call__" ⟨.ref C :: us, kw⟩)) :=
 ⟨r.hd, by have := r.dp; rw [qcs_]; omega, by have := r.un; rw [qct_]; omega, by have := r.gd; first | exact this | simp [Around.under, Code.weight, Code.isCreation, Code.isGuard, Code.isCaller, Code.frames, Code.isFrame, guardIds, this]⟩
theorem Room.depth {k : Nat} {A : Around} (r : Room k A) : A.depth < recursionLimit := by have := r.dp; omega
theorem Room.units {k : Nat} {A : Around} (r : Room k A) : A.units + 64 < cLine := by have := r.un; omega
def tNil : TA := fun _ H Q => Q [] H
def qj3_ (ta : TE) (tr : TA) : TA := fun σ H Q => ta σ H fun x H1 => tr σ H1 fun xs H2 => Q (x :: xs) H2
section
variable {X : Cx} {e : Expr} {es : List Expr} {te : TE} {t : TA} {pos : Pos}
theorem qf_ : PA X [] tNil := fun _ _ _ _ H Q I h => Calls.spliced_nil ⟨[], H, I, .nil, h⟩
theorem qa_ (ha : PE X e te) (hr : PA X es t) (hs : starEach (e :: es) X.env = (false, eval e X.env) :: starEach es X.env := by rfl) : PA X (e :: es) (qj3_ te t) := by
 intro pos pins s σ H Q I h
 rw [hs]
 show wpAny _ _ (spliced ((false, eval e X.env) :: backTo pos (starEach es X.env))) _ _ s
 refine Calls.spliced_cons (thn (ha pins s σ H _ I h) fun u s1 ⟨x, H1, I1, r1, q1⟩ => ?_)
 exact thn (hr pos pins s1 σ H1 _ I1 q1) fun us s2 ⟨xs, H2, I2, r2, q2⟩ => ⟨x :: xs, H2, I2, .cons r1 r2, q2⟩
def tTup (t : TA) : TE := fun σ H Q => t σ H fun xs H1 => xs.length <= sizeLine /\ ∀ p, H1 p = none -> Q (.ref p) (upd H1 p (.tup xs))
def tLst (t : TA) : TE := fun σ H Q => t σ H fun xs H1 => xs.length <= sizeLine /\ ∀ p, H1 p = none -> Q (.ref p) (upd H1 p (.lst xs))
theorem vE_ {x1} (h : PA X es t) : PE X (.Tuple es x1 pos) (tTup t) := by
 intro pins s σ H Q I hq
 refine wpAny_Tuple_spliced (thn (h pos pins s σ H _ I hq) fun us s1 ⟨xs, H1, I1, r, z, q⟩ => ⟨by rw [<- r.length]; exact z, ?_⟩)
 have hf : H1 s1.heap.objs.size = none := I1.hok.fresh (Nat.le_refl _)
 refine ⟨.ref s1.heap.objs.size, upd H1 s1.heap.objs.size (.tup xs), I1.laid (t' := s1.toks) (fun b u e => Heap.get?_push_of_some _ e) (Nat.le_refl _) ?_, rfl, q _ hf⟩
 exact ⟨z, us, r, ⟨_, Heap.get?_push_size _ rfl, rfl, _, rfl⟩⟩
theorem jB_ (h : PA X es t) : PE X (.List es pos) (tLst t) := by
 intro pins s σ H Q I hq
 refine wpAny_List_spliced (thn (h pos pins s σ H _ I hq) fun us s1 ⟨xs, H1, I1, r, z, q⟩ => ⟨by rw [<- r.length]; exact z, ?_⟩)
 have hf : H1 s1.heap.objs.size = none := I1.hok.fresh (Nat.le_refl _)
 refine ⟨.ref s1.heap.objs.size, upd H1 s1.heap.objs.size (.lst xs), I1.laid (t' := s1.toks) (fun b u e => Heap.get?_push_of_some _ e) (Nat.le_refl _) ?_, rfl, q _ hf⟩
 exact ⟨z, us, 0, r, Heap.get?_push_size _ rfl⟩
end
abbrev Sp := List V -> Hp -> VK -> XK -> Prop
abbrev CXT := List Env -> Hp -> Shared -> XK -> Value -> Shared -> Prop
structure Env0 (P : Program) (w : World) (K : PySem.W.Frag) (mg : Str -> Option Value) (base : Heap) (A : Around) (outer : List Env) (s : Shared) (H : Hp) : Prop where
 frames : A.frames = some outer
 mod : Mod K mg base
 bs : ∀ b o, base.get? b = some o -> s.heap.get? b = some o /\ H b = none
 bsz : base.objs.size <= s.heap.objs.size
 funs : s.heap.FunFrames base outer
 frf : ∀ b ∈ frs outer, H b = none
 hok : HOk P w H s.heap
 bare : AllBare s.gens
def CE (outer : List Env) (P : Program) (w : World) (H : Hp) (s : Shared) (Q : VK) (u : Value) (s' : Shared) : Prop :=
 ∃ v H', s'.os = s.os /\ AllBare s'.gens /\ Un (frs outer) [] H H' s.heap s'.heap /\ HOk P w H' s'.heap /\ RelV v u /\ Q v H'
def CR (CX : CXT) (outer : List Env) (P : Program) (w : World) (H : Hp) (s : Shared) (Q : VK) (E : XK) (r : Result) (s' : Shared) : Prop :=
 match r with
 | .ok (.ret u) => CE outer P w H s Q u s'
 | .ok _ => False
 | .error e => CX outer H s E e s'
structure FnOk (P : Program) (w : World) (K : PySem.W.Frag) (mg : Str -> Option Value) (base : Heap) (CX : CXT) (k : Nat) (f : Addr) (fd : FuncData) (ps : List Str) (sp : Sp) : Prop where
 len : ∀ vs H Q E, sp vs H Q E -> vs.length = ps.length
 run : ∀ (A : Around) (outer : List Env) (s : Shared) (H : Hp) (args : Args) (us : List Value) (vs : List V) (Q : VK) (E : XK), Room k A -> Env0 P w K mg base A outer s H -> BindsTo s fd args (ps.zip us) -> Vals vs us -> sp vs H Q E →
  codeAny (model P w) A (.call (.ref f) args) (CR CX outer P w H s Q E) s
theorem FnOk.mono {P : Program} {w : World} {K : PySem.W.Frag} {mg : Str -> Option Value} {base : Heap} {CX : CXT} {j k : Nat} {f : Addr} {fd : FuncData} {ps : List Str} {sp : Sp} (F : FnOk P w K mg base CX j f fd ps sp) (h : j <= k) :
  FnOk P w K mg base CX k f fd ps sp := ⟨F.len, fun A outer s H args us vs Q E hr => F.run A outer s H args us vs Q E (hr.mono h)⟩
theorem FnOk.imp {P : Program} {w : World} {K : PySem.W.Frag} {mg : Str -> Option Value} {base : Heap} {CX : CXT} {k : Nat} {f : Addr} {fd : FuncData} {ps : List Str} {sp sp' : Sp} (F : FnOk P w K mg base CX k f fd ps sp)
  (h : ∀ vs H Q E, sp' vs H Q E -> sp vs H Q E) : FnOk P w K mg base CX k f fd ps sp' :=
 ⟨fun vs H Q E q => F.len vs H Q E (h _ _ _ _ q), fun A outer s H args us vs Q E hr he hb hv hs => F.run A outer s H args us vs Q E hr he hb hv (h _ _ _ _ hs)⟩
theorem Env0.make {P : Program} {w : World} {K : PySem.W.Frag} {mg : Str -> Option Value} {base : Heap} {A : Around} {outer : List Env} {s : Shared} {H : Hp} (e : Env0 P w K mg base A outer s H) (C : Addr) (us : List Value) (kw : List (Str × Value)) :
  Env0 P w K mg base (A.under (.builtin "type.__call__" ⟨.ref C :: us, kw⟩)) outer s H := ⟨by first | exact e.frames | (simpa [Around.under, Code.envs, Code.isFrame, pushEnvs] using e.frames), e.mod, e.bs, e.bsz, e.funs, e.frf, e.hok, e.bare⟩
section
variable {X : Cx} {pins : List (Addr × Obj)} {σ : St} {H : Hp} {s s' : Shared}
theorem Inv.env0 (I : Inv X pins σ H s) : Env0 X.prog X.w X.K X.mg X.base X.A X.stack s H :=
 ⟨I.ok.frames, I.ok.mod, I.bs, Nat.le_trans I.ok.bsz I.sz, I.stack, I.stkFree, I.hok, I.bare⟩
theorem Inv.after {Q : VK} {u : Value} (I : Inv X pins σ H s) (h : CE X.stack X.prog X.w H s Q u s') : EP X pins σ Q u s' := by
 obtain ⟨v, H', os, bare, un, hok, r, q⟩ := h
 obtain ⟨hh, g, d, t, os'⟩ := s'
 obtain rfl : os' = s.os := os
 exact ⟨v, H', I.call (h' := hh) (g' := g) (d' := d) (t' := t) (ch := []) un hok bare (fun b z => absurd z (by simp)), r, q⟩
end
def qj4_ (sp : Sp) (dvs : List V) (E : XK) (t : TA) : TE := fun σ H Q => t σ H fun vs H1 => sp (vs ++ dvs) H1 Q E
def qg0_ (C : Addr) (m : Str) (sp : Sp) (dvs : List V) (E : XK) (ta : TE) (t : TA) : TE := fun σ H Q => ta σ H fun x H1 => ∃ a dx fs, x = .ref a /\ H1 a = some (.ins C dx fs) /\ fs.lookup m = none ∧
 t σ H1 fun vs H2 => sp (x :: (vs ++ dvs)) H2 Q E
def qj5_ (C : Addr) (sp : Sp) (dvs : List V) (E : XK) (t : TA) : TE := fun σ H Q => t σ H fun vs H1 => ∀ x dx, H1 x = none -> H1 dx = none -> dx ≠ x →
 sp (.ref x :: (vs ++ dvs)) (upd (upd H1 dx (.own x)) x (.ins C dx [])) (fun v H2 => v = .non /\ Q (.ref x) H2) E
def Binds (K : PySem.W.Frag) (fd : FuncData) (ps : List Str) (ds : List Value) : Prop :=
 ∀ (s : Shared) (us : List Value), K.In s.heap -> (us ++ ds).length = ps.length -> BindsTo s fd ⟨us, []⟩ (ps.zip (us ++ ds))
theorem Binds.all {K : PySem.W.Frag} {fd : FuncData} {ps : List Str} (h : ∀ us : List Value, us.length = ps.length -> bindArgs fd ⟨us, []⟩ = pure (ps.zip us)) : Binds K fd ps [] := fun s us _ hl => by
 rw [List.append_nil] at hl ⊢
 exact .of_eq (h us hl)
def za_ (CX : CXT) (X : Cx) (E : XK) : Prop := ∀ (pins : List (Addr × Obj)) (σ : St) (H : Hp) (s : Shared) (e : Value) (s' : Shared), Inv X pins σ H s -> CX X.stack H s E e s' -> X.xe e s'
section
variable {X : Cx} {CX : CXT} {k : Nat} {f C : Addr} {fd : FuncData} {ps : List Str} {sp : Sp} {dvs : List V} {ds : List Value} {E : XK} {x m : Str} {p pos apos : Pos} {e o : Expr} {es : List Expr} {ta : TE} {t : TA}
theorem u9_ {pins : List (Addr × Obj)} {σ : St} {H : Hp} {s : Shared} {Q : VK} {us : List Value} {vs : List V} (F : FnOk X.prog X.w X.K X.mg X.base CX k f fd ps sp) (hr : Room k X.A) (hb : Binds X.K fd ps ds) (hd : Vals dvs ds) (hx : za_ CX X E)
  (I : Inv X pins σ H s) (r : Vals vs us) (h : sp (vs ++ dvs) H Q E) : wpAny (model X.prog X.w) X.A (call (.ref f) us) (EP X pins σ Q) X.xe s := by
 have r2 : Vals (vs ++ dvs) (us ++ ds) := r.append hd
 have hl : (us ++ ds).length = ps.length := by rw [<- r2.length]; exact F.len _ _ _ _ h
 refine wpAny_call (codeAny_mono (F.run X.A X.stack s H ⟨us, []⟩ (us ++ ds) (vs ++ dvs) Q E hr I.env0 (hb s us I.kIn hl) r2 h) fun r s' hq => ?_)
 cases r with
 | error e => exact hx pins σ H s e s' I hq
 | ok fl =>
  cases fl with
  | ret u => exact I.after hq
  | next => exact False.elim hq
  | brk => exact False.elim hq
  | cont => exact False.elim hq
theorem qx_ (F : FnOk X.prog X.w X.K X.mg X.base CX k f fd ps sp) (hr : Room k X.A) (hg : Gl X x) (hm : X.mg x = some (.ref f)) (hk : PySem.W.keepIn X.K (.ref f) = true) (hb : Binds X.K fd ps ds) (hd : Vals dvs ds) (hx : za_ CX X E)
  (ha : PA X (e :: es) t) (hdb : (x == ("__debug__" : Str)) = false := by decide) (he : starEach (e :: es) X.env = (false, eval e X.env) :: starEach es X.env := by rfl) (hpl : (backTo pos (starEach es X.env)).any (·.1) = false := by rfl) :
  PE X (.Call (.Name x p) (e :: es) [] pos) (qj4_ sp dvs E t) := by
 intro pins s σ H Q I h
 refine wpAny_Call_Name_kw (vZ_ I hg hm ?_ hdb)
 refine PySem.W.callWith_K (h₀ := X.base) I.ok.mod.kin hk (thn (ha pos pins s σ H _ I h) fun us s1 ⟨vs, H1, I1, r, q⟩ => ⟨I1.kIn, ?_⟩) he hpl
 exact u9_ F hr hb hd hx I1 r q
theorem qE_ {pl : Sem Bool} (he : PE X o ta) (c : Cls X.K C) (hm : Meth X.K C m f) (F : FnOk X.prog X.w X.K X.mg X.base CX k f fd ps sp) (hr : Room k X.A) (hb : Binds X.K fd ps ds) (hd : Vals dvs ds) (hx : za_ CX X E) (ha : PA X (e :: es) t)
  (hst : starEach (e :: es) X.env = (false, eval e X.env) :: starEach es X.env := by rfl) (hpl : (backTo pos (starEach es X.env)).any (·.1) = false := by rfl)
  (ht : eval (.Call (.Attribute o m apos) (e :: es) [] pos) X.env = (do
   let ov ← eval o X.env
   standAt apos.atName
   let (f, first) ← holding [ov] (getMethod ov m pl)
   callWith pos f first (backTo pos (starEach (e :: es) X.env)) (backToKw pos (keywordEach [] X.env))) := by rfl) :
  PE X (.Call (.Attribute o m apos) (e :: es) [] pos) (qg0_ C m sp dvs E ta t) := by
 intro pins s σ H Q I h
 refine PySem.W.methodCall_KW (pl := pl) (thn (he pins s σ H _ I h) fun u s1 ⟨x, H1, I1, rx, a, dx, fs, ex, ea, l, q⟩ => ?_) ht
 subst ex
 obtain rfl : u = Value.ref a := rx
 refine vD_ I1 ea c hm l ?_
 refine PySem.W.callWith_K (first := [.ref a]) (h₀ := X.base) I.ok.mod.kin hm.kp (thn (ha pos pins s1 σ H1 _ I1 q) fun us s2 ⟨vs, H2, I2, r, q2⟩ => ⟨I2.kIn, ?_⟩) hst hpl
 exact u9_ (us := .ref a :: us) (vs := .ref a :: vs) F hr hb hd hx I2 (.cons rfl r) q2
theorem zs_ {pl : Sem Bool} (he : PE X o ta) (c : Cls X.K C) (hm : Meth X.K C m f) (F : FnOk X.prog X.w X.K X.mg X.base CX k f fd ps sp) (hr : Room k X.A) (hb : Binds X.K fd ps ds) (hd : Vals dvs ds) (hx : za_ CX X E)
  (ht : eval (.Call (.Attribute o m apos) [] [] pos) X.env = (do
   let ov ← eval o X.env
   standAt apos.atName
   let (f, first) ← holding [ov] (getMethod ov m pl)
   callWith pos f first (backTo pos (starEach [] X.env)) (backToKw pos (keywordEach [] X.env))) := by rfl) :
  PE X (.Call (.Attribute o m apos) [] [] pos) (qg0_ C m sp dvs E ta tNil) := by
 intro pins s σ H Q I h
 refine PySem.W.methodCall_KW (pl := pl) (thn (he pins s σ H _ I h) fun u s1 ⟨x, H1, I1, rx, a, dx, fs, ex, ea, l, q⟩ => ?_) ht
 subst ex
 obtain rfl : u = Value.ref a := rx
 refine vD_ I1 ea c hm l ?_
 exact PySem.W.callWith_K0 (first := [.ref a]) I1.kIn hm.kp (u9_ (us := [.ref a]) (vs := [.ref a]) F hr hb hd hx I1 (.cons rfl .nil) q)
structure Mk (K : PySem.W.Frag) (C f : Addr) : Prop where
 makes : PySem.W.makesIn K C = true
 init : PySem.W.findIn K (.ref C) "__init__" = some (some (.ref f))
 fn : PySem.W.isFn K (.ref f) = true
 kp : PySem.W.keepIn K (.ref C) = true
theorem qfj_ {pins : List (Addr × Obj)} {σ : St} {H : Hp} {s : Shared} {Q : VK} {us : List Value} {vs : List V} (M : Mk X.K C f) (F : FnOk X.prog X.w X.K X.mg X.base CX k f fd ps sp) (hr : Room (k + 1) X.A) (hb : Binds X.K fd ps ds) (hd : Vals dvs ds)
  (hx : za_ CX X E) (I : Inv X pins σ H s) (r : Vals vs us)
  (h : ∀ x dx, H x = none -> H dx = none -> dx ≠ x -> sp (.ref x :: (vs ++ dvs)) (upd (upd H dx (.own x)) x (.ins C dx [])) (fun v H2 => v = .non /\ Q (.ref x) H2) E) :
  wpAny (model X.prog X.w) X.A (call (.ref C) us) (EP X pins σ Q) X.xe s := by
 have hq := h (s.heap.objs.size + 1) s.heap.objs.size (I.hok.fresh (Nat.le_succ _)) (I.hok.fresh (Nat.le_refl _)) (Nat.ne_of_lt (Nat.lt_succ_self _))
 have I2 := Inv.made (C := C) I
 have r2 : Vals (V.ref (s.heap.objs.size + 1) :: (vs ++ dvs)) (Value.ref (s.heap.objs.size + 1) :: (us ++ ds)) := .cons rfl (r.append hd)
 have hl : (Value.ref (s.heap.objs.size + 1) :: us ++ ds).length = ps.length := by
  have e := r2.length
  rw [F.len _ _ _ _ hq] at e
  exact e.symm
 refine wpAny_call (qfi_ (f := f) I.kIn M.makes M.init (beq_iff_eq.mp M.fn) (codeAny_mono (F.run _ X.stack _ _ ⟨Value.ref (s.heap.objs.size + 1) :: us, []⟩ (Value.ref (s.heap.objs.size + 1) :: (us ++ ds)) _ _ E (hr.make C us [])
  (I2.env0.make C us []) (hb _ (Value.ref (s.heap.objs.size + 1) :: us) I2.kIn hl) r2 hq) fun r s' hq' => ?_))
 cases r with
 | error e => exact hx pins σ _ _ e s' I2 hq'
 | ok fl =>
  cases fl with
  | ret u =>
   obtain ⟨v, H', I3, rv, ev, q3⟩ := I2.after hq'
   subst ev
   exact ⟨rv, ⟨V.ref (s.heap.objs.size + 1), H', I3, rfl, q3⟩⟩
  | next => exact False.elim hq'
  | brk => exact False.elim hq'
  | cont => exact False.elim hq'
theorem z1_ (M : Mk X.K C f) (F : FnOk X.prog X.w X.K X.mg X.base CX k f fd ps sp) (hr : Room (k + 1) X.A) (hg : Gl X x) (hm : X.mg x = some (.ref C)) (hb : Binds X.K fd ps ds) (hd : Vals dvs ds) (hx : za_ CX X E)
  (ha : PA X (e :: es) t) (hdb : (x == ("__debug__" : Str)) = false := by decide) (he : starEach (e :: es) X.env = (false, eval e X.env) :: starEach es X.env := by rfl) (hpl : (backTo pos (starEach es X.env)).any (·.1) = false := by rfl) :
  PE X (.Call (.Name x p) (e :: es) [] pos) (qj5_ C sp dvs E t) := by
 intro pins s σ H Q I h
 refine wpAny_Call_Name_kw (vZ_ I hg hm ?_ hdb)
 refine PySem.W.callWith_K (h₀ := X.base) I.ok.mod.kin M.kp (thn (ha pos pins s σ H _ I h) fun us s1 ⟨vs, H1, I1, r, q⟩ => ⟨I1.kIn, ?_⟩) he hpl
 exact qfj_ M F hr hb hd hx I1 r q
end
def PK (X : Cx) (kws : List Keyword) (t : TA) : Prop :=
 ∀ (pos : Pos) (pins : List (Addr × Obj)) (s : Shared) (σ : St) (H : Hp) (Q : List V -> Hp -> Prop), Inv X pins σ H s -> t σ H Q -> wpAny (model X.prog X.w) X.A (evalAll ((backToKw pos (keywordEach kws X.env)).map (·.2))) (AP X pins σ Q) X.xe s
section
variable {X : Cx} {CX : CXT} {k : Nat} {f C : Addr} {fd : FuncData} {ps ks : List Str} {sp : Sp} {E : XK} {x m : Str} {p pos apos kpos : Pos} {e o : Expr} {es : List Expr} {kws : List Keyword} {te ta : TE} {t tk : TA} {nm : Option Str}
structure KBinds (K : PySem.W.Frag) (fd : FuncData) (ps ks : List Str) (g : List Value -> List Value -> List Value) (gV : List V -> List V -> List V) : Prop where
 to : ∀ (s : Shared) (us ws : List Value), K.In s.heap -> (g us ws).length = ps.length -> BindsTo s fd ⟨us, ks.zip ws⟩ (ps.zip (g us ws))
 rel : ∀ {vs : List V} {us : List Value} {zs : List V} {ws : List Value}, Vals vs us -> Vals zs ws -> Vals (gV vs zs) (g us ws)
def qks_ (sp : Sp) (gV : List V -> List V -> List V) (E : XK) (t tk : TA) : TE := fun σ H Q => t σ H fun vs H1 => tk σ H1 fun zs H2 => sp (gV vs zs) H2 Q E
variable {g : List Value -> List Value -> List Value} {gV : List V -> List V -> List V}
end
structure FnScope (N P : List Str) (sc : Scope) : Prop where
 kind : sc.kind = .function
 co : sc.isCoroutine = false
 gen : sc.isGenerator = false
 nd : N.Nodup
 pre : N.take P.length = P
 par : ∀ x ∈ P, sc.names.lookup x = some .local \/ sc.names.lookup x = some .cell
 nofree : ∀ y ∈ sc.names, y.2 ≠ .free
theorem un_ {kindOf : Str -> Option NameKind} {x : Str} : ∀ {binds : List (Str × Value)} {m : Str -> Option Value}, (∀ v, (x, v) ∉ binds) -> bindL kindOf binds m x = m x
 | [], _, _ => rfl
 | (n, v) :: r, m, h => by
  unfold bindL
  rw [un_ fun w hw => h w (List.mem_cons_of_mem _ hw)]
  split
  ·have : x ≠ n := by rintro rfl; exact h v List.mem_cons_self
   simp [this]
  ·rfl
theorem uo_ {kindOf : Str -> Option NameKind} {x : Str} : ∀ {binds : List (Str × Value)} {m : Str -> Option Value}, (∀ v, (x, v) ∉ binds) -> bindC kindOf binds m x = m x
 | [], _, _ => rfl
 | (n, v) :: r, m, h => by
  unfold bindC
  rw [uo_ fun w hw => h w (List.mem_cons_of_mem _ hw)]
  split
  ·rfl
  ·have : x ≠ n := by rintro rfl; exact h v List.mem_cons_self
   simp [this]
theorem up_ {kindOf : Str -> Option NameKind} {x : Str} {v : Value} : ∀ {P : List Str} {vs : List Value} {i : Nat} {m : Str -> Option Value}, P.Nodup -> P[i]? = some x -> vs[i]? = some v -> kindOf x = some .local →
  bindL kindOf (P.zip vs) m x = some v
 | [], _, _, _, _, h, _, _ => by simp at h
 | _ :: _, [], _, _, _, _, h, _ => by simp at h
 | p :: P, w :: vs, 0, m, nd, h1, h2, hk => by
  simp at h1 h2; subst h1; subst h2
  show bindL kindOf ((p, w) :: P.zip vs) m p = _
  unfold bindL
  rw [un_ fun v hv => (List.nodup_cons.mp nd).1 (List.of_mem_zip hv).1, if_pos hk]
  simp
 | p :: P, w :: vs, i + 1, m, nd, h1, h2, hk => by
  show bindL kindOf ((p, w) :: P.zip vs) m x = _
  unfold bindL
  exact up_ (i := i) (List.nodup_cons.mp nd).2 (by simpa using h1) (by simpa using h2) hk
theorem uq_ {kindOf : Str -> Option NameKind} {x : Str} {v : Value} : ∀ {P : List Str} {vs : List Value} {i : Nat} {m : Str -> Option Value}, P.Nodup -> P[i]? = some x -> vs[i]? = some v -> kindOf x ≠ some .local →
  bindC kindOf (P.zip vs) m x = some v
 | [], _, _, _, _, h, _, _ => by simp at h
 | _ :: _, [], _, _, _, _, h, _ => by simp at h
 | p :: P, w :: vs, 0, m, nd, h1, h2, hk => by
  simp at h1 h2; subst h1; subst h2
  show bindC kindOf ((p, w) :: P.zip vs) m p = _
  unfold bindC
  rw [uo_ fun v hv => (List.nodup_cons.mp nd).1 (List.of_mem_zip hv).1, if_neg hk]
  simp
 | p :: P, w :: vs, i + 1, m, nd, h1, h2, hk => by
  show bindC kindOf ((p, w) :: P.zip vs) m x = _
  unfold bindC
  exact uq_ (i := i) (List.nodup_cons.mp nd).2 (by simpa using h1) (by simpa using h2) hk
def start (N : List Str) (vs : List V) : St := vs.map some ++ List.replicate (N.length - vs.length) none
def cxOf (CX : CXT) (P : Program) (w : World) (K : PySem.W.Frag) (mg : Str -> Option Value) (base : Heap) (N : List Str) (qual : Str) (scope : Scope) (f : Addr) (cd : Value) (A : Around) (outer : List Env) (s : Shared) (H : Hp) (E : XK) : Cx where
 prog := P
 w := w
 K := K
 mg := mg
 base := base
 A := A.deeper (envOfC qual scope s.heap.objs.size f cd)
 N := N
 s₀ := s
 H₀ := H
 env := envOfC qual scope s.heap.objs.size f cd
 outer := outer
 stack := envOfC qual scope s.heap.objs.size f cd :: outer
 ex := []
 calm := true
 fn := fun _ => true
 pn := []
 xe := fun e s' => wpAny (model P w) (A.deeper (envOfC qual scope s.heap.objs.size f cd)) (leaving (envOfC qual scope s.heap.objs.size f cd) e) (fun _ s'' => CX outer H s E e s'') (fun e' s'' => CX outer H s E e' s'') s'
theorem qaa_ {sc : Scope} {n : Nat} {x : Str} (h : sc.names.lookup x = some .cell) : ∃ c, (cellsFrom n sc.names []).lookup x = some c := by
 have q := PySem.W.cellsFrom_some sc.names n [] (.inl h)
 exact Option.isSome_iff_exists.mp q
theorem ur_ {CX : CXT} {P : Program} {w : World} {K : PySem.W.Frag} {mg : Str -> Option Value} {base : Heap} {N ps : List Str} {qual : Str} {scope : Scope} {f : Addr} {cd : Value} {A : Around} {outer : List Env} {s s1 : Shared} {H : Hp} {E : XK} {us : List Value} {vs : List V}
  (S : FnScope N ps scope) (hd : A.handled = none) (e0 : Env0 P w K mg base A outer s H) (hl : vs.length = ps.length) (r : Vals vs us)
  (x : InCallC s s.heap.objs.size (bindL (envOfC qual scope s.heap.objs.size f cd).kindOf (ps.zip us) fun _ => none) (cellsFrom (s.heap.objs.size + 1) scope.names []) (bindC (envOfC qual scope s.heap.objs.size f cd).kindOf (ps.zip us) fun _ => none) s1) :
  Inv (cxOf CX P w K mg base N qual scope f cd A outer s H E) [] (start N vs) H s1 := by
 have hpl : ps.length <= N.length := by have := congrArg List.length S.pre; rw [List.length_take] at this; omega
 obtain ⟨h1, tk, rfl, hk⟩ := x.done
 have noA : ∀ b : Addr, b ∉ (cxOf CX P w K mg base N qual scope f cd A outer s H E).ex := fun b z => absurd (show b ∈ ([] : List Addr) from z) (by simp)
 refine ⟨⟨e0.mod, S.kind, rfl, rfl, Nat.le_refl _, fun y z c h1 h2 => ?_, fun y hy => ?_, fun y c _ h => ?_, fun _ => hd, Around.frames_deeper e0.frames, .inr ⟨rfl, rfl⟩, fun b z => absurd z (noA b), e0.bs, e0.bsz, fun b _ _ => noA b, fun b z => absurd z (noA b), e0.funs, e0.frf⟩,
  rfl, e0.bare, Un.kept hk, ⟨_, x.toInCall.ns, fun i y v h1 h2 h3 => ?_⟩, fun y c h => ⟨_, x.cell y c h⟩, e0.hok.fresh (Nat.le_refl _), fun y c h => ?_, fun p hp => absurd (show p ∈ ([] : List (Addr × Obj)) from hp) (by simp), e0.hok.kept hk, ?_⟩
 ·exact name_of_addr x.apart (PySem.mem_of_lookup h1) (PySem.mem_of_lookup h2)
 ·have hy : scope.names.lookup y = some .cell \/ scope.names.lookup y = some .free := hy
  rcases hy with hy | hy
  ·exact qaa_ hy
  ·exact absurd rfl (S.nofree _ (PySem.mem_of_lookup hy))
 ·exact Nat.le_of_lt (x.above y c (PySem.mem_of_lookup h))
 ·have hi : i < vs.length := by
   unfold start at h2
   by_cases hi : i < vs.length
   ·exact hi
   ·rw [List.getElem?_append_right (by simpa using hi)] at h2
    rw [List.getElem?_replicate] at h2
    split at h2 <;> cases h2
  have ha : vs[i]? = some v := by
   unfold start at h2
   rw [List.getElem?_append_left (by simpa using hi), List.getElem?_map] at h2
   cases e : vs[i]? with
   | none => rw [e] at h2; cases h2
   | some a => rw [e] at h2; cases h2; rfl
  obtain ⟨u, hu, rv⟩ := r.get ha
  have hp : ps[i]? = some y := by
   rw [<- S.pre, List.getElem?_take_of_lt (by omega)]; exact h1
  have ndP : ps.Nodup := by rw [<- S.pre]; exact S.nd.sublist (List.take_sublist _ _)
  refine ⟨u, rv, ?_⟩
  rcases S.par y (List.mem_of_getElem? hp) with k | k
  ·exact .inl ⟨k, up_ ndP hp hu k⟩
  ·obtain ⟨c, e⟩ := qaa_ (n := s.heap.objs.size + 1) k
   refine .inr ⟨.inl k, c, e, ?_⟩
   have q := x.cell y c e
   rw [uq_ ndP hp hu (by show scope.names.lookup y ≠ _; rw [k]; decide)] at q
   exact q
 ·exact e0.hok.fresh (Nat.le_of_lt (x.above y c (PySem.mem_of_lookup h)))
 ·unfold start
  show _ = N.length
  rw [List.length_append, List.length_map, List.length_replicate]
  omega
theorem qg1_ {CX : CXT} {P : Program} {w : World} {K : PySem.W.Frag} {mg : Str -> Option Value} {base : Heap} {k : Nat} {f : Addr} {name qual : Str} {params : Arguments} {body : List Stmt} {scope : Scope} {dV kV doc pm cdv ct oc : Value} {an od : Option Addr}
  {osl : Array (Option Value)} {N ps : List Str} {sp : Sp} (lk : K.lookup f = some ⟨oc, od, .func (PySem.W.fnOf name qual params body scope dV kV doc pm an cdv ct), osl⟩) (hcd : PySem.W.codeIn K cdv qual = true) (S : FnScope N ps scope)
  (len : ∀ vs H Q E, sp vs H Q E -> vs.length = ps.length)
  (hbody : ∀ (A : Around) (outer : List Env) (s : Shared) (H : Hp) (vs : List V) (Q : VK) (E : XK), Room k (A.deeper (envOfC qual scope s.heap.objs.size f cdv)) -> sp vs H Q E →
   ∃ t, PSs (cxOf CX P w K mg base N qual scope f cdv A outer s H E) body t /\ t { nx := fun _ H' => Q .non H', rt := Q } (start N vs) H) :
  FnOk P w K mg base CX (k + 1) f (PySem.W.fnOf name qual params body scope dV kV doc pm an cdv ct) ps sp := by
 refine ⟨len, fun A outer s H args us vs Q E hr e0 hb r hsp => ?_⟩
 have hl := len _ _ _ _ hsp
 have KX : K.In s.heap := e0.mod.kin.keeps fun b o e => (e0.bs b o e).1
 have lim : s.heap.NoLimit := e0.mod.nolimit.keeps fun b o e => (e0.bs b o e).1
 have hkind : ∀ y ∈ ps.zip us, scope.names.lookup y.1 = some .local \/ (scope.names.lookup y.1 = some .cell /\ ((cellsFrom (s.heap.objs.size + 1) scope.names []).lookup y.1).isSome = true) := fun ⟨n, v⟩ hy => by
  rcases S.par n (List.of_mem_zip hy).1 with q | q
  ·exact .inl q
  ·exact .inr ⟨q, PySem.W.cellsFrom_some _ _ _ (.inl q)⟩
 refine codeAny_call_function hr.depth (KX _ _ lk) rfl S.co S.gen rfl (PySem.W.codeRec_of KX hcd) (hb _ _ _ _ ?_)
 refine wpAny_newFunctionEnv_cells S.kind hkind fun env he s1 x => ?_
 subst he
 refine ⟨lim.keeps x.toInCall.keep, codeAny_func ?_⟩
 obtain ⟨t, ht, hq⟩ := hbody A outer s H vs Q E (hr.deeper _) hsp
 have I : Inv (cxOf CX P w K mg base N qual scope f cdv A outer s H E) [] (start N vs) H s1 := ur_ S hr.hd e0 hl r x
 refine wpAny_mono (ht [] s1 (start N vs) H _ I hq) (fun fl s' hs => ?_) fun e s' hs => hs
 have fin : ∀ {σ' : St} {H' : Hp} {v : V} {u : Value}, Inv (cxOf CX P w K mg base N qual scope f cdv A outer s H E) [] σ' H' s' -> RelV v u -> Q v H' -> CE outer P w H s Q u s' :=
  fun {σ' H' v u} J rv q => ⟨v, H', J.os, J.bare, J.base, J.hok, rv, q⟩
 cases fl with
 | ret u =>
  obtain ⟨v, σ', H', J, rv, q⟩ := hs
  exact fin J rv q
 | next =>
  obtain ⟨σ', H', J, q⟩ := hs
  exact fin (v := V.non) (u := Value.none) J rfl q
 | brk =>
  obtain ⟨_, _, _, q⟩ := hs
  exact False.elim q
 | cont =>
  obtain ⟨_, _, _, q⟩ := hs
  exact False.elim q
end L2
namespace L2
open PySem PySem.Spec PyProof.Rows
section
variable {X : Cx} {x : Str} {p pos : Pos} {e : Expr} {es : List Expr} {t : TA} {id T : String} {r : List V -> Hp -> VK -> Prop}
def tCB (r : List V -> Hp -> VK -> Prop) (t : TA) : TE := fun σ H Q => t σ H fun vs H1 => r vs H1 Q
theorem qw_ (hc : yM_ X (.builtin id) r) (hg : Gl X x) (hm : X.mg x = none) (hv : bootBuiltins x = some (.builtin id)) (ha : PA X (e :: es) t) (hn : x ≠ "__name__" := by decide) (hdb : (x == ("__debug__" : Str)) = false := by decide)
  (he : starEach (e :: es) X.env = (false, eval e X.env) :: starEach es X.env := by rfl) (hpl : (backTo pos (starEach es X.env)).any (·.1) = false := by rfl) : PE X (.Call (.Name x p) (e :: es) [] pos) (tCB r t) := by
 intro pins s σ H Q I h
 refine wpAny_Call_Name_kw (yr_ I hg hm hv ?_ hn hdb)
 exact PyProof.Rows.callWith_builtin1 (thn (ha pos pins s σ H _ I h) fun us s1 ⟨vs, H1, I1, r1, q1⟩ => hc pins s1 σ H1 vs us Q I1 r1 q1) he hpl
theorem yR_ (hc : yM_ X (.type T) r) (hg : Gl X x) (hm : X.mg x = none) (hv : bootBuiltins x = some (.type T)) (ha : PA X (e :: es) t) (hn : x ≠ "__name__" := by decide) (hdb : (x == ("__debug__" : Str)) = false := by decide)
  (he : starEach (e :: es) X.env = (false, eval e X.env) :: starEach es X.env := by rfl) (hpl : (backTo pos (starEach es X.env)).any (·.1) = false := by rfl) : PE X (.Call (.Name x p) (e :: es) [] pos) (tCB r t) := by
 intro pins s σ H Q I h
 refine wpAny_Call_Name_kw (yr_ I hg hm hv ?_ hn hdb)
 exact PyProof.Rows.callWith_type1 (thn (ha pos pins s σ H _ I h) fun us s1 ⟨vs, H1, I1, r1, q1⟩ => hc pins s1 σ H1 vs us Q I1 r1 q1) he hpl
end
end L2
namespace HT
open PySem PyProof.Rows
def lexLt : List Int -> List Int -> Bool
 | [], [] => false
 | [], _ :: _ => true
 | _ :: _, [] => false
 | x :: xs, y :: ys => if x = y then lexLt xs ys else decide (x < y)
section
open PySem.SeqAt
open PySem.AutoSeq1 (wpAny_loadPart')
open PySem.MeetsSeq PySem.MeetsSeq2 PySem.MeetsSeq3
end
section
variable {prog : Program} {w : World} {A : Around} {E : Value -> Shared -> Prop} {s : Shared}
def sIx (n d : Nat) : Option Int -> Nat
 | none => d
 | some v => if v < 0 then (v + (n : Int)).toNat else min v.toNat n
theorem sIx_none (n d : Nat) : sIx n d none = d := rfl
theorem sIx_nat (n d k : Nat) : sIx n d (some (k : Int)) = min k n := by
 show (if (k : Int) < 0 then ((k : Int) + (n : Int)).toNat else min (k : Int).toNat n) = min k n
 rw [if_neg (by omega), Int.toNat_natCast]
end
end HT
namespace L2
open PySem PySem.Spec PyProof.Rows
abbrev TO := St -> Hp -> (Option Int -> Hp -> Prop) -> Prop
def PO (X : Cx) (e : Option Expr) (t : TO) : Prop :=
 ∀ (pins : List (Addr × Obj)) (s : Shared) (σ : St) (H : Hp) (Q : Option Int -> Hp -> Prop), Inv X pins σ H s -> t σ H Q →
  wpAny (model X.prog X.w) X.A (evalPart e X.env) (fun u s' => ∃ o H', Inv X pins σ H' s' /\ IsPart u o /\ Q o H') X.xe s
def qg9_ : TO := fun _ H Q => Q none H
def qj6_ (t : TE) : TO := fun σ H Q => t σ H fun x H1 => ∃ i, x = .int i /\ Q (some i) H1
section
variable {X : Cx} {e : Expr} {te : TE} {lo hi : Option Expr} {tl th : TO} {pos p2 : Pos}
theorem z2_ : PO X none qg9_ := by
 intro pins s σ H Q I h
 rw [evalPart_none]
 exact wpAny_pure ⟨none, H, I, .none, h⟩
theorem z3_ (h : PE X e te) : PO X (some e) (qj6_ te) := by
 intro pins s σ H Q I hw
 rw [evalPart_some]
 refine thn (h pins s σ H _ I hw) fun u s1 ⟨x, H1, I1, r1, q1⟩ => ?_
 obtain ⟨i, rfl, q⟩ := q1
 obtain ⟨t, rfl⟩ := r1
 exact ⟨some i, H1, I1, .int i t, q⟩
def SlR (X : Cx) (r : V -> Option Int -> Option Int -> Hp -> VK -> Prop) : Prop :=
 ∀ (pins : List (Addr × Obj)) (s : Shared) (σ : St) (H : Hp) (x : V) (v vl vu : Value) (lo hi : Option Int) (sl : Addr) (Q : VK), Inv X pins σ H s -> RelV x v -> s.heap.IsSliceOf sl vl vu .none -> IsPart vl lo -> IsPart vu hi -> r x lo hi H Q →
  ∃ T id, typeLookup (.type T) "__getitem__" = pure (some (.builtin id)) ∧ s.TypeIs v T ∧ wpAny (model X.prog X.w) X.A (getItem v (.ref sl)) (EP X pins σ Q) X.xe s
def tSl (r : V -> Option Int -> Option Int -> Hp -> VK -> Prop) (te : TE) (tl th : TO) : TE := fun σ H Q => te σ H fun x H1 => tl σ H1 fun l H2 => th σ H2 fun u H3 => r x l u H3 Q
theorem zt_ {r : V -> Option Int -> Option Int -> Hp -> VK -> Prop} (hr : SlR X r) (he : PE X e te) (hl : PO X lo tl) (hu : PO X hi th) : PE X (.Subscript e (.Slice lo hi none p2) pos) (tSl r te tl th) := by
 intro pins s σ H Q I h
 refine Subscript_ (thn (he pins s σ H _ I h) fun v s1 ⟨x, H1, I1, r1, q1⟩ => ?_)
 refine wpAny_Slice (thn (hl pins s1 σ H1 _ I1 q1) fun vl s2 ⟨l, H2, I2, pl, q2⟩ => thn (hu pins s2 σ H2 _ I2 q2) fun vu s3 ⟨u, H3, I3, pu, q3⟩ => ?_)
 rw [evalPart_none]
 refine wpAny_pure ?_
 have I4 : Inv X pins σ H3 { s3 with heap := s3.heap.push { cls := .type "slice", data := .fields #[vl, vu, .none] } } := I3.kept (t' := s3.toks) fun b ob q => Heap.get?_push_of_some _ q
 obtain ⟨T, id, hT, ht, hg⟩ := hr pins { s3 with heap := s3.heap.push { cls := .type "slice", data := .fields #[vl, vu, .none] } } σ H3 x v vl vu l u s3.heap.objs.size Q I4 r1 (Heap.IsSliceOf.new ..) pl pu q3
 show wpAny (model X.prog X.w) X.A (subscriptTail e (.Slice lo hi none p2) v (.ref s3.heap.objs.size)) (EP X pins σ Q) X.xe { s3 with heap := s3.heap.push { cls := .type "slice", data := .fields #[vl, vu, .none] } }
 exact tail_any (ops := [.ref s3.heap.objs.size, v]) ht hT hg (by with_unfolding_all rfl)
def cutV (xs : List V) (lo hi : Option Int) : List V := (xs.drop (HT.sIx xs.length 0 lo)).take (HT.sIx xs.length xs.length hi - HT.sIx xs.length 0 lo)
theorem qbh_ (xs : List V) (lo hi : Option Int) : (cutV xs lo hi).length <= xs.length := by
 unfold cutV
 rw [List.length_take, List.length_drop]
 omega
def rSlT (K : PySem.W.Frag) : V -> Option Int -> Option Int -> Hp -> VK -> Prop := fun x lo hi H Q => ∃ a xs, x = .ref a /\ SqT K H a xs ∧
 ¬ (HT.sIx xs.length 0 lo = 0 /\ HT.sIx xs.length xs.length hi = xs.length) /\ ∀ p, H p = none -> Q (.ref p) (upd H p (.tup (cutV xs lo hi)))
def rLtT (K : PySem.W.Frag) : R2 := fun x y H Q => ∃ a b ns ms, x = .ref a /\ y = .ref b /\ SqT K H a (ns.map V.int) /\ SqT K H b (ms.map V.int) /\ Q (.bl (HT.lexLt ns ms)) H
def qle_ (K : PySem.W.Frag) : R2 := fun x y H Q => ∃ a b xs ys, x = .ref a /\ y = .ref b /\ SqT K H a xs /\ SqT K H b ys /\ xs ≠ [] /\ xs.length + ys.length <= sizeLine ∧
 (ys = [] -> Q (.ref a) H) /\ (ys ≠ [] -> ∀ p, H p = none -> Q (.ref p) (upd H p (.tup (xs ++ ys))))
end
end L2
namespace L2
open PySem PySem.Spec PyProof.Rows
def ixN (n : Nat) (i : Int) : Option Nat := if 0 <= i then (if i < n then some i.toNat else none) else if -(n : Int) <= i then some (i + n).toNat else none
def atI {α : Type} (xs : List α) (i : Int) : Option α := (ixN xs.length i).bind fun j => xs[j]?
theorem qb4_ {n : Nat} {i : Int} {j : Nat} (h : ixN n i = some j) : seqIndex? i n = some j /\ j < n /\ -(n : Int) <= i /\ i < n := by
 unfold ixN at h
 by_cases h0 : 0 <= i
 ·rw [if_pos h0] at h
  by_cases h1 : i < n
  ·rw [if_pos h1] at h
   have e : i.toNat = j := Option.some.inj h
   exact ⟨by rw [seqIndex_of h0 h1, e], by omega, by omega, h1⟩
  ·rw [if_neg h1] at h; cases h
 ·rw [if_neg h0] at h
  by_cases h1 : -(n : Int) <= i
  ·rw [if_pos h1] at h
   have e : (i + n).toNat = j := Option.some.inj h
   exact ⟨by rw [seqIndex_neg (by omega) h1, e], by omega, h1, by omega⟩
  ·rw [if_neg h1] at h; cases h
theorem qb5_ {α : Type} {xs : List α} {i : Int} {v : α} (h : atI xs i = some v) : ∃ j, seqIndex? i xs.length = some j /\ xs[j]? = some v /\ j < xs.length /\ -(xs.length : Int) <= i /\ i < xs.length := by
 unfold atI at h
 cases e : ixN xs.length i with
 | none => rw [e] at h; cases h
 | some j =>
  rw [e] at h
  obtain ⟨h1, h2, h3, h4⟩ := qb4_ e
  exact ⟨j, h1, h, h2, h3, h4⟩
theorem qy_ {α : Type} {xs : List α} {j : Nat} {v : α} (h : xs[j]? = some v) : atI xs (j : Int) = some v := by
 have hj : j < xs.length := (List.getElem?_eq_some_iff.mp h).1
 have e : ixN xs.length (j : Int) = some j := by
  unfold ixN
  rw [if_pos (by omega), if_pos (by omega)]; simp
 unfold atI; rw [e]; exact h
def qha_ (b : Expr) : Prop := ∀ o i, subscripted b false o i = operate [o, i] (getItem o i)
def IxR (X : Cx) (r : R2) : Prop :=
 ∀ (value slice : Expr) (pins : List (Addr × Obj)) (s : Shared) (σ : St) (H : Hp) (x y : V) (v u : Value) (Q : VK), Inv X pins σ H s -> RelV x v -> RelV y u -> r x y H Q →
  subscripted slice false v u = operate [v, u] (getItem v u) -> wpAny (model X.prog X.w) X.A (subscriptTail value slice v u) (EP X pins σ Q) X.xe s
def MtR (X : Cx) (id : String) (r : V -> List V -> Hp -> VK -> Prop) : Prop :=
 ∀ (pins : List (Addr × Obj)) (s : Shared) (σ : St) (H : Hp) (x : V) (xs : List V) (v : Value) (us : List Value) (Q : VK), Inv X pins σ H s -> RelV x v -> Vals xs us -> r x xs H Q →
  wpAny (model X.prog X.w) X.A (call (.builtin id) (v :: us)) (EP X pins σ Q) X.xe s
section
variable {X : Cx} {a b : Expr} {ta tb : TE} {pos : Pos}
theorem qD_ {r : R2} (hr : IxR X r) (ha : PE X a ta) (hb : PE X b tb) (hs : qha_ b) : PE X (.Subscript a b pos) (tOp r ta tb) := by
 intro pins s σ H Q I h
 exact Subscript_ (binT ha hb I h fun v u s2 x y H2 I2 rx ry q => hr a b pins s2 σ H2 x y v u Q I2 rx ry q (hs _ _))
def rIxL (K : PySem.W.Frag) : R2 := fun x y H Q => ∃ p xs i v, x = .ref p /\ y = .int i /\ SqL K H p xs /\ atI xs i = some v /\ Q v H
def rIxT (K : PySem.W.Frag) : R2 := fun x y H Q => ∃ p xs i v, x = .ref p /\ y = .int i /\ SqT K H p xs /\ atI xs i = some v /\ Q v H
def rIxS : R2 := fun x y H Q => ∃ z i c, x = .str z /\ y = .int i /\ z.length <= sizeLine /\ atI z.cps.toList i = some c /\ Q (.str ⟨#[c]⟩) H
theorem qz_ : IxR X (rIxL X.K) := by
 intro value slice pins s σ H x y v u Q I rx ry h hs
 obtain ⟨p, xs, i, z, rfl, rfl, hq, he, q⟩ := h
 cases rx
 obtain ⟨t, rfl⟩ := ry
 obtain ⟨its, r, pl, hz⟩ := I.list hq
 obtain ⟨j, h1, h2, h3, h4, h5⟩ := qb5_ he
 obtain ⟨w, ew, rw'⟩ := r.get h2
 have hl := r.length
 have hn := vB_
 have fin : EP X pins σ Q w s := ⟨z, H, I, rw', q⟩
 by_cases h0 : 0 <= i
 ·have hj : i.toNat = j := by
   rw [seqIndex_of h0 h5] at h1
   exact Option.some.inj h1
  exact item_listR pl.isList h0 (by omega) (by rw [hj]; simpa using ew) fin hs
 ·have hj : (i + (its.toArray.size : Int)).toNat = j := by
   rw [seqIndex_neg (by omega) h4] at h1
   rw [List.size_toArray, ← hl]
   exact Option.some.inj h1
  exact subscriptTail_builtinR (x := w) pl.isList.typeIs slot_list_getitem.lookup
   (wpAny_getItem_list_neg (Q := fun r s' => r = w /\ EP X pins σ Q r s') pl.isList (by omega) (by rw [List.size_toArray] <;> omega) (by omega) (by rw [hj]; simpa using ew) ⟨rfl, fin⟩) hs
theorem qab_ : IxR X (rIxT X.K) := by
 intro value slice pins s σ H x y v u Q I rx ry h hs
 obtain ⟨p, xs, i, z, rfl, rfl, hq, he, q⟩ := h
 cases rx
 obtain ⟨t, rfl⟩ := ry
 obtain ⟨its, r, pl, hz⟩ := I.tuple hq
 obtain ⟨j, h1, h2, h3, h4, h5⟩ := qb5_ he
 obtain ⟨w, ew, rw'⟩ := r.get h2
 have hl := r.length
 have hn := vB_
 have fin : EP X pins σ Q w s := ⟨z, H, I, rw', q⟩
 exact subscriptTail_builtinR (x := w) pl.typeIs slot_tuple_getitem.lookup
  (getItem_tuple (j := j) (Q := fun r s' => r = w /\ EP X pins σ Q r s') pl (by omega) (by omega) (by rw [List.size_toArray, ← hl]; exact h1) (by simpa using ew) ⟨rfl, fin⟩) hs
def rIx (K : PySem.W.Frag) : R2 := fun x y H Q => rIxL K x y H Q \/ rIxT K x y H Q \/ rIxS x y H Q
theorem qcu_ (its : List Value) (n j : Nat) (u : Value) : Obj.mapSeq (·.setIfInBounds j u) { cls := .type "list", data := .seq its.toArray n } = { cls := .type "list", data := .seq (its.set j u).toArray n } := by
 simp [Obj.mapSeq]
theorem Inv.lst {pins : List (Addr × Obj)} {σ : St} {H : Hp} {s : Shared} {p : Addr} {xs : List V} (I : Inv X pins σ H s) (h : H p = some (.lst xs)) :
  ∃ (its : List Value) (n : Nat), Vals xs its ∧ s.heap.get? p = some { cls := .type "list", data := .seq its.toArray n } ∧ xs.length ≤ sizeLine := by
 obtain ⟨z, its, n, r, e⟩ := I.hok p _ h
 exact ⟨its, n, r, e, z⟩
theorem Inv.lstUpd {pins : List (Addr × Obj)} {σ : St} {H : Hp} {s : Shared} {p : Addr} {xs ys : List V} {its its' : List Value} {n n' : Nat} {f : Obj -> Obj} (I : Inv X pins σ H s) (h : H p = some (.lst xs))
  (ho : s.heap.get? p = some { cls := .type "list", data := .seq its.toArray n }) (hf : f { cls := .type "list", data := .seq its.toArray n } = { cls := .type "list", data := .seq its'.toArray n' }) (r : Vals ys its') (hz : ys.length ≤ sizeLine) (t : Nat) :
  Inv X pins σ (upd H p (.lst ys)) { s with heap := s.heap.update p f, toks := t } := by
 have e : (s.heap.update p f).get? p = some { cls := .type "list", data := .seq its'.toArray n' } := by
  rw [Heap.get?_update_self f ho (by rw [hf] <;> rfl), hf]
 refine I.write (x := p) (e := p) (by rw [h]; trivial) (.inl rfl) (fun b u hb q => (Heap.get?_update_other _ _ (Ne.symm hb)).trans q) ⟨_, e⟩ ?_
 exact ⟨hz, its', n', r, e⟩
def qj7_ : V -> V -> V -> Hp -> (Hp -> Prop) -> Prop := fun o i v H Q => ∃ p xs k j, o = .ref p /\ i = .int k /\ H p = some (.lst xs) /\ ixN xs.length k = some j /\ Q (upd H p (.lst (xs.set j v)))
theorem yp_ : PSet X qj7_ := by
 intro pins s σ H o i v ov iv u Q I ro ri rv h
 obtain ⟨p, xs, k, j, rfl, rfl, hp, hj, q⟩ := h
 cases ro
 obtain ⟨t, rfl⟩ := ri
 obtain ⟨its, n, r, ho, hz⟩ := I.lst hp
 obtain ⟨h1, h2, h3, h4⟩ := qb4_ hj
 have hl := r.length
 have hn := vB_
 have I' : Inv X pins σ (upd H p (.lst (xs.set j v))) { s with heap := s.heap.update p (Obj.mapSeq (·.setIfInBounds j u)) } :=
  I.lstUpd hp ho (qcu_ its n j u) (r.set rv j) (by rw [List.length_set]; exact hz) s.toks
 by_cases h0 : 0 <= k
 ·have hk : k.toNat = j := by
   rw [seqIndex_of h0 h4] at h1
   exact Option.some.inj h1
  exact PySem.W.ki_setAt ho h0 (by omega) (by rw [List.size_toArray, ← hl]; exact h4) (by rw [hk]; exact ⟨_, I', q⟩)
 ·have hk : (k + (its.toArray.size : Int)).toNat = j := by
   rw [seqIndex_neg (by omega) h3] at h1
   rw [List.size_toArray, ← hl]
   exact Option.some.inj h1
  exact PySem.W.ki_setBack ho (by omega) (by rw [List.size_toArray, ← hl]; exact h3) (by omega) (by rw [hk]; exact ⟨_, I', q⟩)
theorem qac_ (lo hi : Option Int) (n : Nat) : (sliceBounds lo hi none n).1 = ((HT.sIx n 0 lo : Nat) : Int) /\ (sliceBounds lo hi none n).2.1 = ((HT.sIx n n hi : Nat) : Int) /\ (sliceBounds lo hi none n).2.2 = 1 := by
 refine ⟨?_, ?_, rfl⟩
 ·cases lo with
  | none => simp [sliceBounds, HT.sIx]
  | some i =>
   simp only [sliceBounds, HT.sIx, Option.getD_none, show (1 : Int) > 0 by decide, if_true]
   by_cases h : i < 0
   ·simp only [h, if_true] <;> omega
   ·simp only [h, if_false] <;> omega
 ·cases hi with
  | none => simp [sliceBounds, HT.sIx]
  | some i =>
   simp only [sliceBounds, HT.sIx, Option.getD_none, show (1 : Int) > 0 by decide, if_true]
   by_cases h : i < 0
   ·simp only [h, if_true] <;> omega
   ·simp only [h, if_false] <;> omega
theorem uP_ (its : List Value) (lo hi : Option Int) : slicePick its.toArray lo hi none = ((its.drop (HT.sIx its.length 0 lo)).take (HT.sIx its.length its.length hi - HT.sIx its.length 0 lo)).toArray := by
 obtain ⟨h1, h2, h3⟩ := qac_ lo hi its.toArray.size
 unfold slicePick
 rw [h1, h2, h3]
 simp only [sliceRange_one, pick_run, List.size_toArray] <;> rfl
def rSlL (K : PySem.W.Frag) : V -> Option Int -> Option Int -> Hp -> VK -> Prop := fun x lo hi H Q => ∃ a xs, x = .ref a /\ SqL K H a xs /\ ∀ p, H p = none -> Q (.ref p) (upd H p (.lst (cutV xs lo hi)))
theorem z4_ : SlR X (rSlL X.K) := by
 intro pins s σ H x v vl vu lo hi sl Q I rx hs pl pu h
 obtain ⟨a, xs, rfl, hx, q⟩ := h
 cases rx
 obtain ⟨its, r, ht, hz⟩ := I.list hx
 have hlen := r.length
 refine ⟨"list", _, slot_list_getitem.lookup, ht.isList.typeIs, ?_⟩
 refine wpAny_getItem_list_slice ht.isList hs pl pu .none (by simp) ?_ (by rw [List.size_toArray] <;> omega)
 rw [uP_, ← hlen]
 refine ⟨.ref s.heap.objs.size, _, I.laid (t' := s.toks) (o := .lst (cutV xs lo hi)) (fun b ob q => Heap.get?_push_of_some _ q) (Nat.le_refl _) ?_, rfl, q _ (I.hok.fresh (Nat.le_refl _))⟩
 exact ⟨Nat.le_trans (qbh_ xs lo hi) hz, _, 0, (r.drop (HT.sIx xs.length 0 lo)).take (HT.sIx xs.length xs.length hi - HT.sIx xs.length 0 lo), Heap.get?_push_size _ rfl⟩
def yu_ : V -> Bool
 | .non => true
 | .bl _ => true
 | .int _ => true
 | .str _ => true
 | _ => false
def eqV : V -> V -> Bool
 | .non, .non => true
 | .bl a, .bl b => a == b
 | .bl a, .int b => (if a then 1 else 0) == b
 | .int a, .bl b => a == (if b then 1 else 0)
 | .int a, .int b => a == b
 | .str a, .str b => a == b
 | _, _ => false
theorem qdv_ {A : Around} {s : Shared} {y x : V} {u v : Value} (ry : RelV y u) (rx : RelV x v) (fy : yu_ y = true) (fx : yu_ x = true) : SeqAt.EqAt A s u v (eqV y x) := by
 cases y with
 | non =>
  cases ry
  cases x with
  | non => cases rx; exact SeqAt.EqAt.same _
  | bl b => cases rx; exact SeqAt.EqAt.none_bool b
  | int b => obtain ⟨t, rfl⟩ := rx; exact SeqAt.EqAt.none_int b t
  | str b => obtain ⟨t, rfl⟩ := rx; exact SeqAt.EqAt.none_str b t
  | _ => exact absurd (show false = true from fx) Bool.false_ne_true
 | bl a =>
  cases ry
  cases x with
  | non => cases rx; exact SeqAt.EqAt.bool_none a
  | bl b => cases rx; exact SeqAt.EqAt.bool_bool a b
  | int b => obtain ⟨t, rfl⟩ := rx; exact SeqAt.EqAt.bool_int a b t
  | str b => obtain ⟨t, rfl⟩ := rx; exact SeqAt.EqAt.bool_str a b t
  | _ => exact absurd (show false = true from fx) Bool.false_ne_true
 | int a =>
  obtain ⟨t', rfl⟩ := ry
  cases x with
  | non => cases rx; exact SeqAt.EqAt.int_none a t'
  | bl b => cases rx; exact SeqAt.EqAt.int_bool a t' b
  | int b => obtain ⟨t, rfl⟩ := rx; exact SeqAt.EqAt.int_int a t' b t
  | str b => obtain ⟨t, rfl⟩ := rx; exact SeqAt.EqAt.int_str a t' b t
  | _ => exact absurd (show false = true from fx) Bool.false_ne_true
 | str a =>
  obtain ⟨t', rfl⟩ := ry
  cases x with
  | non => cases rx; exact SeqAt.EqAt.str_none a t'
  | bl b => cases rx; exact SeqAt.EqAt.str_bool a t' b
  | int b => obtain ⟨t, rfl⟩ := rx; exact SeqAt.EqAt.str_int a t' b t
  | str b => obtain ⟨t, rfl⟩ := rx; exact SeqAt.EqAt.str_str a t' b t
  | _ => exact absurd (show false = true from fx) Bool.false_ne_true
 | _ => exact absurd (show false = true from fy) Bool.false_ne_true
def eqU (x : V) (u : Value) : Bool := match u with
 | .none => eqV .non x
 | .bool b => eqV (.bl b) x
 | .int i _ => eqV (.int i) x
 | .str z _ => eqV (.str z) x
 | _ => false
theorem qdw_ {x y : V} {u : Value} (r : RelV y u) (f : yu_ y = true) : eqU x u = eqV y x := by
 cases y with
 | non => cases r; rfl
 | bl b => cases r; rfl
 | int i => obtain ⟨t, rfl⟩ := r; rfl
 | str z => obtain ⟨t, rfl⟩ := r; rfl
 | _ => exact absurd (show false = true from f) Bool.false_ne_true
theorem v1_ {x : V} : ∀ {xs : List V} {us : List Value}, Vals xs us -> xs.all yu_ = true -> us.any (eqU x) = xs.any fun y => eqV y x
 | _, _, .nil, _ => rfl
 | y :: xs, u :: us, .cons r t, f => by
  rw [List.all_cons, Bool.and_eq_true] at f
  rw [List.any_cons, List.any_cons, qdw_ r f.1, v1_ t f.2]
theorem vk_ {A : Around} {s : Shared} {x : V} {v : Value} (rx : RelV x v) (fx : yu_ x = true) : ∀ {xs : List V} {us : List Value}, Vals xs us -> xs.all yu_ = true -> ∀ u ∈ us, SeqAt.EqAt A s u v (eqU x u)
 | _, _, .nil, _ => fun u hu => by cases hu
 | y :: xs, u :: us, .cons r t, f => fun u' hu => by
  rw [List.all_cons, Bool.and_eq_true] at f
  rcases List.mem_cons.mp hu with rfl | hu
  ·rw [qdw_ r f.1]; exact qdv_ r rx f.1 fx
  ·exact vk_ rx fx t f.2 u' hu
def inV (x : V) (xs : List V) : Bool := xs.any fun y => eqV y x
def rIn (K : PySem.W.Frag) (neg : Bool) : R2 := fun x y H Q => ∃ p xs, y = .ref p /\ (SqL K H p xs \/ SqT K H p xs) /\ yu_ x = true /\ xs.all yu_ = true /\ Q (.bl (if neg then !inV x xs else inV x xs)) H
theorem qad_ : OpR X (compareOp .NotIn) (rIn X.K true) := by
 intro pins s σ H x y v u Q I rx ry h
 obtain ⟨p, xs, rfl, hq, fx, fs, q⟩ := h
 cases ry
 rcases hq with hq | hq
 ·obtain ⟨its, r, pl, hz⟩ := I.list hq
  refine SeqAt.notIn_listAt (eqU x) pl.isList (fun w hw => vk_ rx fx r fs w (by simpa using hw)) ⟨.bl _, H, I, rfl, ?_⟩
  rw [show its.toArray.any (eqU x) = its.any (eqU x) by simp, v1_ r fs]
  exact q
 ·obtain ⟨its, r, pl, hz⟩ := I.tuple hq
  refine SeqAt.notIn_tupleAt (eqU x) pl (fun w hw => vk_ rx fx r fs w (by simpa using hw)) ⟨.bl _, H, I, rfl, ?_⟩
  rw [show its.toArray.any (eqU x) = its.any (eqU x) by simp, v1_ r fs]
  exact q
theorem qt_ : yM_ X (.builtin "len") (fun xs H Q => ∃ p ys, xs = [.ref p] ∧ (SqL X.K H p ys ∨ SqT X.K H p ys) ∧ Q (.int ys.length) H) := by
 intro pins s σ H xs us Q I r h
 obtain ⟨p, ys, rfl, hq, q⟩ := h
 obtain ⟨u, rfl, rx⟩ := yY_ r
 cases rx
 have hn := vB_
 rcases hq with hq | hq
 ·obtain ⟨its, r', pl, hz⟩ := I.list hq
  have hlen := r'.length
  exact Calls.call_len_list pl.isList (by simp only [List.size_toArray] <;> omega) ⟨.int ys.length, H, I.tok _, ⟨s.toks + 1, by rw [List.size_toArray, hlen]⟩, q⟩
 ·obtain ⟨its, r', pl, hz⟩ := I.tuple hq
  have hlen := r'.length
  exact len_tuple pl (by simp only [List.size_toArray] <;> omega) ⟨.int ys.length, H, I.tok _, ⟨s.toks + 1, by rw [List.size_toArray, hlen]⟩, q⟩
theorem j5_ : yM_ X (.type "list") (fun xs H Q => ∃ p ys, xs = [.ref p] ∧ (SqL X.K H p ys ∨ SqT X.K H p ys) ∧ ∀ l, H l = none → Q (.ref l) (upd H l (.lst ys))) := by
 intro pins s σ H xs us Q I r h
 obtain ⟨p, ys, rfl, hq, q⟩ := h
 obtain ⟨u, rfl, rx⟩ := yY_ r
 cases rx
 have fin : ∀ (its : List Value), Vals ys its -> ys.length <= sizeLine -> ∀ (h' : Heap) (c' : Nat), (∀ b o', s.heap.get? b = some o' -> h'.get? b = some o') →
   h'.get? s.heap.objs.size = some { cls := .type "list", dict := none, data := .seq its.toArray c', slots := #[] } → EP X pins σ Q (.ref s.heap.objs.size) { s with heap := h' } := fun its r' hz h' c' kp e =>
  ⟨.ref s.heap.objs.size, _, I.laid (t' := s.toks) kp (Nat.le_refl _) (show ObjOk X.prog X.w _ h' _ (.lst ys) from ⟨hz, its, c', r', e⟩), rfl, q _ (I.hok.fresh (Nat.le_refl _))⟩
 rcases hq with hq | hq
 ·obtain ⟨its, r', pl, hz⟩ := I.list hq
  have hlen := r'.length
  obtain ⟨o, ho, hc, n, hd⟩ := pl.isList
  exact call_list_seq p (.inl rfl) ho hc hd (fun h' c' kp e => fin its r' hz h' c' kp e) (by simp only [List.size_toArray] <;> omega)
 ·obtain ⟨its, r', pl, hz⟩ := I.tuple hq
  have hlen := r'.length
  obtain ⟨o, ho, hc, n, hd⟩ := pl
  exact call_list_seq p (.inr rfl) ho hc hd (fun h' c' kp e => fin its r' hz h' c' kp e) (by simp only [List.size_toArray] <;> omega)
def tyV (K : PySem.W.Frag) (T : String) (x : V) (H : Hp) : Prop := match x with
 | .str _ => T = "str"
 | .int _ => T = "int"
 | .ref p => (T = "list" ∧ ∃ xs, SqL K H p xs) ∨ (T = "tuple" ∧ ∃ o, K.lookup p = some o ∧ o.cls = .type "tuple" ∧ o.dict = none) ∨
   (T = "dict" ∧ ((∃ kvs, H p = some (.dK kvs)) ∨ ∃ kvs, H p = some (.dT kvs))) ∨ (T = "set" ∧ ∃ S n, H p = some (.set S n))
 | _ => False
theorem qdx_ {pins : List (Addr × Obj)} {σ : St} {H : Hp} {s : Shared} {T : String} {x : V} {v : Value} (I : Inv X pins σ H s) (r : RelV x v) (ty : tyV X.K T x H) :
  s.TypeIs v T /\ ∀ a, v = .ref a -> ∃ ob, s.heap.get? a = some ob /\ ob.dict = none := by
 cases x with
 | str z =>
  obtain ⟨t, rfl⟩ := r
  cases (show T = "str" from ty)
  exact ⟨typeIs_str s z t, fun _ e => nomatch e⟩
 | int i =>
  obtain ⟨t, rfl⟩ := r
  cases (show T = "int" from ty)
  exact ⟨typeIs_int s i t, fun _ e => nomatch e⟩
 | ref p =>
  cases r
  rcases ty with ⟨rfl, xs, hq⟩ | ⟨rfl, o, hk, hc, hd⟩ | ⟨rfl, hk⟩ | ⟨rfl, S, n, hk⟩
  ·obtain ⟨its, _, pl, _⟩ := I.list hq
   refine ⟨pl.isList.typeIs, fun a e => ?_⟩
   cases e
   obtain ⟨o, n, e, c, hd, _⟩ := pl
   exact ⟨o, e, hd⟩
  ·refine ⟨⟨o, I.kIn p o hk, hc⟩, fun a e => ?_⟩
   cases e
   exact ⟨o, I.kIn _ o hk, hd⟩
  ·have z : ∃ o, s.heap.get? p = some o /\ o.ExactDict := by
    rcases hk with ⟨kvs, hk⟩ | ⟨kvs, hk⟩
    ·obtain ⟨_, _, _, _, o, _, _, e, ex, _⟩ := I.hok p _ hk
     exact ⟨o, e, ex⟩
    ·obtain ⟨_, _, _, _, o, _, _, e, ex, _⟩ := I.hok p _ hk
     exact ⟨o, e, ex⟩
   obtain ⟨o, e, ex⟩ := z
   refine ⟨⟨o, e, ex.1⟩, fun a e2 => ?_⟩
   cases e2
   exact ⟨o, e, ex.2.1⟩
  ·obtain ⟨o, _, _, _, e, ex, _⟩ := I.hok p _ hk
   refine ⟨⟨o, e, ex.1⟩, fun a e2 => ?_⟩
   cases e2
   exact ⟨o, e, ex.2.1⟩
 | _ => exact False.elim ty
def tBM0 (K : PySem.W.Frag) (T : String) (r : V -> List V -> Hp -> VK -> Prop) (to : TE) : TE := fun σ H Q => to σ H fun x H1 => tyV K T x H1 /\ r x [] H1 Q
def tBM (K : PySem.W.Frag) (T : String) (r : V -> List V -> Hp -> VK -> Prop) (to : TE) (t : TA) : TE := fun σ H Q => to σ H fun x H1 => tyV K T x H1 /\ t σ H1 fun xs H2 => r x xs H2 Q
variable {o e : Expr} {es : List Expr} {to : TE} {t : TA} {name : Str} {apos cpos : Pos} {T id : String} {r : V -> List V -> Hp -> VK -> Prop}
theorem zG_ (pa : PlainAttrs T) (slot : Slot T name id) (hty : typeOf (.builtin id) = pure (.type "method_descriptor")) (hm : MtR X id r) (ho : PE X o to)
  (hbase : attributeBase o name X.env (eval o X.env) = eval o X.env := by rfl) (hline : (apos.endLine == cpos.line) = true := by rfl) : PE X (.Call (.Attribute o name apos) [] [] cpos) (tBM0 X.K T r to) := by
 intro pins s σ H Q I h
 refine wpAny_Call_method0_late hbase hline (thn (ho pins s σ H _ I h) fun v s1 ⟨x, H1, I1, r1, ty, q1⟩ => ?_)
 obtain ⟨h1, h2⟩ := qdx_ I1 r1 ty
 exact ⟨T, id, pa, slot, hty, h1, h2, Calls.callWith_builtin rfl (PySem.evalArgs_none (hm pins s1 σ H1 x [] v [] Q I1 r1 .nil q1))⟩
theorem yc_ (pa : PlainAttrs T) (slot : Slot T name id) (hty : typeOf (.builtin id) = pure (.type "method_descriptor")) (hm : MtR X id r) (ho : PE X o to) (ha : PA X (e :: es) t)
  (hbase : attributeBase o name X.env (eval o X.env) = eval o X.env := by rfl)
  (hfew : ((backTo cpos (starEach (e :: es) X.env)).all (fun x => !x.1) && (backToKw cpos (keywordEach [] X.env)).all (fun x => x.1.isSome)
   && decide ((e :: es).length + ([] : List Keyword).length + (if ([] : List Keyword).isEmpty then 0 else 1) < 30)) = true := by rfl)
  (hline : (apos.endLine == cpos.line) = true := by rfl) (hs : starEach (e :: es) X.env = (false, eval e X.env) :: starEach es X.env := by rfl) (hplain : (backTo cpos (starEach es X.env)).any (·.1) = false := by rfl) :
  PE X (.Call (.Attribute o name apos) (e :: es) [] cpos) (tBM X.K T r to t) := by
 intro pins s σ H Q I h
 refine wpAny_Call_method_late hbase hfew hline rfl (thn (ho pins s σ H _ I h) fun v s1 ⟨x, H1, I1, r1, ty, q1⟩ => ?_)
 obtain ⟨h1, h2⟩ := qdx_ I1 r1 ty
 refine ⟨T, id, pa, slot, hty, h1, h2, ?_⟩
 have hA := ha cpos pins s1 σ H1 _ I1 q1
 rw [hs] at hA ⊢
 refine Calls.callWith_builtin (by show (false || (backTo cpos (starEach es X.env)).any (·.1)) = false; rw [hplain] <;> rfl) (Calls.evalArgs_plain ?_)
 exact thn hA fun us s2 ⟨vs, H2, I2, r2, q2⟩ => hm pins s2 σ H2 x vs v us Q I2 r1 r2 q2
end
end L2
namespace L2
open PySem PySem.Spec PyProof.Rows
def MtM (X : Cx) (id : String) (r : V -> List V -> Hp -> VK -> Prop) : Prop :=
 ∀ (pins : List (Addr × Obj)) (s : Shared) (σ : St) (H : Hp) (x : V) (xs : List V) (v : Value) (us : List Value) (Q : VK), Inv X pins σ H s -> RelV x v -> Vals xs us -> r x xs H Q →
  wpAny (model X.prog X.w) X.A (call (.builtin id) (v :: us)) (EP X pins σ Q) X.xe s
theorem Vals.one : ∀ {x : V} {us : List Value}, Vals [x] us -> ∃ u, us = [u] /\ RelV x u
 | _, _, .cons r .nil => ⟨_, rfl, r⟩
theorem Vals.rep {xs : List V} {us : List Value} (h : Vals xs us) : ∀ k : Nat, Vals (List.replicate k xs).flatten (List.replicate k us).flatten
 | 0 => .nil
 | k + 1 => by
  rw [List.replicate_succ, List.replicate_succ, List.flatten_cons, List.flatten_cons]
  exact Vals.append h (Vals.rep h k)
theorem us_ (its : List Value) : ∀ (k : Nat) (acc : List Value),
  List.foldl (fun x1 x2 => x1 ++ x2) acc.toArray (List.replicate k its.toArray) = (acc ++ (List.replicate k its).flatten).toArray
 | 0, acc => by simp
 | k + 1, acc => by
  have e : acc.toArray ++ its.toArray = (acc ++ its).toArray := by simp
  have e2 : (acc ++ its) ++ (List.replicate k its).flatten = acc ++ (List.replicate (k + 1) its).flatten := by
   rw [List.replicate_succ, List.flatten_cons, List.append_assoc]
  rw [<- e2, ← us_ its k (acc ++ its), ← e, List.replicate_succ, List.foldl_cons]
section
variable {X : Cx} {pins : List (Addr × Obj)} {σ : St} {H : Hp} {s : Shared} {l b : Addr} {xs ys zs : List V}
theorem Inv.lset {its its' : List Value} {n : Nat} {f : Array Value -> Array Value} {t' : Nat} (I : Inv X pins σ H s) (hH : H l = some (.lst xs))
  (e : s.heap.get? l = some { cls := .type "list", data := .seq its.toArray n }) (hf : f its.toArray = its'.toArray) (hv : Vals ys its') (hz : ys.length ≤ sizeLine) :
  Inv X pins σ (upd H l (.lst ys)) { s with heap := s.heap.update l (Obj.mapSeq f), toks := t' } := by
 have q := PySem.IsL.update e f
 rw [hf] at q
 refine I.write (x := l) (e := l) (by rw [hH]; exact trivial) (.inl rfl) (fun b' u hb hu => (Heap.get?_update_other s.heap (Obj.mapSeq f) (Ne.symm hb)).trans hu) ⟨_, q⟩ ?_
 exact ⟨hz, its', _, hv, q⟩
theorem Inv.lnew {its : List Value} {t' : Nat} (I : Inv X pins σ H s) (hv : Vals ys its) (hz : ys.length <= sizeLine) :
  Inv X pins σ (upd H s.heap.objs.size (.lst ys)) { s with heap := s.heap.push { cls := .type "list", data := .seq its.toArray }, toks := t' } :=
 I.laid (fun _ _ q => Heap.get?_push_of_some _ q) (Nat.le_refl _) ⟨hz, its, 0, hv, Heap.get?_push_size _ rfl⟩
theorem Inv.fresh (I : Inv X pins σ H s) : H s.heap.objs.size = none := I.hok.fresh (Nat.le_refl _)
theorem Inv.lstM (I : Inv X pins σ H s) (hH : H l = some (.lst xs)) : xs.length ≤ sizeLine ∧ ∃ (its : List Value) (n : Nat), Vals xs its ∧ xs.length = its.length ∧ s.heap.get? l = some { cls := .type "list", data := .seq its.toArray n } := by
 obtain ⟨z, its, n, r, e⟩ := I.hok l _ hH
 exact ⟨z, its, n, r, r.length, e⟩
theorem qfk_ {n : Nat} (h : n <= sizeLine) : Builtin.List.listTooLong n = false := by
 unfold Builtin.List.listTooLong
 exact decide_eq_false (by omega)
end
section
variable {X : Cx}
def qhb_ : V -> List V -> Hp -> VK -> Prop := fun x vs H Q => ∃ l xs y, x = .ref l /\ vs = [y] /\ H l = some (.lst xs) /\ xs.length < sizeLine /\ Q .non (upd H l (.lst (xs ++ [y])))
theorem jf_ : MtM X "list.append" qhb_ := by
 intro pins s σ H x vs v us Q I rx rv h
 obtain ⟨l, xs, y, rfl, rfl, hH, hz, q⟩ := h
 cases rx
 obtain ⟨u, rfl, ru⟩ := rv.one
 obtain ⟨z, its, n, r, hl, e⟩ := I.lstM hH
 refine call_meets F.slot_list_append ⟨_, e, rfl⟩ F.entry_list_append (F.args_list_append_2 _ _) (PySem.list_append l its.toArray n u (by rw [List.size_toArray]; omega)) ⟨e, ?_⟩
 refine ⟨.non, _, I.lset (its' := its ++ [u]) hH e (by simp) (r.append (.cons ru .nil)) ?_, rfl, q⟩
 rw [List.length_append, List.length_singleton]
 omega
def qkn_ : V -> List V -> Hp -> VK -> Prop := fun x vs H Q => ∃ l b xs zs, x = .ref l /\ vs = [.ref b] /\ H l = some (.lst xs) /\ H b = some (.lst zs) /\ xs.length + zs.length <= sizeLine /\ Q .non (upd H l (.lst (xs ++ zs)))
def rPop : V -> List V -> Hp -> VK -> Prop := fun x vs H Q => ∃ l xs y, x = .ref l /\ vs = [] /\ H l = some (.lst xs) /\ xs[xs.length - 1]? = some y /\ Q y (upd H l (.lst xs.dropLast))
def qkt_ : V -> List V -> Hp -> VK -> Prop := fun x vs H Q => ∃ l xs i k y, x = .ref l /\ vs = [.int i] /\ H l = some (.lst xs) /\ -(2 ^ 63) <= i /\ i < 2 ^ 63 /\ seqIndex? i xs.length = some k /\ xs[k]? = some y /\ Q y (upd H l (.lst (xs.eraseIdx k)))
def qkl_ : V -> List V -> Hp -> VK -> Prop := fun x vs H Q => ∃ l xs, x = .ref l /\ vs = [] /\ H l = some (.lst xs) /\ Q .non (upd H l (.lst xs.reverse))
def qku_ : V -> List V -> Hp -> VK -> Prop := fun x vs H Q => ∃ l xs, x = .ref l /\ vs = [] /\ H l = some (.lst xs) /\ Q .non (upd H l (.lst []))
def rCat : R2 := fun x y H Q => ∃ l b xs zs, x = .ref l /\ y = .ref b /\ H l = some (.lst xs) /\ H b = some (.lst zs) /\ xs.length + zs.length <= sizeLine /\ ∀ p, H p = none -> Q (.ref p) (upd H p (.lst (xs ++ zs)))
theorem qi1_ : OpR X (binaryOp .Add) rCat := by
 intro pins s σ H x y v u Q I rx ry h
 obtain ⟨l, b, xs, zs, rfl, rfl, hH, hB, hz, q⟩ := h
 cases rx
 cases ry
 obtain ⟨z, its, n, r, hl, e⟩ := I.lstM hH
 obtain ⟨z2, its2, n2, r2, hl2, e2⟩ := I.lstM hB
 refine PySem.P.add_list e e2 ?_ (by rw [List.size_toArray, List.size_toArray]; omega)
 have ea : its.toArray ++ its2.toArray = (its ++ its2).toArray := by simp
 rw [ea]
 exact ⟨.ref _, _, I.lnew (t' := s.toks) (r.append r2) (by rw [List.length_append]; omega), rfl, q _ I.fresh⟩
def rRep : R2 := fun x y H Q => ∃ l k xs, x = .ref l /\ y = .int k /\ H l = some (.lst xs) /\ -(2 ^ 63) <= k /\ k < 2 ^ 63 /\ xs.length * k.toNat <= sizeLine ∧
 ∀ p, H p = none -> Q (.ref p) (upd H p (.lst (List.replicate k.toNat xs).flatten))
theorem qhc_ {α : Type} (xs : List α) (k : Nat) : (List.replicate k xs).flatten.length = k * xs.length := by
 induction k with
 | zero => simp
 | succ k ih => rw [List.replicate_succ, List.flatten_cons, List.length_append, ih, Nat.succ_mul, Nat.add_comm]
theorem vF_ : OpR X (binaryOp .Mult) rRep := by
 intro pins s σ H x y v u Q I rx ry h
 obtain ⟨l, k, xs, rfl, rfl, hH, h1, h2, hz, q⟩ := h
 cases rx
 obtain ⟨t, rfl⟩ := ry
 obtain ⟨z, its, n, r, hl, e⟩ := I.lstM hH
 have hlen : its.toArray.size * k.toNat <= sizeLine := by rw [List.size_toArray, ← hl]; exact hz
 have hcap : ¬ its.toArray.size * k.toNat > (2 ^ 63 - 1) / 8 := by
  have : (sizeLine : Nat) <= (2 ^ 63 - 1) / 8 := by decide
  omega
 have hfit : ¬ (!Builtin.List.listFitsIndex k) = true := by
  rw [fitsIndex_both h1 h2]
  exact Bool.false_ne_true
 have hlong : ¬ Builtin.List.listTooLong (its.toArray.size * k.toNat) = true := by
  rw [qfk_ hlen]
  exact Bool.false_ne_true
 have hnew : List.foldl (fun x1 x2 => x1 ++ x2) #[] (List.replicate (if its.toArray.isEmpty = true then 0 else k.toNat) its.toArray) = (List.replicate k.toNat its).flatten.toArray := by
  have f0 : ∀ m : Nat, List.foldl (fun x1 x2 => x1 ++ x2) #[] (List.replicate m its.toArray) = (List.replicate m its).flatten.toArray := fun m => by
   have := us_ its m []
   rw [List.nil_append] at this
   exact this
  rw [f0]
  cases its with
  | nil => simp
  | cons a r' => rw [if_neg (by simp)]
 refine wpAny_binaryOp_repeat_ref (T := "list") (U := "int") (by decide) ⟨_, e, rfl⟩ (fun s' => typeIs_int s' k t) noFill_list_mul F.fills_int_mul F.slot_int_rmul repeat_list F.slot_int_index.lookup
  (call_meets F.slot_int_rmul (typeIs_int s k t) F.entry_int_rmul (F.args_int_rmul_2 _ _) (int___rmul___int_list k t l its.toArray n)
   ⟨e, rfl, ⟨_, e, rfl⟩, call_meets F.slot_list_mul ⟨_, e, rfl⟩ F.entry_list_mul (F.args_list_mul_2 _ _) (AutoListH.list___mul___list_int_3 l its.toArray n k t hfit hcap hlong) ⟨e, ?_⟩⟩)
 rw [hnew]
 exact ⟨.ref _, _, I.lnew (t' := s.toks) (r.rep k.toNat) (by rw [qhc_, Nat.mul_comm]; exact hz), rfl, q _ I.fresh⟩
end
section
variable {prog : Program} {w : World} {A : Around} {E : Value -> Shared -> Prop} {s : Shared}
end
section
variable {X : Cx}
end
end L2
namespace Att
open PySem PySem.W PySem.Calls PyProof.Rows
theorem vG_ {P : Params} {h : Heap} : ∀ (ns : List Int) (vs : List Value), WellAll P h vs (ns.map WData.int) -> IntsAre vs ns := by
 intro ns
 induction ns with
 | nil =>
  intro vs w
  rw [List.map_nil] at w
  cases w
  exact .nil
 | cons n ns ih =>
  intro vs w
  rw [List.map_cons] at w
  cases w with
  | cons a b =>
   cases a
   exact .cons _ _ (ih _ b)
theorem qdy_ {l : OpenLaw} {n : Nat} (hn : l.most = some n) {P : Params} {h : Heap} {args : List WData} {vals : List Value}
  (hpre : l.row.toRowW.claim.pre args = true) (hwl : WellAll P h vals args) :
  ∃ a vs ns, vals = [Value.ref a] ∧ args = [WData.list (ns.map WData.int)] ∧ h.get? a = some { cls := .type "list", data := .seq vs.toArray } ∧ IntsAre vs ns ∧ ns.length ≤ n := by
 have hsh : WShape.hasAll [] args [.list .int] = true := (pre_splitW hpre).1
 have hc : l.pre.holds [] { args := args } = true := (pre_splitW hpre).2
 obtain ⟨d, r, rfl, h1, h2⟩ := hasAllW_cons hsh
 obtain rfl := hasAllW_nil h2
 obtain ⟨xs, rfl, h3⟩ := hasW_list h1
 obtain ⟨ns, rfl⟩ := items_int h3
 have hlen : ns.length <= n := by
  unfold OpenLaw.pre at hc
  have h4 : (WTm.not (.lt (.lit (.int (n : Int))) (.len (.arg 0)))).holds [] { args := [.list (ns.map .int)] } = true := by
   have h4 := (holds_andW hc).1
   rw [hn] at h4
   exact h4
  have h5 := condW_of h4 (w_not (w_lt w_lit (w_len_list (w_arg rfl))))
  rw [List.length_map] at h5
  refine Nat.le_of_not_lt fun q => ?_
  have q' : (n : Int) < ((ns.length : Nat) : Int) := by omega
  first
   | (rw [decide_eq_true q'] at h5; exact absurd h5 (by decide))
   | (simp at h5; omega)
 cases hwl with
 | cons w1 w2 =>
  cases w2
  cases w1 with
  | list ho hall => exact ⟨_, _, ns, rfl, rfl, ho, vG_ ns _ hall, hlen⟩
theorem qdz_ (l : OpenLaw) (args : List WData) : l.row.toRowW.claim.post args (.bool true) args = true :=
 postW_of (r := l.row.toRowW) (X := (true == true))
  (show WShape.has [] (.bool true) .bool = true by first | rfl | decide | simp [WShape.has, WShape.arms, WShape.armsAll])
  (show (WTm.eq .res (.lit (.bool true))).value [] { args := args, res := some (.bool true), after := args } = some (.bool (true == true)) from w_eq_bool (w_res rfl) w_lit) rfl
theorem attach_call {l : OpenLaw} {n : Nat} {q : Program} {loose : List Str} {XP : (Str -> Option Value) -> Heap -> Prop} {YP : World -> Heap -> Prop} {d : DefRec}
  (hn : l.most = some n) (hdf : d.params.defaults = [])
  (call : ∀ (w : World) (s₀ s₁ : Shared) (mg mb : Str -> Option Value) (fa : Addr) (o : Obj) (pm cd doc : Value) (a : Addr) (vs : List Value) (ns : List Int),
   Ground q loose [] XP w s₀ mg mb s₁.heap -> YP w s₁.heap →
   s₁.heap.get? fa = some o -> o.data = .func (docDef d.name d.params d.body d.scope pm cd doc) -> s₁.heap.CodeRec cd d.name -> mg d.name = some (.ref fa) →
   s₁.heap.get? a = some { cls := .type "list", data := .seq vs.toArray } → IntsAre vs ns → ns.length ≤ n → s₁.gens = #[] →
   codeAny (model l.prog w) callerA (.call (.ref fa) ⟨[.ref a], []⟩) (fun r s' => r = .ok (.ret (.bool true)) /\ OldK s₁.heap s'.heap /\ s'.os = s₁.os /\ AllBare s'.gens) s₁) :
  WalkO q loose XP YP l.row.toRowW d [] (fun f vs => PySem.call f vs) := by
 intro w s₀ s₁ mg mb G Y fa o pm cd doc dV kV ho hd hcd hD hmg hg args vals as hpre hlay hrd hwl hlo
 obtain rfl : dV = .none := Dflts.none hD hdf
 obtain rfl : kV = .none := Dflts.noKw hD
 obtain ⟨a, vs, ns, rfl, rfl, hobj, hints, hlen⟩ := qdy_ hn hpre hwl
 refine enter_call (codeAny_mono (call w s₀ s₁ mg mb fa o pm cd doc a vs ns G Y ho (fd_plain hd) hcd hmg hobj hints hlen hg) fun r s' hq => ?_)
 obtain ⟨rfl, h2, h3, h4⟩ := hq
 exact ⟨.inl ⟨.bool true, .bool true, [], rfl, fun _ => rfl, .bool true, qdz_ l _, fun _ => ⟨List.Pairwise.nil, fun _ hm => (nomatch hm)⟩⟩, h2, h3, h4⟩
section
variable {prog : Program} {w : World} {A : Around} {E : Value -> Shared -> Prop} {s : Shared} {K : Frag}
def qkv_ (h : Heap) : Heap := { h with objs := #[] }
def qkw_ (h : Heap) (L d : Addr) : List (Addr × Obj) := (List.range h.objs.size).filterMap fun a => if a = L \/ a = d then none else (h.get? a).map fun o => (a, o)
end
end Att
namespace L2
open PySem PySem.Spec PyProof.Rows
theorem ut_ : ∀ {vs : List Value} {ns : List Int}, IntsAre vs ns -> Vals (ns.map V.int) vs
 | _, _, .nil => .nil
 | _, _, .cons n t h => .cons ⟨t, rfl⟩ (ut_ h)
def Only (H : Hp) : Prop := ∀ b, H b = none \/ ∃ o xs, H b = some (.frz o (.lst xs))
end L2
namespace L2
open PySem PySem.Spec PyProof.Rows
abbrev KOf {K : PySem.W.Frag} {h : Heap} (_ : K.In h) : PySem.W.Frag := K
end L2
namespace L2
open PySem PySem.Spec PyProof.Rows
def qG_ (s : Stmt) (j : Nat) : Stmt := match s with
 | .ClassDef _ _ _ body _ _ _ _ _ _ _ => body.getD j (.Pass ⟨0, 0, 0, 0⟩)
 | _ => .Pass ⟨0, 0, 0, 0⟩
def qi_ (s : Stmt) : Arguments := match s with
 | .FunctionDef _ a _ _ _ _ _ _ _ _ => a
 | _ => { posonlyargs := [], args := [], vararg := none, kwonlyargs := [], kw_defaults := [], kwarg := none, defaults := [] }
def qh_ (s : Stmt) : List Stmt := match s with
 | .FunctionDef _ _ b _ _ _ _ _ _ _ => b
 | _ => []
def qb_ (s : Stmt) : Scope := match s with
 | .FunctionDef _ _ _ _ _ _ sc _ _ _ => sc
 | _ => { kind := .function, names := [], isGenerator := false, isCoroutine := false }
abbrev CX0 : CXT := fun _ _ _ _ _ _ => False
abbrev E0 : XK := fun _ _ _ => False
theorem qo_ {X : Cx} : za_ CX0 X E0 := fun _ _ _ _ _ _ _ h => h.elim
structure Fun (K : PySem.W.Frag) (x qual : Str) (st : Stmt) (f : Addr) (fd : FuncData) : Prop where
 ex : ∃ (oc : Value) (od : Option Addr) (kV doc pm : Value) (an : Option Addr) (cdv ct : Value) (osl : Array (Option Value)),
  fd = PySem.W.fnOf x qual (qi_ st) (qh_ st) (qb_ st) .none kV doc pm an cdv ct /\ K.lookup f = some ⟨oc, od, .func fd, osl⟩ /\ PySem.W.codeIn K cdv qual = true
 kp : PySem.W.keepIn K (.ref f) = true
section
variable {P : Program} {w : World} {K : PySem.W.Frag} {mg : Str -> Option Value} {base : Heap}
theorem Fun.ok {x qual : Str} {st : Stmt} {f : Addr} {fd : FuncData} {N ps : List Str} {k : Nat} {sp : Sp} (F : Fun K x qual st f fd) (S : FnScope N ps (qb_ st)) (len : ∀ vs H Q E, sp vs H Q E -> vs.length = ps.length)
  (hbody : ∀ (cdv : Value) (A : Around) (outer : List Env) (s : Shared) (H : Hp) (vs : List V) (Q : VK) (E : XK), Room k (A.deeper (envOfC qual (qb_ st) s.heap.objs.size f cdv)) -> sp vs H Q E →
   ∃ t, PSs (cxOf CX0 P w K mg base N qual (qb_ st) f cdv A outer s H E).nox (qh_ st) t /\ t { nx := fun _ H' => Q .non H', rt := Q } (start N vs) H) : FnOk P w K mg base CX0 (k + 1) f fd ps sp := by
 obtain ⟨oc, od, kV, doc, pm, an, cdv, ct, osl, rfl, lk, hcd⟩ := F.ex
 refine qg1_ lk hcd S len fun A outer s H vs Q E hr hsp => ?_
 obtain ⟨t, h, q⟩ := hbody cdv A outer s H vs Q E hr hsp
 exact ⟨t, h.nox, q⟩
theorem Fun.binds {x qual : Str} {st : Stmt} {f : Addr} {fd : FuncData} {ps : List Str} (F : Fun K x qual st f fd)
  (h : ∀ (kV doc pm : Value) (an : Option Addr) (cdv ct : Value) (us : List Value), us.length = ps.length -> bindArgs (PySem.W.fnOf x qual (qi_ st) (qh_ st) (qb_ st) .none kV doc pm an cdv ct) ⟨us, []⟩ = pure (ps.zip us)) : Binds K fd ps [] := by
 obtain ⟨oc, od, kV, doc, pm, an, cdv, ct, osl, rfl, lk, hcd⟩ := F.ex
 exact .all (h kV doc pm an cdv ct)
theorem qv_ {x qual : Str} {st : Stmt} {f : Addr} {oc : Value} {od an : Option Addr} {osl : Array (Option Value)} {kV doc pm cdv ct : Value} (l : K.lookup f = some ⟨oc, od, .func (PySem.W.fnOf x qual (qi_ st) (qh_ st) (qb_ st) .none kV doc pm an cdv ct), osl⟩)
  (c : PySem.W.codeIn K cdv qual = true) (k : PySem.W.keepIn K (.ref f) = true) : Fun K x qual st f (PySem.W.fnOf x qual (qi_ st) (qh_ st) (qb_ st) .none kV doc pm an cdv ct) := ⟨⟨oc, od, kV, doc, pm, an, cdv, ct, osl, rfl, l, c⟩, k⟩
end
theorem qd0_ {n : Nat} (h : n <= 1000) : n < sizeLine := Nat.lt_of_le_of_lt h (by decide)
section
variable {X : Cx}
theorem pv (i : Nat) {x : Str} {pos : Pos} (hN : X.N[i]? = some x := by rfl) (hv : Vis X.env.scope x := by first | exact Or.inl rfl | exact Or.inr (Or.inl rfl) | exact Or.inr (Or.inr rfl)) (hd : (x == ("__debug__" : Str)) = false := by decide)
  (hcd : (x == ("__classdict__" : Str)) = false := by decide) : PE X (.Name x pos) (tVar i) := qit_ hN hv hd hcd
end
theorem iteF {A B : Prop} (h : B) : if false = true then A else B := by
 rw [if_neg Bool.false_ne_true]
 exact h
theorem iteT {A B : Prop} (h : A) : if true = true then A else B := by
 rw [if_pos rfl]
 exact h
theorem ite2 {c A B : Prop} [Decidable c] (h1 : c -> A) (h2 : ¬ c -> B) : if c then A else B := by
 by_cases h : c
 ·rw [if_pos h]
  exact h1 h
 ·rw [if_neg h]
  exact h2 h
def Same (H H' : Hp) : Prop := ∀ b o, H b = some o -> H' b = some o
theorem Same.refl (H : Hp) : Same H H := fun _ _ h => h
theorem Same.trans {H H1 H2 : Hp} (a : Same H H1) (b : Same H1 H2) : Same H H2 := fun c o h => b c o (a c o h)
theorem Same.free {H H' : Hp} (e : Same H H') {l : Addr} (h : H' l = Option.none) : H l = Option.none := by
 cases q : H l with
 | none => rfl
 | some o =>
  rw [e l o q] at h
  cases h
theorem Same.seq {K : PySem.W.Frag} {H H' : Hp} {a : Addr} {xs : List V} (e : Same H H') (h : SqL K H a xs) : SqL K H' a xs := by
 rcases h with (h | ⟨o, h⟩) | h
 ·exact .inl (.inl (e _ _ h))
 ·exact .inl (.inr ⟨o, e _ _ h⟩)
 ·exact .inr h
end L2
namespace GF
theorem two_mul_xor (a b : Nat) : 2 * (a ^^^ b) = (2 * a) ^^^ (2 * b) := by
 apply Nat.eq_of_testBit_eq
 intro i
 rw [Nat.testBit_xor]
 cases i with
 | zero => simp [Nat.testBit_zero]
 | succ i => simp [Nat.testBit_succ]
theorem vc_ (a b : Nat) : (a ^^^ b) / 2 = (a / 2) ^^^ (b / 2) := by
 apply Nat.eq_of_testBit_eq
 intro i
 rw [Nat.testBit_xor, ← Nat.testBit_succ, ← Nat.testBit_succ, ← Nat.testBit_succ, Nat.testBit_xor]
theorem vd_ (a b : Nat) : (a ^^^ b) % 2 = (a % 2 + b % 2) % 2 := by
 have h := Nat.testBit_xor a b 0
 simp only [Nat.testBit_zero] at h
 rcases Nat.mod_two_eq_zero_or_one a with ha | ha <;> rcases Nat.mod_two_eq_zero_or_one b with hb | hb <;>
  rcases Nat.mod_two_eq_zero_or_one (a ^^^ b) with hc | hc <;> simp_all
theorem xor4 (a b c d : Nat) : (a ^^^ b) ^^^ (c ^^^ d) = (a ^^^ c) ^^^ (b ^^^ d) := by
 rw [Nat.xor_assoc, Nat.xor_assoc, ← Nat.xor_assoc b c d, Nat.xor_comm b c, Nat.xor_assoc c b d]
def dbl (r w x : Nat) : Nat := if 2 ^ w <= 2 * x then (2 * x) ^^^ r else 2 * x
structure Rule (r w : Nat) : Prop where
 lo : 2 ^ w <= r
 hi : r < 2 ^ (w + 1)
theorem zn_ {w x : Nat} (h : x < 2 ^ (w + 1)) : (2 ^ w <= x) ↔ x.testBit w = true := by
 constructor
 ·intro h1
  rw [Nat.testBit_eq_decide_div_mod_eq]
  have : x / 2 ^ w = 1 := by
   apply Nat.div_eq_of_lt_le
   ·omega
   ·rw [Nat.pow_succ] at h; omega
  rw [this]; rfl
 ·intro h1
  exact Nat.ge_two_pow_of_testBit h1
theorem qd1_ {w x : Nat} (h : x < 2 ^ (w + 1)) (hb : x.testBit w = false) : x < 2 ^ w := by
 refine Nat.lt_of_not_le fun q => ?_
 rw [(zn_ h).mp q] at hb
 cases hb
variable {r w : Nat}
theorem dbl_lt (R : Rule r w) {x : Nat} (hx : x < 2 ^ w) : dbl r w x < 2 ^ w := by
 unfold dbl
 have h2 : 2 * x < 2 ^ (w + 1) := by rw [Nat.pow_succ]; omega
 split
 ·rename_i h
  refine qd1_ (Nat.xor_lt_two_pow h2 R.hi) ?_
  rw [Nat.testBit_xor, (zn_ h2).mp h, (zn_ R.hi).mp R.lo]
  rfl
 ·omega
theorem qae_ {x : Nat} (hx : x < 2 ^ w) : dbl r w x = (2 * x) ^^^ (bif (2 * x).testBit w then r else 0) := by
 have h2 : 2 * x < 2 ^ (w + 1) := by rw [Nat.pow_succ]; omega
 unfold dbl
 split
 ·rename_i h
  rw [(zn_ h2).mp h]
  rfl
 ·rename_i h
  cases e : (2 * x).testBit w
  ·simp
  ·exact absurd ((zn_ h2).mpr e) h
theorem qb6_ (R : Rule r w) {a b : Nat} (ha : a < 2 ^ w) (hb : b < 2 ^ w) : dbl r w (a ^^^ b) = dbl r w a ^^^ dbl r w b := by
 rw [qae_ (Nat.xor_lt_two_pow ha hb), qae_ ha, qae_ hb, two_mul_xor, Nat.testBit_xor, xor4]
 congr 1
 cases (2 * a).testBit w <;> cases (2 * b).testBit w <;> simp
theorem zb_ : dbl r w 0 = 0 := by
 unfold dbl
 have : 0 < 2 ^ w := Nat.two_pow_pos w
 rw [if_neg (by omega)]
def tm (r w a b : Nat) : Nat := if b = 0 then 0 else (if b % 2 = 1 then a else 0) ^^^ tm r w (dbl r w a) (b / 2)
termination_by b
decreasing_by omega
theorem tm_zero (a : Nat) : tm r w a 0 = 0 := by rw [tm]; simp
theorem tm_step (a b : Nat) : tm r w a b = (if b % 2 = 1 then a else 0) ^^^ tm r w (dbl r w a) (b / 2) := by
 by_cases h : b = 0
 ·subst h
  rw [tm_zero]
  simp [tm_zero]
 ·rw [tm]; simp [h]
theorem tm_lt (R : Rule r w) : ∀ {b a : Nat}, a < 2 ^ w -> tm r w a b < 2 ^ w := by
 intro b
 induction b using Nat.strongRecOn with
 | _ b ih =>
  intro a ha
  by_cases h : b = 0
  ·subst h; rw [tm_zero]; exact Nat.two_pow_pos w
  ·rw [tm_step]
   refine Nat.xor_lt_two_pow ?_ (ih (b / 2) (by omega) (dbl_lt R ha))
   split
   ·exact ha
   ·exact Nat.two_pow_pos w
theorem yl_ (R : Rule r w) : ∀ {b a c : Nat}, a < 2 ^ w -> c < 2 ^ w -> tm r w (a ^^^ c) b = tm r w a b ^^^ tm r w c b := by
 intro b
 induction b using Nat.strongRecOn with
 | _ b ih =>
  intro a c ha hc
  by_cases h : b = 0
  ·subst h; simp [tm_zero]
  ·rw [tm_step, tm_step a, tm_step c, qb6_ R ha hc, ih (b / 2) (by omega) (dbl_lt R ha) (dbl_lt R hc), xor4]
   congr 1
   split <;> simp
theorem yO_ (R : Rule r w) : ∀ {b a : Nat}, a < 2 ^ w -> tm r w (dbl r w a) b = dbl r w (tm r w a b) := by
 intro b
 induction b using Nat.strongRecOn with
 | _ b ih =>
  intro a ha
  by_cases h : b = 0
  ·subst h; simp [tm_zero, zb_]
  ·have hz : (if b % 2 = 1 then a else 0) < 2 ^ w := by
    split
    ·exact ha
    ·exact Nat.two_pow_pos w
   rw [tm_step, tm_step a, qb6_ R hz (tm_lt R (dbl_lt R ha)), ih (b / 2) (by omega) (dbl_lt R ha)]
   congr 1
   split <;> simp [zb_]
theorem tm_xor_right : ∀ {b c a : Nat}, tm r w a (b ^^^ c) = tm r w a b ^^^ tm r w a c := by
 intro b
 induction b using Nat.strongRecOn with
 | _ b ih =>
  intro c a
  by_cases h : b = 0
  ·subst h; simp [tm_zero]
  ·rw [tm_step a (b ^^^ c), tm_step a b, tm_step a c, vc_, ih (b / 2) (by omega), xor4]
   congr 1
   rw [vd_]
   rcases Nat.mod_two_eq_zero_or_one b with hb | hb <;> rcases Nat.mod_two_eq_zero_or_one c with hc | hc <;> simp [hb, hc]
abbrev ev (r w x : Nat) : Nat := tm r w 1 x
theorem qhd_ (hw' : 1 < w) : dbl r w 1 = 2 := by
 unfold dbl
 have : 2 ^ 2 <= 2 ^ w := Nat.pow_le_pow_right (by decide) hw'
 rw [if_neg (by omega)]
theorem one_lt (hw : 1 < w) : 1 < 2 ^ w := by
 have : 2 ^ 2 <= 2 ^ w := Nat.pow_le_pow_right (by decide) hw
 omega
theorem zc_ (a x : Nat) (R : Rule r w) (ha : a < 2 ^ w) : tm r w a x = (if x % 2 = 1 then a else 0) ^^^ dbl r w (tm r w a (x / 2)) := by
 rw [tm_step, yO_ R ha]
theorem qhe_ (R : Rule r w) (hw : 1 < w) : ∀ {k x : Nat}, k <= w -> x < 2 ^ k -> ev r w x = x := by
 intro k
 induction k with
 | zero =>
  intro x _ hx
  have : x = 0 := by simpa using hx
  subst this
  exact tm_zero 1
 | succ k ih =>
  intro x hk hx
  have hx2 : x / 2 < 2 ^ k := by rw [Nat.pow_succ] at hx; omega
  have hk2 : 2 ^ k <= 2 ^ (w - 1) := Nat.pow_le_pow_right (by decide) (by omega)
  have hww : 2 * 2 ^ (w - 1) = 2 ^ w := by rw [Nat.mul_comm, ← Nat.pow_succ]; congr 1; omega
  have h1 : ev r w (x / 2) = x / 2 := ih (by omega) hx2
  unfold ev at h1 ⊢
  have hd : dbl r w (x / 2) = 2 * (x / 2) := by
   unfold dbl
   rw [if_neg (by omega)]
  rw [zc_ 1 x R (one_lt hw), h1, hd]
  rcases Nat.mod_two_eq_zero_or_one x with h | h
  ·rw [if_neg (by omega), Nat.zero_xor]; omega
  ·rw [if_pos h]
   apply Nat.eq_of_testBit_eq
   intro i
   rw [Nat.testBit_xor]
   cases i with
   | zero => simp [Nat.testBit_zero, h]
   | succ i => simp [Nat.testBit_succ]
theorem one_tm (R : Rule r w) (hw : 1 < w) {x : Nat} (hx : x < 2 ^ w) : tm r w 1 x = x := qhe_ R hw (Nat.le_refl w) hx
theorem tm_one (a : Nat) : tm r w a 1 = a := by
 rw [tm_step]; simp [tm_zero]
theorem qi2_ (a : Nat) : tm r w a 2 = dbl r w a := by
 rw [tm_step]; simp [tm_one]
theorem tm_comm (R : Rule r w) (hw : 1 < w) {a b : Nat} (ha : a < 2 ^ w) (hb : b < 2 ^ w) : tm r w a b = tm r w b a := by
 have key : ∀ x y : Nat, tm r w (ev r w x) y = tm r w (ev r w y) x := by
  intro x
  induction x using Nat.strongRecOn with
  | _ x ih =>
   intro y
   by_cases h : x = 0
   ·subst h
    show tm r w (tm r w 1 0) y = tm r w (ev r w y) 0
    rw [tm_zero, tm_zero]
    have : ∀ y, tm r w 0 y = 0 := by
     intro y
     induction y using Nat.strongRecOn with
     | _ y ihy =>
      by_cases hy : y = 0
      ·subst hy; exact tm_zero 0
      ·rw [tm_step, zb_, ihy (y / 2) (by omega)]; simp
    exact this y
   ·have e1 : ev r w x = (if x % 2 = 1 then 1 else 0) ^^^ dbl r w (ev r w (x / 2)) := zc_ 1 x R (one_lt hw)
    have l1 : ev r w (x / 2) < 2 ^ w := tm_lt R (one_lt hw)
    have l2 : (if x % 2 = 1 then 1 else 0) < 2 ^ w := by
     split
     ·exact one_lt hw
     ·exact Nat.two_pow_pos w
    have ly : ev r w y < 2 ^ w := tm_lt R (one_lt hw)
    rw [e1, yl_ R l2 (dbl_lt R l1), yO_ R l1, ih (x / 2) (by omega) y, zc_ (ev r w y) x R ly]
    congr 1
    split
    ·rfl
    ·have : ∀ y, tm r w 0 y = 0 := by
      intro y
      induction y using Nat.strongRecOn with
      | _ y ihy =>
       by_cases hy : y = 0
       ·subst hy; exact tm_zero 0
       ·rw [tm_step, zb_, ihy (y / 2) (by omega)]; simp
     exact this y
 have h := key a b
 rw [show ev r w a = a from one_tm R hw ha, show ev r w b = b from one_tm R hw hb] at h
 exact h
theorem zero_tm (y : Nat) : tm r w 0 y = 0 := by
 induction y using Nat.strongRecOn with
 | _ y ihy =>
  by_cases hy : y = 0
  ·subst hy; exact tm_zero 0
  ·rw [tm_step, zb_, ihy (y / 2) (by omega)]; simp
theorem qaf_ (R : Rule r w) (hw : 1 < w) {a z : Nat} (ha : a < 2 ^ w) (hz : z < 2 ^ w) : tm r w a (dbl r w z) = dbl r w (tm r w a z) := by
 rw [tm_comm R hw ha (dbl_lt R hz), yO_ R hz, tm_comm R hw hz ha]
theorem tm_assoc (R : Rule r w) (hw : 1 < w) {a b : Nat} (ha : a < 2 ^ w) (hb : b < 2 ^ w) : ∀ c, tm r w (tm r w a b) c = tm r w a (tm r w b c) := by
 intro c
 induction c using Nat.strongRecOn with
 | _ c ih =>
  by_cases h : c = 0
  ·subst h; simp [tm_zero]
  ·rw [zc_ _ c R (tm_lt R ha), zc_ b c R hb, tm_xor_right, qaf_ R hw ha (tm_lt R hb), ih (c / 2) (by omega)]
   congr 1
   split
   ·rfl
   ·exact (tm_zero a).symm
end GF
namespace GF
theorem qbi_ (a b : Nat) : (a &&& b) / 2 = (a / 2) &&& (b / 2) := by
 apply Nat.eq_of_testBit_eq
 intro i
 rw [Nat.testBit_and, ← Nat.testBit_succ, ← Nat.testBit_succ, ← Nat.testBit_succ, Nat.testBit_and]
theorem qbj_ (a b : Nat) : (a &&& b) % 2 = (a % 2) * (b % 2) := by
 have h := Nat.testBit_and a b 0
 simp only [Nat.testBit_zero] at h
 rcases Nat.mod_two_eq_zero_or_one a with ha | ha <;> rcases Nat.mod_two_eq_zero_or_one b with hb | hb <;>
  rcases Nat.mod_two_eq_zero_or_one (a &&& b) with hc | hc <;> simp_all
theorem xor_add_and : ∀ (a b : Nat), (a ^^^ b) + 2 * (a &&& b) = a + b := by
 intro a
 induction a using Nat.strongRecOn with
 | _ a ih =>
  intro b
  by_cases h : a = 0
  ·subst h; simp
  ·have h1 := ih (a / 2) (by omega) (b / 2)
   have e1 := vc_ a b
   have e2 := qbi_ a b
   have m1 := vd_ a b
   have m2 := qbj_ a b
   rcases Nat.mod_two_eq_zero_or_one a with ha | ha <;> rcases Nat.mod_two_eq_zero_or_one b with hb | hb <;> rw [ha, hb] at m1 m2 <;> omega
variable {r w : Nat}
structure Sum1 (r w a b i f : Nat) : Prop where
 lt : f < 2 ^ (2 * w - 1)
 ev : ev r w f = tm r w a (b % 2 ^ i)
structure Sum2 (r w p i f : Nat) : Prop where
 lt : f < 2 ^ (2 * w - 1 - i)
 ev : ev r w f = p
end GF
namespace GF
def it (r w : Nat) : Nat -> Nat
 | 0 => 1
 | n + 1 => dbl r w (it r w n)
structure Good (r w : Nat) : Prop where
 rule : Rule r w
 w4 : 4 <= w
 w8 : w <= 8
 odd : r % 2 = 1
 lo16 : 16 <= r
 hi511 : r <= 511
 back : it r w (2 ^ w - 1) = 1
 first : ∀ n, 1 <= n -> n < 2 ^ w - 1 -> it r w n ≠ 1
theorem Good.w1 {r w : Nat} (g : Good r w) : 1 < w := Nat.lt_of_lt_of_le (by decide) g.w4
theorem Good.top16 {r w : Nat} (g : Good r w) : 16 <= 2 ^ w := Nat.pow_le_pow_right (n := 2) (by decide) g.w4
theorem Good.top256 {r w : Nat} (g : Good r w) : 2 ^ w <= 256 := Nat.pow_le_pow_right (n := 2) (by decide) g.w8
theorem Good.last1 {r w : Nat} (g : Good r w) : 1 <= 2 ^ w - 1 := by
 have := g.top16
 omega
theorem it_lt {r w : Nat} (R : Rule r w) (hw : 1 < w) : ∀ n, it r w n < 2 ^ w
 | 0 => one_lt hw
 | n + 1 => dbl_lt R (it_lt R hw n)
def j6_ (r w : Nat) : Nat -> Nat -> Nat -> Option Nat
 | 0, _, _ => none
 | fuel + 1, x, n => if x = 1 then some n else j6_ r w fuel (dbl r w x) (n + 1)
theorem v2_ {r w : Nat} : ∀ {fuel n m : Nat}, j6_ r w fuel (it r w n) n = some m -> it r w m = 1 /\ ∀ k, n <= k -> k < m -> it r w k ≠ 1 := by
 intro fuel
 induction fuel with
 | zero => intro n m h; cases h
 | succ fuel ih =>
  intro n m h
  unfold j6_ at h
  split at h
  ·rename_i e
   cases h
   exact ⟨e, fun k h1 h2 => absurd h2 (by omega)⟩
  ·rename_i e
   obtain ⟨h1, h2⟩ := ih (n := n + 1) h
   refine ⟨h1, fun k a b => ?_⟩
   by_cases q : k = n
   ·subst q; exact e
   ·exact h2 k (by omega) b
def rules : List Nat := [19, 25, 37, 41, 47, 55, 59, 61, 67, 91, 97, 103, 109, 115, 131, 137, 143, 145, 157, 167, 171, 185, 191, 193,
 203, 211, 213, 229, 239, 241, 247, 253, 285, 299, 301, 333, 351, 355, 357, 361, 369, 391, 397, 425, 451, 463, 487, 501]
def chk (r : Nat) : Bool := decide (16 <= r) && decide (r <= 511) && decide (r % 2 = 1) && decide (4 <= r.log2) && decide (r.log2 <= 8) && decide (2 ^ r.log2 <= r) && decide (r < 2 ^ (r.log2 + 1)) &&
 decide (j6_ r r.log2 600 2 1 = some (2 ^ r.log2 - 1))
theorem qd2_ : rules.all chk = true := by decide +kernel
theorem qbk_ {r : Nat} (h : chk r = true) : Good r r.log2 := by
 unfold chk at h
 simp only [Bool.and_eq_true, decide_eq_true_eq] at h
 obtain ⟨⟨⟨⟨⟨⟨⟨h1, h2⟩, h3⟩, h4⟩, h5⟩, h6⟩, h7⟩, h8⟩ := h
 have e : it r r.log2 1 = 2 := qhd_ (by omega)
 have h9 : j6_ r r.log2 600 (it r r.log2 1) 1 = some (2 ^ r.log2 - 1) := by rw [e]; exact h8
 obtain ⟨b1, b2⟩ := v2_ h9
 exact ⟨⟨h6, h7⟩, h4, h5, h3, h1, h2, b1, b2⟩
def ruleOf (c : Int) : Nat := rules.getD (c % 48).toNat 19
theorem qbl_ (c : Int) : Good (ruleOf c) (ruleOf c).log2 := by
 apply qbk_
 have h := List.all_eq_true.mp qd2_
 apply h
 unfold ruleOf
 have hl : rules.length = 48 := rfl
 have h1 : (c % 48).toNat < rules.length := by rw [hl]; omega
 rw [List.getD_eq_getElem?_getD, List.getElem?_eq_getElem h1]
 exact List.getElem_mem h1
end GF
namespace GF
def mask (r w : Nat) : Nat -> Nat -> Nat -> Nat
 | 0, _, acc => acc
 | fuel + 1, x, acc => mask r w fuel (dbl r w x) (acc ||| 2 ^ x)
theorem qfl_ {r w : Nat} : ∀ {fuel n acc b : Nat}, (mask r w fuel (it r w n) acc).testBit b = true -> acc.testBit b = true \/ ∃ k, it r w k = b := by
 intro fuel
 induction fuel with
 | zero => intro n acc b h; exact .inl h
 | succ fuel ih =>
  intro n acc b h
  rcases ih (n := n + 1) h with q | q
  ·rw [Nat.testBit_or, Nat.testBit_two_pow, Bool.or_eq_true] at q
   rcases q with q | q
   ·exact .inl q
   ·exact .inr ⟨n, of_decide_eq_true q⟩
  ·exact .inr q
theorem qcv_ : rules.all (fun r => decide (mask r r.log2 (2 ^ r.log2 - 1) 1 0 = 2 ^ 2 ^ r.log2 - 2)) = true := by decide +kernel
theorem qhf_ {N b : Nat} (h0 : 0 < b) (h : b < N) : (2 ^ N - 2).testBit b = true := by
 obtain ⟨M, rfl⟩ : ∃ M, N = M + 1 := ⟨N - 1, by omega⟩
 obtain ⟨c, rfl⟩ : ∃ c, b = c + 1 := ⟨b - 1, by omega⟩
 have e : (2 ^ (M + 1) - 2) / 2 = 2 ^ M - 1 := by rw [Nat.pow_succ]; omega
 rw [Nat.testBit_succ, e, Nat.testBit_two_pow_sub_one]
 exact decide_eq_true (by omega)
structure Full (r w : Nat) : Prop extends Good r w where
 all : ∀ x, 0 < x -> x < 2 ^ w -> ∃ n, it r w n = x
theorem ruleOf_full (c : Int) : Full (ruleOf c) (ruleOf c).log2 := by
 refine ⟨qbl_ c, fun x h0 h => ?_⟩
 have hm : ruleOf c ∈ rules := by
  unfold ruleOf
  have hl : rules.length = 48 := rfl
  have h1 : (c % 48).toNat < rules.length := by rw [hl]; omega
  rw [List.getD_eq_getElem?_getD, List.getElem?_eq_getElem h1]
  exact List.getElem_mem h1
 have q := of_decide_eq_true (List.all_eq_true.mp qcv_ _ hm)
 have b := qhf_ h0 h
 rw [<- q] at b
 rcases qfl_ (n := 0) b with z | z
 ·rw [Nat.zero_testBit] at z; cases z
 ·exact z
variable {r w : Nat}
theorem qbm_ (g : Good r w) {x : Nat} (hx : x < 2 ^ w) (h : dbl r w x = 0) : x = 0 := by
 unfold dbl at h
 split at h
 ·have e : 2 * x = r := by
   have := congrArg (· ^^^ r) h
   simp only [Nat.zero_xor, Nat.xor_assoc, Nat.xor_self, Nat.xor_zero] at this
   exact this
  have := g.odd
  omega
 ·omega
theorem vH_ (g : Good r w) {y : Nat} (hy : y < 2 ^ w) : ∀ n, tm r w (it r w n) y = 0 -> y = 0
 | 0, h => by rw [show it r w 0 = 1 from rfl, one_tm g.rule g.w1 hy] at h; exact h
 | n + 1, h => by
  rw [show it r w (n + 1) = dbl r w (it r w n) from rfl, yO_ g.rule (it_lt g.rule g.w1 n)] at h
  exact vH_ g hy n (qbm_ g (tm_lt g.rule (it_lt g.rule g.w1 n)) h)
theorem tm_eq_zero (g : Full r w) {x y : Nat} (hx : x < 2 ^ w) (hy : y < 2 ^ w) : tm r w x y = 0 ↔ (x = 0 \/ y = 0) := by
 constructor
 ·intro h
  by_cases h0 : x = 0
  ·exact .inl h0
  ·obtain ⟨n, rfl⟩ := g.all x (by omega) hx
   exact .inr (vH_ g.toGood hy n h)
 ·rintro (rfl | rfl)
  ·exact zero_tm y
  ·exact tm_zero x
def pw (r w x : Nat) : Nat -> Nat
 | 0 => 1
 | n + 1 => tm r w (pw r w x n) x
theorem pw_lt (g : Good r w) {x : Nat} (hx : x < 2 ^ w) : ∀ n, pw r w x n < 2 ^ w
 | 0 => one_lt g.w1
 | n + 1 => tm_lt g.rule (pw_lt g hx n)
theorem pw_add (g : Good r w) {x : Nat} (hx : x < 2 ^ w) (m : Nat) : ∀ n, pw r w x (m + n) = tm r w (pw r w x m) (pw r w x n)
 | 0 => by rw [Nat.add_zero, show pw r w x 0 = 1 from rfl, tm_one]
 | n + 1 => by
  rw [<- Nat.add_assoc]
  show tm r w (pw r w x (m + n)) x = tm r w (pw r w x m) (tm r w (pw r w x n) x)
  rw [pw_add g hx m n, tm_assoc g.rule g.w1 (pw_lt g hx m) (pw_lt g hx n)]
theorem pw_one (x : Nat) (g : Good r w) (hx : x < 2 ^ w) : pw r w x 1 = x := by
 show tm r w 1 x = x
 exact one_tm g.rule g.w1 hx
theorem vI_ (g : Good r w) {x : Nat} (hx : x < 2 ^ w) (m : Nat) : ∀ n, pw r w (pw r w x m) n = pw r w x (m * n)
 | 0 => by rw [Nat.mul_zero]; rfl
 | n + 1 => by
  rw [Nat.mul_succ, pw_add g hx]
  show tm r w (pw r w (pw r w x m) n) (pw r w x m) = _
  rw [vI_ g hx m n]
theorem qcw_ (g : Good r w) : ∀ n, it r w n = pw r w 2 n
 | 0 => rfl
 | n + 1 => by
  show dbl r w (it r w n) = tm r w (pw r w 2 n) 2
  rw [qcw_ g n, qi2_]
theorem two_lt (g : Good r w) : 2 < 2 ^ w := by have := g.top16; omega
theorem qd3_ (g : Good r w) : ∀ n, pw r w 1 n = 1
 | 0 => rfl
 | n + 1 => by
  show tm r w (pw r w 1 n) 1 = 1
  rw [qd3_ g n, tm_one]
theorem qhg_ (g : Full r w) {x : Nat} (h0 : 0 < x) (hx : x < 2 ^ w) : pw r w x (2 ^ w - 1) = 1 := by
 obtain ⟨n, rfl⟩ := g.all x h0 hx
 rw [qcw_ g.toGood, vI_ g.toGood (two_lt g.toGood), Nat.mul_comm, ← vI_ g.toGood (two_lt g.toGood), ← qcw_ g.toGood, g.back, qd3_ g.toGood]
theorem pw_back (g : Full r w) {x : Nat} (h0 : 0 < x) (hx : x < 2 ^ w) : tm r w x (pw r w x (2 ^ w - 1 - 1)) = 1 := by
 have h := qhg_ g h0 hx
 have e : 2 ^ w - 1 = 1 + (2 ^ w - 1 - 1) := by have := g.top16; omega
 rw [e, pw_add g.toGood hx, pw_one x g.toGood hx] at h
 exact h
theorem pw_half (g : Good r w) {x : Nat} (hx : x < 2 ^ w) (n : Nat) : pw r w (tm r w x x) n = pw r w x (2 * n) := by
 have e : tm r w x x = pw r w x 2 := by
  show _ = tm r w (tm r w 1 x) x
  rw [one_tm g.rule g.w1 hx]
 rw [e, vI_ g hx]
def prod (r w : Nat) (row : List Nat) : Nat := row.foldl (fun f x => tm r w f x) 1
end GF
namespace GF
variable {r w : Nat}
theorem qbn_ {i j : Nat} (h : i ^^^ j = 0) : i = j := by
 have := congrArg (· ^^^ j) h
 simp only [Nat.xor_assoc, Nat.xor_self, Nat.xor_zero, Nat.zero_xor] at this
 exact this
theorem tm_inj (g : Full r w) {x i j : Nat} (h0 : x ≠ 0) (hx : x < 2 ^ w) (hi : i < 2 ^ w) (hj : j < 2 ^ w) (h : tm r w x i = tm r w x j) : i = j := by
 have e : tm r w x (i ^^^ j) = 0 := by rw [tm_xor_right, h, Nat.xor_self]
 rcases (tm_eq_zero g hx (Nat.xor_lt_two_pow hi hj)).mp e with z | z
 ·exact absurd z h0
 ·exact qbn_ z
end GF
namespace GF
def join (w : Nat) : List Nat -> Nat
 | [] => 0
 | x :: xs => join w xs * 2 ^ w + x
def syms (w : Nat) : Nat -> Nat -> List Nat
 | 0, _ => []
 | n + 1, b => b % 2 ^ w :: syms w n (b / 2 ^ w)
theorem syms_length (w : Nat) : ∀ (n b : Nat), (syms w n b).length = n
 | 0, _ => rfl
 | n + 1, b => by rw [syms, List.length_cons, syms_length w n]
theorem qb7_ {w : Nat} : ∀ {n b x : Nat}, x ∈ syms w n b -> x < 2 ^ w
 | 0, b, x, h => by simp [syms] at h
 | n + 1, b, x, h => by
  rw [syms] at h
  rcases List.mem_cons.mp h with e | h
  ·rw [e]; exact Nat.mod_lt _ (Nat.two_pow_pos w)
  ·exact qb7_ h
theorem uu_ {w : Nat} : ∀ {row : List Nat}, (∀ x ∈ row, x < 2 ^ w) -> syms w row.length (join w row) = row
 | [], _ => rfl
 | x :: row, h => by
  have hx : x < 2 ^ w := h x List.mem_cons_self
  rw [List.length_cons, syms, join]
  have e1 : (join w row * 2 ^ w + x) % 2 ^ w = x := by rw [Nat.mul_comm, Nat.mul_add_mod, Nat.mod_eq_of_lt hx]
  have e2 : (join w row * 2 ^ w + x) / 2 ^ w = join w row := by
   rw [Nat.mul_comm, Nat.mul_add_div (Nat.two_pow_pos w), Nat.div_eq_of_lt hx, Nat.add_zero]
  rw [e1, e2, uu_ fun y hy => h y (List.mem_cons_of_mem _ hy)]
theorem qb8_ {w : Nat} : ∀ {row : List Nat}, (∀ x ∈ row, x < 2 ^ w) -> join w row < (2 ^ w) ^ row.length
 | [], _ => by simp [join]
 | x :: row, h => by
  have hx : x < 2 ^ w := h x List.mem_cons_self
  have ih := qb8_ (row := row) fun y hy => h y (List.mem_cons_of_mem _ hy)
  rw [join, List.length_cons, Nat.pow_succ]
  have : (join w row + 1) * 2 ^ w <= (2 ^ w) ^ row.length * 2 ^ w := Nat.mul_le_mul_right _ ih
  rw [Nat.add_mul, Nat.one_mul] at this
  omega
theorem uv_ {w : Nat} : ∀ {n b : Nat}, b < (2 ^ w) ^ n -> join w (syms w n b) = b
 | 0, b, h => by
  have : b = 0 := by simpa using h
  rw [this]; rfl
 | n + 1, b, h => by
  rw [syms, join, uv_ (n := n) (b := b / 2 ^ w)]
  ·rw [Nat.mul_comm]; exact Nat.div_add_mod b (2 ^ w)
  ·rw [Nat.pow_succ] at h
   exact Nat.div_lt_of_lt_mul (by rw [Nat.mul_comm]; exact h)
theorem vJ_ (w : Nat) : ∀ (n : Nat) (f : Nat -> Nat), f 0 = 0 -> join w ((syms w n 0).map f) = 0
 | 0, _, _ => rfl
 | n + 1, f, h => by
  rw [syms, Nat.zero_mod, Nat.zero_div, List.map_cons, join, vJ_ w n f h, h]
  simp
theorem vK_ {w x y a b : Nat} (hx : x < 2 ^ w) (hy : y < 2 ^ w) : (a * 2 ^ w + x) ^^^ (b * 2 ^ w + y) = (a ^^^ b) * 2 ^ w + (x ^^^ y) := by
 apply Nat.eq_of_testBit_eq
 intro i
 rw [Nat.testBit_xor, Nat.mul_comm a, Nat.mul_comm b, Nat.mul_comm (a ^^^ b), Nat.testBit_two_pow_mul_add _ hx, Nat.testBit_two_pow_mul_add _ hy, Nat.testBit_two_pow_mul_add _ (Nat.xor_lt_two_pow hx hy)]
 split
 ·rw [Nat.testBit_xor]
 ·rw [Nat.testBit_xor]
theorem qag_ {w : Nat} : ∀ {n : Nat} {f g : Nat -> Nat} {b c : Nat}, (∀ x, f x < 2 ^ w) -> (∀ x, g x < 2 ^ w) →
  join w ((syms w n b).map f) ^^^ join w ((syms w n c).map g) = join w (List.zipWith (fun x y => f x ^^^ g y) (syms w n b) (syms w n c))
 | 0, _, _, _, _, _, _ => by simp [syms, join]
 | n + 1, f, g, b, c, hf, hg => by
  rw [syms, syms, List.map_cons, List.map_cons, List.zipWith_cons_cons, join, join, join, vK_ (hf _) (hg _), qag_ hf hg]
theorem qah_ {w : Nat} : ∀ {n b k : Nat}, k < n -> (syms w n b)[k]? = some (b / (2 ^ w) ^ k % 2 ^ w)
 | 0, _, _, h => absurd h (Nat.not_lt_zero _)
 | n + 1, b, 0, _ => by rw [syms, Nat.pow_zero, Nat.div_one]; rfl
 | n + 1, b, k + 1, h => by
  rw [syms, List.getElem?_cons_succ, qah_ (by omega), Nat.div_div_eq_div_mul, Nat.pow_succ, Nat.mul_comm ((2 ^ w) ^ k)]
theorem qai_ {w : Nat} : ∀ {n b c : Nat}, syms w n (b ^^^ c) = List.zipWith (fun x y => x ^^^ y) (syms w n b) (syms w n c)
 | 0, _, _ => rfl
 | n + 1, b, c => by
  rw [syms, syms, syms, List.zipWith_cons_cons]
  congr 1
  ·apply Nat.eq_of_testBit_eq
   intro i
   rw [Nat.testBit_xor, Nat.testBit_mod_two_pow, Nat.testBit_mod_two_pow, Nat.testBit_mod_two_pow, Nat.testBit_xor]
   by_cases h : i < w <;> simp [h]
  ·have e : (b ^^^ c) / 2 ^ w = b / 2 ^ w ^^^ c / 2 ^ w := by
    apply Nat.eq_of_testBit_eq
    intro i
    rw [Nat.testBit_xor, Nat.testBit_div_two_pow, Nat.testBit_div_two_pow, Nat.testBit_div_two_pow, Nat.testBit_xor]
   rw [e, qai_]
end GF
namespace GF
def sumB (r w n : Nat) (ps : List (Nat × Nat)) : Nat := ps.foldl (fun t p => t ^^^ join w ((syms w n p.2).map (tm r w p.1))) 0
def dg (r w : Nat) (ps : List (Nat × Nat)) (k : Nat) : Nat := ps.foldl (fun t p => t ^^^ tm r w (p.2 / (2 ^ w) ^ k % 2 ^ w) p.1) 0
theorem zH_ {α : Type} (F : α -> Nat) : ∀ (ps : List α) (t : Nat), ps.foldl (fun t p => t ^^^ F p) t = t ^^^ ps.foldl (fun t p => t ^^^ F p) 0
 | [], t => by simp
 | p :: ps, t => by
  rw [List.foldl_cons, List.foldl_cons, zH_ F ps (t ^^^ F p), zH_ F ps (0 ^^^ F p), Nat.zero_xor, Nat.xor_assoc]
theorem sumB_append (r w n : Nat) (ps qs : List (Nat × Nat)) : sumB r w n (ps ++ qs) = sumB r w n ps ^^^ sumB r w n qs := by
 unfold sumB
 rw [List.foldl_append, zH_ (fun p : Nat × Nat => join w ((syms w n p.2).map (tm r w p.1))) qs]
theorem syms_range (w n b : Nat) : syms w n b = (List.range n).map fun k => b / (2 ^ w) ^ k % 2 ^ w := by
 apply List.ext_getElem?
 intro k
 by_cases h : k < n
 ·rw [qah_ h, List.getElem?_map, List.getElem?_range h]
  rfl
 ·rw [List.getElem?_eq_none (by rw [syms_length]; omega), List.getElem?_eq_none (by simp; omega)]
theorem uw_ {w : Nat} {f g : Nat -> Nat} : ∀ (ks : List Nat), (∀ k, f k < 2 ^ w) -> (∀ k, g k < 2 ^ w) -> join w (ks.map f) ^^^ join w (ks.map g) = join w (ks.map fun k => f k ^^^ g k)
 | [], _, _ => by simp [join]
 | k :: ks, hf, hg => by
  rw [List.map_cons, List.map_cons, List.map_cons, join, join, join, vK_ (hf k) (hg k), uw_ ks hf hg]
theorem ux_ (w : Nat) : ∀ (ks : List Nat), join w (ks.map fun _ => 0) = 0
 | [] => rfl
 | k :: ks => by rw [List.map_cons, join, ux_ w ks]; simp
theorem join_snoc (w : Nat) : ∀ (xs : List Nat) (x : Nat), join w (xs ++ [x]) = join w xs + x * (2 ^ w) ^ xs.length
 | [], x => by simp [join]
 | y :: xs, x => by
  rw [List.cons_append, join, join_snoc w xs, join, List.length_cons, Nat.pow_succ, Nat.add_mul, Nat.mul_assoc]
  omega
theorem sumB_snoc (r w n : Nat) (ps : List (Nat × Nat)) (p : Nat × Nat) : sumB r w n (ps ++ [p]) = sumB r w n ps ^^^ join w ((syms w n p.2).map (tm r w p.1)) := by
 unfold sumB
 rw [List.foldl_append]
 rfl
end GF
namespace GF
variable {r w : Nat}
def dot (r w : Nat) : Nat -> (Nat -> Nat) -> (Nat -> Nat) -> Nat
 | 0, _, _ => 0
 | n + 1, a, x => dot r w n a x ^^^ tm r w (a n) (x n)
theorem dot_lt (R : Rule r w) {a x : Nat -> Nat} : ∀ n, (∀ k, k < n -> a k < 2 ^ w) -> dot r w n a x < 2 ^ w
 | 0, _ => Nat.two_pow_pos w
 | n + 1, h => Nat.xor_lt_two_pow (dot_lt R n fun k hk => h k (Nat.lt_succ_of_lt hk)) (tm_lt R (h n (Nat.lt_succ_self n)))
theorem dot_congr {a b x y : Nat -> Nat} : ∀ n, (∀ k, k < n -> a k = b k /\ x k = y k) -> dot r w n a x = dot r w n b y
 | 0, _ => rfl
 | n + 1, h => by
  rw [dot, dot, dot_congr n fun k hk => h k (Nat.lt_succ_of_lt hk), (h n (Nat.lt_succ_self n)).1, (h n (Nat.lt_succ_self n)).2]
theorem vl_ (a : Nat -> Nat) : ∀ n, dot r w n a (fun _ => 0) = 0
 | 0 => rfl
 | n + 1 => by rw [dot, vl_ a n, tm_zero]; rfl
theorem z5_ {a x : Nat -> Nat} {p v : Nat} (hx : x p = 0) : ∀ n, dot r w n a (fun k => if k = p then v else x k) = dot r w n a x ^^^ (if p < n then tm r w (a p) v else 0)
 | 0 => by
  rw [if_neg (Nat.not_lt_zero p), dot, dot]
  rfl
 | n + 1 => by
  rw [dot, dot, z5_ hx n]
  by_cases e : n = p
  ·subst e
   rw [if_neg (Nat.lt_irrefl n), if_pos rfl, if_pos (Nat.lt_succ_self n), hx, tm_zero, Nat.xor_zero]
  ·rw [if_neg e]
   by_cases h : p < n
   ·rw [if_pos h, if_pos (Nat.lt_succ_of_lt h), Nat.xor_assoc, Nat.xor_assoc, Nat.xor_comm (tm r w (a p) v)]
   ·rw [if_neg h, if_neg (by omega), Nat.xor_zero, Nat.xor_zero]
theorem dot_add (R : Rule r w) {a b x : Nat -> Nat} : ∀ n, (∀ k, k < n -> a k < 2 ^ w /\ b k < 2 ^ w) -> dot r w n (fun k => a k ^^^ b k) x = dot r w n a x ^^^ dot r w n b x
 | 0, _ => by rw [dot, dot, dot]; rfl
 | n + 1, h => by
  rw [dot, dot, dot, dot_add R n fun k hk => h k (Nat.lt_succ_of_lt hk), yl_ R (h n (Nat.lt_succ_self n)).1 (h n (Nat.lt_succ_self n)).2]
  exact xor4 _ _ _ _
theorem dot_scale (R : Rule r w) (hw : 1 < w) {a x : Nat -> Nat} {c : Nat} (hc : c < 2 ^ w) : ∀ n, (∀ k, k < n -> a k < 2 ^ w /\ x k < 2 ^ w) -> dot r w n (fun k => tm r w (a k) c) x = tm r w (dot r w n a x) c
 | 0, _ => (zero_tm c).symm
 | n + 1, h => by
  have hn := h n (Nat.lt_succ_self n)
  have ih := dot_scale R hw hc n fun k hk => h k (Nat.lt_succ_of_lt hk)
  rw [dot, dot, ih, yl_ R (dot_lt R n fun k hk => (h k (Nat.lt_succ_of_lt hk)).1) (tm_lt R hn.1)]
  congr 1
  rw [tm_assoc R hw hn.1 hc, tm_comm R hw hc hn.2, ← tm_assoc R hw hn.1 hn.2]
theorem yv_ (R : Rule r w) (hw : 1 < w) {a x : Nat -> Nat} {c : Nat} : ∀ n, (∀ k, k < n -> a k < 2 ^ w /\ x k < 2 ^ w) -> dot r w n a (fun k => tm r w (x k) c) = tm r w (dot r w n a x) c
 | 0, _ => (zero_tm c).symm
 | n + 1, h => by
  have hn := h n (Nat.lt_succ_self n)
  have ih := yv_ R hw (c := c) n fun k hk => h k (Nat.lt_succ_of_lt hk)
  rw [dot, dot, ih, yl_ R (dot_lt R n fun k hk => (h k (Nat.lt_succ_of_lt hk)).1) (tm_lt R hn.1), tm_assoc R hw hn.1 hn.2]
theorem qaj_ {a x y : Nat -> Nat} : ∀ n, dot r w n a (fun k => x k ^^^ y k) = dot r w n a x ^^^ dot r w n a y
 | 0 => by rw [dot, dot, dot]; rfl
 | n + 1 => by
  rw [dot, dot, dot, qaj_ n, tm_xor_right]
  exact xor4 _ _ _ _
structure Tab (r w N M : Nat) (L : Nat -> Nat -> Nat) (T : Nat -> Nat -> Nat) : Prop where
 lt : ∀ i k, i < M -> k < N + M -> T i k < 2 ^ w
 of : ∀ i k, i < M -> k < N -> T i k = dot r w M (fun j => L j k) (fun j => T i (N + j))
 keep : ∀ x : Nat -> Nat, (∀ k, k < N -> x k < 2 ^ w) -> (∀ i, i < M -> dot r w N (T i) x = 0) -> ∀ j, j < M -> dot r w N (L j) x = 0
def swapT (T : Nat -> Nat -> Nat) (h f : Nat) : Nat -> Nat -> Nat := fun i => if i = h then T f else if i = f then T h else T i
def clearT (r w : Nat) (T : Nat -> Nat -> Nat) (h p c : Nat) : Nat -> Nat -> Nat := fun i k => if i = h then tm r w (T h k) c else T i k ^^^ tm r w (tm r w (T h k) c) (T i p)
theorem vm_ {T : Nat -> Nat -> Nat} {h f M i : Nat} (hh : h < M) (hf : f < M) (hi : i < M) : ∃ j, j < M /\ swapT T h f i = T j := by
 unfold swapT
 by_cases e : i = h
 ·exact ⟨f, hf, by rw [if_pos e]⟩
 ·by_cases e2 : i = f
  ·exact ⟨h, hh, by rw [if_neg e, if_pos e2]⟩
  ·exact ⟨i, hi, by rw [if_neg e, if_neg e2]⟩
theorem Tab.swap {N M : Nat} {L T : Nat -> Nat -> Nat} (t : Tab r w N M L T) {h f : Nat} (hh : h < M) (hf : f < M) : Tab r w N M L (swapT T h f) := by
 refine ⟨fun i k hi hk => ?_, fun i k hi hk => ?_, fun x hx hz => t.keep x hx fun i hi => ?_⟩
 ·obtain ⟨j, hj, e⟩ := vm_ (T := T) hh hf hi
  rw [e]
  exact t.lt j k hj hk
 ·obtain ⟨j, hj, e⟩ := vm_ (T := T) hh hf hi
  rw [e]
  exact t.of j k hj hk
 ·by_cases e : i = h
  ·have := hz f hf
   unfold swapT at this
   by_cases e2 : f = h
   ·rw [if_pos e2, e2] at this
    rw [e]
    exact this
   ·rw [if_neg e2, if_pos rfl] at this
    rw [e]
    exact this
  ·by_cases e2 : i = f
   ·have := hz h hh
    unfold swapT at this
    rw [if_pos rfl] at this
    rw [e2]
    exact this
   ·have := hz i hi
    unfold swapT at this
    rw [if_neg e, if_neg e2] at this
    exact this
theorem Tab.clear {N M : Nat} {L T : Nat -> Nat -> Nat} (g : Full r w) (t : Tab r w N M L T) (hL : ∀ j k, j < M -> k < N -> L j k < 2 ^ w) {h p c : Nat} (hh : h < M) (hp : p < N) (hc : c < 2 ^ w) (hc0 : c ≠ 0) : Tab r w N M L (clearT r w T h p c) := by
 have R := g.rule
 have hw := g.w1
 refine ⟨fun i k hi hk => ?_, fun i k hi hk => ?_, fun x hx hz => t.keep x hx ?_⟩
 ·unfold clearT
  by_cases e : i = h
  ·rw [if_pos e]
   exact tm_lt R (t.lt h k hh hk)
  ·rw [if_neg e]
   exact Nat.xor_lt_two_pow (t.lt i k hi hk) (tm_lt R (tm_lt R (t.lt h k hh hk)))
 ·unfold clearT
  by_cases e : i = h
  ·simp only [if_pos e]
   rw [t.of h k hh hk, ← yv_ R hw M fun j hj => ⟨hL j k hj hk, t.lt h (N + j) hh (by omega)⟩]
  ·simp only [if_neg e]
   rw [qaj_, yv_ R hw M fun j hj => ⟨hL j k hj hk, tm_lt R (t.lt h (N + j) hh (by omega))⟩, yv_ R hw M fun j hj => ⟨hL j k hj hk, t.lt h (N + j) hh (by omega)⟩, ← t.of i k hi hk, ← t.of h k hh hk]
 ·have hTN : ∀ i k, i < M -> k < N -> T i k < 2 ^ w := fun i k hi hk => t.lt i k hi (by omega)
  have hd : ∀ i, i < M -> dot r w N (T i) x < 2 ^ w := fun i hi => dot_lt R N fun k hk => hTN i k hi hk
  have h1 : dot r w N (T h) x = 0 := by
   have z := hz h hh
   have e : dot r w N (clearT r w T h p c h) x = tm r w (dot r w N (T h) x) c := by
    rw [<- dot_scale R hw hc N fun k hk => ⟨hTN h k hh hk, hx k hk⟩]
    exact dot_congr N fun k _ => ⟨by unfold clearT; rw [if_pos rfl], rfl⟩
   rw [e] at z
   rcases (tm_eq_zero g (hd h hh) hc).mp z with y | y
   ·exact y
   ·exact absurd y hc0
  intro i hi
  by_cases e : i = h
  ·rw [e]
   exact h1
  ·have z := hz i hi
   have e2 : dot r w N (clearT r w T h p c i) x = dot r w N (T i) x ^^^ tm r w (tm r w (dot r w N (T h) x) c) (T i p) := by
    rw [<- dot_scale R hw hc N fun k hk => ⟨hTN h k hh hk, hx k hk⟩, ← dot_scale R hw (hTN i p hi hp) N fun k hk => ⟨tm_lt R (hTN h k hh hk), hx k hk⟩, ← dot_add R N fun k hk => ⟨hTN i k hi hk, tm_lt R (tm_lt R (hTN h k hh hk))⟩]
    exact dot_congr N fun k _ => ⟨by unfold clearT; rw [if_neg e], rfl⟩
   rw [e2, h1, zero_tm, zero_tm, Nat.xor_zero] at z
   exact z
structure Piv (N M : Nat) (T : Nat -> Nat -> Nat) (hs : List Nat) (Z : Nat -> Prop) : Prop where
 hl : hs.length <= M
 lt : ∀ t p : Nat, hs[t]? = some p -> p < N
 one : ∀ t p : Nat, hs[t]? = some p -> ∀ i, i < M -> T i p = if i = t then 1 else 0
 zero : ∀ k, Z k -> ∀ i, hs.length <= i -> i < M -> T i k = 0
section
variable {N M : Nat} {L T : Nat -> Nat -> Nat} {hs : List Nat} {Z : Nat -> Prop} {p c f : Nat}
theorem Piv.start : Piv N M T [] (fun _ => False) := ⟨Nat.zero_le _, fun t p h => by simp at h, fun t p h => by simp at h, fun k z => z.elim⟩
theorem Piv.weaken {Z' : Nat -> Prop} (h : Piv N M T hs Z) (e : ∀ k, Z' k -> Z k) : Piv N M T hs Z' := ⟨h.hl, h.lt, h.one, fun k z => h.zero k (e k z)⟩
theorem Piv.skip (h : Piv N M T hs Z) (hz : ∀ i, hs.length <= i -> i < M -> T i p = 0) : Piv N M T hs (fun k => Z k \/ k = p) :=
 ⟨h.hl, h.lt, h.one, fun k z => z.elim (h.zero k) fun e => by rw [e]; exact hz⟩
theorem Piv.step (g : Full r w) (h : Piv N M T hs Z) (t : Tab r w N M L T) (hp : p < N) (hf : hs.length <= f) (hfM : f < M) (hc : c < 2 ^ w) (hinv : tm r w (T f p) c = 1) :
  Piv N M (clearT r w (swapT T hs.length f) hs.length p c) (hs ++ [p]) (fun k => Z k \/ k = p) := by
 have R := g.rule
 have hw := g.w1
 have hhM : hs.length < M := by omega
 have T1h : swapT T hs.length f hs.length = T f := by unfold swapT; rw [if_pos rfl]
 have ge : ∀ i, hs.length <= i -> i < M -> ∃ j, hs.length <= j /\ j < M /\ swapT T hs.length f i = T j := fun i h1 h2 => by
  unfold swapT
  by_cases e : i = hs.length
  ·exact ⟨f, hf, hfM, by rw [if_pos e]⟩
  ·by_cases e2 : i = f
   ·exact ⟨hs.length, Nat.le_refl _, hhM, by rw [if_neg e, if_pos e2]⟩
   ·exact ⟨i, h1, h2, by rw [if_neg e, if_neg e2]⟩
 have lo : ∀ i, i < hs.length -> swapT T hs.length f i = T i := fun i h1 => by
  unfold swapT
  rw [if_neg (by omega), if_neg (by omega)]
 have col : ∀ k, (∀ i, hs.length <= i -> i < M -> T i k = 0) -> ∀ i, i < M -> clearT r w (swapT T hs.length f) hs.length p c i k = if i < hs.length then T i k else 0 := fun k hz i hi => by
  unfold clearT
  rw [T1h, hz f hf hfM, zero_tm, zero_tm]
  by_cases e : i = hs.length
  ·rw [if_pos e, if_neg (by omega)]
  ·rw [if_neg e, Nat.xor_zero]
   by_cases e2 : i < hs.length
   ·rw [if_pos e2, lo i e2]
   ·obtain ⟨j, j1, j2, ej⟩ := ge i (by omega) hi
    rw [if_neg e2, ej, hz j j1 j2]
 have colp : ∀ i, i < M -> clearT r w (swapT T hs.length f) hs.length p c i p = if i = hs.length then 1 else 0 := fun i hi => by
  unfold clearT
  rw [T1h, hinv]
  by_cases e : i = hs.length
  ·rw [if_pos e, if_pos e]
  ·obtain ⟨j, j2, ej⟩ := vm_ (T := T) (h := hs.length) (f := f) hhM hfM hi
   rw [if_neg e, if_neg e, ej, one_tm R hw (t.lt j p j2 (by omega)), Nat.xor_self]
 refine ⟨by rw [List.length_append]; simp; omega, fun t' q e => ?_, fun t' q e i hi => ?_, fun k z i h1 h2 => ?_⟩
 ·rw [List.getElem?_append] at e
  split at e
  ·exact h.lt t' q e
  ·have : q = p := by
    cases ht : t' - hs.length with
    | zero => rw [ht] at e; simpa using e.symm
    | succ m => rw [ht] at e; simp at e
   rw [this]
   exact hp
 ·rw [List.getElem?_append] at e
  split at e
  ·rename_i hlt
   have hz : ∀ i, hs.length <= i -> i < M -> T i q = 0 := fun i h1 h2 => by
    rw [h.one t' q e i h2, if_neg (by omega)]
   rw [col q hz i hi]
   by_cases e2 : i < hs.length
   ·rw [if_pos e2]
    exact h.one t' q e i hi
   ·rw [if_neg e2, if_neg (by omega)]
  ·rename_i hge
   have ht : t' = hs.length /\ q = p := by
    cases ht : t' - hs.length with
    | zero => rw [ht] at e; exact ⟨by omega, by simpa using e.symm⟩
    | succ m => rw [ht] at e; simp at e
   rw [ht.2, ht.1]
   exact colp i hi
 ·rw [List.length_append] at h1
  have h1' : hs.length < i := by simp at h1; omega
  rcases z with z | z
  ·rw [col k (h.zero k z) i h2, if_neg (by omega)]
  ·rw [z, colp i h2, if_neg (by omega)]
theorem reckoned_ok (g : Full r w) (t : Tab r w N M L T) (hL : ∀ j k, j < M -> k < N -> L j k < 2 ^ w) (h : Piv N M T hs Z) (hf : hs.length <= f) (hfM : f < M) (hp : p < N) (hinv : tm r w (T f p) c = 1) :
  (dot r w M (fun j => L j p) (fun j => tm r w (T f (N + j)) c) = 1) /\ ∀ k, k < N -> Z k -> dot r w M (fun j => L j k) (fun j => tm r w (T f (N + j)) c) = 0 := by
 have R := g.rule
 have e : ∀ k, k < N -> dot r w M (fun j => L j k) (fun j => tm r w (T f (N + j)) c) = tm r w (T f k) c := fun k hk => by
  rw [yv_ R g.w1 M fun j hj => ⟨hL j k hj hk, t.lt f (N + j) hfM (by omega)⟩, ← t.of f k hfM hk]
 refine ⟨by rw [e p hp]; exact hinv, fun k hk z => ?_⟩
 rw [e k hk, h.zero k z f hf hfM, zero_tm]
def makeX (T : Nat -> Nat -> Nat) (hs : List Nat) (p : Nat) : Nat -> Nat -> Nat
 | 0 => fun k => if k = p then 1 else 0
 | t + 1 => fun k => if k = hs.getD t 0 then T t p else makeX T hs p t k
theorem makeX_none {k : Nat} (hkp : k ≠ p) : ∀ t, t <= hs.length -> (∀ s, s < t -> hs.getD s 0 ≠ k) -> makeX T hs p t k = 0
 | 0, _, _ => by unfold makeX; rw [if_neg hkp]
 | t + 1, ht, h => by
  unfold makeX
  rw [if_neg (fun z => h t (Nat.lt_succ_self t) z.symm)]
  exact makeX_none hkp t (by omega) fun s hs' => h s (by omega)
theorem makeX_place : ∀ t, t <= hs.length -> (∀ s, s < t -> hs.getD s 0 ≠ p) -> makeX T hs p t p = 1
 | 0, _, _ => by unfold makeX; rw [if_pos rfl]
 | t + 1, ht, h => by
  unfold makeX
  rw [if_neg (fun z => h t (Nat.lt_succ_self t) z.symm)]
  exact makeX_place t (by omega) fun s hs' => h s (by omega)
theorem getD_at {t : Nat} (h : t < hs.length) : hs[t]? = some (hs.getD t 0) := by
 rw [List.getD_eq_getElem?_getD, List.getElem?_eq_getElem h]
 rfl
theorem qak_ (g : Full r w) (t : Tab r w N M L T) (h : Piv N M T hs Z) (hp : p < N) (hnp : ∀ s, s < hs.length -> hs.getD s 0 ≠ p) {i : Nat} (hi : i < M) : ∀ q, q <= hs.length -> dot r w N (T i) (makeX T hs p q) = T i p ^^^ (if i < q then T i p else 0)
 | 0, _ => by
  rw [if_neg (Nat.not_lt_zero i), Nat.xor_zero]
  have e : dot r w N (T i) (fun k => if k = p then 1 else (fun _ => 0) k) = _ := z5_ (x := fun _ => 0) (p := p) (v := 1) rfl N
  rw [vl_, Nat.zero_xor, if_pos hp, tm_one] at e
  exact e
 | q + 1, hq => by
  have R := g.rule
  have hq' : q < hs.length := hq
  have dup : ∀ s, s < q -> hs.getD s 0 ≠ hs.getD q 0 := fun s hs' z => by
   have a1 := h.one s _ (getD_at (by omega)) s (by have := h.hl; omega)
   have a2 := h.one q _ (getD_at hq') s (by have := h.hl; omega)
   rw [z, a2, if_pos rfl, if_neg (by omega)] at a1
   exact absurd a1 (by decide)
  have e : dot r w N (T i) (makeX T hs p (q + 1)) = _ := z5_ (x := makeX T hs p q) (p := hs.getD q 0) (v := T q p) (makeX_none (hnp q hq') q (by omega) dup) N
  rw [if_pos (h.lt q _ (getD_at hq')), qak_ g t h hp hnp hi q (by omega), h.one q _ (getD_at hq') i hi] at e
  rw [e]
  by_cases z : i = q
  ·subst z
   rw [if_pos rfl, if_neg (Nat.lt_irrefl i), if_pos (Nat.lt_succ_self i), one_tm R g.w1 (t.lt i p hi (by omega)), Nat.xor_zero]
  ·rw [if_neg z, zero_tm, Nat.xor_zero]
   by_cases z2 : i < q
   ·rw [if_pos z2, if_pos (by omega)]
   ·rw [if_neg z2, if_neg (by omega)]
theorem makeX_lt (g : Full r w) (t : Tab r w N M L T) (h : Piv N M T hs Z) (hp : p < N) (k : Nat) : ∀ q, q <= hs.length -> makeX T hs p q k < 2 ^ w
 | 0, _ => by
  have := g.top16
  unfold makeX
  split <;> omega
 | q + 1, hq => by
  unfold makeX
  split
  ·exact t.lt q p (by have := h.hl; omega) (by omega)
  ·exact makeX_lt g t h hp k q (by omega)
theorem free_ok (g : Full r w) (t : Tab r w N M L T) (h : Piv N M T hs Z) (hp : p < N) (hnp : ∀ s, s < hs.length -> hs.getD s 0 ≠ p) (hz : ∀ i, hs.length <= i -> i < M -> T i p = 0) : ∀ j, j < M -> dot r w N (L j) (makeX T hs p hs.length) = 0 := by
 refine t.keep _ (fun k _ => makeX_lt g t h hp k _ (Nat.le_refl _)) fun i hi => ?_
 rw [qak_ g t h hp hnp hi _ (Nat.le_refl _)]
 by_cases z : i < hs.length
 ·rw [if_pos z, Nat.xor_self]
 ·rw [if_neg z, hz i (by omega) hi]
  rfl
theorem Tab.start (g : Full r w) (hL : ∀ j k, j < M -> k < N -> L j k < 2 ^ w) (h1 : ∀ i k, i < M -> k < N -> T i k = L i k) (h2 : ∀ i j, i < M -> j < M -> T i (N + j) = if j = i then 1 else 0) : Tab r w N M L T := by
 have t16 := g.top16
 refine ⟨fun i k hi hk => ?_, fun i k hi hk => ?_, fun x hx hz j hj => ?_⟩
 ·by_cases e : k < N
  ·rw [h1 i k hi e]
   exact hL i k hi e
  ·obtain ⟨j, rfl⟩ : ∃ j, k = N + j := ⟨k - N, by omega⟩
   rw [h2 i j hi (by omega)]
   split <;> omega
 ·have e : dot r w M (fun j => L j k) (fun j => if j = i then 1 else (fun _ => 0) j) = _ := z5_ (x := fun _ => 0) (p := i) (v := 1) rfl M
  rw [vl_, Nat.zero_xor, if_pos hi, tm_one] at e
  rw [h1 i k hi hk, ← e]
  exact (dot_congr M fun j hj => ⟨rfl, (h2 i j hi hj).symm⟩)
 ·rw [<- hz j hj]
  exact dot_congr N fun k hk => ⟨(h1 j k hj hk).symm, rfl⟩
end
end GF
namespace GF
structure Odd (r w n : Nat) : Prop where
 rule : Rule r w
 w4 : 4 <= w
 w8 : w <= 8
 odd : r % 2 = 1
 lo16 : 16 <= r
 hi511 : r <= 511
 n1 : 1 <= n
 n255 : n <= 255
 back : it r w n = 1
 first : ∀ k, 1 <= k -> k < n -> it r w k ≠ 1
def oddN (r : Nat) : Nat := (j6_ r r.log2 600 2 1).getD 0
def qkx_ (r : Nat) : Bool := decide (r < 16) || decide (r % 2 = 0) || (decide (4 <= r.log2) && decide (r.log2 <= 8) && decide (2 ^ r.log2 <= r) && decide (r < 2 ^ (r.log2 + 1)) &&
 decide (j6_ r r.log2 600 2 1 = some (oddN r)) && decide (1 <= oddN r) && decide (oddN r <= 255))
end GF
namespace GF
variable {r w : Nat}
def sc (r w n f b : Nat) : Nat := join w ((syms w n b).map (tm r w f))
theorem qj8_ (R : Rule r w) {n f b : Nat} (hf : f < 2 ^ w) : sc r w n f b < (2 ^ w) ^ n := by
 unfold sc
 have := qb8_ (w := w) (row := (syms w n b).map (tm r w f)) fun x hx => by
  obtain ⟨y, _, rfl⟩ := List.mem_map.mp hx
  exact tm_lt R hf
 rw [List.length_map, syms_length] at this
 exact this
theorem qi3_ (R : Rule r w) {n f b c : Nat} (hf : f < 2 ^ w) : sc r w n f (b ^^^ c) = sc r w n f b ^^^ sc r w n f c := by
 unfold sc
 rw [qag_ (fun x => tm_lt R hf) (fun x => tm_lt R hf), qai_, List.map_zipWith]
 congr 2
 funext x y
 exact tm_xor_right
theorem sc_zero {n b : Nat} : sc r w n 0 b = 0 := by
 unfold sc
 have : (syms w n b).map (tm r w 0) = (List.range n).map fun _ => 0 := by
  rw [syms_range, List.map_map]
  exact List.map_congr_left fun k _ => zero_tm _
 rw [this, ux_]
theorem vL_ {n f : Nat} : sc r w n f 0 = 0 := vJ_ w n _ (tm_zero f)
theorem sc_one (R : Rule r w) (hw : 1 < w) {n b : Nat} (hb : b < (2 ^ w) ^ n) : sc r w n 1 b = b := by
 unfold sc
 have : (syms w n b).map (tm r w 1) = syms w n b := by
  conv => rhs; rw [<- List.map_id (syms w n b)]
  exact List.map_congr_left fun x hx => one_tm R hw (qb7_ hx)
 rw [this, uv_ hb]
theorem uy_ {n : Nat} (p : Nat × Nat) (ps : List (Nat × Nat)) : sumB r w n (p :: ps) = sc r w n p.1 p.2 ^^^ sumB r w n ps := by
 rw [show p :: ps = [p] ++ ps from rfl, sumB_append]
 congr 1
 exact Nat.zero_xor _
theorem qal_ {n : Nat} : sumB r w n [] = 0 := rfl
theorem sumB_lt (R : Rule r w) {n : Nat} : ∀ {fs bs : List Nat}, (∀ f ∈ fs, f < 2 ^ w) -> sumB r w n (fs.zip bs) < (2 ^ w) ^ n
 | [], bs, _ => by
  rw [List.zip_nil_left, qal_]
  exact Nat.pow_pos (Nat.two_pow_pos w)
 | _ :: _, [], _ => by
  rw [List.zip_nil_right, qal_]
  exact Nat.pow_pos (Nat.two_pow_pos w)
 | f :: fs, b :: bs, h => by
  rw [List.zip_cons_cons, uy_, ← Nat.pow_mul]
  refine Nat.xor_lt_two_pow ?_ ?_
  ·rw [Nat.pow_mul]; exact qj8_ R (h f List.mem_cons_self)
  ·rw [Nat.pow_mul]; exact sumB_lt R fun x hx => h x (List.mem_cons_of_mem _ hx)
theorem sumB_unit (R : Rule r w) (hw : 1 < w) {n t : Nat} : ∀ (M s : Nat) (bs : List Nat), bs.length = M -> (∀ b ∈ bs, b < (2 ^ w) ^ n) -> sumB r w n (((List.range M).map fun j => if j + s = t then 1 else 0).zip bs) = if s <= t /\ t < s + M then bs.getD (t - s) 0 else 0
 | 0, s, bs, _, _ => by
  rw [if_neg (by omega)]
  rfl
 | M + 1, s, [], hl, _ => by simp at hl
 | M + 1, s, b :: bs, hl, h => by
  have ih := sumB_unit R hw (n := n) (t := t) M (s + 1) bs (by simpa using hl) fun x hx => h x (List.mem_cons_of_mem _ hx)
  rw [List.range_succ_eq_map, List.map_cons, List.map_map, List.zip_cons_cons, uy_]
  have e : ((fun j => if j + s = t then 1 else 0) ∘ Nat.succ) = fun j => if j + (s + 1) = t then 1 else 0 := by
   funext j
   show (if j + 1 + s = t then 1 else 0) = _
   rw [show j + 1 + s = j + (s + 1) by omega]
  rw [e, ih]
  dsimp only
  by_cases z : s = t
  ·subst z
   rw [if_pos (by omega), if_neg (by omega), if_pos (by omega), Nat.xor_zero, Nat.sub_self, sc_one R hw (h b List.mem_cons_self)]
   rfl
  ·rw [if_neg (by omega), sc_zero, Nat.zero_xor]
   by_cases y : s + 1 <= t /\ t < s + 1 + M
   ·rw [if_pos y, if_pos (by omega)]
    rw [show t - s = (t - (s + 1)) + 1 by omega]
    rfl
   ·rw [if_neg y, if_neg (by omega)]
end GF
namespace GF
variable {r w : Nat}
def xsum : Nat -> (Nat -> Nat) -> Nat
 | 0, _ => 0
 | n + 1, F => xsum n F ^^^ F n
theorem zu_ {F G : Nat -> Nat} : ∀ n, (∀ k, k < n -> F k = G k) -> xsum n F = xsum n G
 | 0, _ => rfl
 | n + 1, h => by rw [xsum, xsum, zu_ n fun k hk => h k (Nat.lt_succ_of_lt hk), h n (Nat.lt_succ_self n)]
theorem xsum_xor (F G : Nat -> Nat) : ∀ n, xsum n (fun k => F k ^^^ G k) = xsum n F ^^^ xsum n G
 | 0 => (Nat.xor_self 0).symm
 | n + 1 => by rw [xsum, xsum, xsum, xsum_xor F G n]; exact xor4 _ _ _ _
theorem uz_ : ∀ n, xsum n (fun _ => 0) = 0
 | 0 => rfl
 | n + 1 => by rw [xsum, uz_ n]; rfl
theorem xsum_single {n p : Nat} {F : Nat -> Nat} (hp : p < n) (h : ∀ k, k < n -> k ≠ p -> F k = 0) : xsum n F = F p := by
 have key : ∀ m, m <= n -> xsum m F = if p < m then F p else 0 := by
  intro m
  induction m with
  | zero => intro _; rw [if_neg (Nat.not_lt_zero _)]; rfl
  | succ m ih =>
   intro hm
   rw [xsum, ih (by omega)]
   by_cases z : m = p
   ·subst z
    rw [if_neg (Nat.lt_irrefl _), if_pos (Nat.lt_succ_self _), Nat.zero_xor]
   ·rw [h m (by omega) z, Nat.xor_zero]
    by_cases y : p < m
    ·rw [if_pos y, if_pos (by omega)]
    ·rw [if_neg y, if_neg (by omega)]
 rw [key n (Nat.le_refl _), if_pos hp]
theorem qi4_ (R : Rule r w) {n f g b : Nat} (hf : f < 2 ^ w) (hg : g < 2 ^ w) : sc r w n (f ^^^ g) b = sc r w n f b ^^^ sc r w n g b := by
 unfold sc
 rw [syms_range, List.map_map, List.map_map, List.map_map]
 refine Eq.trans ?_ (uw_ (f := tm r w f ∘ fun k => b / (2 ^ w) ^ k % 2 ^ w) (g := tm r w g ∘ fun k => b / (2 ^ w) ^ k % 2 ^ w) _ (fun k => tm_lt R hf) (fun k => tm_lt R hg)).symm
 congr 1
 exact List.map_congr_left fun k _ => yl_ R hf hg
theorem qj9_ (R : Rule r w) (hw : 1 < w) {n f g b : Nat} (hf : f < 2 ^ w) (hg : g < 2 ^ w) : sc r w n f (sc r w n g b) = sc r w n (tm r w f g) b := by
 unfold sc
 have h := uu_ (w := w) (row := (syms w n b).map (tm r w g)) fun x hx => by
  obtain ⟨y, _, rfl⟩ := List.mem_map.mp hx
  exact tm_lt R hg
 rw [List.length_map, syms_length] at h
 rw [h, List.map_map]
 congr 1
 exact List.map_congr_left fun d _ => (tm_assoc R hw hf hg d).symm
theorem qb9_ (R : Rule r w) {n f : Nat} (hf : f < 2 ^ w) (F : Nat -> Nat) : ∀ m, sc r w n f (xsum m F) = xsum m (fun k => sc r w n f (F k))
 | 0 => vL_
 | m + 1 => by rw [xsum, xsum, qi3_ R hf, qb9_ R hf F m]
theorem sumB_range {n : Nat} (f x : Nat -> Nat) : ∀ (m : Nat), sumB r w n (((List.range m).map f).zip ((List.range m).map x)) = xsum m (fun k => sc r w n (f k) (x k))
 | 0 => rfl
 | m + 1 => by
  rw [List.range_succ, List.map_append, List.map_append, List.zip_append (by rw [List.length_map, List.length_map]), sumB_append, sumB_range f x m, xsum]
  congr 1
  exact Nat.zero_xor _
theorem list_range (X : List Nat) : X = (List.range X.length).map fun k => X.getD k 0 := by
 apply List.ext_getElem?
 intro k
 rw [List.getElem?_map]
 by_cases h : k < X.length
 ·rw [List.getElem?_range h, List.getElem?_eq_getElem h]
  show some _ = some (X.getD k 0)
  rw [List.getD_eq_getElem?_getD, List.getElem?_eq_getElem h]
  rfl
 ·rw [List.getElem?_eq_none (by omega), List.getElem?_eq_none (by rw [List.length_range]; omega)]
  rfl
theorem sumB_filter {n : Nat} (b : Nat -> Bool) (f x : Nat -> Nat) : ∀ m, sumB r w n (((List.range m).filter b).map fun k => (f k, x k)) = xsum m (fun k => if b k = true then sc r w n (f k) (x k) else 0)
 | 0 => rfl
 | m + 1 => by
  rw [List.range_succ, List.filter_append, List.map_append, sumB_append, sumB_filter b f x m, xsum]
  congr 1
  by_cases z : b m = true
  ·rw [List.filter_cons_of_pos z, List.filter_nil, if_pos z]
   exact Nat.zero_xor _
  ·rw [List.filter_cons_of_neg z, List.filter_nil, if_neg z]
   rfl
theorem lines_zero (R : Rule r w) (hw : 1 < w) {n m : Nat} {e : Nat -> Nat -> Nat} {x y : Nat -> Nat} : ∀ (M : Nat), (∀ t j, t < M -> j < m -> e t j < 2 ^ w) -> (∀ t, t < M -> y t < 2 ^ w) -> (∀ t, t < M -> xsum m (fun j => sc r w n (e t j) (x j)) = 0) -> xsum m (fun j => sc r w n (dot r w M (fun t => e t j) y) (x j)) = 0
 | 0, _, _, _ => by
  have : xsum m (fun j => sc r w n (dot r w 0 (fun t => e t j) y) (x j)) = xsum m (fun _ => 0) := zu_ m fun j _ => sc_zero
  rw [this, uz_]
 | M + 1, he, hy, h0 => by
  have ih := lines_zero R hw M (fun t j ht hj => he t j (Nat.lt_succ_of_lt ht) hj) (fun t ht => hy t (Nat.lt_succ_of_lt ht)) fun t ht => h0 t (Nat.lt_succ_of_lt ht)
  have e1 : xsum m (fun j => sc r w n (dot r w (M + 1) (fun t => e t j) y) (x j)) = xsum m (fun j => sc r w n (dot r w M (fun t => e t j) y) (x j) ^^^ sc r w n (y M) (sc r w n (e M j) (x j))) := zu_ m fun j hj => by
   have hm := he M j (Nat.lt_succ_self M) hj
   have hyM := hy M (Nat.lt_succ_self M)
   rw [dot, qi4_ R (dot_lt R M fun t ht => he t j (Nat.lt_succ_of_lt ht) hj) (tm_lt R hm), qj9_ R hw hyM hm, tm_comm R hw hyM hm]
  rw [e1, xsum_xor, ih, Nat.zero_xor, ← qb9_ R (hy M (Nat.lt_succ_self M)), h0 M (Nat.lt_succ_self M), vL_]
end GF
set_option linter.all false
set_option maxRecDepth 100000
namespace L2
open PySem PySem.Spec PyProof.Rows
section
variable {X : Cx}
theorem yS_ : MtR X "int.bit_length" (fun x xs H Q => ∃ i, x = .int i ∧ xs = [] ∧ Q (.int ((Builtin.Int.intBits i : Nat) : Int)) H) := by
 intro pins s σ H x xs v us Q I rx rs h
 obtain ⟨i, rfl, rfl, q⟩ := h
 obtain ⟨t, rfl⟩ := rx
 cases rs
 exact call_int_bit_length ⟨.int _, H, I.tok _, ⟨_, rfl⟩, q⟩
end
theorem qcx_ (a b : Nat) : Builtin.bitAnd (a : Int) (b : Int) = ((a &&& b : Nat) : Int) := by
 unfold Builtin.bitAnd
 rw [decide_eq_true (Int.natCast_nonneg a), decide_eq_true (Int.natCast_nonneg b)]
 simp
theorem jV_ (a b : Nat) : Builtin.bitXor (a : Int) (b : Int) = ((a ^^^ b : Nat) : Int) := by
 have h := PyProof.Rows.bitXor_and (a : Int) (b : Int)
 rw [h, qcx_]
 have := GF.xor_add_and a b
 omega
theorem jZ_ {r w : Nat} (h1 : 2 ^ w <= r) (h2 : r < 2 ^ (w + 1)) : Builtin.Int.intBits (r : Int) = w + 1 := by
 unfold Builtin.Int.intBits
 have hr : 0 < r := Nat.lt_of_lt_of_le (Nat.two_pow_pos w) h1
 have : ((r : Int) == 0) = false := beq_eq_false_iff_ne.mpr (by omega)
 rw [this]
 have e : (r : Int).natAbs = r := Int.natAbs_natCast r
 rw [e]
 have : r.log2 = w := (Nat.log2_eq_iff (by omega)).mpr ⟨h1, h2⟩
 simp [this]
end L2
set_option linter.all false
set_option maxRecDepth 100000
namespace L2
open PySem PySem.Spec PyProof.Rows
def Itv (K : PySem.W.Frag) (a : Addr) (xs : List V) : It :=
 ⟨fun i H => SqL K H a xs /\ i < xs.length, fun i H x H' => H' = H /\ xs[xs.length - 1 - i]? = some x, fun i _ => i = xs.length⟩
theorem qfm_ {P : Program} {w : World} {K : PySem.W.Frag} {tg : Expr} (a it : Addr) (xs : List V) : Turn P w K tg (Itv K a xs) [it] it (fun i h => h.IsRevIter it a ((xs.length : Int) - 1 - (i : Int))) where
 mem := by simp
 obj := fun i h st b hb => by
  have e : b = it := by simpa using hb
  subst e
  obtain ⟨o, e, c, d⟩ := st
  exact ⟨o, e, fun v z => by rw [d] at z; cases z⟩
 keep := fun i h h' st k => st.at fun o e => k it (by simp) o e
 item := by
  intro X hP hw hK hc i pins s σ H E I hf st hg
  subst hP hw hK
  obtain ⟨hq, hi⟩ := hg
  obtain ⟨its, rv, p, hz⟩ := I.list hq
  have hx : xs[xs.length - 1 - i]? = some (xs[xs.length - 1 - i]'(by omega)) := List.getElem?_eq_getElem (by omega)
  obtain ⟨u, hu, ru⟩ := rv.get hx
  obtain ⟨f0, f1, f2, f3, f4, f5⟩ := hf it (by simp)
  have e : (xs.length : Int) - 1 - (i : Int) = ((xs.length - 1 - i : Nat) : Int) := by omega
  rw [e] at st
  refine wpAny_pyNext_rev_item st p.isList (x := u) (by simpa using hu) fun h' st' sb => ?_
  have e2 : ((xs.length - 1 - i : Nat) : Int) - 1 = (xs.length : Int) - 1 - ((i + 1 : Nat) : Int) := by omega
  rw [e2] at st'
  have I1 : Inv X pins σ H { s with heap := h' } := I.turned (t' := s.toks) (fun b o hb e => (sb.2 b hb).trans e) f0 f1 f3 f4 f5
  obtain ⟨o, e, c, d⟩ := id st'
  exact ⟨u, rfl, u1_ (s := { s with heap := h' }) e c d (by decide) ⟨_, H, I1, ru, ⟨rfl, hx⟩, st', fun b hb => (hf b hb).1⟩⟩
 done := by
  intro X hP hw hK hc i pins s σ H E I hf st hg
  subst hP hw hK
  have hg : i = xs.length := hg
  obtain ⟨f0, f1, f2, f3, f4, f5⟩ := hf it (by simp)
  have e : (xs.length : Int) - 1 - (i : Int) = -1 := by omega
  rw [e] at st
  exact wpAny_pyNext_rev_end (I.ok.hd hc) st fun h' eb => ⟨rfl, I.turned (t' := s.toks) (fun b o hb e => eb b o hb e) f0 f1 f3 f4 f5⟩
 self := fun _ _ _ _ _ st h => wpAny_pyIter_revIter st h
section
variable {X : Cx} {tg : Expr}
def iRev (K : PySem.W.Frag) (ta : TA) : TI := fun σ H R => ta σ H fun vs H1 => ∃ l xs, vs = [.ref l] /\ SqL K H1 l xs /\ R (Itv K l xs) H1
theorem uQ_ : bootBuiltins "reversed" = some (.type "reversed") := by decide +kernel
theorem qi5_ {a : Expr} {ta : TA} {p pos : Pos} (hg : Gl X "reversed") (hm : X.mg "reversed" = none) (ha : PA X [a] ta) (hs : starEach [a] X.env = [(false, eval a X.env)] := by rfl) : PI X tg (.Call (.Name "reversed" p) [a] [] pos) (iRev X.K ta) := by
 intro pins s σ H R I h
 refine Call_ (yr_ I hg hm uQ_ (PyProof.Rows.callWith_type1 (thn (ha pos pins s σ H _ I h) fun us s1 ⟨vs, H1, I1, r1, q1⟩ => ?_) hs rfl))
 obtain ⟨l, xs, e, hq, q⟩ := q1
 subst e
 obtain ⟨u, rfl, ru⟩ := yY_ r1
 cases ru
 obtain ⟨its, rv, pl, hz⟩ := I1.list hq
 refine call_reversed_list pl.isList ?_
 have hsz : ((its.toArray.size : Nat) : Int) - 1 = (xs.length : Int) - 1 - ((0 : Nat) : Int) := by rw [List.size_toArray, ← rv.length]; omega
 have st : (s1.heap.push (revObj l ((its.toArray.size : Int) - 1))).IsRevIter s1.heap.objs.size l ((xs.length : Int) - 1 - ((0 : Nat) : Int)) := by
  rw [<- hsz]
  exact ⟨_, Heap.get?_push_size _ rfl, rfl, rfl⟩
 refine wpAny_pyIter_revIter st ?_
 refine ⟨s1.heap.objs.size, [s1.heap.objs.size], _, _, H1, rfl, I1.kept (t' := s1.toks) fun b o e => Heap.get?_push_of_some _ e, qfm_ l _ xs, st, fun b hb => ?_, q⟩
 have e : b = s1.heap.objs.size := by simpa using hb
 subst e
 exact I1.fpOk (Nat.le_refl _) (I1.hok.fresh (Nat.le_refl _))
end
theorem qhh_ {K : PySem.W.Frag} {a : Addr} {xs : List V} {g : TG} {tb : TS} {D : Ends} {σ : St} {H : Hp} (Pv : Nat -> St -> Hp -> Prop) (h0 : Pv 0 σ H) (hl : ∀ i σ H, i <= xs.length -> Pv i σ H -> SqL K H a xs)
  (hs : ∀ i x σ H, i < xs.length -> xs[xs.length - 1 - i]? = some x -> Pv i σ H -> g x σ H fun σ2 H2 => tb { D with nx := Pv (i + 1), ct := Pv (i + 1), bk := D.nx } σ2 H2) (hd : ∀ σ H, Pv xs.length σ H -> D.nx σ H) :
  ∃ W : Nat -> Nat -> St -> Hp -> Prop, (∃ m, W 0 m σ H) /\ ∀ i m σ H, W i m σ H →
   ((Itv K a xs).stop i H /\ D.nx σ H) \/ ((Itv K a xs).go i H /\ ∃ N : St -> Hp -> Prop, (∀ σ' H', N σ' H' -> ∃ m', m' < m /\ W (i + 1) m' σ' H') /\ ∀ x H', (Itv K a xs).yld i H x H' -> g x σ H' fun σ2 H2 => tb { D with nx := N, ct := N, bk := D.nx } σ2 H2) := by
 refine ⟨fun i m σ H => m = xs.length - i /\ i <= xs.length /\ Pv i σ H, ⟨xs.length, by simp, Nat.zero_le _, h0⟩, ?_⟩
 rintro i m σ H ⟨rfl, hi, p⟩
 have q := hl i σ H hi p
 by_cases hlt : i < xs.length
 ·refine .inr ⟨⟨q, hlt⟩, Pv (i + 1), fun σ' H' p' => ⟨xs.length - (i + 1), by omega, rfl, hlt, p'⟩, fun x H' y => ?_⟩
  obtain ⟨e, y⟩ := y
  subst e
  exact hs i x σ _ hlt y p
 ·have e : i = xs.length := by omega
  exact .inl ⟨e, hd σ H (e ▸ p)⟩
end L2
set_option linter.all false
set_option maxRecDepth 100000
set_option maxHeartbeats 1000000
namespace L2
open PySem PySem.Spec PyProof.Rows
theorem zv_ {env : Env} : ∀ (names : List (Str × NameKind)) (acc : List (Str × Addr)), (∀ n, (n, NameKind.free) ∈ names -> ∃ c, env.cells.lookup n = some c) -> (∀ n c, acc.lookup n = some c -> env.cells.lookup n = some c) →
  ∃ cl : List (Str × Addr), (forIn names acc (fun x r => match x with
    | (name, kind) => if (kind == NameKind.free) = true then do
      let c ← cellOf env name
      pure (ForInStep.yield ((name, c) :: r))
     else pure (ForInStep.yield r)) : Sem (List (Str × Addr))) = pure cl /\ (∀ n c, cl.lookup n = some c -> env.cells.lookup n = some c) ∧
   ∀ n, ((n, NameKind.free) ∈ names \/ (acc.lookup n).isSome = true) -> (cl.lookup n).isSome = true
 | [], acc, _, h => ⟨acc, rfl, h, fun n q => q.elim (fun z => by simp at z) id⟩
 | (n, k) :: r, acc, hf, h => by
  rw [List.forIn_cons]
  by_cases hk : k = .free
  ·subst hk
   obtain ⟨c, hc⟩ := hf n List.mem_cons_self
   have e : cellOf env n = pure c := by unfold cellOf; rw [hc]
   obtain ⟨cl, h1, h2, h3⟩ := zv_ r ((n, c) :: acc) (fun m hm => hf m (List.mem_cons_of_mem _ hm)) (fun m d hm => by
    rw [List.lookup_cons] at hm
    cases q : (m == n) with
    | true => rw [q] at hm; cases hm; rw [eq_of_beq q]; exact hc
    | false => rw [q] at hm; exact h m d hm)
   refine ⟨cl, ?_, h2, fun m hm => h3 m ?_⟩
   ·show ((if (NameKind.free == NameKind.free) = true then _ else _) >>= _) = _
    rw [if_pos (by decide), e]
    exact h1
   ·rcases hm with hm | hm
    ·rcases List.mem_cons.mp hm with z | z
     ·cases z
      exact .inr (by rw [List.lookup_cons, beq_self_eq_true]; rfl)
     ·exact .inl z
    ·refine .inr ?_
     rw [List.lookup_cons]
     cases q : (m == n) with
     | true => rfl
     | false => exact hm
  ·have hb : (k == NameKind.free) = false := by simpa using hk
   obtain ⟨cl, h1, h2, h3⟩ := zv_ r acc (fun m hm => hf m (List.mem_cons_of_mem _ hm)) h
   refine ⟨cl, ?_, h2, fun m hm => h3 m ?_⟩
   ·show ((if (k == NameKind.free) = true then _ else _) >>= _) = _
    rw [if_neg (by rw [hb]; exact Bool.false_ne_true)]
    exact h1
   ·rcases hm with hm | hm
    ·rcases List.mem_cons.mp hm with z | z
     ·cases z
      exact absurd rfl hk
     ·exact .inl z
    ·exact .inr hm
theorem qcy_ {env : Env} {scope : Scope} (hf : ∀ n, (n, NameKind.free) ∈ scope.names -> ∃ c, env.cells.lookup n = some c) :
  ∃ cl : List (Str × Addr), closureFor scope env = pure cl /\ (∀ n c, cl.lookup n = some c -> env.cells.lookup n = some c) /\ ∀ n, (n, NameKind.free) ∈ scope.names -> (cl.lookup n).isSome = true := by
 obtain ⟨cl, h1, h2, h3⟩ := zv_ scope.names [] hf (fun n c h => by simp at h)
 refine ⟨cl, ?_, h2, fun n h => h3 n (.inl h)⟩
 unfold closureFor
 have : (forIn scope.names ([] : List (Str × Addr)) (fun x r => match x with
    | (name, kind) => if (kind == NameKind.free) = true then do
      let c ← cellOf env name
      pure (ForInStep.yield ((name, c) :: r))
     else pure (ForInStep.yield r)) : Sem (List (Str × Addr))) = pure cl := h1
 first
  | exact this
  | (rw [show ∀ x : Sem (List (Str × Addr)), (x >>= fun cs => pure cs) = x from fun x => by simp]; exact this)
  | (simp only [bind_pure]; exact this)
theorem yE_ {env : Env} : ∀ (names : List (Str × NameKind)) (x : Str),
  (names.map fun (n, k) => if (k == NameKind.free && env.scope.kind == .function && env.kindOf n == some .cell) = true then (n, NameKind.cell) else (n, k)).lookup x =
   (names.lookup x).map fun k => if (k == NameKind.free && env.scope.kind == .function && env.kindOf x == some .cell) = true then NameKind.cell else k
 | [], x => rfl
 | (n, k) :: r, x => by
  have ih := yE_ (env := env) r x
  show List.lookup x ((if (k == NameKind.free && env.scope.kind == .function && env.kindOf n == some .cell) = true then (n, NameKind.cell) else (n, k)) :: _) = _
  cases q : (x == n) with
  | true =>
   have e := eq_of_beq q
   subst e
   by_cases hc : (k == NameKind.free && env.scope.kind == .function && env.kindOf x == some .cell) = true
   ·rw [if_pos hc]
    simp only [List.lookup_cons, q, Option.map_some, if_pos hc]
   ·rw [if_neg hc]
    simp only [List.lookup_cons, q, Option.map_some, if_neg hc]
  | false =>
   by_cases hc : (k == NameKind.free && env.scope.kind == .function && env.kindOf n == some .cell) = true
   ·rw [if_pos hc]
    simp only [List.lookup_cons, q]
    exact ih
   ·rw [if_neg hc]
    simp only [List.lookup_cons, q]
    exact ih
def qd4_ (N : List Str) (osc sc : Scope) (cap : List Nat) (own : List Str) : Bool :=
 (sc.kind == .function) && sc.names.all (fun y => (y.2 != .cell) && ((y.2 != .local) || (sc.names.lookup y.1 == some .local)) && ((y.2 != .free) || ((sc.names.lookup y.1 == some .free) && ((osc.names.lookup y.1 == some .cell) || (osc.names.lookup y.1 == some .free))))) &&
  cap.all (fun i => match N[i]? with | some x => sc.names.lookup x == some .free | none => false) && own.all (fun x => sc.names.lookup x == some .local) && decide ((cap.map (fun i => N.getD i Str.empty) ++ own).Nodup)
structure CompOk (N : List Str) (osc sc : Scope) (cap : List Nat) (own : List Str) : Prop where
 kind : sc.kind = .function
 nocell : ∀ y ∈ sc.names, y.2 ≠ .cell
 locs : ∀ y ∈ sc.names, y.2 = .local -> sc.names.lookup y.1 = some .local
 free1 : ∀ y ∈ sc.names, y.2 = .free -> sc.names.lookup y.1 = some .free
 frees : ∀ y ∈ sc.names, y.2 = .free -> osc.names.lookup y.1 = some .cell \/ osc.names.lookup y.1 = some .free
 capf : ∀ i ∈ cap, ∃ x, N[i]? = some x /\ sc.names.lookup x = some .free
 owns : ∀ x ∈ own, sc.names.lookup x = some .local
 nd : (cap.map (fun i => N.getD i Str.empty) ++ own).Nodup
theorem CompOk.of {N : List Str} {osc sc : Scope} {cap : List Nat} {own : List Str} (h : qd4_ N osc sc cap own = true) : CompOk N osc sc cap own := by
 unfold qd4_ at h
 simp only [Bool.and_eq_true] at h
 obtain ⟨⟨⟨⟨h1, h2⟩, h3⟩, h4⟩, h5⟩ := h
 have all := List.all_eq_true.mp h2
 refine ⟨eq_of_beq h1, fun y hy => ?_, fun y hy e => ?_, fun y hy e => ?_, fun y hy e => ?_, fun i hi => ?_, fun x hx => ?_, of_decide_eq_true h5⟩
 ·have q := all y hy
  simp only [Bool.and_eq_true] at q
  intro e
  rw [e] at q
  exact absurd q.1.1 (by decide)
 ·have q := all y hy
  simp only [Bool.and_eq_true, Bool.or_eq_true] at q
  rcases q.1.2 with z | z
  ·rw [e] at z; exact absurd z (by decide)
  ·exact eq_of_beq z
 ·have q := all y hy
  simp only [Bool.and_eq_true, Bool.or_eq_true] at q
  rcases q.2 with z | z
  ·rw [e] at z; exact absurd z (by decide)
  ·exact eq_of_beq z.1
 ·have q := all y hy
  simp only [Bool.and_eq_true, Bool.or_eq_true] at q
  rcases q.2 with z | z
  ·rw [e] at z; exact absurd z (by decide)
  ·exact z.2.imp eq_of_beq eq_of_beq
 ·have q := List.all_eq_true.mp h3 i hi
  cases e : N[i]? with
  | none => rw [e] at q; cases q
  | some x => rw [e] at q; exact ⟨x, rfl, eq_of_beq q⟩
 ·exact eq_of_beq (List.all_eq_true.mp h4 x hx)
abbrev z6_ (N : List Str) (cap : List Nat) (own : List Str) : List Str := cap.map (fun i => N.getD i Str.empty) ++ own
abbrev yT_ (σ : St) (cap : List Nat) (own : List Str) : St := cap.map (fun i => (σ[i]?).join) ++ own.map fun _ => none
def j7_ (X : Cx) (sc : Scope) (cl : List (Str × Addr)) (C : Addr) (cap : List Nat) (own : List Str) (s₀ : Shared) (H₀ : Hp) (ex : List Addr) : Cx :=
 { X with N := z6_ X.N cap own, s₀ := s₀, H₀ := H₀, env := compEnvC sc cl C X.env, outer := X.stack, stack := X.stack, ex := ex, fn := fun _ => false, pn := [], xe := fun _ _ => False }
section
variable {X : Cx} {pins : List (Addr × Obj)} {σ : St} {H : Hp} {s : Shared} {sc : Scope} {cl : List (Str × Addr)} {cap : List Nat} {own : List Str}
theorem qam_ (S : CompOk X.N X.env.scope sc cap own) {x : Str} {C : Addr} (h : (compEnvC sc cl C X.env).kindOf x = some .cell \/ (compEnvC sc cl C X.env).kindOf x = some .free) : (x, NameKind.free) ∈ sc.names := by
 have e : (compEnvC sc cl C X.env).kindOf x = (sc.names.lookup x).map fun k => if (k == NameKind.free && X.env.scope.kind == .function && X.env.kindOf x == some .cell) = true then NameKind.cell else k := yE_ sc.names x
 rw [e] at h
 cases q : sc.names.lookup x with
 | none => rw [q] at h; rcases h with z | z <;> cases z
 | some k =>
  have hm := PySem.mem_of_lookup q
  have hk : k = .free := by
   rw [q] at h
   simp only [Option.map_some, Option.some.injEq] at h
   by_cases c : (k == NameKind.free && X.env.scope.kind == .function && X.env.kindOf x == some .cell) = true
   ·simp only [Bool.and_eq_true] at c
    exact eq_of_beq c.1.1
   ·rw [if_neg c] at h
    rcases h with z | z
    ·exact absurd z (S.nocell _ hm)
    ·exact z
  rw [hk] at hm
  exact hm
theorem qd5_ (S : CompOk X.N X.env.scope sc cap own) {x : Str} {C : Addr} (h : sc.names.lookup x = some .free) : (compEnvC sc cl C X.env).kindOf x = some .cell \/ (compEnvC sc cl C X.env).kindOf x = some .free := by
 have e : (compEnvC sc cl C X.env).kindOf x = (sc.names.lookup x).map fun k => if (k == NameKind.free && X.env.scope.kind == .function && X.env.kindOf x == some .cell) = true then NameKind.cell else k := yE_ sc.names x
 rw [e, h]
 simp only [Option.map_some, Option.some.injEq]
 split
 ·exact .inl rfl
 ·exact .inr rfl
theorem Inv.block {h' : Heap} {fp : List Addr} {t' : Nat} (I : Inv X pins σ H s) (S : CompOk X.N X.env.scope sc cap own) (hc1 : ∀ n c, cl.lookup n = some c -> X.env.cells.lookup n = some c) (hc2 : ∀ n, (n, NameKind.free) ∈ sc.names -> (cl.lookup n).isSome = true)
  (hf : ∀ b ∈ fp, FpOk X pins H b) (hlt : ∀ b ∈ fp, b < s.heap.objs.size) {m : Str -> Option Value} (hn : h'.Ns s.heap.objs.size m) (k : ∀ b u, s.heap.get? b = some u -> h'.get? b = some u) :
  Inv (j7_ X sc cl s.heap.objs.size cap own s H fp) [] (yT_ σ cap own) H { s with heap := h', toks := t' } := by
 refine ⟨⟨I.mod, S.kind, I.ok.glob, I.ok.blt, Nat.le_refl _, fun x y c a b => I.ok.inj x y c (hc1 x c a) (hc1 y c b), fun x hx => ?_, fun x c z => absurd z (by show ¬ (false = true); decide), I.ok.hd, I.ok.frames, .inl rfl, fun b hb => ⟨Nat.ne_of_lt (hlt b hb), fun x c e => (hf b hb).2.2.2.2.1 x c (hc1 x c e)⟩, I.bs, Nat.le_trans I.ok.bsz I.sz, fun b o e hb => ?_, fun b hb z => ?_, I.stack, I.stkFree⟩,
  rfl, I.bare, Un.kept k, ⟨m, hn, fun i x v e1 e2 e3 => ?_⟩, fun x c e => ?_, I.hok.fresh (Nat.le_refl _), fun x c e => I.freeC x c (hc1 x c e), fun p hp => absurd hp (by show p ∉ ([] ++ [] : List (Addr × Obj)); simp), I.hok.kept k, ?_⟩
 ·have hm := qam_ S hx
  exact Option.isSome_iff_exists.mp (hc2 x hm)
 ·rcases (hf b hb).2.2.2.1 with z | z
  ·exact I.ok.noex b o e z
  ·exact absurd (Nat.lt_of_lt_of_le (Heap.lt_size (I.ok.bs b o e).1) z) (Nat.lt_irrefl _)
 ·rcases List.mem_cons.mp (I.stkSub b z) with q | q
  ·exact (hf b hb).2.1 q
  ·exact (hf b hb).2.2.1 q
 ·by_cases hi : i < cap.length
  ·have e1' : (z6_ X.N cap own)[i]? = some x := e1
   have e2' : (yT_ σ cap own)[i]? = some (some v) := e2
   rw [z6_, List.getElem?_append_left (by simpa using hi), List.getElem?_map, List.getElem?_eq_getElem hi] at e1'
   rw [yT_, List.getElem?_append_left (by simpa using hi), List.getElem?_map, List.getElem?_eq_getElem hi] at e2'
   simp only [Option.map_some, Option.some.injEq] at e1' e2'
   obtain ⟨y, hy, hl⟩ := S.capf _ (List.getElem_mem hi)
   have exy : x = y := by
    rw [<- e1', List.getD_eq_getElem?_getD, hy]; rfl
   subst exy
   have ev : σ[cap[i]]? = some (some v) := by
    cases q : σ[cap[i]]? with
    | none => rw [q] at e2'; cases e2'
    | some o => rw [q] at e2'; exact congrArg some e2'
   obtain ⟨m0, hn0, hl0⟩ := I.loc
   have hm := PySem.mem_of_lookup hl
   have hko := S.frees _ hm rfl
   obtain ⟨u, ru, lk⟩ := hl0 _ x v hy ev (hko.elim (fun z => .inr (.inl z)) fun z => .inr (.inr z))
   refine ⟨u, ru, .inr ⟨qd5_ S hl, ?_⟩⟩
   obtain ⟨c, hc⟩ := Option.isSome_iff_exists.mp (hc2 x hm)
   refine ⟨c, hc, ?_⟩
   rcases lk with ⟨z, _⟩ | ⟨_, c', hc', q⟩
   ·have z' : X.env.scope.names.lookup x = some .local := z
    rcases hko with w | w <;> (rw [z'] at w; cases w)
   ·have := hc1 x c hc
    rw [hc'] at this
    cases this
    obtain ⟨o, ho, hd⟩ := q
    exact ⟨o, k _ o ho, hd⟩
  ·have e2' : (yT_ σ cap own)[i]? = some (some v) := e2
   rw [yT_, List.getElem?_append_right (by simpa using hi), List.getElem?_map] at e2'
   cases q : own[i - (cap.map fun i => (σ[i]?).join).length]? with
   | none => rw [q] at e2'; cases e2'
   | some o => rw [q] at e2'; cases e2'
 ·obtain ⟨v, o, ho, hd⟩ := I.cell x c (hc1 x c e)
  exact ⟨v, o, k c o ho, hd⟩
 ·show (yT_ σ cap own).length = (z6_ X.N cap own).length
  simp [yT_, z6_]
def PTs (X : Cx) (ifs : List Expr) (t : TT) : Prop :=
 ∀ (pins : List (Addr × Obj)) (s : Shared) (σ : St) (H : Hp) (Q : Bool -> Hp -> Prop), Inv X pins σ H s -> t σ H Q →
  wpAny (model X.prog X.w) X.A (forIn ifs true fun c r => if r = true then do let ok ← isTrue c X.env (eval c X.env); pure (ForInStep.yield ok) else pure (ForInStep.yield r)) (TP X pins σ Q) X.xe s
def jP_ : TT := fun _ H Q => Q true H
theorem jG_ : PTs X [] jP_ := fun _ _ _ H _ I h => wpAny_tests_nil ⟨H, I, h⟩
theorem v3_ {c : Expr} {t : TT} (h : PT X c t) : PTs X [c] t := fun pins s σ H Q I q => wpAny_tests_one (h pins s σ H Q I q)
end
theorem qd6_ {prog : Program} {w : World} {A : Around} {R : Result -> Shared -> Prop} {s : Shared} {elt target iter : Expr} {ifs : List Expr} {scope : Scope} {pos : Pos} {it acc : Value} {env : Env} (I : Nat -> Shared -> Prop)
  (turn : ∀ n s, I n s -> wpAny (model prog w) A (pyNext it) (fun r s₁ => match r with
   | none => R (.ok .next) s₁
   | some v => wpAny (model prog w) A (letOwnedTupleGo target it v) (fun _ s₁ => wpAny (model prog w) A (assign target env v) (fun _ s₂ =>
     wpAny (model prog w) A (forIn ifs true fun c r => if r = true then do let ok ← isTrue c env (eval c env); pure (ForInStep.yield ok) else pure (ForInStep.yield r)) (fun ok s₃ =>
      if ok = true then wpAny (model prog w) A (eval elt env) (fun x s₄ =>
       wpAny (model prog w) A (call (.builtin "list.append") [acc, x]) (fun _ s₅ => ∃ m, m < n ∧ I m s₅) (fun _ _ => False) s₄) (fun _ _ => False) s₃
      else ∃ m, m < n /\ I m s₃) (fun _ _ => False) s₂) (fun _ _ => False) s₁) (fun _ _ => False) s₁) (fun _ _ => False) s)
  (n : Nat) (h : I n s) :
  codeAny (model prog w) A (.compLoop (.ListComp elt [⟨target, iter, ifs, 0⟩] scope pos) 0 it acc env) R s := by
 refine codeAny_loop rfl I (fun n s hI => ?_) n h
 show wpAny _ A ((compTurn (.ListComp elt [⟨target, iter, ifs, 0⟩] scope pos) 0 it acc env).onRaise (fun x => do noteFrame x env; theTreesLotGoes x)) _ _ s
 refine wpAny_noted ?_
 rw [compTurn_list]
 refine wpAny_noRaise ?_
 refine wpAny_bind (wpAny_standAt (wpAny_bind (wpAny_mono (turn n s hI) (fun r s₁ h₁ => ?_) fun _ _ h' => h')))
 cases r with
 | none => exact wpAny_pure h₁
 | some v =>
  refine wpAny_bind (wpAny_mono h₁ (fun _ s₁ h₁ => ?_) fun _ _ h' => h')
  refine wpAny_bind (wpAny_mono h₁ (fun _ s₂ h₂ => wpAny_bind (wpAny_mono h₂ (fun ok s₃ h₃ => ?_) fun _ _ h' => h')) fun _ _ h' => h')
  cases ok with
  | false => exact wpAny_pure ⟨rfl, h₃⟩
  | true =>
   exact wpAny_bind (wpAny_bind (wpAny_mono h₃ (fun x s₄ h₄ => wpAny_bind (wpAny_mono h₄ (fun _ s₅ h₅ => wpAny_pure (wpAny_pure ⟨rfl, h₅⟩)) fun _ _ h' => h')) fun _ _ h' => h'))
def jF_ (J : It) (g : TG) (tt : TT) (te : TE) (σ0 : St) (H1 : Hp) (D : Addr) (Q : Hp -> Prop) : Prop :=
 ∃ W : Nat -> Nat -> List V -> St -> Hp -> Prop, (∃ m, W 0 m [] σ0 (upd H1 D (.lst []))) /\ ∀ i m ys σ H, W i m ys σ H -> H D = some (.lst ys) ∧
  ((J.stop i H /\ Q H) \/ (J.go i H /\ ∀ x H', J.yld i H x H' -> g x σ H' fun σ2 H2 => tt σ2 H2 fun b H3 =>
   if b = true then te σ2 H3 fun v H4 => H4 D = some (.lst ys) /\ ys.length < sizeLine /\ ∃ m', m' < m /\ W (i + 1) m' (ys ++ [v]) σ2 (upd H4 D (.lst (ys ++ [v])))
   else ∃ m', m' < m /\ W (i + 1) m' ys σ2 H3))
def qcz_ (cap : List Nat) (own : List Str) (wi : TI) (g : TG) (tt : TT) (te : TE) : TE := fun σ H Q => wi σ H fun J H1 => ∀ D, H1 D = none -> jF_ J g tt te (yT_ σ cap own) H1 D (fun H' => Q (.ref D) H')
section
variable {X : Cx} {sc : Scope} {cap : List Nat} {own : List Str} {tg iter elt : Expr} {ifs : List Expr} {pos : Pos} {wi : TI} {g : TG} {tt : TT} {te : TE}
theorem uA_ {use : Option (Value -> Sem Unit)} {ppos : Pos} {pins : List (Addr × Obj)} {s : Shared} {σ : St} {H : Hp} {Q : V -> Hp -> Prop} {R : Value -> Shared -> Prop} (hc : X.calm = true) (S : CompOk X.N X.env.scope sc cap own) (hi : PI X tg iter wi)
  (hg : ∀ cl C s₀ H₀ ex, PG (j7_ X sc cl C cap own s₀ H₀ ex) tg g) (ht : ∀ cl C s₀ H₀ ex, PTs (j7_ X sc cl C cap own s₀ H₀ ex) ifs tt) (he : ∀ cl C s₀ H₀ ex, PE (j7_ X sc cl C cap own s₀ H₀ ex) elt te)
  (hs : ∀ x, foldedSetIterable iter X.env x = pure x) (I : Inv X pins σ H s) (h : qcz_ cap own wi g tt te σ H Q)
  (fin : ∀ (D C : Addr) (H' : Hp) (s' : Shared) (m : Str -> Option Value), Inv X pins σ H' s' -> s'.heap.Ns C m -> FpOk X pins H' C -> Q (.ref D) H' -> compPost (model X.prog X.w) X.A X.xe use R (.ref D) C (.ok .next) s') :
  wpAny (model X.prog X.w) X.A (comprehension (.ListComp elt [⟨tg, iter, ifs, 0⟩] sc pos) sc X.env ppos (newList []) false (eval iter X.env) use) R X.xe s := by
 obtain ⟨cl, hclos, hc1, hc2⟩ := qcy_ (env := X.env) (scope := sc) fun n hn => X.env.cells.lookup n |> fun _ => I.ok.has n (S.frees _ hn rfl)
 refine wpAny_comprehension_free (use := use) rfl hs hclos S.kind S.locs (thn (hi pins s σ H _ I h) fun v s1 h1 => thn h1 fun itv s2 h2 => ?_)
 obtain ⟨it, fp, tn, J, H2, rfl, I2, T, st2, f2, q⟩ := h2
 refine wpAny_newObj_type ?_
 obtain ⟨D, hD⟩ : ∃ D, D = s2.heap.objs.size := ⟨_, rfl⟩
 have hfr : H2 D = none := by rw [hD]; exact I2.hok.fresh (Nat.le_refl _)
 have I3 : Inv X pins σ (upd H2 D (.lst [])) { s2 with heap := s2.heap.push { cls := .type "list", dict := none, data := .seq ([] : List Value).toArray } } := by
  rw [hD]
  exact I2.laid (t' := s2.toks) (fun b u e => Heap.get?_push_of_some _ e) (Nat.le_refl _) ⟨Nat.zero_le _, [], _, .nil, Heap.get?_push_size _ rfl⟩
 have fpne : ∀ b ∈ fp, b ≠ D := fun b hb z => by
  obtain ⟨o, ho, _⟩ := T.obj _ _ st2 b hb
  exact absurd (Heap.lt_size ho) (by rw [z, hD]; exact Nat.lt_irrefl _)
 have f3 : ∀ b ∈ fp, FpOk X pins (upd H2 D (.lst [])) b := fun b hb => ⟨by rw [qe_ (fpne b hb)]; exact (f2 b hb).1, (f2 b hb).2⟩
 have st3 : tn 0 (s2.heap.push { cls := .type "list", dict := none, data := .seq ([] : List Value).toArray }) := T.keep _ _ _ st2 fun b _ o e => Heap.get?_push_of_some _ e
 rw [<- hD]
 obtain ⟨W, ⟨m0, w0⟩, turn⟩ := q D hfr
 generalize hs3 : ({ s2 with heap := s2.heap.push { cls := .type "list", dict := none, data := .seq ([] : List Value).toArray } } : Shared) = s3 at I3 ⊢
 have st3' : tn 0 s3.heap := by rw [<- hs3]; exact st3
 refine wpAny_newFunctionEnv S.nocell (by intro y hy; simp at hy) (fun h1 hns hsb => ?_) S.kind
 have hk : ∀ b u, s3.heap.get? b = some u -> h1.get? b = some u := fun b u e => hsb.extBut b u (Nat.ne_of_lt (Heap.lt_size e)) (Heap.get?_push_of_some _ e)
 have fplt : ∀ b ∈ fp, b < s3.heap.objs.size := fun b hb => by
  obtain ⟨o, ho, _⟩ := T.obj _ _ st3' b hb
  exact Heap.lt_size ho
 have I4 := I3.block (t' := s3.toks + ([] : List (Str × Value)).length) S hc1 hc2 f3 fplt hns hk
 have fC : ∀ H', H' s3.heap.objs.size = none -> FpOk X pins H' s3.heap.objs.size := fun H' hn => I3.fpOk (Nat.le_refl _) hn
 obtain ⟨C, hC⟩ : ∃ C, C = s3.heap.objs.size := ⟨_, rfl⟩
 rw [<- hC] at I4 fC
 rw [<- hC]
 obtain ⟨Xc, hXc⟩ : ∃ Xc, Xc = j7_ X sc cl C cap own s3 (upd H2 D (.lst [])) fp := ⟨_, rfl⟩
 rw [<- hXc] at I4
 have gX : PG Xc tg g := hXc ▸ hg cl C s3 _ fp
 have tX : PTs Xc ifs tt := hXc ▸ ht cl C s3 _ fp
 have eX : PE Xc elt te := hXc ▸ he cl C s3 _ fp
 have x1 : Xc.prog = X.prog := by rw [hXc]; rfl
 have x2 : Xc.w = X.w := by rw [hXc]; rfl
 have x3 : Xc.K = X.K := by rw [hXc]; rfl
 have x4 : Xc.calm = true := by rw [hXc]; exact hc
 have x5 : Xc.A = X.A := by rw [hXc]; rfl
 have x6 : Xc.env = compEnvC sc cl C X.env := by rw [hXc]; rfl
 have x7 : Xc.xe = fun _ _ => False := by rw [hXc]; rfl
 have stat : ∀ {H' : Hp}, (∀ b ∈ fp, H' b = none) -> ∀ b ∈ fp, FpOk Xc [] H' b := fun hn b hb => by
  rw [hXc]
  refine ⟨hn b hb, ?_, ?_, .inl hb, fun x c e => (f3 b hb).2.2.2.2.1 x c (hc1 x c e), fun p hp => absurd hp (by show p ∉ ([] ++ [] : List (Addr × Obj)); simp)⟩
  ·show b ≠ C
   rw [hC]
   exact Nat.ne_of_lt (fplt b hb)
  ·intro z
   rcases List.mem_cons.mp (I3.stkSub b z) with q | q
   ·exact (f3 b hb).2.1 q
   ·exact (f3 b hb).2.2.1 q
 have st4 : tn 0 h1 := T.keep _ _ _ st3' fun b _ o e => hk b o e
 have loop : ∀ s4 : Shared, s4 = { s3 with heap := h1, toks := s3.toks + ([] : List (Str × Value)).length } →
   codeAny (model X.prog X.w) X.A (.compLoop (.ListComp elt [⟨tg, iter, ifs, 0⟩] sc pos) 0 (.ref it) (.ref D) (compEnvC sc cl C X.env)) (compPost (model X.prog X.w) X.A X.xe use R (.ref D) C) s4 := by
  rintro s4 rfl
  refine qd6_ (fun n s' => ∃ i σ' H' ys, Inv Xc [] σ' H' s' /\ tn i s'.heap /\ (∀ b ∈ fp, H' b = none) /\ H' D = some (.lst ys) /\ W i n ys σ' H') ?_ m0 ⟨0, _, _, [], I4, st4, fun b hb => (f3 b hb).1, qd_, w0⟩
  rintro n s5 ⟨i, σ5, H5, ys, I5, st5, fr5, hD5, w5⟩
  obtain ⟨_, cases5⟩ := turn i n ys σ5 H5 w5
  rcases cases5 with ⟨stop, qq⟩ | ⟨go, step⟩
  ·have td := T.done Xc x1 x2 x3 x4 i [] s5 σ5 H5 (fun _ _ => False) I5 (stat fr5) st5 stop
   rw [x5] at td
   refine thn td fun r s6 ⟨hr, I6⟩ => ?_
   subst hr
   show compPost _ _ _ _ _ _ _ (.ok .next) s6
   obtain ⟨m6, hn6, _⟩ := id I6.loc
   rw [x6] at hn6
   have u6 := I6.base
   have ok6 := I6.hok
   have fr6 : H5 C = none := by have := I6.free; rw [x6] at this; exact this
   have os6 : s6.os = s3.os := by have := I6.os; rw [hXc] at this; exact this
   rw [hXc] at u6 ok6
   have IX : Inv X pins σ H5 s6 := I3.call' (s' := s6) os6 u6 ok6 I6.bare fun b hb => ⟨(f3 b hb).2.2.2.1, (f3 b hb).2.1, (f3 b hb).2.2.2.2.1, (f3 b hb).2.2.2.2.2⟩
   exact fin D C H5 s6 m6 IX hn6 (fC H5 fr6) qq
  ·have ti := T.item Xc x1 x2 x3 x4 i [] s5 σ5 H5 (fun _ _ => False) I5 (stat fr5) st5 go
   rw [x5] at ti
   refine thn ti fun r s6 ⟨u, hr, h6⟩ => ?_
   subst hr
   refine thn h6 fun _ s7 ⟨x, H7, I7, r7, y7, st7, fr7⟩ => ?_
   have I7' := I7.pinned (stat fr7) (T.obj _ _ st7)
   have a7 := gX _ s7 σ5 H7 x u _ I7' r7 (step x H7 y7)
   rw [x1, x2, x5, x6, x7] at a7
   refine thn a7 fun _ s8 ⟨σ8, H8, I8, q8⟩ => ?_
   have a8 := tX _ s8 σ8 H8 _ I8 q8
   rw [x1, x2, x5, x6, x7] at a8
   have again : ∀ {σ9 : St} {H9 : Hp} {s9 : Shared} {zs : List V} {m' : Nat}, Inv Xc ([] ++ zm_ fp s7.heap) σ9 H9 s9 -> H9 D = some (.lst zs) -> m' < n -> W (i + 1) m' zs σ9 H9 →
     ∃ m, m < n /\ ∃ i σ' H' ys, Inv Xc [] σ' H' s9 /\ tn i s9.heap /\ (∀ b ∈ fp, H' b = none) /\ H' D = some (.lst ys) /\ W i m ys σ' H' := fun {σ9 H9 s9 zs m'} I9 hz hm w9 => by
    refine ⟨m', hm, i + 1, σ9, H9, zs, I9.unpinned, T.keep _ _ _ st7 fun b hb o e => (I9.pin (b, o) (List.mem_append_right _ (List.mem_append_right _ (yX_ hb e)))).1, fun b hb => ?_, hz, w9⟩
    obtain ⟨o, e, d⟩ := T.obj _ _ st7 b hb
    exact (I9.pin (b, o) (List.mem_append_right _ (List.mem_append_right _ (yX_ hb e)))).2.1
   refine thn a8 fun ok s9 ⟨H9, I9, q9⟩ => ?_
   cases ok with
   | false =>
    rw [if_neg Bool.false_ne_true] at q9 ⊢
    obtain ⟨m', hm, w9⟩ := q9
    exact again I9 (turn _ _ _ _ _ w9).1 hm w9
   | true =>
    rw [if_pos rfl] at q9 ⊢
    have a9 := eX _ s9 σ8 H9 _ I9 q9
    rw [x1, x2, x5, x6, x7] at a9
    refine thn a9 fun v s10 ⟨y, H10, I10, r10, hD10, hlen, m', hm, w10⟩ => ?_
    have a10 := jf_ (X := Xc) ([] ++ zm_ fp s7.heap) s10 σ8 H10 (.ref D) [y] (.ref D) [v] (fun _ H11 => H11 = upd H10 D (.lst (ys ++ [y]))) I10 rfl (.cons r10 .nil) ⟨D, ys, y, rfl, rfl, hD10, hlen, rfl⟩
    rw [x1, x2, x5, x7] at a10
    refine thn a10 fun _ s11 ⟨_, H11, I11, _, e11⟩ => ?_
    subst e11
    exact again I11 qd_ hm w10
 exact codeAny_compStart_list (loop _ rfl) (T.self _ 0 _ _ _ st4 (loop _ rfl))
theorem jH_ (S : CompOk X.N X.env.scope sc cap own) (hc : X.calm = true) (hi : PI X tg iter wi)
  (hg : ∀ cl C s₀ H₀ ex, PG (j7_ X sc cl C cap own s₀ H₀ ex) tg g) (ht : ∀ cl C s₀ H₀ ex, PTs (j7_ X sc cl C cap own s₀ H₀ ex) ifs tt) (he : ∀ cl C s₀ H₀ ex, PE (j7_ X sc cl C cap own s₀ H₀ ex) elt te)
  (hs : ∀ x, foldedSetIterable iter X.env x = pure x := by intro _; rfl) : PE X (.ListComp elt [⟨tg, iter, ifs, 0⟩] sc pos) (qcz_ cap own wi g tt te) := by
 intro pins s σ H Q I h
 rw [eval_ListComp]
 refine uA_ (use := none) hc S hi hg ht he hs I h fun D C H' s' m I' hn hf q => ?_
 refine ⟨m, hn, fun h' sb => ?_⟩
 obtain ⟨f0, f1, f2, f3, f4, f5⟩ := hf
 exact ⟨.ref D, H', I'.turned (t' := s'.toks) (fun b o hb e => (sb.2 b hb).trans e) f0 f1 f3 f4 f5, rfl, q⟩
theorem v4_ {i : Nat} {x : Str} {pos' spos : Pos} (hN : X.N.Nodup) (hi' : X.N[i]? = some x) (hx : Loc X.env.scope x) (S : CompOk X.N X.env.scope sc cap own) (hc : X.calm = true) (hi : PI X tg iter wi)
  (hg : ∀ cl C s₀ H₀ ex, PG (j7_ X sc cl C cap own s₀ H₀ ex) tg g) (ht : ∀ cl C s₀ H₀ ex, PTs (j7_ X sc cl C cap own s₀ H₀ ex) ifs tt) (he : ∀ cl C s₀ H₀ ex, PE (j7_ X sc cl C cap own s₀ H₀ ex) elt te)
  (hsw : swapsWith (.ListComp elt [⟨tg, iter, ifs, 0⟩] sc pos) (some (.Name x pos')) spos.line X.env = pure true := by rfl) (hs : ∀ x, foldedSetIterable iter X.env x = pure x := by intro _; rfl)
  (hf : X.fn x = true \/ X.env.scope.names.lookup x = some .local := by first | exact .inl rfl | exact .inr rfl | assumption) :
  PS X (.Assign [.Name x pos'] (.ListComp elt [⟨tg, iter, ifs, 0⟩] sc pos) spos) (fun D σ H => qcz_ cap own wi g tt te σ H fun v H1 => D.nx (σ.set i (some v)) H1) := by
 intro pins s σ H D I h
 rw [exec_Assign_Name_used _ _ _ _ hsw]
 refine wpAny_bind (wpAny_standAt (wpAny_bind ?_))
 show wpAny _ X.A (do let _ ← comprehension (.ListComp elt [⟨tg, iter, ifs, 0⟩] sc pos) sc X.env _ (newList []) false (eval iter X.env) (some (assign (.Name x pos') X.env))) _ _ s
 refine wpAny_bind (thn (uA_ (use := some (assign (.Name x pos') X.env)) (R := fun _ s' => SP X pins D .next s') hc S hi hg ht he hs I h fun A C H' s' m I' hn hfp q => ?_) (fun _ s' hq => wpAny_pure (wpAny_pure hq)))
 obtain ⟨f0, f1, f2, f3, f4, f5⟩ := hfp
 refine wpAny_assign_Name (um_ I' hN hi' hx (v := .ref A) rfl (fun s'' I'' ⟨a, sa, ha⟩ => ?_) hf)
 have hCa : C ≠ a := by
  rcases ha with z | z
  ·rw [z]; exact f1
  ·exact fun w => f4 x a z w.symm
 refine ⟨m, hn.sameBut sa hCa, fun h' sb => ?_⟩
 exact ⟨_, H', I''.turned (t' := s''.toks) (fun b o hb e => (sb.2 b hb).trans e) f0 f1 f3 f4 f5, q⟩
end
end L2
set_option linter.all false
set_option maxRecDepth 100000
set_option maxHeartbeats 1000000
namespace L2
open PySem PySem.Spec PyProof.Rows
section
variable {X : Cx} {pins : List (Addr × Obj)} {σ : St} {H : Hp} {s : Shared} {h' : Heap}
theorem Inv.turnedUp {fp : List Addr} {a : Addr} {o : HO} {t' : Nat} (I : Inv X pins σ H s) (hf : ∀ b ∈ fp, FpOk X pins H b) (k : ∀ b u, b ∉ fp -> s.heap.get? b = some u -> h'.get? b = some u) (ha : s.heap.objs.size <= a)
  (new : ObjOk X.prog X.w (upd H a o) h' a o) : Inv X pins σ (upd H a o) { s with heap := h', toks := t' } := by
 have ne : ∀ b u, s.heap.get? b = some u -> b ≠ a := fun b u e => Nat.ne_of_lt (Nat.lt_of_lt_of_le (Heap.lt_size e) ha)
 have nH : H a = none := I.hok.fresh ha
 have nb : ∀ b u, H b = some u -> b ≠ a := fun b u e z => by rw [z, nH] at e; cases e
 have nf : ∀ b u, H b = some u -> b ∉ fp := fun b u e z => by rw [(hf b z).1] at e; cases e
 refine I.step (g' := s.gens) (d' := s.drawn) (ch := fp) (fun b hb => ⟨(hf b hb).2.2.2.1, (hf b hb).2.1, (hf b hb).2.2.2.2.1, (hf b hb).2.2.2.2.2⟩) (fun b o _ _ hc e _ => k b o hc e) (fun b o _ _ hc e _ => ⟨o.slots, k b o hc e⟩)
  (fun b o _ e n => by rw [qe_ (ne b o e)]; exact n) (fun b o hc e => ?_) (fun b xs e => by rw [qe_ (nb b _ e)]; exact e) (fun b o u e => by rw [qe_ (nb b _ e)]; exact e) (fun b ps e => ⟨#[], by rw [qe_ (nb b _ e), e]; simp⟩)
  (fun m hm => by
   obtain ⟨oL, es, ep, ho, r⟩ := hm
   exact ⟨oL, es, ep, k _ oL (fun z => (hf _ z).2.1 rfl) ho, r⟩) (fun b u e => ?_) I.bare
 ·exact ⟨o, k b o hc e⟩
 ·by_cases hb : b = a
  ·subst hb; rw [qd_] at e; cases e; exact new
  ·rw [qe_ hb] at e
   refine (I.hok b u e).stay (fun c v hc q => k c v ?_ q) (fun c q => by rw [qe_ (nb c _ q)]; exact q) fun c xs q => by rw [qe_ (nb c _ q)]; exact q
   rcases hc with z | z
   ·rw [z]; exact nf b u e
   ·exact nf c _ z
theorem Inv.turnedL {fp : List Addr} {t' : Nat} (I : Inv X pins σ H s) (hf : ∀ b ∈ fp, FpOk X pins H b) (k : ∀ b u, b ∉ fp -> s.heap.get? b = some u -> h'.get? b = some u) : Inv X pins σ H { s with heap := h', toks := t' } := by
 have nf : ∀ b u, H b = some u -> b ∉ fp := fun b u e z => by rw [(hf b z).1] at e; cases e
 refine I.step (g' := s.gens) (d' := s.drawn) (ch := fp) (fun b hb => ⟨(hf b hb).2.2.2.1, (hf b hb).2.1, (hf b hb).2.2.2.2.1, (hf b hb).2.2.2.2.2⟩) (fun b o _ _ hc e _ => k b o hc e) (fun b o _ _ hc e _ => ⟨o.slots, k b o hc e⟩)
  (fun b o _ e n => n) (fun b o hc e => ⟨o, k b o hc e⟩) (fun b xs e => e) (fun b o u e => e) (fun b ps e => ⟨#[], by rw [e]; simp⟩)
  (fun m hm => by
   obtain ⟨oL, es, ep, ho, r⟩ := hm
   exact ⟨oL, es, ep, k _ oL (fun z => (hf _ z).2.1 rfl) ho, r⟩) (fun b u e => ?_) I.bare
 refine (I.hok b u e).stay (fun c v hc q => k c v ?_ q) (fun _ q => q) fun _ _ q => q
 rcases hc with z | z
 ·rw [z]; exact nf b u e
 ·exact nf c _ z
end
def Itz (K : PySem.W.Frag) (l1 l2 : Addr) (xs ys : List V) : It :=
 ⟨fun i H => SqL K H l1 xs /\ SqL K H l2 ys /\ i < xs.length /\ i < ys.length, fun i H x H' => ∃ T u v, H T = none /\ x = .ref T /\ xs[i]? = some u /\ ys[i]? = some v /\ H' = upd H T (.tup [u, v]),
  fun i H => SqL K H l1 xs /\ SqL K H l2 ys /\ (xs.length <= i \/ ys.length <= i)⟩
structure Five (z TI TO i1 i2 : Addr) : Prop where
 TIz : TI ≠ z
 TOz : TO ≠ z
 i1z : i1 ≠ z
 i2z : i2 ≠ z
 TITO : TI ≠ TO
 TIi1 : TI ≠ i1
 TIi2 : TI ≠ i2
 TOi1 : TO ≠ i1
 TOi2 : TO ≠ i2
 i12 : i1 ≠ i2
theorem qhi_ (n : Nat) : Five (n + 4) (n + 2) (n + 3) n (n + 1) :=
 ⟨(by omega : (n + 2 : Nat) ≠ n + 4), (by omega : (n + 3 : Nat) ≠ n + 4), (by omega : (n : Nat) ≠ n + 4), (by omega : (n + 1 : Nat) ≠ n + 4), (by omega : (n + 2 : Nat) ≠ n + 3), (by omega : (n + 2 : Nat) ≠ n),
  (by omega : (n + 2 : Nat) ≠ n + 1), (by omega : (n + 3 : Nat) ≠ n), (by omega : (n + 3 : Nat) ≠ n + 1), (by omega : (n : Nat) ≠ n + 1)⟩
theorem jT_ {h : Heap} {a b : Addr} {x y : Array Value} {o : Obj} {T : String} (hl : h.IsList a x) (ho : h.get? b = some o) (hc : o.cls = .type T) (hT : T ≠ "list") : a ≠ b := by
 rintro rfl
 obtain ⟨o', ho', hc', _⟩ := hl
 rw [ho] at ho'
 cases ho'
 rw [hc] at hc'
 cases hc'
 exact hT rfl
theorem Five.apart {h : Heap} {z TI TO i1 i2 l1 l2 : Addr} {a b c d : Value} {k1 k2 : Nat} {xs ys : Array Value} (F : Five z TI TO i1 i2) (hz : PySem.IsZip h z TI TO a) (hTO : PySem.IsPair h TO b c) (h1 : h.IsListIter i1 l1 k1) (h2 : h.IsListIter i2 l2 k2)
  (hl1 : h.IsList l1 xs) (hl2 : h.IsList l2 ys) : PySem.ZipApart z TI TO i1 i2 l1 l2 := by
 obtain ⟨o1, e1, c1, _⟩ := id h1
 obtain ⟨o2, e2, c2, _⟩ := id h2
 exact ⟨F.TIz, F.TOz, F.i1z, F.i2z, F.TITO, F.TIi1, F.TIi2, F.TOi1, F.TOi2, F.i12,
  jT_ (y := xs) hl1 hz rfl (by decide), jT_ (y := xs) hl1 hTO rfl (by decide), jT_ (y := xs) hl1 e1 c1 (by decide), jT_ (y := xs) hl1 e2 c2 (by decide),
  jT_ (y := xs) hl2 hz rfl (by decide), jT_ (y := xs) hl2 hTO rfl (by decide), jT_ (y := xs) hl2 e1 c1 (by decide), jT_ (y := xs) hl2 e2 c2 (by decide)⟩
theorem qfn_ {P : Program} {w : World} {K : PySem.W.Frag} {elts : List Expr} {x1} {tp : Pos} {z TI TO i1 i2 l1 l2 : Addr} (F : Five z TI TO i1 i2) (xs ys : List V) :
  Turn P w K (.Tuple elts x1 tp) (Itz K l1 l2 xs ys) [z, TI, TO, i1, i2] z (fun i h => PySem.IsZip h z TI TO .none /\ PySem.IsPair h TI (.ref i1) (.ref i2) /\ (∃ a b, PySem.IsPair h TO a b) /\ h.IsListIter i1 l1 i /\ h.IsListIter i2 l2 i) where
 mem := by simp
 obj := fun i h st b hb => by
  obtain ⟨hz, hTI, ⟨a, c, hTO⟩, ⟨o1, e1, c1, d1⟩, o2, e2, c2, d2⟩ := st
  simp only [List.mem_cons, List.not_mem_nil, or_false] at hb
  rcases hb with rfl | rfl | rfl | rfl | rfl
  ·exact ⟨_, hz, fun v q => by have q' : Data.fields _ = Data.cell v := q; cases q'⟩
  ·exact ⟨_, hTI, fun v q => by have q' : Data.seq _ _ = Data.cell v := q; cases q'⟩
  ·exact ⟨_, hTO, fun v q => by have q' : Data.seq _ _ = Data.cell v := q; cases q'⟩
  ·exact ⟨o1, e1, fun v q => by rw [d1] at q; cases q⟩
  ·exact ⟨o2, e2, fun v q => by rw [d2] at q; cases q⟩
 keep := fun i h h' st k => by
  obtain ⟨hz, hTI, ⟨a, b, hTO⟩, h1, h2⟩ := st
  exact ⟨k z (by simp) _ hz, k TI (by simp) _ hTI, ⟨a, b, k TO (by simp) _ hTO⟩, h1.at fun o e => k i1 (by simp) o e, h2.at fun o e => k i2 (by simp) o e⟩
 item := by
  intro X hP hw hK hc i pins s σ H E I hf st hg
  subst hP hw hK
  obtain ⟨hz, hTI, ⟨a, b, hTO⟩, h1, h2⟩ := st
  obtain ⟨q1, q2, b1, b2⟩ := hg
  obtain ⟨its1, rv1, p1, _⟩ := I.list q1
  obtain ⟨its2, rv2, p2, _⟩ := I.list q2
  have hx : xs[i]? = some xs[i] := List.getElem?_eq_getElem b1
  have hy : ys[i]? = some ys[i] := List.getElem?_eq_getElem b2
  obtain ⟨u, hu, ru⟩ := rv1.get hx
  obtain ⟨v, hv, rv⟩ := rv2.get hy
  have lt : ∀ {c o}, s.heap.get? c = some o -> c ≠ s.heap.objs.size := fun e => Nat.ne_of_lt (Heap.lt_size e)
  refine PySem.wpAny_pyNext_zip_item (F.apart (d := .none) hz hTO h1 h2 p1.isList p2.isList) hz hTI hTO h1 h2 p1.isList p2.isList (x := u) (y := v) (by simpa using hu) (by simpa using hv) fun h' a1 a2 a3 a4 a5 a6 hk => ?_
  refine ⟨_, rfl, PySem.wpAny_letOwnedTupleGo_zip a1 fun h'' hz'' sb => ?_⟩
  have zne : s.heap.objs.size ≠ z := (lt hz).symm
  have kk : ∀ b u, b ∉ [z, TI, TO, i1, i2] -> s.heap.get? b = some u -> h''.get? b = some u := fun b u hb e => by
   simp only [List.mem_cons, List.not_mem_nil, or_false, not_or] at hb
   exact sb.extBut _ _ hb.1 (hk b u hb.1 hb.2.2.1 hb.2.2.2.1 hb.2.2.2.2 e)
  refine ⟨.ref s.heap.objs.size, upd H s.heap.objs.size (.tup [xs[i], ys[i]]), I.turnedUp (t' := s.toks) hf kk (Nat.le_refl _) ⟨by show 2 <= sizeLine; decide, [u, v], .cons ru (.cons rv .nil), ⟨_, sb.extBut _ _ zne a5, rfl, _, rfl⟩⟩, rfl,
   ⟨_, _, _, I.hok.fresh (Nat.le_refl _), rfl, hx, hy, rfl⟩, ⟨hz'', sb.extBut _ _ F.TIz (hk _ _ F.TIz F.TITO F.TIi1 F.TIi2 hTI), ⟨_, _, sb.extBut _ _ F.TOz a2⟩, a3.at fun o e => sb.extBut _ _ F.i1z e, a4.at fun o e => sb.extBut _ _ F.i2z e⟩, fun b hb => ?_⟩
  have : b ≠ s.heap.objs.size := by
   obtain ⟨o1, e1, _⟩ := id h1
   obtain ⟨o2, e2, _⟩ := id h2
   simp only [List.mem_cons, List.not_mem_nil, or_false] at hb
   rcases hb with rfl | rfl | rfl | rfl | rfl
   ·exact lt hz
   ·exact lt hTI
   ·exact lt hTO
   ·exact lt e1
   ·exact lt e2
  rw [qe_ this]
  exact (hf b hb).1
 done := by
  intro X hP hw hK hc i pins s σ H E I hf st hg
  subst hP hw hK
  obtain ⟨hz, hTI, ⟨a, b, hTO⟩, h1, h2⟩ := st
  obtain ⟨q1, q2, hend⟩ := hg
  obtain ⟨its1, rv1, p1, _⟩ := I.list q1
  obtain ⟨its2, rv2, p2, _⟩ := I.list q2
  have l1 := rv1.length
  have l2 := rv2.length
  refine PySem.wpAny_pyNext_zip_end (I.ok.hd hc) (F.apart (d := .none) hz hTO h1 h2 p1.isList p2.isList) hz hTI hTO h1 h2 p1.isList p2.isList ?_ fun h' hk => ⟨rfl, I.turnedL (t' := s.toks) hf fun b u hb e => ?_⟩
  ·rcases hend with q | q
   ·exact .inl (by rw [Array.getElem?_eq_none]; simp; omega)
   ·exact .inr (by rw [Array.getElem?_eq_none]; simp; omega)
  ·simp only [List.mem_cons, List.not_mem_nil, or_false, not_or] at hb
   exact hk b u hb.1 hb.2.2.1 hb.2.2.2.1 hb.2.2.2.2 e
 self := fun _ _ _ _ _ st h => PySem.wpAny_pyIter_zip st.1 h
section
variable {X : Cx}
def iZip (K : PySem.W.Frag) (ta : TA) : TI := fun σ H R => ta σ H fun vs H1 => ∃ l1 l2 xs ys, vs = [.ref l1, .ref l2] /\ SqL K H1 l1 xs /\ SqL K H1 l2 ys /\ R (Itz K l1 l2 xs ys) H1
theorem qfo_ : bootBuiltins "zip" = some (.type "zip") := by decide +kernel
theorem zI_ {elts : List Expr} {x1} {tp : Pos} {a b : Expr} {ta : TA} {p pos : Pos} (hg : Gl X "zip") (hm : X.mg "zip" = none) (ha : PA X [a, b] ta) (hs : starEach [a, b] X.env = [(false, eval a X.env), (false, eval b X.env)] := by rfl) (hs2 : starEach [b] X.env = [(false, eval b X.env)] := by rfl) :
  PI X (.Tuple elts x1 tp) (.Call (.Name "zip" p) [a, b] [] pos) (iZip X.K ta) := by
 intro pins s σ H R I h
 refine Call_ (yr_ I hg hm qfo_ (PyProof.Rows.callWith_type1 (thn (ha pos pins s σ H _ I h) fun us s1 ⟨vs, H1, I1, r1, q1⟩ => ?_) (by rw [hs, hs2]) (by rw [hs2]; rfl)))
 obtain ⟨l1, l2, xs, ys, e, h1, h2, q⟩ := q1
 subst e
 obtain ⟨u, v, rfl, ru, rv⟩ := zZ_ r1
 cases ru
 cases rv
 obtain ⟨its1, rv1, p1, _⟩ := I1.list h1
 obtain ⟨its2, rv2, p2, _⟩ := I1.list h2
 refine PySem.call_zip_2 p1.isList p2.isList fun h' a1 a2 a3 a4 a5 a6 a7 => ?_
 refine PySem.wpAny_pyIter_zip a1 ?_
 refine ⟨s1.heap.objs.size + 4, [s1.heap.objs.size + 4, s1.heap.objs.size + 2, s1.heap.objs.size + 3, s1.heap.objs.size, s1.heap.objs.size + 1], _, _, H1, rfl, I1.kept (t' := s1.toks) fun b o e => a7 b o e, qfn_ (qhi_ _) xs ys,
  ⟨a1, a2, ⟨_, _, a3⟩, a4, a5⟩, fun b hb => ?_, q⟩
 have : s1.heap.objs.size <= b := by
  simp only [List.mem_cons, List.not_mem_nil, or_false] at hb
  rcases hb with rfl | rfl | rfl | rfl | rfl
  ·exact Nat.le_add_right _ 4
  ·exact Nat.le_add_right _ 2
  ·exact Nat.le_add_right _ 3
  ·exact Nat.le_refl _
  ·exact Nat.le_add_right _ 1
 exact I1.fpOk this (I1.hok.fresh this)
end
theorem v5_ {K : PySem.W.Frag} {l1 l2 : Addr} {xs ys : List V} {g : TG} {tb : TS} {D : Ends} {σ : St} {H : Hp} (Pv : Nat -> St -> Hp -> Prop) (h0 : Pv 0 σ H) (hl : ∀ i σ H, i <= xs.length -> Pv i σ H -> SqL K H l1 xs /\ SqL K H l2 ys) (he : xs.length = ys.length)
  (hs : ∀ i u v T σ H, i < xs.length -> xs[i]? = some u -> ys[i]? = some v -> H T = none -> Pv i σ H -> g (.ref T) σ (upd H T (.tup [u, v])) fun σ2 H2 => tb { D with nx := Pv (i + 1), ct := Pv (i + 1), bk := D.nx } σ2 H2) (hd : ∀ σ H, Pv xs.length σ H -> D.nx σ H) :
  ∃ W : Nat -> Nat -> St -> Hp -> Prop, (∃ m, W 0 m σ H) /\ ∀ i m σ H, W i m σ H →
   ((Itz K l1 l2 xs ys).stop i H /\ D.nx σ H) \/ ((Itz K l1 l2 xs ys).go i H /\ ∃ N : St -> Hp -> Prop, (∀ σ' H', N σ' H' -> ∃ m', m' < m /\ W (i + 1) m' σ' H') /\ ∀ x H', (Itz K l1 l2 xs ys).yld i H x H' -> g x σ H' fun σ2 H2 => tb { D with nx := N, ct := N, bk := D.nx } σ2 H2) := by
 refine ⟨fun i m σ H => m = xs.length - i /\ i <= xs.length /\ Pv i σ H, ⟨xs.length, by simp, Nat.zero_le _, h0⟩, ?_⟩
 rintro i m σ H ⟨rfl, hi, p⟩
 obtain ⟨q1, q2⟩ := hl i σ H hi p
 by_cases hlt : i < xs.length
 ·refine .inr ⟨⟨q1, q2, hlt, by omega⟩, Pv (i + 1), fun σ' H' p' => ⟨xs.length - (i + 1), by omega, rfl, hlt, p'⟩, fun x H' y => ?_⟩
  obtain ⟨T, u, v, hT, rfl, hu, hv, rfl⟩ := y
  exact hs i u v T σ H hlt hu hv hT p
 ·have e : i = xs.length := by omega
  exact .inl ⟨⟨q1, q2, .inl (by omega)⟩, hd σ H (e ▸ p)⟩
end L2
set_option linter.all false
set_option maxRecDepth 100000
set_option maxHeartbeats 1000000
namespace L2
open PySem PySem.Spec PyProof.Rows
inductive Dt where
 | non | bl (b : Bool) | int (i : Int) | str (x : Str) | lst (l : List Dt) | tup (l : List Dt)
mutual
def eqD : Dt -> Dt -> Bool
 | .non, .non => true
 | .bl a, .bl b => a == b
 | .bl a, .int b => (if a then 1 else 0) == b
 | .int a, .bl b => a == (if b then 1 else 0)
 | .int a, .int b => a == b
 | .str a, .str b => a == b
 | .lst a, .lst b => eqDs a b
 | .tup a, .tup b => eqDs a b
 | _, _ => false
def eqDs : List Dt -> List Dt -> Bool
 | [], [] => true
 | a :: as, b :: bs => eqD a b && eqDs as bs
 | [], _ :: _ => false
 | _ :: _, [] => false
end
mutual
def depD : Dt -> Nat
 | .lst a => qc0_ a + 1
 | .tup a => qc0_ a + 1
 | _ => 0
def qc0_ : List Dt -> Nat
 | [] => 0
 | a :: as => max (depD a) (qc0_ as)
end
mutual
def Sees (K : PySem.W.Frag) (H : Hp) : V -> Dt -> Prop
 | v, .non => v = .non
 | v, .bl b => v = .bl b
 | v, .int i => v = .int i
 | v, .str x => v = .str x
 | v, .lst ds => ∃ a xs, v = .ref a /\ SqL K H a xs /\ qc1_ K H xs ds
 | v, .tup ds => ∃ a xs, v = .ref a /\ SqT K H a xs /\ qc1_ K H xs ds
def qc1_ (K : PySem.W.Frag) (H : Hp) : List V -> List Dt -> Prop
 | xs, [] => xs = []
 | xs, d :: ds => ∃ v vs, xs = v :: vs /\ Sees K H v d /\ qc1_ K H vs ds
end
section
variable {X : Cx} {pins : List (Addr × Obj)} {σ : St} {H : Hp} {s : Shared}
def qka_ : Dt -> Bool
 | .lst _ => false
 | .tup _ => false
 | _ => true
def eJ (ds ds' : List Dt) (j : Nat) : Bool := eqD (ds.getD j .non) (ds'.getD j .non)
end
section
variable {X : Cx}
def qkb_ : Dt -> Dt -> Bool
 | .lst _, .tup _ => false
 | .tup _, .lst _ => false
 | _, _ => true
def rEqD (K : PySem.W.Frag) (neg : Bool) : R2 := fun x y H Q => ∃ d d', Sees K H x d /\ Sees K H y d' /\ qka_ d = false /\ qkb_ d d' = true /\ (∃ p, y = .ref p) /\ depD d <= 60 /\ Q (.bl (if neg then !eqD d d' else eqD d d')) H
end
end L2
set_option linter.all false
set_option maxRecDepth 100000
set_option maxHeartbeats 1000000
namespace L2
open PySem PySem.Spec PyProof.Rows
theorem Same.up {H H' : Hp} {D : Addr} {o : HO} (s : Same H H') (n : H D = none) : Same H (upd H' D o) := fun b u e => by rw [qe_ (qk_ e n)]; exact s b u e
theorem zJ_ {J : It} {n k : Nat} {src f : Nat -> V} {te : TE} {cs : St} {H1 : Hp} {D : Addr} {Q : Hp -> Prop} (hD : H1 D = none) (hk : k = cs.length) (hn : n <= sizeLine)
  (stop : ∀ H, Same H1 H -> J.stop n H) (go : ∀ i H, i < n -> Same H1 H -> J.go i H) (yld : ∀ i H x H', i < n -> Same H1 H -> J.yld i H x H' -> x = src i /\ H' = H)
  (he : ∀ i H (R : V -> Hp -> Prop), i < n -> Same H1 H -> (∀ H4, Same H H4 -> R (f i) H4) -> te (cs ++ [some (src i)]) H R)
  (hQ : ∀ H, Same H1 H -> H D = some (.lst ((List.range n).map f)) -> Q H) : jF_ J (jh_ k) jP_ te (cs ++ [none]) H1 D Q := by
 refine ⟨fun i m ys σ H => m = n - i /\ i <= n /\ Same H1 H /\ ys = (List.range i).map f /\ H D = some (.lst ys) /\ ∃ o, σ = cs ++ [o], ⟨n, rfl, Nat.zero_le _, (Same.refl _).up hD, rfl, qd_, none, rfl⟩, ?_⟩
 rintro i m ys σ H ⟨rfl, hi, sm, rfl, hd, o, rfl⟩
 refine ⟨hd, ?_⟩
 by_cases hlt : i < n
 ·refine .inr ⟨go i H hlt sm, fun x H' y => ?_⟩
  obtain ⟨rfl, rfl⟩ := yld i H x H' hlt sm y
  have e : (cs ++ [o]).set k (some (src i)) = cs ++ [some (src i)] := by
   rw [hk, List.set_append_right _ _ (Nat.le_refl _), Nat.sub_self]
   rfl
  unfold jh_
  rw [e]
  unfold jP_
  refine iteT ?_
  refine he i H' _ hlt sm fun H4 s4 => ⟨s4 _ _ hd, ?_, n - (i + 1), by omega, rfl, hlt, (sm.trans s4).up hD, ?_, qd_, _, rfl⟩
  ·rw [List.length_map, List.length_range]
   omega
  ·rw [List.range_succ, List.map_append]
   rfl
 ·have e : i = n := by omega
  subst e
  exact .inl ⟨stop H sm, hQ H sm hd⟩
theorem vM_ {K : PySem.W.Frag} {a : Addr} {xs : List V} {f : V -> V} {k : Nat} {te : TE} {cs : St} {H1 : Hp} {D : Addr} {Q : Hp -> Prop} (hs : SqL K H1 a xs) (hD : H1 D = none) (hk : k = cs.length) (hn : xs.length <= sizeLine)
  (he : ∀ x H (R : V -> Hp -> Prop), x ∈ xs -> Same H1 H -> (∀ H4, Same H H4 -> R (f x) H4) -> te (cs ++ [some x]) H R)
  (hQ : ∀ H, Same H1 H -> H D = some (.lst (xs.map f)) -> Q H) : jF_ (Itl K a) (jh_ k) jP_ te (cs ++ [none]) H1 D Q := by
 refine zJ_ (src := fun i => xs.getD i .non) (f := fun i => f (xs.getD i .non)) (n := xs.length) hD hk hn (fun H sm => ⟨xs, sm.seq hs, Nat.le_refl _⟩) (fun i H hi sm => ⟨xs, xs[i], sm.seq hs, List.getElem?_eq_getElem hi⟩) (fun i H x H' hi sm y => ?_) (fun i H R hi sm r => ?_) (fun H sm hd => hQ H sm ?_)
 ·obtain ⟨e, y⟩ := y
  refine ⟨?_, e⟩
  have := y xs (sm.seq hs)
  rw [List.getD_eq_getElem?_getD, this]
  rfl
 ·refine he _ H R ?_ sm r
  rw [List.getD_eq_getElem?_getD, List.getElem?_eq_getElem hi]
  exact List.getElem_mem hi
 ·rw [hd]
  congr 2
  apply List.ext_getElem
  ·simp
  ·intro i h1 h2
   simp at h1 h2
   simp [h1]
theorem qbo_ {lo : Int} {n : Nat} {f : Nat -> V} {k : Nat} {te : TE} {cs : St} {H1 : Hp} {D : Addr} {Q : Hp -> Prop} (hD : H1 D = none) (hk : k = cs.length) (hn : n <= sizeLine)
  (he : ∀ i H (R : V -> Hp -> Prop), i < n -> Same H1 H -> (∀ H4, Same H H4 -> R (f i) H4) -> te (cs ++ [some (.int (lo + i))]) H R)
  (hQ : ∀ H, Same H1 H -> H D = some (.lst ((List.range n).map f)) -> Q H) : jF_ (Itr lo n) (jh_ k) jP_ te (cs ++ [none]) H1 D Q :=
 zJ_ (src := fun i => .int (lo + (i : Nat))) hD hk hn (fun H _ => Nat.le_refl _) (fun i H hi _ => hi) (fun i H x H' _ _ y => ⟨y.2, y.1⟩) he hQ
end L2
namespace L2
open PySem PySem.Spec PyProof.Rows
theorem qbp_ {n : Nat} {f : Nat -> V} {k : Nat} {te : TE} {cs : St} {H1 : Hp} {D : Addr} {Q : Hp -> Prop} (hD : H1 D = none) (hk : k = cs.length) (hn : n <= sizeLine)
  (he : ∀ i H (R : V -> Hp -> Prop), i < n -> Same H1 H -> (∀ H4, Same H H4 -> R (f i) H4) -> te (cs ++ [some (.int (i : Nat))]) H R)
  (hQ : ∀ H, Same H1 H -> H D = some (.lst ((List.range n).map f)) -> Q H) : jF_ (Itr 0 n) (jh_ k) jP_ te (cs ++ [none]) H1 D Q :=
 qbo_ hD hk hn (fun i H R hi sm r => by
  have e : (0 : Int) + (i : Nat) = (i : Nat) := by omega
  rw [e]
  exact he i H R hi sm r) hQ
end L2
namespace L2
open PySem PySem.Spec PyProof.Rows
section
variable {X : Cx} {K : PySem.W.Frag}
theorem v6_ {e : Expr} {f : Str} {pos : Pos} {ta : TE} (hK : X.K = K) (he : PE X e ta) (hb : attributeBase e f X.env (eval e X.env) = eval e X.env) : PE X (.Attribute e f pos) (tFld K ta f) := by
 subst hK
 exact qA_ he hb
theorem yF_ (hK : X.K = K) : IxR X (rIxL K) := by subst hK; exact qz_
theorem uR_ (hK : X.K = K) : yM_ X (.builtin "len") (fun xs H Q => ∃ p ys, xs = [.ref p] ∧ (SqL K H p ys ∨ SqT K H p ys) ∧ Q (.int ys.length) H) := by subst hK; exact qt_
end
end L2
set_option linter.all false
set_option maxRecDepth 100000
namespace L2
open PySem PySem.Spec PyProof.Rows
def But (a : Addr) (H H' : Hp) : Prop := ∀ b o, b ≠ a -> H b = some o -> H' b = some o
end L2
namespace L2
open PySem PySem.Spec PyProof.Rows
def vN_ : List Expr -> Option (List Int)
 | [] => some []
 | .Constant (.int i) _ _ :: r => (vN_ r).map (i :: ·)
 | _ => none
theorem qca_ {X : Cx} : ∀ {es : List Expr} {is : List Int}, vN_ es = some is -> PA X es (fun _ H Q => Q (is.map V.int) H)
 | [], is, h => by
  cases h
  exact qf_
 | e :: es, is, h => by
  unfold vN_ at h
  split at h
  ·rename_i z
   cases z
  ·rename_i i j pos r heq
   cases heq
   cases q : vN_ es with
   | none => rw [q] at h; cases h
   | some js =>
    rw [q] at h
    cases h
    intro pos pins s σ H Q I hq
    exact qa_ qj_ (qca_ q) (by rfl) pos pins s σ H Q I hq
  ·cases h
theorem p0 {j : Int} (h : (0 : Int) < j) : (0 : Int) < j := h
end L2
namespace L2
open PySem PySem.Spec PyProof.Rows
def qlf_ (_ j : Int) : Prop := 0 < j /\ j <= 340282366920938463463374607431768211456
end L2
set_option Elab.async false
set_option linter.all false
set_option maxRecDepth 100000
namespace L2
open PySem PySem.Spec PyProof.Rows
def XObj (h : Heap) (x C : Addr) (od tb : Option Addr) (fl : Value) : Prop :=
 ∃ oe vs, h.get? x = some oe /\ oe.cls = .ref C /\ oe.dict = od /\ oe.data = .fields vs ∧
  match tb with
  | none => vs[1]? = some Value.none
  | some T => vs[1]? = some (.ref T) /\ T ≠ x /\ ∃ oT ts, h.get? T = some oT /\ oT.data = .fields ts /\ ts[3]? = some fl
def qlg_ (S Xs : List Addr) (h h' : Heap) : Prop :=
 ∀ b o, h.get? b = some o -> b ∉ Xs -> (b ∉ S -> h'.get? b = some o) /\ ∃ sl, h'.get? b = some { o with slots := sl }
end L2
set_option Elab.async false
set_option linter.all false
set_option maxRecDepth 100000
namespace L2
open PySem PySem.Spec PyProof.Rows
def CXe (P : Program) (w : World) : CXT := fun outer H s E e s' => ∃ (x C T : Addr) (od : Option Addr) (H' : Hp), e = .ref x /\ s'.os = s.os /\ AllBare s'.gens /\ Un (frs outer) [] H H' s.heap s'.heap /\ HOk P w H' s'.heap ∧
 XObj s'.heap x C od (some T) .none /\ s.heap.get? x = none /\ s.heap.get? T = none /\ H' x = none /\ H' T = none /\ E (.ref C) od H'
def qlh_ (X : Cx) (E : XK) : Prop := ∀ (pins : List (Addr × Obj)) (σ : St) (H : Hp) (s : Shared) (x C : Addr) (od tb : Option Addr), Inv X pins σ H s -> XObj s.heap x C od tb .none -> X.s₀.heap.get? x = none -> (∀ T, tb = some T -> X.s₀.heap.get? T = none /\ H T = none) →
 H x = none -> E (.ref C) od H -> X.xe (.ref x) s
section
variable {P : Program} {w : World} {K : PySem.W.Frag} {mg : Str -> Option Value} {base : Heap} {N : List Str} {qual : Str} {scope : Scope} {f : Addr} {cd : Value} {A : Around} {outer : List Env} {s : Shared} {H : Hp} {E E' : XK}
end
section
variable {P : Program} {w : World} {K : PySem.W.Frag} {mg : Str -> Option Value} {base : Heap}
end
def qkc_ (es : List DictEntry) : Bool := es.all fun e => match e.key with | .str _ _ => true | _ => false
def nsB (K : PySem.W.Frag) (a : Addr) (f : Array DictEntry -> Bool) : Bool := match K.lookup a with
 | some ⟨_, _, .dict es _, _⟩ => qkc_ es.toList && f es
 | _ => false
abbrev bmV : List Value := [.type "ValueError", .type "Exception", .type "BaseException", .type "object"]
def qd7_ (es : Array DictEntry) : Bool := (nsFind es "__init__").isNone
def xcIn (K : PySem.W.Frag) (C Pk : Addr) : Bool :=
 match K.lookup C, K.lookup Pk with
 | some ⟨.type "type", _, .cls cd, sl⟩, some ⟨_, _, .cls cp, _⟩ =>
  (match cd.mro with
  | [.ref C', .ref P', .type "ValueError", .type "Exception", .type "BaseException", .type "object"] => C' == C && P' == Pk
  | _ => false) &&
  (match sl.toList with
  | [_, _, _, _, some (.builtin id), _] => id == "ValueError.__new__"
  | _ => false) && !cd.hasDel && nsB K cd.ns qd7_ && nsB K cp.ns qd7_
 | _, _ => false
section
variable {X : Cx} {E : XK} {c : Str} {C Pk : Addr} {p cpos pos : Pos} {e : Expr} {es : List Expr} {t : TA}
def qky_ (C : Addr) (E : XK) (t : TA) : TS := fun _ σ H => t σ H fun vs H1 => vs.length <= sizeLine /\ E (.ref C) none H1
end
end L2
set_option Elab.async false
set_option linter.all false
set_option maxRecDepth 100000
namespace L2
open PySem PySem.Spec PyProof.Rows
section
variable {X : Cx} {pins : List (Addr × Obj)} {σ : St} {H : Hp} {s : Shared} {h' : Heap}
abbrev Cx.within (X : Cx) (e : Value) : Cx := { X with A := X.A.mark (some e), calm := false, xe := fun _ _ => False }
def XAtF (fl : Bool) (x C : Addr) (od : Option Addr) : Heap -> Prop := fun h => ∃ oe vs, h.get? x = some oe /\ oe.cls = .ref C /\ oe.dict = od /\ oe.data = .fields vs /\ 1 < vs.size /\ (fl = true -> vs[1]? = some Value.none)
abbrev XAt (x C : Addr) (od : Option Addr) : Heap -> Prop := XAtF false x C od
def XP (X : Cx) (pins : List (Addr × Obj)) (EX : St -> XK) (e : Value) (s' : Shared) : Prop :=
 ∃ (x C T : Addr) (od : Option Addr) (σ : St) (H' : Hp), e = .ref x /\ Inv X pins σ H' s' /\ XObj s'.heap x C od (some T) .none /\ X.s₀.heap.get? x = none /\ X.s₀.heap.get? T = none /\ H' x = none /\ H' T = none ∧
  (∀ p ∈ X.pn ++ pins, p.1 ≠ x /\ p.1 ≠ T) /\ EX σ (.ref C) od H'
end
abbrev TEX := St -> Hp -> VK -> XK -> Prop
def PEX (X : Cx) (e : Expr) (t : TEX) : Prop := ∀ (pins : List (Addr × Obj)) (s : Shared) (σ : St) (H : Hp) (Q : VK) (EX : St -> XK), Inv X pins σ H s -> t σ H Q (EX σ) -> wpAny (model X.prog X.w) X.A (eval e X.env) (EP X pins σ Q) (XP X pins EX) s
section
variable {X : Cx} {k : Nat} {f C : Addr} {fd : FuncData} {ps : List Str} {sp : Sp} {dvs : List V} {ds : List Value} {x m : Str} {p pos apos : Pos} {e o : Expr} {es : List Expr} {te : TE} {ta : TE} {t : TA}
def qkz_ (sp : Sp) (dvs : List V) (t : TA) : TEX := fun σ H Q E => t σ H fun vs H1 => sp (vs ++ dvs) H1 Q E
def qk0_ (C : Addr) (m : Str) (sp : Sp) (dvs : List V) (ta : TE) (t : TA) : TEX := fun σ H Q E => ta σ H fun x H1 => ∃ a dx fs, x = .ref a /\ H1 a = some (.ins C dx fs) /\ fs.lookup m = none ∧
 t σ H1 fun vs H2 => sp (x :: (vs ++ dvs)) H2 Q E
def qk1_ (C : Addr) (sp : Sp) (dvs : List V) (t : TA) : TEX := fun σ H Q E => t σ H fun vs H1 => ∀ x dx, H1 x = none -> H1 dx = none -> dx ≠ x →
 sp (.ref x :: (vs ++ dvs)) (upd (upd H1 dx (.own x)) x (.ins C dx [])) (fun v H2 => v = .non /\ Q (.ref x) H2) E
end
abbrev TSX := Ends -> (St -> XK) -> St -> Hp -> Prop
def PSX (X : Cx) (st : List Stmt) (t : TSX) : Prop := ∀ (pins : List (Addr × Obj)) (s : Shared) (σ : St) (H : Hp) (D : Ends) (EX : St -> XK), Inv X pins σ H s -> t D EX σ H -> wpAny (model X.prog X.w) X.A (execs st X.env) (SP X pins D) (XP X pins EX) s
section
variable {X : Cx} {e : Expr} {te : TEX} {t : TS} {u : TSX} {st : Stmt} {rest : List Stmt} {pos : Pos}
def qk2_ (t : TSX) (u : TSX) : TSX := fun D EX σ H => t { D with nx := u D EX } EX σ H
end
end L2
set_option Elab.async false
set_option linter.all false
set_option maxRecDepth 100000
namespace L2
open PySem PySem.Spec PyProof.Rows
structure Loose (X : Cx) (pins : List (Addr × Obj)) (H : Hp) (s : Shared) (x C T : Addr) (od : Option Addr) (fl : Value) : Prop where
 obj : XObj s.heap x C od (some T) fl
 f1 : X.s₀.heap.get? x = none
 f2 : X.s₀.heap.get? T = none
 h1 : H x = none
 h2 : H T = none
 p : ∀ p ∈ X.pn ++ pins, p.1 ≠ x /\ p.1 ≠ T
section
variable {X : Cx} {pins : List (Addr × Obj)} {σ : St} {H : Hp} {s : Shared} {x C T : Addr} {od : Option Addr} {fl : Value}
end
abbrev TH := Ends -> Addr -> Option Addr -> St -> Hp -> Prop
def PH (X : Cx) (hs : List ExceptHandler) (t : TH) : Prop := ∀ (pins : List (Addr × Obj)) (s : Shared) (σ : St) (H : Hp) (D : Ends) (x C T : Addr) (od : Option Addr), Inv X pins σ H s -> Loose X pins H s x C T od .none -> t D C od σ H →
 wpAny (model X.prog X.w) X.A (handleBy (.ref x) X.env hs) (SP X pins D) X.xe s
def qi6_ (i : Nat) (D : Ends) : Ends := { nx := fun σ H => D.nx (σ.set i none) H, rt := D.rt, bk := fun σ H => D.bk (σ.set i none) H, ct := fun σ H => D.ct (σ.set i none) H }
def qli_ (K : PySem.W.Frag) (C' : Addr) (i : Nat) (ts : TS) (rest : TH) : TH := fun D C od σ H => ∃ b, PySem.W.exmOne K (.ref C) (.ref C') = some b ∧
 if b = true then ∀ x, H x = none -> ts (qi6_ i D) (σ.set i (some (.ref x))) (upd H x (.ext (XAt x C od))) else rest D C od σ H
def qk3_ (K : PySem.W.Frag) (C' : Addr) (ts : TS) (rest : TH) : TH := fun D C od σ H => ∃ b, PySem.W.exmOne K (.ref C) (.ref C') = some b ∧
 if b = true then ts D σ H else rest D C od σ H
section
variable {X : Cx} {c n : Str} {C' : Addr} {i : Nat} {p pos : Pos} {b₀ : Stmt} {suite : List Stmt} {hs : List ExceptHandler} {ts : TS} {th : TH}
def tTry (tb : TSX) (th : TH) : TS := fun D σ H => tb D (fun σ' C od H' => ∃ c, C = .ref c /\ th D c od σ' H') σ H
end
end L2
set_option Elab.async false
set_option linter.all false
set_option maxRecDepth 100000
namespace L2
open PySem PySem.Spec PyProof.Rows
def qi7_ (es : Array DictEntry) : Bool := quietNames.all fun n => (nsFind es n).isNone
def xqIn (K : PySem.W.Frag) (C Pk : Addr) : Bool :=
 match K.lookup C, K.lookup Pk with
 | some ⟨.type "type", _, .cls cd, sl⟩, some ⟨_, _, .cls cp, _⟩ =>
  (match cd.mro with
  | [.ref C', .ref P', .type "ValueError", .type "Exception", .type "BaseException", .type "object"] => C' == C && P' == Pk
  | _ => false) &&
  (match sl.toList with
  | [_, _, _, _, some (.builtin id), _] => id == "ValueError.__new__"
  | _ => false) && !cd.hasDel && nsB K cp.ns qi7_
 | _, _ => false
structure XIn (K : PySem.W.Frag) (C Pk : Addr) : Prop where
 cls : xqIn K C Pk = true
 ga : PySem.W.findIn K (.ref C) "__getattribute__" = some (some (.builtin "BaseException.__getattribute__"))
 gt : PySem.W.findIn K (.ref C) "__getattr__" = some none
 ca : PySem.W.findIn K (.ref C) "__class__" = some (some (.builtin "object.__class__"))
 hn : PySem.W.specialIn K (.builtin "object.__class__") "__get__" = some (some (.builtin "getset_descriptor.__get__"))
 tk : PySem.W.takesIn K (.builtin "object.__class__") = some true
 mo : PySem.W.mroIn K C (.type "object") = some true
 kc : PySem.W.kitCls K (.ref C) (.ref C) = some true
section
variable {prog : Program} {w : World} {A : Around} {E : Value -> Shared -> Prop} {s : Shared} {K : PySem.W.Frag} {x C Pk : Addr} {ox : Obj} {od : Option Obj} {name : Str} {tk : Tok} {fill expr : Bool} {r : Builtin.ObjectAttr.Found} {Q : Value -> Shared -> Prop}
def XAtD (x C : Addr) (o : Option Addr) (h : Heap) : Prop := XAt x C o h /\ ∀ dx, o = some dx -> ∃ ob, h.get? dx = some ob
end
section
variable {X : Cx}
def IsX (H : Hp) (x C : Addr) (od : Option Addr) : Prop := H x = some (.ext (XAt x C od)) /\ ∀ dx, od = some dx -> ∃ o, H dx = some o
end
end L2
set_option Elab.async false
set_option linter.all false
set_option maxRecDepth 100000
namespace L2
open PySem PySem.Spec PyProof.Rows
abbrev TJ := St -> Hp -> (Hp -> Prop) -> Prop
def PJ (X : Cx) (es : List Expr) (n : Nat) (t : TJ) : Prop := ∀ (pins : List (Addr × Obj)) (s : Shared) (σ : St) (H : Hp) (out : Str) (m : Nat) (Q : Hp -> Prop), Inv X pins σ H s -> out.length + n <= m -> m <= sizeLine -> t σ H Q →
 Joins (model X.prog X.w) X.A X.xe (evalEach es X.env) out (fun o s' => o.length <= m /\ ∃ H', Inv X pins σ H' s' /\ Q H') s
section
variable {X : Cx} {e v₁ v₂ : Expr} {es : List Expr} {n : Nat} {te : TE} {t : TJ} {pos : Pos}
end
end L2
set_option Elab.async false
set_option linter.all false
set_option maxRecDepth 100000
namespace L2
open PySem PySem.Spec PyProof.Rows
section
variable {prog : Program} {w : World} {A : Around} {E : Value -> Shared -> Prop} {s : Shared} {K : PySem.W.Frag} {C Pk f : Addr} {rest : List Value}
end
end L2
set_option Elab.async false
set_option linter.all false
set_option maxRecDepth 100000
namespace L2
open PySem PySem.Spec PyProof.Rows
structure XSet (K : PySem.W.Frag) (C : Addr) : Prop where
 sa : PySem.W.findIn K (.ref C) "__setattr__" = some (some (.builtin "object.__setattr__"))
 hd : PySem.W.hasDictIn K C = true
section
variable {prog : Program} {w : World} {A : Around} {E : Value -> Shared -> Prop} {s : Shared} {K : PySem.W.Frag} {x C Pk : Addr} {ox : Obj} {od : Option Obj} {name : Str} {v : Value} {Q : Unit -> Shared -> Prop}
end
end L2
set_option Elab.async false
set_option linter.all false
set_option maxRecDepth 100000
namespace L2
open PySem PySem.Spec PyProof.Rows
def u2_ (dx : Addr) (fs : List (Str × V)) (h : Heap) : Prop := ∃ mA, h.Ns1 dx mA /\ (∀ f, RelO (fs.lookup f) (mA f)) /\ PySem.Within mA (fs.map (·.1))
section
variable {fl : Bool} {X : Cx} {pins : List (Addr × Obj)} {σ : St} {H : Hp} {s : Shared} {x C Pk : Addr} {f : Str} {A : Around} {E : Value -> Shared -> Prop}
end
section
variable {X : Cx} {o e value : Expr} {f : Str} {pos pos' : Pos} {ta tv : TE}
def qlj_ (K : PySem.W.Frag) (ta : TE) (f : Str) : TE := fun σ H Q => ta σ H fun x H1 => ∃ fl a C Pk dx fs v, x = .ref a /\ H1 a = some (.ext (XAtF fl a C (some dx))) /\ H1 dx = some (.ext (u2_ dx fs)) /\ XIn K C Pk /\ XSet K C /\ NoAttr K C f /\ fs.lookup f = some v /\ Q v H1
def qk4_ (K : PySem.W.Frag) (ta tv : TE) (f : Str) : TS := fun D σ H => tv σ H fun y H1 => ta σ H1 fun x H2 => ∃ fl a C Pk, x = .ref a /\ H2 a = some (.ext (XAtF fl a C none)) /\ XIn K C Pk /\ XSet K C /\ NoAttr K C f ∧
 ∀ dx, H2 dx = none -> dx ≠ a -> D.nx σ (upd (upd H2 dx (.ext (u2_ dx [(f, y)]))) a (.ext (XAtF fl a C (some dx))))
def qk5_ (K : PySem.W.Frag) (ta tv : TE) (f : Str) : TS := fun D σ H => tv σ H fun y H1 => ta σ H1 fun x H2 => ∃ fl a C Pk dx fs, x = .ref a /\ H2 a = some (.ext (XAtF fl a C (some dx))) /\ H2 dx = some (.ext (u2_ dx fs)) /\ fs.length < 1000 /\ XIn K C Pk /\ XSet K C /\ NoAttr K C f ∧
 D.nx σ (upd H2 dx (.ext (u2_ dx (putF f y fs))))
end
end L2
set_option Elab.async false
set_option linter.all false
set_option maxRecDepth 100000
namespace L2
open PySem PySem.Spec PyProof.Rows
structure XUp (K : PySem.W.Frag) (Pk : Addr) : Prop where
 sp : PySem.W.specialIn K (.ref Pk) "__getattribute__" = some (some (.builtin "type.__getattribute__"))
 rd : PySem.W.readsIn K Pk (.type "type") = true
 fc : PySem.W.findCls K (.ref Pk) (.type "type") "__init__" = some (.val (.builtin "ValueError.__init__"))
section
variable {prog : Program} {w : World} {A : Around} {E : Value -> Shared -> Prop} {s : Shared} {K : PySem.W.Frag} {x C Pk : Addr} {oe : Obj} {vs : Array Value} {us : List Value} {Q : Value -> Shared -> Prop}
end
section
variable {X : Cx} {P c : Str} {p pos apos : Pos} {e : Expr} {es : List Expr} {t : TA} {Pk : Addr}
def qk6_ (K : PySem.W.Frag) (Pk : Addr) (t : TA) : TE := fun σ H Q => t σ H fun vs H1 => ∃ fl a C od r, vs = .ref a :: r /\ r.length <= 1000 /\ H1 a = some (.ext (XAtF fl a C od)) /\ XIn K C Pk /\ Q .non H1
end
end L2
set_option Elab.async false
set_option linter.all false
set_option maxRecDepth 100000
namespace L2
open PySem PySem.Spec PyProof.Rows
end L2
set_option Elab.async false
set_option linter.all false
set_option maxRecDepth 100000
namespace L2
open PySem PySem.Spec PyProof.Rows
def drop (H : Hp) (x : Addr) : Hp := fun b => if b = x then none else H b
section
variable {X : Cx} {pins : List (Addr × Obj)} {σ : St} {H : Hp} {s : Shared} {x : Addr} {φ : Heap -> Prop}
end
structure XMk (K : PySem.W.Frag) (C f : Addr) : Prop where
 init : PySem.W.findIn K (.ref C) "__init__" = some (some (.ref f))
 fn : PySem.W.typeIn K (.ref f) = some (.type "function")
 kp : PySem.W.keepIn K (.ref C) = true
section
variable {X : Cx} {E : XK} {c : Str} {C Pk f : Addr} {fd : FuncData} {ps : List Str} {sp : Sp} {k : Nat} {p cpos pos : Pos} {e : Expr} {es : List Expr} {t : TA}
def qko_ (C : Addr) (sp : Sp) (E : XK) (t : TA) : TS := fun _ σ H => t σ H fun vs H1 => vs.length <= 1000 /\ ∀ x, H1 x = none →
 sp (.ref x :: vs) (upd H1 x (.ext (XAtF true x C none))) (fun v H2 => v = .non /\ ∃ od, H2 x = some (.ext (XAtF true x C od)) /\ E (.ref C) od (drop H2 x)) E0
end
end L2
set_option linter.all false
set_option maxRecDepth 100000
set_option maxHeartbeats 1000000
namespace L2
open PySem PySem.Spec PyProof.Rows
structure RowsAt (H : Hp) (ps : List Addr) (n : Nat) (row : Nat -> List V) : Prop where
 len : ps.length = n
 nd : ps.Nodup
 on : ∀ j p, ps[j]? = some p -> H p = some (.lst (row j))
section
variable {H H' : Hp} {ps : List Addr} {n : Nat} {row : Nat -> List V} {p : Addr}
theorem RowsAt.same (h : RowsAt H ps n row) (s : Same H H') : RowsAt H' ps n row := ⟨h.len, h.nd, fun j p e => s _ _ (h.on j p e)⟩
theorem RowsAt.none : RowsAt H [] 0 row := ⟨rfl, List.nodup_nil, fun j p e => by simp at e⟩
theorem RowsAt.ne (h : RowsAt H ps n row) (hp : H p = Option.none) : p ∉ ps := fun m => by
 obtain ⟨j, hj, e⟩ := List.getElem_of_mem m
 have := h.on j p (by rw [List.getElem?_eq_getElem hj, e])
 rw [hp] at this
 cases this
theorem RowsAt.snoc (h : RowsAt H ps n row) (np : p ∉ ps) (hp : H p = some (.lst (row n))) : RowsAt H (ps ++ [p]) (n + 1) row := by
 refine ⟨by rw [List.length_append, h.len]; rfl, List.nodup_append.mpr ⟨h.nd, by simp, fun a ha b hb e => ?_⟩, fun j q e => ?_⟩
 ·rw [List.mem_singleton.mp hb] at e
  exact np (e ▸ ha)
 ·rw [List.getElem?_append] at e
  split at e
  ·exact h.on j q e
  ·rename_i hj
   have hj0 : j - ps.length = 0 := by
    by_cases z : j - ps.length = 0
    ·exact z
    ·rw [List.getElem?_eq_none (by simp; omega)] at e; cases e
   have hjn : j = n := by have := h.len; omega
   rw [hj0] at e
   cases e
   rw [hjn]
   exact hp
theorem RowsAt.upd (h : RowsAt H ps n row) (hp : p ∉ ps) {o : HO} : RowsAt (upd H p o) ps n row := by
 refine ⟨h.len, h.nd, fun j q e => ?_⟩
 have : q ≠ p := fun z => hp (by rw [<- z]; exact List.mem_of_getElem? e)
 rw [qe_ this]
 exact h.on j q e
end
abbrev qlk_ (n : Nat) (f : Nat -> List Int) : Dt := .lst ((List.range n).map fun j => Dt.lst ((f j).map Dt.int))
theorem qd8_ {J : It} {n k : Nat} {src : Nat -> V} {row : Nat -> List V} {te : TE} {cs : St} {H1 : Hp} {D : Addr} {Q : Hp -> Prop} (hD : H1 D = none) (hk : k = cs.length) (hn : n <= sizeLine)
  (stop : ∀ H, Same H1 H -> J.stop n H) (go : ∀ i H, i < n -> Same H1 H -> J.go i H) (yld : ∀ i H x H', i < n -> Same H1 H -> J.yld i H x H' -> x = src i /\ H' = H)
  (he : ∀ i H (R : V -> Hp -> Prop), i < n -> Same H1 H -> (∀ p H4, H p = none -> Same H H4 -> H4 p = some (.lst (row i)) -> R (.ref p) H4) -> te (cs ++ [some (src i)]) H R)
  (hQ : ∀ ps H, Same H1 H -> H D = some (.lst (ps.map V.ref)) -> RowsAt H ps n row -> (∀ p ∈ ps, H1 p = none) -> D ∉ ps -> Q H) : jF_ J (jh_ k) jP_ te (cs ++ [none]) H1 D Q := by
 refine ⟨fun i m ys σ H => m = n - i /\ i <= n /\ Same H1 H /\ (∃ ps : List Addr, ys = ps.map V.ref /\ RowsAt H ps i row /\ (∀ p ∈ ps, H1 p = none) /\ D ∉ ps) /\ H D = some (.lst ys) /\ ∃ o, σ = cs ++ [o],
  ⟨n, rfl, Nat.zero_le _, (Same.refl _).up hD, ⟨[], rfl, RowsAt.none, by simp, by simp⟩, qd_, none, rfl⟩, ?_⟩
 rintro i m ys σ H ⟨rfl, hi, sm, ⟨ps, rfl, hr, hf, hd'⟩, hd, o, rfl⟩
 refine ⟨hd, ?_⟩
 by_cases hlt : i < n
 ·refine .inr ⟨go i H hlt sm, fun x H' y => ?_⟩
  obtain ⟨rfl, rfl⟩ := yld i H x H' hlt sm y
  have e : (cs ++ [o]).set k (some (src i)) = cs ++ [some (src i)] := by
   rw [hk, List.set_append_right _ _ (Nat.le_refl _), Nat.sub_self]
   rfl
  unfold jh_
  rw [e]
  unfold jP_
  refine iteT ?_
  refine he i H' _ hlt sm fun p H4 hp s4 h4 => ⟨s4 _ _ hd, ?_, n - (i + 1), by omega, rfl, hlt, (sm.trans s4).up hD, ⟨ps ++ [p], by rw [List.map_append]; rfl, ?_, ?_, ?_⟩, qd_, _, rfl⟩
  ·rw [List.length_map, hr.len]
   omega
  ·have np : p ≠ D := fun z => by rw [z, hd] at hp; cases hp
   have hps := hr.ne hp
   refine ((hr.same s4).snoc hps h4).upd ?_
   intro z
   rcases List.mem_append.mp z with z | z
   ·exact hd' z
   ·exact np (List.mem_singleton.mp z).symm
  ·intro q hq
   rcases List.mem_append.mp hq with z | z
   ·exact hf q z
   ·rw [List.mem_singleton.mp z]
    exact sm.free hp
  ·intro z
   rcases List.mem_append.mp z with z | z
   ·exact hd' z
   ·rw [List.mem_singleton.mp z] at hd
    rw [hd] at hp; cases hp
 ·have e : i = n := by omega
  subst e
  exact .inl ⟨stop H sm, hQ ps H sm hd hr hf hd'⟩
theorem qc2_ {n : Nat} {row : Nat -> List V} {k : Nat} {te : TE} {cs : St} {H1 : Hp} {D : Addr} {Q : Hp -> Prop} (hD : H1 D = none) (hk : k = cs.length) (hn : n <= sizeLine)
  (he : ∀ i H (R : V -> Hp -> Prop), i < n -> Same H1 H -> (∀ p H4, H p = none -> Same H H4 -> H4 p = some (.lst (row i)) -> R (.ref p) H4) -> te (cs ++ [some (.int (i : Nat))]) H R)
  (hQ : ∀ ps H, Same H1 H -> H D = some (.lst (ps.map V.ref)) -> RowsAt H ps n row -> (∀ p ∈ ps, H1 p = none) -> D ∉ ps -> Q H) : jF_ (Itr 0 n) (jh_ k) jP_ te (cs ++ [none]) H1 D Q :=
 qd8_ (src := fun i => .int (0 + (i : Nat))) hD hk hn (fun H _ => Nat.le_refl _) (fun i H hi _ => hi) (fun i H x H' _ _ y => ⟨y.2, y.1⟩) (fun i H R hi sm r => by
  have e : (0 : Int) + (i : Nat) = (i : Nat) := by omega
  rw [e]
  exact he i H R hi sm r) hQ
end L2
set_option linter.all false
set_option maxRecDepth 100000
set_option maxHeartbeats 1000000
namespace L2
open PySem PySem.Spec PyProof.Rows
variable {X : Cx}
theorem qan_ : ∀ {ns : List Int} {its : List Value}, Vals (ns.map V.int) its -> IntsAre its ns
 | [], _, .nil => .nil
 | n :: ns, _, .cons r rs => by
  obtain ⟨t, rfl⟩ := r
  exact .cons n t (qan_ rs)
theorem qao_ : ∀ {ns : List Int} {its : List Value}, IntsAre its ns -> Vals (ns.map V.int) its
 | _, _, .nil => .nil
 | _, _, .cons n t rs => .cons ⟨t, rfl⟩ (qao_ rs)
theorem qap_ {h : Heap} {vs : List Value} {out : Array Value} : ∃ e, (sortedAll h vs out).get? (h.objs.size + 1) = some (seqObj "list" out e) := by
 unfold sortedAll
 refine sortedHeap_at (n := 0) (Heap.get?_push_at ?_ rfl)
 simp [Heap.update, Heap.push]
theorem qbq_ : yM_ X (.builtin "sorted") (fun xs H Q => ∃ (p : Addr) (ns : List Int), xs = [.ref p] ∧ SqL X.K H p (ns.map V.int) ∧ ns.length < 64 ∧ ∀ l ns', H l = none → ns'.Perm ns → List.Pairwise (fun x y => x ≤ y) ns' → Q (.ref l) (upd H l (.lst (ns'.map V.int)))) := by
 intro pins s σ H xs us Q I r h
 obtain ⟨p, ns, rfl, hq, hl, q⟩ := h
 obtain ⟨u, rfl, rx⟩ := yY_ r
 cases rx
 obtain ⟨its, r', pl, hz⟩ := I.list hq
 have hlen := r'.length
 rw [List.length_map] at hlen
 refine sorted_ints (ns := ns) pl.isList (qan_ r') (by omega) fun out ns' hi hp hs => ?_
 obtain ⟨e, he⟩ := qap_ (h := s.heap) (vs := its) (out := out)
 have hv := qao_ hi
 have hl' := hv.length
 rw [List.length_map, hp.length_eq] at hl'
 refine ⟨.ref (s.heap.objs.size + 1), _, I.laid (t' := s.toks) (fun b o' z => sortedAll_old z) (Nat.le_succ _) (show ObjOk X.prog X.w _ _ _ (.lst (ns'.map V.int)) from ⟨?_, out.toList, e, hv, ?_⟩), rfl, q _ _ (I.hok.fresh (Nat.le_succ _)) hp hs⟩
 ·rw [List.length_map, hp.length_eq]
  exact Nat.le_trans (Nat.le_of_lt hl) (by decide)
 ·rw [he]
def qll_ (r : Addr) (lo hi : Int) (h : Heap) : Prop := ∃ t u v, IsRange h r lo hi 1 t u v
section
variable {K : PySem.W.Frag}
end
end L2
set_option linter.all false
set_option maxRecDepth 100000
set_option maxHeartbeats 1000000
namespace L2
open PySem PySem.Spec PyProof.Rows
def Ite (K : PySem.W.Frag) (l : Addr) (xs : List V) : It :=
 ⟨fun i H => SqL K H l xs /\ i < xs.length, fun i H x H' => ∃ T u, H T = none /\ x = .ref T /\ xs[i]? = some u /\ H' = upd H T (.tup [.int (i : Nat), u]), fun i H => SqL K H l xs /\ xs.length <= i⟩
theorem qd9_ {P : Program} {w : World} {K : PySem.W.Frag} {elts : List Expr} {x1} {tp : Pos} {z it l : Addr} (zi : z ≠ it) (xs : List V) :
  Turn P w K (.Tuple elts x1 tp) (Ite K l xs) [z, it] z (fun i h => (∃ old, PySem.IsEnum h z it (i : Nat) old) /\ h.IsListIter it l i) where
 mem := by simp
 obj := fun i h st b hb => by
  obtain ⟨⟨old, hz⟩, o1, e1, c1, d1⟩ := st
  simp only [List.mem_cons, List.not_mem_nil, or_false] at hb
  rcases hb with rfl | rfl
  ·exact ⟨_, hz, fun v q => by have q' : Data.fields _ = Data.cell v := q; cases q'⟩
  ·exact ⟨o1, e1, fun v q => by rw [d1] at q; cases q⟩
 keep := fun i h h' st k => by
  obtain ⟨⟨old, hz⟩, h1⟩ := st
  exact ⟨⟨old, k z (by simp) _ hz⟩, h1.at fun o e => k it (by simp) o e⟩
 item := by
  intro X hP hw hK hc i pins s σ H E I hf st hg
  subst hP hw hK
  obtain ⟨⟨old, hz⟩, h1⟩ := st
  obtain ⟨q1, b1⟩ := hg
  obtain ⟨its1, rv1, p1, _⟩ := I.list q1
  have hx : xs[i]? = some xs[i] := List.getElem?_eq_getElem b1
  obtain ⟨u, hu, ru⟩ := rv1.get hx
  have lt : ∀ {c o}, s.heap.get? c = some o -> c ≠ s.heap.objs.size := fun e => Nat.ne_of_lt (Heap.lt_size e)
  refine PySem.wpAny_pyNext_enum_item hz h1 p1.isList (x := u) (by simpa using hu) zi fun h' a1 a2 a3 a4 hk => ?_
  refine ⟨_, rfl, PySem.wpAny_letOwnedTupleGo_enum a1 fun h'' hz'' sb => ?_⟩
  have zne : s.heap.objs.size ≠ z := (lt hz).symm
  have kk : ∀ b u, b ∉ [z, it] -> s.heap.get? b = some u -> h''.get? b = some u := fun b u hb e => by
   simp only [List.mem_cons, List.not_mem_nil, or_false, not_or] at hb
   exact sb.extBut _ _ hb.1 (hk b u hb.1 hb.2 e)
  refine ⟨.ref s.heap.objs.size, upd H s.heap.objs.size (.tup [.int (i : Nat), xs[i]]), I.turnedUp (t' := s.toks + 1) hf kk (Nat.le_refl _) ⟨by show 2 <= sizeLine; decide, [.int (i : Nat) s.toks, u], .cons ⟨_, rfl⟩ (.cons ru .nil), ⟨_, sb.extBut _ _ zne a3, rfl, _, rfl⟩⟩, rfl,
   ⟨_, _, I.hok.fresh (Nat.le_refl _), rfl, hx, rfl⟩, ⟨⟨_, hz''⟩, a2.at fun o e => sb.extBut _ _ zi.symm e⟩, fun b hb => ?_⟩
  have : b ≠ s.heap.objs.size := by
   obtain ⟨o1, e1, _⟩ := id h1
   simp only [List.mem_cons, List.not_mem_nil, or_false] at hb
   rcases hb with rfl | rfl
   ·exact lt hz
   ·exact lt e1
  rw [qe_ this]
  exact (hf b hb).1
 done := by
  intro X hP hw hK hc i pins s σ H E I hf st hg
  subst hP hw hK
  obtain ⟨⟨old, hz⟩, h1⟩ := st
  obtain ⟨q1, hend⟩ := hg
  obtain ⟨its1, rv1, p1, _⟩ := I.list q1
  have l1 := rv1.length
  refine PySem.wpAny_pyNext_enum_end (I.ok.hd hc) hz h1 p1.isList (by rw [Array.getElem?_eq_none]; simp; omega) fun h' hk => ⟨rfl, I.turnedL (t' := s.toks) hf fun b u hb e => ?_⟩
  simp only [List.mem_cons, List.not_mem_nil, or_false, not_or] at hb
  exact hk b u hb.2 e
 self := fun _ _ _ _ _ ⟨⟨_, hz⟩, _⟩ h => PySem.wpAny_pyIter_enum hz h
section
variable {X : Cx}
def qkd_ (K : PySem.W.Frag) (ta : TA) : TI := fun σ H R => ta σ H fun vs H1 => ∃ l xs, vs = [.ref l] /\ SqL K H1 l xs /\ R (Ite K l xs) H1
theorem v7_ : bootBuiltins "enumerate" = some (.type "enumerate") := by decide +kernel
theorem v8_ {elts : List Expr} {x1} {tp : Pos} {a : Expr} {ta : TA} {p pos : Pos} (hg : Gl X "enumerate") (hm : X.mg "enumerate" = none) (ha : PA X [a] ta) (hs : starEach [a] X.env = [(false, eval a X.env)] := by rfl) :
  PI X (.Tuple elts x1 tp) (.Call (.Name "enumerate" p) [a] [] pos) (qkd_ X.K ta) := by
 intro pins s σ H R I h
 refine Call_ (yr_ I hg hm v7_ (PyProof.Rows.callWith_type1 (thn (ha pos pins s σ H _ I h) fun us s1 ⟨vs, H1, I1, r1, q1⟩ => ?_) hs rfl))
 obtain ⟨l, xs, e, h1, q⟩ := q1
 subst e
 obtain ⟨u, rfl, ru⟩ := yY_ r1
 cases ru
 obtain ⟨its1, rv1, p1, _⟩ := I1.list h1
 refine PySem.call_enumerate_list p1.isList fun h' a1 a2 a3 a4 => ?_
 refine PySem.wpAny_pyIter_enum a1 ?_
 refine ⟨s1.heap.objs.size + 1, [s1.heap.objs.size + 1, s1.heap.objs.size], _, _, H1, rfl, I1.kept (t' := s1.toks) fun b o e => a4 b o e, qd9_ (Nat.succ_ne_self _) xs, ⟨⟨_, a1⟩, a2⟩, fun b hb => ?_, q⟩
 have : s1.heap.objs.size <= b := by
  simp only [List.mem_cons, List.not_mem_nil, or_false] at hb
  rcases hb with rfl | rfl
  ·exact Nat.le_add_right _ 1
  ·exact Nat.le_refl _
 exact I1.fpOk this (I1.hok.fresh this)
end
theorem qfp_ {K : PySem.W.Frag} {l : Addr} {xs : List V} {g : TG} {tb : TS} {D : Ends} {σ : St} {H : Hp} (Pv : Nat -> St -> Hp -> Prop) (h0 : Pv 0 σ H) (hl : ∀ i σ H, i <= xs.length -> Pv i σ H -> SqL K H l xs)
  (hs : ∀ i u T σ H, i < xs.length -> xs[i]? = some u -> H T = none -> Pv i σ H -> g (.ref T) σ (upd H T (.tup [.int (i : Nat), u])) fun σ2 H2 => tb { D with nx := Pv (i + 1), ct := Pv (i + 1), bk := D.nx } σ2 H2) (hd : ∀ σ H, Pv xs.length σ H -> D.nx σ H) :
  ∃ W : Nat -> Nat -> St -> Hp -> Prop, (∃ m, W 0 m σ H) /\ ∀ i m σ H, W i m σ H →
   ((Ite K l xs).stop i H /\ D.nx σ H) \/ ((Ite K l xs).go i H /\ ∃ N : St -> Hp -> Prop, (∀ σ' H', N σ' H' -> ∃ m', m' < m /\ W (i + 1) m' σ' H') /\ ∀ x H', (Ite K l xs).yld i H x H' -> g x σ H' fun σ2 H2 => tb { D with nx := N, ct := N, bk := D.nx } σ2 H2) := by
 refine ⟨fun i m σ H => m = xs.length - i /\ i <= xs.length /\ Pv i σ H, ⟨xs.length, by simp, Nat.zero_le _, h0⟩, ?_⟩
 rintro i m σ H ⟨rfl, hi, p⟩
 have q1 := hl i σ H hi p
 by_cases hlt : i < xs.length
 ·refine .inr ⟨⟨q1, hlt⟩, Pv (i + 1), fun σ' H' p' => ⟨xs.length - (i + 1), by omega, rfl, hlt, p'⟩, fun x H' y => ?_⟩
  obtain ⟨T, u, hT, rfl, hu, rfl⟩ := y
  exact hs i u T σ H hlt hu hT p
 ·have e : i = xs.length := by omega
  exact .inl ⟨⟨q1, by omega⟩, hd σ H (e ▸ p)⟩
end L2
set_option linter.all false
set_option maxRecDepth 100000
set_option maxHeartbeats 1000000
namespace L2
open PySem PySem.Spec PyProof.Rows
theorem v9_ {X : Cx} {K : PySem.W.Frag} {es : List Expr} {k : Nat} {t : TGs} {n : Nat} {pos : Pos} (hK : X.K = K) (hc : X.calm = true) (h : PGs X es t) (hn : (assignEach es X.env).length = n := by rfl) (hst : (assignEach es X.env).findIdx? (·.1) = none := by rfl) : PG X (.Tuple es k pos) (gTup K n t) := by
 subst hK
 exact y6_ hc h hn hst
theorem qea_ {J : It} {n : Nat} {g : TG} {stt : Nat -> St} {Ok : St -> Prop} {f : Nat -> V} {te : TE} {σ0 : St} {H1 : Hp} {D : Addr} {Q : Hp -> Prop} (hD : H1 D = none) (hn : n <= sizeLine) (h0 : Ok σ0) (hok : ∀ i, i < n -> Ok (stt i))
  (stop : ∀ H, Same H1 H -> J.stop n H) (go : ∀ i H, i < n -> Same H1 H -> J.go i H)
  (tg : ∀ i σ H x H' (R : St -> Hp -> Prop), i < n -> Same H1 H -> Ok σ -> J.yld i H x H' -> (∀ H'', Same H H'' -> R (stt i) H'') -> g x σ H' R)
  (he : ∀ i H (R : V -> Hp -> Prop), i < n -> Same H1 H -> (∀ H4, Same H H4 -> R (f i) H4) -> te (stt i) H R)
  (hQ : ∀ H, Same H1 H -> H D = some (.lst ((List.range n).map f)) -> Q H) : jF_ J g jP_ te σ0 H1 D Q := by
 refine ⟨fun i m ys σ H => m = n - i /\ i <= n /\ Same H1 H /\ ys = (List.range i).map f /\ H D = some (.lst ys) /\ Ok σ, ⟨n, rfl, Nat.zero_le _, (Same.refl _).up hD, rfl, qd_, h0⟩, ?_⟩
 rintro i m ys σ H ⟨rfl, hi, sm, rfl, hd, ho⟩
 refine ⟨hd, ?_⟩
 by_cases hlt : i < n
 ·refine .inr ⟨go i H hlt sm, fun x H' y => ?_⟩
  refine tg i σ H x H' _ hlt sm ho y fun H'' s2 => ?_
  unfold jP_
  refine iteT ?_
  refine he i H'' _ hlt (sm.trans s2) fun H4 s4 => ⟨(s2.trans s4) _ _ hd, ?_, n - (i + 1), by omega, rfl, hlt, (sm.trans (s2.trans s4)).up hD, ?_, qd_, hok i hlt⟩
  ·rw [List.length_map, List.length_range]
   omega
  ·rw [List.range_succ, List.map_append]
   rfl
 ·have e : i = n := by omega
  subst e
  exact .inl ⟨stop H sm, hQ H sm hd⟩
theorem qc3_ {J : It} {n : Nat} {g : TG} {stt : Nat -> St} {Ok : St -> Prop} {row : Nat -> List V} {te : TE} {σ0 : St} {H1 : Hp} {D : Addr} {Q : Hp -> Prop} (hD : H1 D = none) (hn : n <= sizeLine) (h0 : Ok σ0) (hok : ∀ i, i < n -> Ok (stt i))
  (stop : ∀ H, Same H1 H -> J.stop n H) (go : ∀ i H, i < n -> Same H1 H -> J.go i H)
  (tg : ∀ i σ H x H' (R : St -> Hp -> Prop), i < n -> Same H1 H -> Ok σ -> J.yld i H x H' -> (∀ H'', Same H H'' -> R (stt i) H'') -> g x σ H' R)
  (he : ∀ i H (R : V -> Hp -> Prop), i < n -> Same H1 H -> (∀ p H4, H p = none -> Same H H4 -> H4 p = some (.lst (row i)) -> R (.ref p) H4) -> te (stt i) H R)
  (hQ : ∀ ps H, Same H1 H -> H D = some (.lst (ps.map V.ref)) -> RowsAt H ps n row -> (∀ p ∈ ps, H1 p = none) -> D ∉ ps -> Q H) : jF_ J g jP_ te σ0 H1 D Q := by
 refine ⟨fun i m ys σ H => m = n - i /\ i <= n /\ Same H1 H /\ (∃ ps : List Addr, ys = ps.map V.ref /\ RowsAt H ps i row /\ (∀ p ∈ ps, H1 p = none) /\ D ∉ ps) /\ H D = some (.lst ys) /\ Ok σ,
  ⟨n, rfl, Nat.zero_le _, (Same.refl _).up hD, ⟨[], rfl, RowsAt.none, by simp, by simp⟩, qd_, h0⟩, ?_⟩
 rintro i m ys σ H ⟨rfl, hi, sm, ⟨ps, rfl, hr, hf, hd'⟩, hd, ho⟩
 refine ⟨hd, ?_⟩
 by_cases hlt : i < n
 ·refine .inr ⟨go i H hlt sm, fun x H' y => ?_⟩
  refine tg i σ H x H' _ hlt sm ho y fun H'' s2 => ?_
  unfold jP_
  refine iteT ?_
  refine he i H'' _ hlt (sm.trans s2) fun p H4 hp s4 h4 => ⟨(s2.trans s4) _ _ hd, ?_, n - (i + 1), by omega, rfl, hlt, (sm.trans (s2.trans s4)).up hD, ⟨ps ++ [p], by rw [List.map_append]; rfl, ?_, ?_, ?_⟩, qd_, hok i hlt⟩
  ·rw [List.length_map, hr.len]
   omega
  ·have np : p ≠ D := fun z => by rw [z, s2 _ _ hd] at hp; cases hp
   have hps := (hr.same s2).ne hp
   refine ((hr.same (s2.trans s4)).snoc hps h4).upd ?_
   intro z
   rcases List.mem_append.mp z with z | z
   ·exact hd' z
   ·exact np (List.mem_singleton.mp z).symm
  ·intro q hq
   rcases List.mem_append.mp hq with z | z
   ·exact hf q z
   ·rw [List.mem_singleton.mp z]
    exact (sm.trans s2).free hp
  ·intro z
   rcases List.mem_append.mp z with z | z
   ·exact hd' z
   ·rw [List.mem_singleton.mp z] at hd
    rw [s2 _ _ hd] at hp; cases hp
 ·have e : i = n := by omega
  subst e
  exact .inl ⟨stop H sm, hQ ps H sm hd hr hf hd'⟩
theorem ua_ {K : PySem.W.Frag} {cs : St} {k : Nat} (hk : k = cs.length) {T : Addr} {u v : V} {o1 o2 : Option V} {H : Hp} {R : St -> Hp -> Prop} (hT : H T = none) (q : ∀ H'', Same H H'' -> R (cs ++ [some u, some v]) H'') :
  gTup K 2 (yW_ (jh_ k) (yW_ (jh_ (k + 1)) gNil)) (.ref T) (cs ++ [o1, o2]) (upd H T (.tup [u, v])) R := by
 refine ⟨T, _, rfl, SqT.of qd_, rfl, _, _, rfl, _, _, rfl, rfl, ?_⟩
 have e : ((cs ++ [o1, o2]).set k (some u)).set (k + 1) (some v) = cs ++ [some u, some v] := by
  subst hk
  have e1 : (List.length cs).succ - List.length cs = 1 := by omega
  rw [List.set_append_right _ _ (Nat.le_refl _), List.set_append_right _ _ (Nat.le_succ _), Nat.sub_self, e1]
  rfl
 rw [e]
 exact q _ fun b o e => by rw [qe_ (qk_ e hT)]; exact e
theorem qeb_ {K : PySem.W.Frag} {l1 l2 : Addr} {xs ys : List V} {f : Nat -> V} {k : Nat} {te : TE} {cs : St} {H1 : Hp} {D : Addr} {Q : Hp -> Prop} (h1 : SqL K H1 l1 xs) (h2 : SqL K H1 l2 ys) (hl : xs.length = ys.length) (hD : H1 D = none) (hk : k = cs.length) (hn : xs.length <= sizeLine)
  (he : ∀ i u v H (R : V -> Hp -> Prop), xs[i]? = some u -> ys[i]? = some v -> Same H1 H -> (∀ H4, Same H H4 -> R (f i) H4) -> te (cs ++ [some u, some v]) H R)
  (hQ : ∀ H, Same H1 H -> H D = some (.lst ((List.range xs.length).map f)) -> Q H) : jF_ (Itz K l1 l2 xs ys) (gTup K 2 (yW_ (jh_ k) (yW_ (jh_ (k + 1)) gNil))) jP_ te (cs ++ [none, none]) H1 D Q := by
 refine qea_ (n := xs.length) (stt := fun i => cs ++ [xs[i]?, ys[i]?]) (Ok := fun σ => ∃ o1 o2, σ = cs ++ [o1, o2]) hD hn ⟨none, none, rfl⟩ (fun i _ => ⟨_, _, rfl⟩) (fun H sm => ⟨sm.seq h1, sm.seq h2, .inl (Nat.le_refl _)⟩) (fun i H hi sm => ⟨sm.seq h1, sm.seq h2, hi, by omega⟩) (fun i σ H x H' R hi sm ho y q => ?_) (fun i H R hi sm r => ?_) hQ
 ·obtain ⟨o1, o2, rfl⟩ := ho
  obtain ⟨T, u, v, hT, rfl, hu, hv, rfl⟩ := y
  exact ua_ hk hT fun H'' s => by rw [<- hu, ← hv]; exact q H'' s
 ·rw [List.getElem?_eq_getElem hi, List.getElem?_eq_getElem (by omega)]
  exact he i _ _ H R (List.getElem?_eq_getElem hi) (List.getElem?_eq_getElem (by omega)) sm r
theorem qc4_ {K : PySem.W.Frag} {l : Addr} {xs : List V} {row : Nat -> List V} {k : Nat} {te : TE} {cs : St} {H1 : Hp} {D : Addr} {Q : Hp -> Prop} (h1 : SqL K H1 l xs) (hD : H1 D = none) (hk : k = cs.length) (hn : xs.length <= sizeLine)
  (he : ∀ i u H (R : V -> Hp -> Prop), xs[i]? = some u -> Same H1 H -> (∀ p H4, H p = none -> Same H H4 -> H4 p = some (.lst (row i)) -> R (.ref p) H4) -> te (cs ++ [some (.int (i : Nat)), some u]) H R)
  (hQ : ∀ ps H, Same H1 H -> H D = some (.lst (ps.map V.ref)) -> RowsAt H ps xs.length row -> (∀ p ∈ ps, H1 p = none) -> D ∉ ps -> Q H) : jF_ (Ite K l xs) (gTup K 2 (yW_ (jh_ k) (yW_ (jh_ (k + 1)) gNil))) jP_ te (cs ++ [none, none]) H1 D Q := by
 refine qc3_ (n := xs.length) (stt := fun i => cs ++ [some (.int (i : Nat)), xs[i]?]) (Ok := fun σ => ∃ o1 o2, σ = cs ++ [o1, o2]) hD hn ⟨none, none, rfl⟩ (fun i _ => ⟨_, _, rfl⟩) (fun H sm => ⟨sm.seq h1, Nat.le_refl _⟩) (fun i H hi sm => ⟨sm.seq h1, hi⟩) (fun i σ H x H' R hi sm ho y q => ?_) (fun i H R hi sm r => ?_) hQ
 ·obtain ⟨o1, o2, rfl⟩ := ho
  obtain ⟨T, u, hT, rfl, hu, rfl⟩ := y
  exact ua_ hk hT fun H'' s => by rw [<- hu]; exact q H'' s
 ·rw [List.getElem?_eq_getElem hi]
  exact he i _ H R (List.getElem?_eq_getElem hi) sm r
theorem qfq_ {K : PySem.W.Frag} {l1 l2 : Addr} {xs ys : List V} {g : TG} {tb : TS} {D : Ends} {σ : St} {H : Hp} (Pv : Nat -> St -> Hp -> Prop) (h0 : Pv 0 σ H) (hl : ∀ i σ H, i <= xs.length -> Pv i σ H -> SqL K H l1 xs /\ SqL K H l2 ys) (he : xs.length <= ys.length)
  (hs : ∀ i u v T σ H, i < xs.length -> xs[i]? = some u -> ys[i]? = some v -> H T = none -> Pv i σ H -> g (.ref T) σ (upd H T (.tup [u, v])) fun σ2 H2 => tb { D with nx := Pv (i + 1), ct := Pv (i + 1), bk := D.nx } σ2 H2) (hd : ∀ σ H, Pv xs.length σ H -> D.nx σ H) :
  ∃ W : Nat -> Nat -> St -> Hp -> Prop, (∃ m, W 0 m σ H) /\ ∀ i m σ H, W i m σ H →
   ((Itz K l1 l2 xs ys).stop i H /\ D.nx σ H) \/ ((Itz K l1 l2 xs ys).go i H /\ ∃ N : St -> Hp -> Prop, (∀ σ' H', N σ' H' -> ∃ m', m' < m /\ W (i + 1) m' σ' H') /\ ∀ x H', (Itz K l1 l2 xs ys).yld i H x H' -> g x σ H' fun σ2 H2 => tb { D with nx := N, ct := N, bk := D.nx } σ2 H2) := by
 refine ⟨fun i m σ H => m = xs.length - i /\ i <= xs.length /\ Pv i σ H, ⟨xs.length, by simp, Nat.zero_le _, h0⟩, ?_⟩
 rintro i m σ H ⟨rfl, hi, p⟩
 obtain ⟨q1, q2⟩ := hl i σ H hi p
 by_cases hlt : i < xs.length
 ·refine .inr ⟨⟨q1, q2, hlt, by omega⟩, Pv (i + 1), fun σ' H' p' => ⟨xs.length - (i + 1), by omega, rfl, hlt, p'⟩, fun x H' y => ?_⟩
  obtain ⟨T, u, v, hT, rfl, hu, hv, rfl⟩ := y
  exact hs i u v T σ H hlt hu hv hT p
 ·have e : i = xs.length := by omega
  exact .inl ⟨⟨q1, q2, .inl (by omega)⟩, hd σ H (e ▸ p)⟩
end L2
set_option Elab.async false
set_option linter.all false
set_option maxRecDepth 100000
namespace L2
open PySem PySem.Spec PyProof.Rows
section
variable {X : Cx} {pos : Pos}
def qlm_ (K : PySem.W.Frag) (n : Nat) (t : TGs) : TG := fun v σ H Q => ∃ a xs, v = .ref a /\ SqL K H a xs /\ xs.length = n /\ t xs σ H Q
end
section
variable {X : Cx} {e : Expr} {es : List Expr} {n : Nat} {te : TE} {t : TJ} {pos : Pos}
end
end L2
set_option Elab.async false
set_option linter.all false
set_option maxRecDepth 100000
namespace L2
open PySem PySem.Spec PyProof.Rows
theorem qec_ {α : Type} (f : α -> Bool) (d : α) : ∀ (l : List α), (List.range l.length).any (fun i => f (l.getD i d)) = l.any f := fun l => by
 rw [Bool.eq_iff_iff, List.any_eq_true, List.any_eq_true]
 constructor
 ·rintro ⟨i, hi, e⟩
  have hi := List.mem_range.mp hi
  rw [List.getD_eq_getElem?_getD, List.getElem?_eq_getElem hi] at e
  exact ⟨_, List.getElem_mem hi, e⟩
 ·rintro ⟨x, hx, e⟩
  obtain ⟨i, hi, rfl⟩ := List.getElem_of_mem hx
  refine ⟨i, List.mem_range.mpr hi, ?_⟩
  rw [List.getD_eq_getElem?_getD, List.getElem?_eq_getElem hi]
  exact e
section
variable {X : Cx}
theorem qaq_ {ns : List Int} {its : List Value} (rv : Vals (ns.map V.int) its) {i : Nat} {v : Value} (h : its.toArray[i]? = some v) : ∃ t, v = Value.int (ns.getD i 0) t := by
 have h' : its[i]? = some v := by simpa using h
 have hi : i < ns.length := by
  have := rv.length
  rw [List.length_map] at this
  rw [this]
  exact (List.getElem?_eq_some_iff.mp h').1
 obtain ⟨u, hu, ru⟩ := rv.get (i := i) (x := V.int ns[i]) (by rw [List.getElem?_map, List.getElem?_eq_getElem hi]; rfl)
 rw [h'] at hu
 cases hu
 obtain ⟨t, rfl⟩ := ru
 exact ⟨t, by rw [List.getD_eq_getElem?_getD, List.getElem?_eq_getElem hi]; rfl⟩
theorem uB_ (hc : X.calm = true) : yM_ X (.builtin "any") (fun xs H Q => ∃ (p : Addr) (ns : List Int), xs = [.ref p] ∧ SqL X.K H p (ns.map V.int) ∧ Q (.bl (ns.any fun i => i != 0)) H) := by
 intro pins s σ H xs us Q I r h
 obtain ⟨p, ns, rfl, hq, q⟩ := h
 obtain ⟨u, rfl, rx⟩ := yY_ r
 cases rx
 obtain ⟨its, rv, ⟨o, nn, e1, e2, e3, e4⟩, hz⟩ := I.list hq
 have hne : p ≠ s.heap.objs.size := Nat.ne_of_lt (Heap.lt_size e1)
 refine call_any_walk (wpAny_pyIter_list ⟨o, e1, e2, nn, e4⟩ ?_)
 refine ⟨_, _, _, _, _, _, fun i => ns.getD i 0 != 0, rfl, Walks.list (A := X.A.in1) (show X.A.in1.handled = none from I.ok.hd hc) s.heap.objs.size p hne its.toArray, ⟨⟨_, Heap.get?_push_size _ rfl, rfl, rfl⟩, ⟨o, Heap.get?_push_of_some _ e1, e2, nn, e4⟩⟩, fun i v s' Q' E' hv q' => ?_, fun h' tk kp => ?_⟩
 ·obtain ⟨t, rfl⟩ := qaq_ rv hv
  exact P.truthy_int q'
 ·have hl : its.toArray.size = ns.length := by
   have := rv.length
   rw [List.length_map] at this
   simp [this]
  rw [hl, qec_ (fun i : Int => i != 0) 0 ns]
  exact ⟨.bl _, H, I.kept (t' := tk) fun b o e => kp b o (fun z => by rw [List.mem_singleton.mp z] at e; exact absurd (Heap.lt_size e) (Nat.lt_irrefl _)) (Heap.get?_push_of_some _ e), rfl, q⟩
end
theorem yd_ {K : PySem.W.Frag} {a : Addr} {xs : List V} {f : Nat -> V} {k : Nat} {te : TE} {cs : St} {H1 : Hp} {D : Addr} {Q : Hp -> Prop} (hs : SqL K H1 a xs) (hD : H1 D = none) (hk : k = cs.length) (hn : xs.length <= sizeLine)
  (he : ∀ i x H (R : V -> Hp -> Prop), xs[i]? = some x -> Same H1 H -> (∀ H4, Same H H4 -> R (f i) H4) -> te (cs ++ [some x]) H R)
  (hQ : ∀ H, Same H1 H -> H D = some (.lst ((List.range xs.length).map f)) -> Q H) : jF_ (Itl K a) (jh_ k) jP_ te (cs ++ [none]) H1 D Q := by
 refine zJ_ (src := fun i => xs.getD i .non) (f := f) (n := xs.length) hD hk hn (fun H sm => ⟨xs, sm.seq hs, Nat.le_refl _⟩) (fun i H hi sm => ⟨xs, xs[i], sm.seq hs, List.getElem?_eq_getElem hi⟩) (fun i H x H' hi sm y => ?_) (fun i H R hi sm r => ?_) hQ
 ·obtain ⟨e, y⟩ := y
  refine ⟨?_, e⟩
  have := y xs (sm.seq hs)
  rw [List.getD_eq_getElem?_getD, this]
  rfl
 ·refine he i _ H R ?_ sm r
  rw [List.getD_eq_getElem?_getD, List.getElem?_eq_getElem hi]
  rfl
end L2
set_option Elab.async false
set_option linter.all false
set_option maxRecDepth 100000
namespace L2
open PySem PySem.Spec PyProof.Rows
theorem qbr_ {J : It} {n k : Nat} {src f : Nat -> V} {b : Nat -> Bool} {tt : TT} {te : TE} {cs : St} {H1 : Hp} {D : Addr} {Q : Hp -> Prop} (hD : H1 D = none) (hk : k = cs.length) (hn : n <= sizeLine)
  (stop : ∀ H, Same H1 H -> J.stop n H) (go : ∀ i H, i < n -> Same H1 H -> J.go i H) (yld : ∀ i H x H', i < n -> Same H1 H -> J.yld i H x H' -> x = src i /\ H' = H)
  (ht : ∀ i H (R : Bool -> Hp -> Prop), i < n -> Same H1 H -> (∀ H4, Same H H4 -> R (b i) H4) -> tt (cs ++ [some (src i)]) H R)
  (he : ∀ i H (R : V -> Hp -> Prop), i < n -> b i = true -> Same H1 H -> (∀ H4, Same H H4 -> R (f i) H4) -> te (cs ++ [some (src i)]) H R)
  (hQ : ∀ H, Same H1 H -> H D = some (.lst (((List.range n).filter b).map f)) -> Q H) : jF_ J (jh_ k) tt te (cs ++ [none]) H1 D Q := by
 refine ⟨fun i m ys σ H => m = n - i /\ i <= n /\ Same H1 H /\ ys = ((List.range i).filter b).map f /\ H D = some (.lst ys) /\ ∃ o, σ = cs ++ [o], ⟨n, rfl, Nat.zero_le _, (Same.refl _).up hD, rfl, qd_, none, rfl⟩, ?_⟩
 rintro i m ys σ H ⟨rfl, hi, sm, rfl, hd, o, rfl⟩
 refine ⟨hd, ?_⟩
 by_cases hlt : i < n
 ·refine .inr ⟨go i H hlt sm, fun x H' y => ?_⟩
  obtain ⟨rfl, rfl⟩ := yld i H x H' hlt sm y
  have e : (cs ++ [o]).set k (some (src i)) = cs ++ [some (src i)] := by
   rw [hk, List.set_append_right _ _ (Nat.le_refl _), Nat.sub_self]
   rfl
  unfold jh_
  rw [e]
  refine ht i H' _ hlt sm fun H4 s4 => ?_
  have er : (List.range (i + 1)).filter b = (List.range i).filter b ++ (if b i = true then [i] else []) := by
   rw [List.range_succ, List.filter_append]
   congr 1
   by_cases z : b i = true
   ·rw [if_pos z, List.filter_cons_of_pos z, List.filter_nil]
   ·rw [if_neg z, List.filter_cons_of_neg z, List.filter_nil]
  by_cases z : b i = true
  ·rw [if_pos z]
   refine he i H4 _ hlt z (sm.trans s4) fun H5 s5 => ⟨s5 _ _ (s4 _ _ hd), ?_, n - (i + 1), by omega, rfl, hlt, ((sm.trans s4).trans s5).up hD, ?_, qd_, _, rfl⟩
   ·rw [List.length_map]
    have := List.length_filter_le b (List.range i)
    rw [List.length_range] at this
    omega
   ·rw [er, if_pos z, List.map_append]
    rfl
  ·rw [if_neg z]
   refine ⟨n - (i + 1), by omega, rfl, hlt, sm.trans s4, ?_, s4 _ _ hd, _, rfl⟩
   rw [er, if_neg z, List.append_nil]
 ·have e : i = n := by omega
  subst e
  exact .inl ⟨stop H sm, hQ H sm hd⟩
theorem ve_ {n : Nat} {f : Nat -> V} {b : Nat -> Bool} {k : Nat} {tt : TT} {te : TE} {cs : St} {H1 : Hp} {D : Addr} {Q : Hp -> Prop} (hD : H1 D = none) (hk : k = cs.length) (hn : n <= sizeLine)
  (ht : ∀ i H (R : Bool -> Hp -> Prop), i < n -> Same H1 H -> (∀ H4, Same H H4 -> R (b i) H4) -> tt (cs ++ [some (.int (i : Nat))]) H R)
  (he : ∀ i H (R : V -> Hp -> Prop), i < n -> b i = true -> Same H1 H -> (∀ H4, Same H H4 -> R (f i) H4) -> te (cs ++ [some (.int (i : Nat))]) H R)
  (hQ : ∀ H, Same H1 H -> H D = some (.lst (((List.range n).filter b).map f)) -> Q H) : jF_ (Itr 0 n) (jh_ k) tt te (cs ++ [none]) H1 D Q :=
 qbr_ (src := fun i => .int (0 + (i : Nat))) hD hk hn (fun H _ => Nat.le_refl _) (fun i H hi _ => hi) (fun i H x H' _ _ y => ⟨y.2, y.1⟩) (fun i H R hi sm r => by
  have e : (0 : Int) + (i : Nat) = (i : Nat) := by omega
  rw [e]
  exact ht i H R hi sm r) (fun i H R hi hb sm r => by
  have e : (0 : Int) + (i : Nat) = (i : Nat) := by omega
  rw [e]
  exact he i H R hi hb sm r) hQ
end L2
set_option Elab.async false
set_option linter.all false
set_option maxRecDepth 100000
set_option maxHeartbeats 1000000
namespace L2
open PySem PySem.Spec PyProof.Rows
variable {X : Cx}
def u3_ : Value -> V
 | .bool b => .bl b
 | .int i _ => .int i
 | .str x _ => .str x
 | .bytes b _ => .byt b
 | .float b _ => .flt b
 | .ref a => .ref a
 | .type n => .ty n
 | _ => .non
theorem qar_ {z : V} {u : Value} (h : RelV z u) : u3_ u = z := by
 cases z with
 | non => cases h; rfl
 | bl b => cases h; rfl
 | int i => obtain ⟨t, rfl⟩ := h; rfl
 | str i => obtain ⟨t, rfl⟩ := h; rfl
 | byt i => obtain ⟨t, rfl⟩ := h; rfl
 | flt i => obtain ⟨t, rfl⟩ := h; rfl
 | ref a => cases h; rfl
 | ty n => cases h; rfl
theorem qbs_ {f : V -> Bool} {xs : List V} {its : List Value} (r : Vals xs its) : its.countP (fun u => f (u3_ u)) = xs.countP f := by
 induction r with
 | nil => rfl
 | cons h _ ih => rw [List.countP_cons, List.countP_cons, ih, qar_ h]
theorem qfr_ {xs : List V} {its : List Value} (r : Vals xs its) : ∀ u ∈ its, ∃ z ∈ xs, RelV z u := by
 induction r with
 | nil => intro u h; cases h
 | cons h _ ih =>
  intro u hu
  rcases List.mem_cons.mp hu with e | e
  ·subst e
   exact ⟨_, List.mem_cons_self, h⟩
  ·obtain ⟨z, hz, rz⟩ := ih u e
   exact ⟨z, List.mem_cons_of_mem _ hz, rz⟩
def qi8_ : V -> List V -> Hp -> VK -> Prop := fun x vs H Q => ∃ (l : Addr) (xs : List V) (y : V), x = .ref l /\ vs = [y] /\ H l = some (.lst xs) /\ yu_ y = true /\ (∀ z ∈ xs, yu_ z = true) /\ Q (.int ((xs.countP fun z => eqV z y : Nat) : Int)) H
theorem qfs_ : MtM X "list.count" qi8_ := by
 intro pins s σ H x vs v us Q I rx rv h
 obtain ⟨l, xs, y, rfl, rfl, hH, hy, hx, q⟩ := h
 cases rx
 obtain ⟨u, rfl, ru⟩ := rv.one
 obtain ⟨z, its, n, r, hl, e⟩ := I.lstM hH
 refine call_meets F.slot_list_count ⟨_, e, rfl⟩ F.entry_list_count (F.args_list_count_2 _ _) (SeqAt.list_countAt l its.toArray n none #[] u (fun v => eqV (u3_ v) y)) ⟨e, ?_, ?_⟩
 ·intro v hv
  have hv' : v ∈ its := by simpa using hv
  obtain ⟨z, hz, rz⟩ := qfr_ r v hv'
  have eb := qar_ rz
  show SeqAt.EqAt _ _ v u (eqV (u3_ v) y)
  rw [eb]
  exact qdv_ rz ru (hx z hz) hy
 ·refine ⟨.int ((xs.countP fun z => eqV z y : Nat) : Int), H, I.tok _, ⟨s.toks, ?_⟩, q⟩
  rw [<- qbs_ r]
end L2
set_option Elab.async false
set_option linter.all false
set_option maxRecDepth 100000
set_option maxHeartbeats 1000000
namespace L2
open PySem PySem.Spec PyProof.Rows
def SameBut (D : Addr) (H H' : Hp) : Prop := ∀ y o, y ≠ D -> H y = some o -> H' y = some o
end L2
set_option Elab.async false
set_option linter.all false
set_option maxRecDepth 100000
set_option maxHeartbeats 1000000
namespace L2
open PySem PySem.Spec PyProof.Rows
end L2
set_option Elab.async false
set_option linter.all false
set_option maxRecDepth 100000
set_option maxHeartbeats 1000000
namespace L2
open PySem PySem.Spec PyProof.Rows
variable {X : Cx}
end L2
namespace GF
end GF
set_option Elab.async false
set_option linter.all false
set_option maxRecDepth 100000
set_option maxHeartbeats 1000000
namespace L2
open PySem PySem.Spec PyProof.Rows
def qkp_ (N : List Str) (osc sc : Scope) (cap : List Nat) (y : Str) : Bool :=
 (sc.kind == .function) && (sc.names.filter (fun p => p.2 == NameKind.cell) == [(y, NameKind.cell)]) && (sc.names.lookup y == some .cell) && sc.names.all (fun y => ((y.2 != .local) || (sc.names.lookup y.1 == some .local)) && ((y.2 != .free) || ((sc.names.lookup y.1 == some .free) && ((osc.names.lookup y.1 == some .cell) || (osc.names.lookup y.1 == some .free))))) &&
  cap.all (fun i => match N[i]? with | some x => sc.names.lookup x == some .free | none => false)
structure CompOkC (N : List Str) (osc sc : Scope) (cap : List Nat) (y : Str) : Prop where
 kind : sc.kind = .function
 one : sc.names.filter (fun p => p.2 == NameKind.cell) = [(y, NameKind.cell)]
 mine : sc.names.lookup y = some .cell
 locs : ∀ y ∈ sc.names, y.2 = .local -> sc.names.lookup y.1 = some .local
 free1 : ∀ y ∈ sc.names, y.2 = .free -> sc.names.lookup y.1 = some .free
 frees : ∀ y ∈ sc.names, y.2 = .free -> osc.names.lookup y.1 = some .cell \/ osc.names.lookup y.1 = some .free
 capf : ∀ i ∈ cap, ∃ x, N[i]? = some x /\ sc.names.lookup x = some .free
def qkq_ (X : Cx) (sc : Scope) (cl : List (Str × Addr)) (C : Addr) (cap : List Nat) (y : Str) (s₀ : Shared) (H₀ : Hp) (ex : List Addr) : Cx :=
 { X with N := z6_ X.N cap [y], s₀ := s₀, H₀ := H₀, env := compEnvC sc ((y, C + 1) :: cl) C X.env, outer := X.stack, stack := X.stack, ex := ex, fn := fun x => x == y, pn := [], xe := fun _ _ => False }
section
variable {X : Cx} {pins : List (Addr × Obj)} {σ : St} {H : Hp} {s : Shared} {sc : Scope} {cl : List (Str × Addr)} {cap : List Nat} {y : Str}
end
section
variable {X : Cx} {sc : Scope} {cap : List Nat} {y : Str} {tg iter elt : Expr} {ifs : List Expr} {pos : Pos} {wi : TI} {g : TG} {tt : TT} {te : TE}
end
end L2
set_option Elab.async false
set_option linter.all false
set_option maxRecDepth 100000
set_option maxHeartbeats 1000000
namespace L2
open PySem PySem.Spec PyProof.Rows
section
variable {X : Cx}
end
end L2
set_option Elab.async false
set_option linter.all false
set_option maxRecDepth 100000
namespace L2
open PySem PySem.Spec PyProof.Rows
theorem qft_ {M : Model} {A : Around} {E : Value -> Shared -> Prop} {s : Shared} {env : Env} {name : Str} {args : Arguments} {body : List Stmt} {scope : Scope} {pos : Pos} {Q : Flow -> Shared -> Prop}
  (h1 : defaultsOf args env = ([], [])) (h2 : annotationsOf (args.args ++ args.posonlyargs ++ args.vararg.toList ++ args.kwonlyargs ++ args.kwarg.toList) env = [])
  (h : wpAny M A (makeFunction name (qualnameIn env name name) args (.stmts body) scope env [] [] [] pos pos.line) (fun f s1 => wpAny M A (storeName env name f) (fun _ s2 => Q .next s2) E s1) E s) :
  wpAny M A (exec (.FunctionDef name args body [] none [] scope none name pos) env) Q E s := by
 rw [arm_exec_FunctionDef]
 obtain ⟨po, a, va, ko, kd, kwa, df⟩ := args
 unfold defStmt
 simp only [h1, h2, evalEach, evalOpt, List.isEmpty_nil, Bool.not_true, Bool.false_and, List.map_nil, Option.map_none, Option.toList_none, List.append_nil]
 rw [if_neg Bool.false_ne_true]
 refine wpAny_bind (wpAny_evalAll_nil ?_)
 refine wpAny_bind (wpAny_standAt ?_)
 refine wpAny_bind (wpAny_holding ?_)
 refine wpAny_bind (wpAny_evalAll_nil ?_)
 refine wpAny_bind (wpAny_holding (wpAny_pure (α := List (Option Value)) (a := []) ?_))
 refine wpAny_holding ?_
 refine wpAny_bind (wpAny_pure (α := List (Str × Value)) (a := []) ?_)
 refine wpAny_mono h (fun f s1 q => ?_) fun _ _ z => z
 refine wpAny_bind (wpAny_pure (α := Value) (a := f) ?_)
 refine wpAny_bind (wpAny_standAt ?_)
 refine wpAny_bind (wpAny_bindName ?_)
 exact wpAny_mono q (fun _ s2 z => wpAny_pure z) fun _ _ z => z
def yn_ (q : Str) (c : Addr) : HO := .ext fun h => h.CodeRec (.ref c) q
def FunO (fa : Addr) (fd : FuncData) : HO := .ext fun h => h.get? fa = some { cls := .type "function", data := .func fd }
structure TabK (X : Cx) (c P : Addr) : Prop where
 cd : X.env.code = .ref c
 hd : PySem.W.codeHdIn X.K c P = true
 blt : X.base.BuiltinsAt X.mg P
 ne : mainGlobals ≠ P
section
variable {X : Cx} {pins : List (Addr × Obj)} {σ : St} {H : Hp} {s : Shared}
theorem qfu_ {P : Program} {w : World} {h : Heap} {c : Addr} {q : Str} (e : h.CodeRec (.ref c) q) : ObjOk P w H h c (yn_ q c) := by
 refine ⟨e, ?_, fun h1 h2 e1 k => ?_⟩
 ·obtain ⟨c', o, vs, t, e1, e2, _⟩ := e
  cases e1
  exact ⟨o, e2⟩
 ·obtain ⟨c', o, vs, t, e1, e2, e3⟩ := e1
  cases e1
  exact ⟨c, o, vs, t, rfl, k o e2, e3⟩
theorem qcb_ {P : Program} {w : World} {h : Heap} {fa : Addr} {fd : FuncData} (e : h.get? fa = some { cls := .type "function", data := .func fd }) : ObjOk P w H h fa (FunO fa fd) := ⟨e, ⟨_, e⟩, fun h1 h2 e1 k => k _ e1⟩
theorem Inv.fnew {P c' : Addr} {ps more : Array Value} {q : Str} {h' : Heap} {fd : FuncData} {tk : Nat} (I : Inv X pins σ H s) (hP : H P = some (.tbl ps)) (x : Heap.ExtBut P s.heap h') (h1 : s.heap.objs.size <= c') (h2 : c' < h'.objs.size) (cr : h'.CodeRec (.ref c') q) (ht : h'.get? P = some (PySem.W.tabObj (ps ++ more))) :
  Inv X pins σ (upd (upd (upd H P (.tbl (ps ++ more))) c' (yn_ q c')) h'.objs.size (FunO h'.objs.size fd)) { s with heap := h'.push { cls := .type "function", data := .func fd }, toks := tk } := by
 have ltP : P < s.heap.objs.size := (I.hok P _ hP).lt
 have le' : s.heap.objs.size <= h'.objs.size := Nat.le_trans h1 (Nat.le_of_lt h2)
 have nP : ∀ b, H b = none -> b ≠ P := fun b e z => by rw [z, hP] at e; cases e
 have old : ∀ b o, s.heap.get? b = some o -> b ≠ c' /\ b ≠ h'.objs.size := fun b o e => ⟨Nat.ne_of_lt (Nat.lt_of_lt_of_le (Heap.lt_size e) h1), Nat.ne_of_lt (Nat.lt_of_lt_of_le (Heap.lt_size e) le')⟩
 have oldH : ∀ b u, H b = some u -> b ≠ c' /\ b ≠ h'.objs.size := fun b u e => ⟨Nat.ne_of_lt (Nat.lt_of_lt_of_le (I.hok b u e).lt h1), Nat.ne_of_lt (Nat.lt_of_lt_of_le (I.hok b u e).lt le')⟩
 have keepN : ∀ b o, b ≠ P → s.heap.get? b = some o → (h'.push { cls := .type "function", data := .func fd }).get? b = some o := fun b o hb e => Heap.get?_push_of_some _ (x b o hb e)
 have at_ : ∀ b u, b ≠ P -> H b = some u -> upd (upd (upd H P (.tbl (ps ++ more))) c' (yn_ q c')) h'.objs.size (FunO h'.objs.size fd) b = some u := fun b u hb e => by
  rw [qe_ (oldH b u e).2, qe_ (oldH b u e).1, qe_ hb]
  exact e
 have isP : upd (upd (upd H P (.tbl (ps ++ more))) c' (yn_ q c')) h'.objs.size (FunO h'.objs.size fd) P = some (.tbl (ps ++ more)) := by
  rw [qe_ (oldH P _ hP).2, qe_ (oldH P _ hP).1]
  exact qd_
 refine I.step (g' := s.gens) (d' := s.drawn) (ch := []) (fun _ z => nomatch z) (fun b o _ _ _ e n => keepN b o (nP b n) e) (fun b o _ _ _ e n => ⟨o.slots, keepN b o (nP b n) e⟩) (fun b o _ e n => ?_) (fun b o _ e => ?_) (fun b xs e => at_ b _ (fun z => by rw [z, hP] at e; cases e) e) (fun b o u e => at_ b _ (fun z => by rw [z, hP] at e; cases e) e) (fun b ps' e => ?_) (fun m hm => ?_) (fun b u e => ?_) I.bare
 ·rw [qe_ (old b o e).2, qe_ (old b o e).1, qe_ (nP b n)]
  exact n
 ·by_cases z : b = P
  ·rw [z]
   exact ⟨_, Heap.get?_push_of_some _ ht⟩
  ·exact ⟨o, keepN b o z e⟩
 ·by_cases z : b = P
  ·subst z
   rw [hP] at e
   cases e
   exact ⟨more, isP⟩
  ·exact ⟨#[], by rw [at_ b _ z e]; simp⟩
 ·obtain ⟨o, es, ep, ho, r⟩ := hm
  exact ⟨o, es, ep, keepN _ o (nP _ I.free) ho, r⟩
 ·by_cases z1 : b = h'.objs.size
  ·rw [z1, qd_] at e
   cases e
   rw [z1]
   exact qcb_ (Heap.get?_push_size _ rfl)
  rw [qe_ z1] at e
  by_cases z2 : b = c'
  ·rw [z2, qd_] at e
   cases e
   rw [z2]
   refine qfu_ ?_
   obtain ⟨c'', o, vs, t, e1, e2, e3⟩ := cr
   exact ⟨c'', o, vs, t, e1, Heap.get?_push_of_some _ e2, e3⟩
  rw [qe_ z2] at e
  by_cases z3 : b = P
  ·rw [z3, qd_] at e
   cases e
   rw [z3]
   exact Heap.get?_push_of_some _ ht
  rw [qe_ z3] at e
  refine (I.hok b u e).stay (fun c v hc q => keepN c v ?_ q) (fun c q => at_ c _ (fun z => by rw [z, hP] at q; cases q) q) fun c xs q => at_ c _ (fun z => by rw [z, hP] at q; cases q) q
  rcases hc with z | z
  ·rw [z]; exact z3
  ·exact fun y => by rw [y, hP] at z; cases z
theorem Inv.fhit {h' : Heap} {fd : FuncData} {tk : Nat} (I : Inv X pins σ H s) (x : ∀ b o, s.heap.get? b = some o -> h'.get? b = some o) (le' : s.heap.objs.size <= h'.objs.size) :
  Inv X pins σ (upd H h'.objs.size (FunO h'.objs.size fd)) { s with heap := h'.push { cls := .type "function", data := .func fd }, toks := tk } :=
 I.laid (t' := tk) (fun b u e => Heap.get?_push_of_some _ (x b u e)) le' (qcb_ (Heap.get?_push_size _ rfl))
def tFn (P : Addr) (pos : Pos) (q : Str) (mk : Value -> Value -> Value -> Value -> FuncData) : TE := fun σ H Q => ∃ ps, H P = some (.tbl ps) /\ TriplesOk ps.toList ∧
 ((codeAmong pos ps.toList = none /\ ∀ (c' fa : Addr) (doc pm ctv : Value), H c' = none -> H fa = none -> fa ≠ c' -> Q (.ref fa) (upd (upd (upd H P (.tbl (ps ++ #[rawInt pos.line, rawInt pos.col, .ref c']))) c' (yn_ q c')) fa (FunO fa (mk doc pm (.ref c') ctv)))) ∨
   ∃ c', codeAmong pos ps.toList = some (.ref c') /\ H c' = some (yn_ q c') /\ ∀ (fa : Addr) (doc pm ctv : Value), H fa = none -> Q (.ref fa) (upd H fa (FunO fa (mk doc pm (.ref c') ctv))))
theorem Inv.blt {P : Addr} (I : Inv X pins σ H s) (b : X.base.BuiltinsAt X.mg P) : s.heap.BuiltinsAt X.mg P := by
 obtain ⟨bm, o, e1, e2, e3, e4, e5, e6, e7, e8⟩ := b
 exact ⟨bm, o, e1, e2, e3, e4, I.bk _ _ e5, e6, e7, e8⟩
theorem Inv.nsg (I : Inv X pins σ H s) : s.heap.Ns mainGlobals X.mg := by
 obtain ⟨o, es, ep, ho, r⟩ := I.mod.glob
 exact ⟨o, es, ep, I.bk _ _ ho, r⟩
theorem qfv_ {c P : Addr} {name q : Str} {params : Arguments} {body : List Stmt} {scope : Scope} {pos : Pos} {ln : Nat} {clos : List (Str × Addr)} {Q : VK} (T : TabK X c P) (hcl : closureFor scope X.env = pure clos) (I : Inv X pins σ H s)
  (h : tFn P pos q (fun doc pm cdv ctv => PySem.W.fnX name q params body scope clos .none .none doc pm none cdv ctv) σ H Q) :
  wpAny (model X.prog X.w) X.A (makeFunction name q params (.stmts body) scope X.env [] [] [] pos ln) (EP X pins σ Q) X.xe s := by
 obtain ⟨ps, hP, tr, h⟩ := h
 have hd := PySem.W.codeHd_of_K I.kIn T.hd
 have tb : s.heap.get? P = some (PySem.W.tabObj ps) := I.hok P _ hP
 rcases h with ⟨hn, h⟩ | ⟨c', hs, hc, h⟩
 ·refine PySem.W.makeFunction_K hcl I.ok.glob I.nsg T.cd hd tb tr hn T.ne (I.blt T.blt) fun c' ctv doc h' tk x h1 h2 cr ht => ?_
  refine ⟨.ref h'.objs.size, _, I.fnew (more := #[rawInt pos.line, rawInt pos.col, .ref c']) hP x h1 h2 cr ht, rfl, h c' h'.objs.size doc _ ctv (I.hok.fresh h1) (I.hok.fresh (Nat.le_trans h1 (Nat.le_of_lt h2))) (Nat.ne_of_gt h2)⟩
 ·refine PySem.W.makeFunction_hit hcl I.ok.glob I.nsg T.cd hd tb tr hs (I.blt T.blt) fun ctv doc h' tk x le' => ?_
  exact ⟨.ref h'.objs.size, _, I.fhit x le', rfl, h h'.objs.size doc _ ctv (I.hok.fresh le')⟩
theorem qfw_ {c P : Addr} {name q : Str} {params : Arguments} {body : Expr} {scope : Scope} {pos : Pos} {ln : Nat} {clos : List (Str × Addr)} {Q : VK} (T : TabK X c P) (hcl : closureFor scope X.env = pure clos) (I : Inv X pins σ H s)
  (h : tFn P pos q (fun _ pm cdv ctv => PySem.W.kla_fn name q params body scope clos pm cdv ctv) σ H Q) :
  wpAny (model X.prog X.w) X.A (makeFunction name q params (.expr body) scope X.env [] [] [] pos ln) (EP X pins σ Q) X.xe s := by
 obtain ⟨ps, hP, tr, h⟩ := h
 have hd := PySem.W.codeHd_of_K I.kIn T.hd
 have tb : s.heap.get? P = some (PySem.W.tabObj ps) := I.hok P _ hP
 rcases h with ⟨hn, h⟩ | ⟨c', hs, hc, h⟩
 ·refine PySem.W.kla_makeFunction hcl I.ok.glob I.nsg T.cd hd tb tr hn T.ne (I.blt T.blt) fun c' ctv h' tk x h1 h2 cr ht => ?_
  refine ⟨.ref h'.objs.size, _, I.fnew (more := #[rawInt pos.line, rawInt pos.col, .ref c']) hP x h1 h2 cr ht, rfl, h c' h'.objs.size .none _ ctv (I.hok.fresh h1) (I.hok.fresh (Nat.le_trans h1 (Nat.le_of_lt h2))) (Nat.ne_of_gt h2)⟩
 ·refine PySem.W.kla_makeFunctionHit hcl I.ok.glob I.nsg T.cd hd tb tr hs (I.blt T.blt) fun ctv h' tk x le' => ?_
  exact ⟨.ref h'.objs.size, _, I.fhit x le', rfl, h h'.objs.size .none _ ctv (I.hok.fresh le')⟩
theorem qi9_ {c P : Addr} {i : Nat} {name : Str} {params : Arguments} {body : List Stmt} {scope : Scope} {pos : Pos} {clos : List (Str × Addr)} (T : TabK X c P) (hcl : closureFor scope X.env = pure clos) (hN : X.N.Nodup) (hi : X.N[i]? = some name) (hx : Loc X.env.scope name)
  (h1 : defaultsOf params X.env = ([], []) := by rfl) (h2 : annotationsOf (params.args ++ params.posonlyargs ++ params.vararg.toList ++ params.kwonlyargs ++ params.kwarg.toList) X.env = [] := by rfl) (hf : X.fn name = true \/ X.env.scope.names.lookup name = some .local := by first | exact .inl rfl | exact .inr rfl) :
  PS X (.FunctionDef name params body [] none [] scope none name pos) (tAsg (tFn P pos (qualnameIn X.env name name) (fun doc pm cdv ctv => PySem.W.fnX name (qualnameIn X.env name name) params body scope clos .none .none doc pm none cdv ctv)) (jh_ i)) := by
 intro pins s σ H D I h
 refine qft_ h1 h2 (thn (qfv_ T hcl I h) fun v s1 ⟨y, H1, I1, r1, q1⟩ => ?_)
 exact zq_ I1 hN hi hx r1 (fun s2 I2 => ⟨_, H1, I2, q1⟩) hf
end
end L2
set_option Elab.async false
set_option linter.all false
set_option maxRecDepth 100000
namespace L2
open PySem PySem.Spec PyProof.Rows
def CelO (c : Addr) (v : V) : HO := .ext fun h => ∃ u, RelV v u /\ h.IsCell c (some u)
def trC (cvs : List (Addr × V)) (H : Hp) : Hp := fun b => match cvs.lookup b with
 | some v => some (CelO b v)
 | none => H b
def untr (cvs : List (Addr × V)) (H : Hp) : Hp := fun b => match cvs.lookup b with
 | some _ => none
 | none => H b
section
variable {cvs : List (Addr × V)} {H : Hp} {b : Addr} {v : V}
theorem zK_ (e : cvs.lookup b = some v) : trC cvs H b = some (CelO b v) := by unfold trC; rw [e]
theorem jD_ (e : cvs.lookup b = none) : trC cvs H b = H b := by unfold trC; rw [e]
theorem yG_ (e : cvs.lookup b = some v) : untr cvs H b = none := by unfold untr; rw [e]
theorem je_ (e : cvs.lookup b = none) : untr cvs H b = H b := by unfold untr; rw [e]
theorem qhj_ {P : Program} {w : World} {h : Heap} {c : Addr} {u : Value} (r : RelV v u) (e : h.IsCell c (some u)) : ObjOk P w H h c (CelO c v) := by
 obtain ⟨o, e1, e2⟩ := e
 refine ⟨⟨u, r, o, e1, e2⟩, ⟨o, e1⟩, fun h1 h2 ⟨u', r', o', e1', e2'⟩ k => ⟨u', r', o', k _ e1', e2'⟩⟩
theorem qcc_ {P : Program} {w : World} {h : Heap} (x : HOk P w H h) (free : ∀ c v, cvs.lookup c = some v -> H c = none) (cel : ∀ c v, cvs.lookup c = some v -> ∃ u, RelV v u /\ h.IsCell c (some u)) : HOk P w (trC cvs H) h := fun b o e => by
 have out : ∀ c u, H c = some u -> cvs.lookup c = none := fun c u e => by
  cases q : cvs.lookup c with
  | none => rfl
  | some v => rw [free c v q] at e; cases e
 cases q : cvs.lookup b with
 | some v =>
  rw [zK_ q] at e
  cases e
  obtain ⟨u, r, z⟩ := cel b v q
  exact qhj_ r z
 | none =>
  rw [jD_ q] at e
  exact (x b o e).stay (fun _ _ _ z => z) (fun c z => by rw [jD_ (out c _ z)]; exact z) fun c xs z => by rw [jD_ (out c _ z)]; exact z
theorem qfx_ {P : Program} {w : World} {h : Heap} (x : HOk P w H h) (cel : ∀ c v, cvs.lookup c = some v -> H c = some (CelO c v)) : HOk P w (untr cvs H) h := fun b o e => by
 cases q : cvs.lookup b with
 | some v => rw [yG_ q] at e; cases e
 | none =>
  rw [je_ q] at e
  refine (x b o e).stay (fun _ _ _ z => z) (fun c z => ?_) fun c xs z => ?_
  ·cases q2 : cvs.lookup c with
   | none => rw [je_ q2]; exact z
   | some v => rw [cel c v q2] at z; cases z
  ·cases q2 : cvs.lookup c with
   | none => rw [je_ q2]; exact z
   | some v => rw [cel c v q2] at z; cases z
end
structure CloScope (N P : List Str) (sc : Scope) : Prop where
 kind : sc.kind = .function
 co : sc.isCoroutine = false
 gen : sc.isGenerator = false
 nd : N.Nodup
 pre : N.take P.length = P
 par : ∀ x ∈ P, sc.names.lookup x = some .local
 nocell : ∀ y ∈ sc.names, y.2 ≠ .cell
def envC (q : Str) (scope : Scope) (L fa : Addr) (cd : Value) (clos : List (Str × Addr)) : Env := newEnv scope L mainGlobals clos (q ++ Str.ofString ".<locals>.") (some fa) cd none builtinsNs
def cxC (P : Program) (w : World) (K : PySem.W.Frag) (mg : Str -> Option Value) (base : Heap) (N : List Str) (env : Env) (A : Around) (outer : List Env) (s : Shared) (H : Hp) : Cx where
 prog := P
 w := w
 K := K
 mg := mg
 base := base
 A := A.deeper env
 N := N
 s₀ := s
 H₀ := H
 env := env
 outer := outer
 stack := env :: outer
 ex := []
 calm := true
 fn := fun _ => false
 pn := []
 xe := fun _ _ => False
def qg2_ (ps : List Str) (vs : List V) (scope : Scope) (clos : List (Str × Addr)) (cvs : List (Addr × V)) (N : List Str) (σ : St) : Prop :=
 σ.length = N.length /\ ∀ (i : Nat) (x : Str) (v : V), N[i]? = some x -> σ[i]? = some (some v) -> (ps[i]? = some x /\ vs[i]? = some v) \/ (scope.names.lookup x = some .free /\ ∃ c, clos.lookup x = some c /\ cvs.lookup c = some v)
structure Clos (scope : Scope) (clos : List (Str × Addr)) (cvs : List (Addr × V)) (H : Hp) : Prop where
 inj : ∀ x y c, clos.lookup x = some c -> clos.lookup y = some c -> x = y
 has : ∀ x, scope.names.lookup x = some .free -> ∃ c, clos.lookup x = some c
 val : ∀ x c, clos.lookup x = some c -> ∃ v, cvs.lookup c = some v
 at_ : ∀ c v, cvs.lookup c = some v -> H c = some (CelO c v)
section
variable {P : Program} {w : World} {K : PySem.W.Frag} {mg : Str -> Option Value} {base : Heap} {A : Around} {outer : List Env} {s : Shared} {H : Hp} {N ps : List Str} {scope : Scope} {fa : Addr} {q : Str} {cd : Value} {clos : List (Str × Addr)} {cvs : List (Addr × V)} {vs : List V} {us : List Value} {σ0 : St} {h' : Heap} {tk : Nat}
theorem qcd_ : ∀ {ps : List Str} {us : List Value} {i : Nat} {x : Str} {u : Value}, ps.Nodup -> ps[i]? = some x -> us[i]? = some u -> (ps.zip us).reverse.lookup x = some u
 | ps, us, i, x, u, nd, e1, e2 => by
  have hm : (x, u) ∈ (ps.zip us).reverse := List.mem_reverse.mpr (List.mem_of_getElem? (i := i) (List.getElem?_zip_eq_some (z := (x, u)).mpr ⟨e1, e2⟩))
  have uq : ∀ v, (x, v) ∈ (ps.zip us).reverse -> v = u := fun v hv => by
   obtain ⟨j, hj⟩ := List.getElem?_of_mem (List.mem_reverse.mp hv)
   obtain ⟨j1, j2⟩ := List.getElem?_zip_eq_some.mp hj
   have : i = j := vj_ nd e1 j1
   subst this
   rw [e2] at j2
   exact (Option.some.inj j2).symm
  generalize (ps.zip us).reverse = l at hm uq
  induction l with
  | nil => exact absurd hm List.not_mem_nil
  | cons p l ih =>
   obtain ⟨y, v⟩ := p
   rw [List.lookup_cons]
   by_cases e : x = y
   ·subst e
    simp only [beq_self_eq_true]
    rw [uq v List.mem_cons_self]
   ·have : (x == y) = false := beq_eq_false_iff_ne.mpr e
    rw [this]
    refine ih ?_ fun v hv => uq v (List.mem_cons_of_mem _ hv)
    rcases List.mem_cons.mp hm with z | z
    ·exact absurd (Prod.mk.inj z).1 e
    ·exact z
theorem qhk_ (S : CloScope N ps scope) (hd : A.handled = none) (e0 : Env0 P w K mg base A outer s H) (r : Vals vs us) (C : Clos scope clos cvs H) (h0 : qg2_ ps vs scope clos cvs N σ0)
  (hn : h'.Ns s.heap.objs.size fun x => (ps.zip us).reverse.lookup x) (hs : Heap.SameBut s.heap.objs.size (s.heap.push { cls := .type "frame", data := .dict #[] }) h') :
  Inv (cxC P w K mg base N (envC q scope s.heap.objs.size fa cd clos) A outer s (untr cvs H)) [] σ0 (untr cvs H) { s with heap := h', toks := tk } := by
 have hk : ∀ b o, s.heap.get? b = some o -> h'.get? b = some o := fun b o e => by
  rw [hs.2 b (Nat.ne_of_lt (Heap.lt_size e))]
  exact Heap.get?_push_of_some _ e
 have noA : ∀ b : Addr, b ∉ ([] : List Addr) := fun b => List.not_mem_nil
 have cel : ∀ x c, clos.lookup x = some c -> ∃ v u, cvs.lookup c = some v /\ RelV v u /\ s.heap.IsCell c (some u) := fun x c e => by
  obtain ⟨v, hv⟩ := C.val x c e
  obtain ⟨⟨u, r, z⟩, _⟩ := (show ObjOk P w H s.heap c (CelO c v) from e0.hok c _ (C.at_ c v hv))
  exact ⟨v, u, hv, r, z⟩
 have ik : ∀ {c u}, s.heap.IsCell c (some u) -> h'.IsCell c (some u) := fun ⟨o, e1, e2⟩ => ⟨o, hk _ _ e1, e2⟩
 refine ⟨⟨e0.mod, S.kind, rfl, rfl, Nat.le_refl _, C.inj, fun x hx => ?_, (fun x c z => Bool.noConfusion z), fun _ => hd, Around.frames_deeper e0.frames, .inr ⟨rfl, rfl⟩, fun b z => absurd z (noA b), fun b o e => ⟨(e0.bs b o e).1, ?_⟩, e0.bsz, fun b _ _ => noA b, fun b z => absurd z (noA b), e0.funs, fun b hb => ?_⟩,
  rfl, e0.bare, Un.kept hk, ⟨_, hn, fun i x v h1 h2 h3 => ?_⟩, fun x c e => ?_, ?_, fun x c e => ?_, fun p hp => absurd (show p ∈ ([] : List (Addr × Obj)) from hp) (by simp), (qfx_ e0.hok C.at_).kept hk, h0.1⟩
 ·rcases hx with hx | hx
  ·exact absurd rfl (S.nocell _ (PySem.mem_of_lookup (show scope.names.lookup x = some .cell from hx)))
  ·exact C.has x hx
 ·have := (e0.bs b o e).2
  cases z : cvs.lookup b with
  | none => exact (je_ z).trans this
  | some v => exact yG_ z
 ·have := e0.frf b hb
  cases z : cvs.lookup b with
  | none => exact (je_ z).trans this
  | some v => exact yG_ z
 ·rcases h0.2 i x v h1 h2 with ⟨hp, hv⟩ | ⟨hf, c, hc, hv⟩
  ·obtain ⟨u, hu, rv⟩ := r.get hv
   have ndP : ps.Nodup := by rw [<- S.pre]; exact S.nd.sublist (List.take_sublist _ _)
   exact ⟨u, rv, .inl ⟨S.par x (List.mem_of_getElem? hp), qcd_ ndP hp hu⟩⟩
  ·obtain ⟨v', u, hv', ru, z⟩ := cel x c hc
   rw [hv] at hv'
   cases hv'
   exact ⟨u, ru, .inr ⟨.inr hf, c, hc, ik z⟩⟩
 ·obtain ⟨v', u, hv', ru, z⟩ := cel x c e
  exact ⟨_, ik z⟩
 ·have := e0.hok.fresh (Nat.le_refl _)
  show untr cvs H s.heap.objs.size = none
  cases z : cvs.lookup s.heap.objs.size with
  | none => exact (je_ z).trans this
  | some v => exact yG_ z
 ·obtain ⟨v', u, hv', _⟩ := cel x c e
  exact yG_ hv'
theorem qce_ {s' : Shared} {H' : Hp} {σ' : St} {env : Env} {v : V} {u : Value} {Q : VK} (C : Clos scope clos cvs H) (e0 : Env0 P w K mg base A outer s H) (J : Inv (cxC P w K mg base N env A outer s (untr cvs H)) [] σ' H' s') (rv : RelV v u) (hq : Q v (trC cvs H')) : CE outer P w H s Q u s' := by
 have B : Un (frs outer) [] (untr cvs H) H' s.heap s'.heap := J.base
 have out : ∀ b, (∀ v, H b ≠ some (CelO b v)) -> cvs.lookup b = none := fun b hb => by
  cases z : cvs.lookup b with
  | none => rfl
  | some v => exact absurd (C.at_ b v z) (hb v)
 have outN : ∀ b, H b = none -> cvs.lookup b = none := fun b hb => out b fun v z => by rw [hb] at z; cases z
 have noA : ∀ b : Addr, b ∉ ([] : List Addr) := fun b => List.not_mem_nil
 have nfr : ∀ c v, cvs.lookup c = some v -> c ∉ frs outer := fun c v e z => by
  have := e0.frf c z
  rw [C.at_ c v e] at this
  cases this
 have cell : ∀ c v, cvs.lookup c = some v -> H' c = none /\ ∃ u, RelV v u /\ s'.heap.IsCell c (some u) := fun c v e => by
  obtain ⟨⟨u, r, o, e1, e2⟩, _⟩ := (show ObjOk P w H s.heap c (CelO c v) from e0.hok c _ (C.at_ c v e))
  exact ⟨B.free c o e1 (yG_ e) (noA c), u, r, o, B.keep c o e1 (yG_ e) (nfr c v e) (noA c), e2⟩
 refine ⟨v, trC cvs H', J.os, J.bare, ⟨fun b o e n hb hx => ?_, fun b o e n hb hx => ?_, fun b o e n hx => ?_, fun b o e hx => B.there b o e hx, fun b xs e => ?_, fun b o x e => ?_, fun b ps e => ?_⟩, qcc_ J.hok (fun c v e => (cell c v e).1) (fun c v e => (cell c v e).2), rv, hq⟩
 ·exact B.keep b o e ((je_ (outN b n)).trans n) hb hx
 ·exact B.slot b o e ((je_ (outN b n)).trans n) hb hx
 ·exact (jD_ (outN b n)).trans (B.free b o e ((je_ (outN b n)).trans n) hx)
 ·have z := out b fun v y => by rw [e] at y; cases y
  exact (jD_ z).trans (B.tups b xs ((je_ z).trans e))
 ·have z := out b fun v y => by rw [e] at y; cases y
  exact (jD_ z).trans (B.frzs b o x ((je_ z).trans e))
 ·have z := out b fun v y => by rw [e] at y; cases y
  obtain ⟨more, y⟩ := B.tbls b ps ((je_ z).trans e)
  exact ⟨more, (jD_ z).trans y⟩
theorem qhl_ {k : Nat} {name : Str} {params : Arguments} {body : List Stmt} {doc pm ctv : Value} {c' : Addr} {Q : VK} {E : XK} {t : TS} (S : CloScope N ps scope) (hr : Room (k + 1) A) (e0 : Env0 P w K mg base A outer s H) (r : Vals vs us)
  (hf : H fa = some (FunO fa (PySem.W.fnX name q params body scope clos .none .none doc pm none (.ref c') ctv))) (hc : H c' = some (yn_ q c')) (hb : bindArgs (PySem.W.fnX name q params body scope clos .none .none doc pm none (.ref c') ctv) ⟨us, []⟩ = pure (ps.zip us))
  (C : Clos scope clos cvs H) (h0 : qg2_ ps vs scope clos cvs N σ0)
  (ht : PSs (cxC P w K mg base N (envC q scope s.heap.objs.size fa (.ref c') clos) A outer s (untr cvs H)) body t) (hq : t { nx := fun _ H' => Q .non (trC cvs H'), rt := fun v H' => Q v (trC cvs H') } σ0 (untr cvs H)) :
  codeAny (model P w) A (.call (.ref fa) ⟨us, []⟩) (CR CX0 outer P w H s Q E) s := by
 have lim : s.heap.NoLimit := e0.mod.nolimit.keeps fun b o e => (e0.bs b o e).1
 have ho : s.heap.get? fa = some { cls := .type "function", data := .func (PySem.W.fnX name q params body scope clos .none .none doc pm none (.ref c') ctv) } := (e0.hok fa _ hf).1
 have hcr : s.heap.CodeRec (.ref c') q := (e0.hok c' _ hc).1
 refine codeAny_call_function hr.depth ho rfl S.co S.gen rfl hcr ?_
 rw [hb]
 refine wpAny_pure ?_
 refine wpAny_newFunctionEnv S.nocell (fun x hx => S.par x.1 (List.of_mem_zip hx).1) (fun h' hn hs => ?_) S.kind
 have hk : ∀ b o, s.heap.get? b = some o -> h'.get? b = some o := fun b o e => by
  rw [hs.2 b (Nat.ne_of_lt (Heap.lt_size e))]
  exact Heap.get?_push_of_some _ e
 refine ⟨lim.keeps hk, codeAny_func ?_⟩
 have I := qhk_ (q := q) (fa := fa) (cd := .ref c') (tk := s.toks + (ps.zip us).length) S hr.hd e0 r C h0 hn hs
 refine wpAny_mono (ht [] _ σ0 _ _ I hq) (fun fl s' hs' => ?_) fun e s' hs' => False.elim hs'
 cases fl with
 | ret u =>
  obtain ⟨v, σ', H', J, rv, q⟩ := hs'
  exact qce_ C e0 J rv q
 | next =>
  obtain ⟨σ', H', J, q⟩ := hs'
  exact qce_ (v := V.non) (u := Value.none) C e0 J rfl q
 | brk =>
  obtain ⟨_, _, _, q⟩ := hs'
  exact False.elim q
 | cont =>
  obtain ⟨_, _, _, q⟩ := hs'
  exact False.elim q
end
end L2
set_option Elab.async false
set_option linter.all false
set_option maxRecDepth 100000
namespace L2
open PySem PySem.Spec PyProof.Rows
abbrev TR := (V -> St -> Hp -> Prop) -> St -> Hp -> Prop
def PSR (X : Cx) (body : List Stmt) (t : TR) : Prop := ∀ (pins : List (Addr × Obj)) (s : Shared) (σ : St) (H : Hp) (R : V -> St -> Hp -> Prop), Inv X pins σ H s -> t R σ H →
 wpAny (model X.prog X.w) X.A (execs body X.env) (fun f s' => ∃ v σ' H' u, f = .ret u /\ Inv X pins σ' H' s' /\ RelV v u /\ R v σ' H') X.xe s
def tRC (t : TS) (u : TR) : TR := fun R σ H => t { nx := u R, rt := fun _ _ => False } σ H
def tRR (te : TE) : TR := fun R σ H => te σ H fun v H' => R v σ H'
section
variable {X : Cx} {st : Stmt} {rest : List Stmt} {t : TS} {u : TR} {e : Expr} {te : TE} {pos : Pos}
theorem qfy_ (h1 : PS X st t) (h2 : PSR X rest u) : PSR X (st :: rest) (tRC t u) := by
 intro pins s σ H R I h
 refine wpAny_execs_cons (thn (h1 pins s σ H { nx := u R, rt := fun _ _ => False } I h) fun f s1 q => ?_)
 cases f with
 | next =>
  obtain ⟨σ', H', I', q⟩ := q
  exact h2 pins s1 σ' H' R I' q
 | ret v => obtain ⟨_, _, _, _, _, q⟩ := q; exact False.elim q
 | brk => obtain ⟨_, _, _, q⟩ := q; exact False.elim q
 | cont => obtain ⟨_, _, _, q⟩ := q; exact False.elim q
theorem qhm_ (he : PE X e te) : PSR X [.Return (some e) pos] (tRR te) := by
 intro pins s σ H R I h
 refine wpAny_execs_cons (wpAny_Return_some (thn (he pins s σ H _ I h) fun v s1 ⟨x, H1, I1, r1, q1⟩ => ?_))
 exact ⟨x, σ, H1, v, rfl, I1, r1, q1⟩
end
def qed_ (N : List Str) (scope : Scope) (cs : List (Str × Addr)) (σ : St) (cvs : List (Addr × V)) : Prop := ∀ c v, cvs.lookup c = some v -> ∃ (i : Nat) (y : Str), N[i]? = some y /\ σ[i]? = some (some v) /\ cs.lookup y = some c /\ scope.names.lookup y = some .cell
section
variable {P : Program} {w : World} {K : PySem.W.Frag} {mg : Str -> Option Value} {base : Heap}
end
end L2
set_option Elab.async false
set_option linter.all false
set_option maxRecDepth 100000
namespace L2
open PySem PySem.Spec PyProof.Rows
abbrev SpV := V -> List V -> Hp -> VK -> Prop
def vO_ (P : Program) (w : World) (K : PySem.W.Frag) (mg : Str -> Option Value) (base : Heap) (k : Nat) (sp : SpV) : Prop :=
 ∀ (A : Around) (outer : List Env) (s : Shared) (H : Hp) (f : V) (us : List Value) (vs : List V) (Q : VK), Room k A -> Env0 P w K mg base A outer s H -> Vals vs us -> sp f vs H Q →
  ∃ fa fd, f = .ref fa /\ H fa = some (FunO fa fd) /\ codeAny (model P w) A (.call (.ref fa) ⟨us, []⟩) (CR CX0 outer P w H s Q E0) s
section
variable {X : Cx} {k : Nat} {sp : SpV} {x m : Str} {p pos apos : Pos} {e o : Expr} {es : List Expr} {ta : TE} {t : TA} {i : Nat} {pins : List (Addr × Obj)} {σ : St} {H : Hp} {s : Shared} {Q : VK} {us : List Value} {vs : List V} {f : V}
theorem qhn_ {u : Value} (F : vO_ X.prog X.w X.K X.mg X.base k sp) (hr : Room k X.A) (I : Inv X pins σ H s) (rf : RelV f u) (r : Vals vs us) (h : sp f vs H Q) :
  ∃ fa ob fd, u = .ref fa /\ s.heap.get? fa = some ob /\ ob.data = .func fd /\ wpAny (model X.prog X.w) X.A (call (.ref fa) us) (EP X pins σ Q) X.xe s := by
 obtain ⟨fa, fd, rfl, hf, hc⟩ := F X.A X.stack s H f us vs Q hr I.env0 r h
 obtain rfl : u = .ref fa := rf
 refine ⟨fa, _, fd, rfl, (I.hok fa _ hf).1, rfl, ?_⟩
 refine wpAny_call (codeAny_mono hc fun r s' hq => ?_)
 cases r with
 | error e => exact False.elim hq
 | ok fl =>
  cases fl with
  | ret u => exact I.after hq
  | next => exact False.elim hq
  | brk => exact False.elim hq
  | cont => exact False.elim hq
def qk7_ (sp : SpV) (i : Nat) (t : TA) : TE := fun σ H Q => tVar i σ H fun f H1 => ∃ fa fd, f = .ref fa /\ t σ H1 fun vs H2 => H2 fa = some (FunO fa fd) /\ sp (.ref fa) vs H2 Q
def qja_ (K : PySem.W.Frag) (m : Str) (sp : SpV) (ta : TE) (t : TA) : TE := fun σ H Q => ta σ H fun x H1 => ∃ a C dx fs fa fd, x = .ref a /\ H1 a = some (.ins C dx fs) /\ Cls K C /\ NoAttr K C m /\ fs.lookup m = some (.ref fa) /\ H1 fa = some (FunO fa fd) /\ t σ H1 fun vs H2 => H2 fa = some (FunO fa fd) /\ sp (.ref fa) vs H2 Q
theorem qfz_ {pl : Sem Bool} (F : vO_ X.prog X.w X.K X.mg X.base k sp) (hr : Room k X.A) (ho : PE X o ta) (ha : PA X (e :: es) t) (he : starEach (e :: es) X.env = (false, eval e X.env) :: starEach es X.env := by rfl)
  (ht : eval (.Call (.Attribute o m apos) (e :: es) [] pos) X.env = (do
   let ov ← eval o X.env
   standAt apos.atName
   let (f, first) ← holding [ov] (getMethod ov m pl)
   callWith pos f first (backTo pos (starEach (e :: es) X.env)) (backToKw pos (keywordEach [] X.env))) := by rfl) :
  PE X (.Call (.Attribute o m apos) (e :: es) [] pos) (qja_ X.K m sp ta t) := by
 intro pins s σ H Q I h
 refine PySem.W.methodCall_KW (pl := pl) (thn (ho pins s σ H _ I h) fun u s1 ⟨x, H1, I1, rx, a, C, dx, fs, fa, fd, ex, ea, cl, na, l, hf, q⟩ => ?_) ht
 subst ex
 obtain rfl : u = Value.ref a := rx
 obtain ⟨mA, O, _⟩ := z0_ I1.hok ea
 obtain ⟨od, J, _⟩ := O.look
 refine PySem.W.method_usual I1.kIn J (PySem.W.plainGet_of (cl.get m)).1 (PySem.W.plainGet_of (cl.get m)).2 na rfl ?_
 refine vC_ I1 ea cl na l fun u2 s2 I2 ru => ?_
 obtain rfl : u2 = Value.ref fa := ru
 refine callWith_def (fd := fd) (o := { cls := .type "function", data := .func fd }) rfl (thn (ha pos pins s2 σ H1 _ I2 q) fun us s3 ⟨vs, H2, I3, r, hf2, q2⟩ => ?_) he
 obtain ⟨fa', ob, fd', e1, e2, e3, e4⟩ := qhn_ (f := .ref fa) (u := .ref fa) F hr I3 rfl r q2
 cases e1
 exact ⟨(I3.hok fa _ hf2).1, e4⟩
end
end L2
set_option Elab.async false
set_option linter.all false
set_option maxRecDepth 100000
namespace L2
open PySem PySem.Spec PyProof.Rows
theorem qee_ {P : Program} {w : World} {K : PySem.W.Frag} {mg mb : Str -> Option Value} {CX : CXT} {k : Nat} {fa a : Addr} {fd : FuncData} {x : Str} {sp : Sp} {s₁ : Shared} {vs : List Value} {ns : List Int} {ts : List Addr}
  (KX : K.In s₁.heap) (hns : s₁.heap.Ns mainGlobals mg) (hb : s₁.heap.Ns builtinsNs mb) (hbb : ∀ x : Str, x ≠ "__name__" → mb x = bootBuiltins x) (hlim : s₁.heap.NoLimit) (hg : s₁.gens = #[])
  (ha : s₁.heap.get? a = some { cls := .type "list", data := .seq vs.toArray }) (hi : IntsAre vs ns) (hl : ns.length ≤ sizeLine) (hr : Room k callerA)
  (hT : ∀ p ∈ ts, s₁.heap.get? p = some (PySem.W.tabObj #[])) (hTK : ∀ p ∈ ts, K.lookup p = none) (hTc : ∀ p ∈ ts, ∃ c, PySem.W.codeHdIn K c p = true)
  (hbm : ∃ bm ob, mg "__builtins__" = some (.ref bm) ∧ bm ≠ builtinsNs ∧ s₁.heap.get? bm = some ob ∧ ob.cls = .type "module" ∧ ob.dict = some builtinsNs ∧ ob.data = .plain)
  (F : ∀ base : Heap, K.In base -> base.Ns mainGlobals mg -> (∀ p ∈ ts, mainGlobals ≠ p /\ base.BuiltinsAt mg p) -> FnOk P w K mg base CX k fa fd [x] sp) (hbind : ∀ (s : Shared) (u : Value), BindsTo s fd ⟨[u], []⟩ [(x, u)])
  (hsp : ∀ H : Hp, SqL K H a (ns.map V.int) -> (∀ p ∈ ts, H p = some (.tbl #[])) -> sp [.ref a] H (fun v _ => v = .bl true) fun _ _ _ => False)
  (hCX : ∀ H e s', CX [] H s₁ (fun _ _ _ => False) e s' -> False) :
  codeAny (model P w) callerA (.call (.ref fa) ⟨[.ref a], []⟩) (fun r s' => r = .ok (.ret (.bool true)) /\ OldK s₁.heap s'.heap /\ s'.os = s₁.os /\ AllBare s'.gens) s₁ := by
 have rv := ut_ hi
 have lenV := hi.length
 have aT : a ∉ ts := fun z => by
  have := hT a z
  rw [ha] at this
  cases this
 have core : ∀ H : Hp, (∀ b, b ∉ ts -> H b = none \/ ∃ o xs, H b = some (.frz o (.lst xs))) -> (∀ p ∈ ts, H p = some (.tbl #[])) -> SqL K H a (ns.map V.int) -> HOk P w H s₁.heap -> (∀ b, H b ≠ none -> b = a \/ b ∈ ts) -> (H a ≠ none -> K.lookup a = none) →
   codeAny (model P w) callerA (.call (.ref fa) ⟨[.ref a], []⟩) (fun r s' => r = .ok (.ret (.bool true)) /\ OldK s₁.heap s'.heap /\ s'.os = s₁.os /\ AllBare s'.gens) s₁ := by
  intro H hO hTb hS hok hA hK
  have base_of : ∀ {b : Addr} {o : Obj}, s₁.heap.get? b = some o -> H b = none -> (hidT s₁.heap H).get? b = some o := fun e n => qfe_ e n
  have noA : ∀ {b : Addr} {o : Obj} {es : Array DictEntry} {ep : Nat}, s₁.heap.get? b = some o -> o.data = .dict es ep -> H b = none := fun {b o es ep} e d => by
   cases q : H b with
   | none => rfl
   | some u =>
    rcases hA b (by rw [q]; simp) with e' | e'
    ·subst e'
     rw [ha] at e; cases e
     have d' : Data.seq vs.toArray _ = Data.dict es ep := d
     cases d'
    ·rw [hT b e'] at e; cases e
     cases d
  have nsK : ∀ {b : Addr} {m : Str -> Option Value}, s₁.heap.Ns b m -> (hidT s₁.heap H).Ns b m := fun {b m} ⟨o, es, ep, e, d, r⟩ => ⟨o, es, ep, base_of e (noA e d), d, r⟩
  have hKb : K.In (hidT s₁.heap H) := fun b o e => base_of (KX b o e) (by
   cases q : H b with
   | none => rfl
   | some u =>
    rcases hA b (by rw [q]; simp) with e' | e'
    ·subst e'
     rw [hK (by rw [q]; simp)] at e; cases e
    ·rw [hTK b e'] at e; cases e)
  have hM : Mod K mg (hidT s₁.heap H) := ⟨hKb, nsK hns, ⟨mb, nsK hb, hbb⟩, let ⟨mc, h1, h2⟩ := hlim; ⟨mc, nsK h1, h2⟩⟩
  have e0 : Env0 P w K mg (hidT s₁.heap H) callerA [] s₁ H := ⟨rfl, hM, fun b o e => qg4_ e, Nat.le_of_eq (qdl_ _ _), trivial, fun b hb => absurd (show b ∈ ([] : List Addr) from hb) (by simp), hok, .of_eq hg⟩
  have hBl : ∀ p ∈ ts, mainGlobals ≠ p /\ (hidT s₁.heap H).BuiltinsAt mg p := fun p hp => by
   refine ⟨fun z => ?_, ?_⟩
   ·obtain ⟨o, es, ep, ho, hd, _⟩ := hns
    rw [z, hT p hp] at ho
    cases ho
    cases hd
   obtain ⟨bm, ob, b1, b2, b3, b4, b5, b6⟩ := hbm
   refine ⟨bm, ob, b1, b2, fun z => ?_, fun z => ?_, base_of b3 ?_, b4, b5, b6⟩
   ·obtain ⟨o, es, ep, ho, hd, _⟩ := hns
    rw [z, ho] at b3
    cases b3
    rw [b6] at hd
    cases hd
   ·rw [z, hT p hp] at b3
    cases b3
    cases b6
   ·cases q : H bm with
    | none => rfl
    | some u =>
     rcases hA bm (by rw [q]; simp) with e' | e'
     ·rw [e', ha] at b3
      cases b3
      cases b6
     ·rw [hT bm e'] at b3
      cases b3
      cases b6
  refine codeAny_mono ((F _ hKb (nsK hns) hBl).run callerA [] s₁ H ⟨[.ref a], []⟩ [.ref a] [.ref a] _ _ hr e0 (hbind s₁ (.ref a)) (.cons rfl .nil) (hsp H hS hTb)) fun r s' h => ?_
  cases r with
  | error e => exact (hCX H e s' h).elim
  | ok fl =>
   cases fl with
   | next => exact False.elim h
   | brk => exact False.elim h
   | cont => exact False.elim h
   | ret u =>
    obtain ⟨v, H', os, bare, un, hok', r', q⟩ := h
    have q' : v = .bl true := q
    subst q'
    obtain rfl : u = Value.bool true := r'
    refine ⟨rfl, ⟨fun b o e => ?_, fun b o e => un.there b o e (by simp)⟩, os, bare⟩
    by_cases hb : b ∈ ts
    ·obtain ⟨more, z⟩ := un.tbls b _ (hTb b hb)
     have z2 : s'.heap.get? b = some _ := hok' b _ z
     rw [hT b hb] at e
     cases e
     obtain ⟨cc, hcc⟩ := hTc b hb
     exact .inr (.inl ⟨((PySem.W.codeHd_of_K KX hcc).tab (hT b hb)).isCodeTable, rfl, #[], more, rfl, z2⟩)
    refine .inl ?_
    cases q : H b with
    | none => exact un.keep b o e q (by intro z; exact absurd (show b ∈ ([] : List Addr) from z) (by simp)) (by simp)
    | some u =>
     rcases hO b hb with z | ⟨ob, xs, z⟩
     ·rw [q] at z; cases z
     ·have z2 := un.frzs b ob _ z
      obtain ⟨e1, _⟩ := hok b _ z
      obtain ⟨e2, _⟩ := hok' b _ z2
      rw [e] at e1; cases e1
      exact e2
 have tab : ∀ (H : Hp) b, b ∈ ts -> ObjOk P w H s₁.heap b (.tbl #[]) := fun H b hb => hT b hb
 cases hk : K.lookup a with
 | some o =>
  have e := KX a o hk
  rw [ha] at e
  cases e
  refine core (fun b => if b ∈ ts then some (.tbl #[]) else none) (fun b hb => .inl (if_neg hb)) (fun p hp => if_pos hp) (.inr ⟨_, vs.toArray, _, hk, rfl, rfl, rfl, by rw [List.size_toArray, lenV]; exact hl, by simpa using rv⟩) (fun b u z => ?_) (fun b z => ?_) fun z => absurd (if_neg aT) z
  ·by_cases hb : b ∈ ts
   ·have z' := (if_pos hb).symm.trans z
    cases z'
    exact tab _ b hb
   ·have z' := (if_neg hb).symm.trans z
    cases z'
  ·by_cases hb : b ∈ ts
   ·exact .inr hb
   ·exact absurd (if_neg hb) z
 | none =>
  refine core (fun b => if b ∈ ts then some (.tbl #[]) else if b = a then some (.frz { cls := .type "list", data := .seq vs.toArray } (.lst (ns.map V.int))) else none) (fun b hb => ?_) (fun p hp => if_pos hp) (.inl (.inr ⟨{ cls := .type "list", data := .seq vs.toArray }, (if_neg aT).trans (if_pos rfl)⟩)) (fun b u z => ?_) (fun b z => ?_) fun _ => hk
  ·by_cases hb2 : b = a
   ·exact .inr ⟨_, _, (if_neg hb).trans (if_pos hb2)⟩
   ·exact .inl ((if_neg hb).trans (if_neg hb2))
  ·by_cases hb : b ∈ ts
   ·have z' := (if_pos hb).symm.trans z
    cases z'
    exact tab _ b hb
   ·have z' := (if_neg hb).symm.trans z
    by_cases hb2 : b = a
    ·have z'' := (if_pos hb2).symm.trans z'
     cases z''
     subst hb2
     exact ⟨ha, by rw [List.length_map]; exact hl, vs, _, rv, ha⟩
    ·have z'' := (if_neg hb2).symm.trans z'
     cases z''
  ·by_cases hb : b ∈ ts
   ·exact .inr hb
   ·by_cases hb2 : b = a
    ·exact .inl hb2
    ·exact absurd ((if_neg hb).trans (if_neg hb2)) z
theorem walk_ofT {l : PySem.W.OpenLaw} {n k : Nat} {q : Program} {loose : List Str} {XP : (Str -> Option Value) -> Heap -> Prop} {YP : World -> Heap -> Prop} {d : DefRec} {K : Params -> PySem.W.Frag} {CX : World -> CXT} {sp : World -> Sp} {x : Str} {ts : List Addr}
  (hn : l.most = some n) (hn2 : n <= sizeLine) (hdf : d.params.defaults = []) (hr : Room k callerA)
  (hY : ∀ (w : World) (h : Heap), YP w h -> (K w.params).In h /\ ∀ p ∈ ts, h.get? p = some (PySem.W.tabObj #[]))
  (F : ∀ (w : World) (mg : Str -> Option Value) (fa : Addr) (h : Heap), (K w.params).In h -> h.Ns mainGlobals mg -> mg d.name = some (.ref fa) →
   ∃ fd : FuncData, (∀ (s : Shared) (u : Value), BindsTo s fd ⟨[u], []⟩ [(x, u)]) /\ (∀ p ∈ ts, (K w.params).lookup p = none) /\ (∀ p ∈ ts, ∃ c, PySem.W.codeHdIn (K w.params) c p = true) ∧
    ∀ base : Heap, (K w.params).In base -> base.Ns mainGlobals mg -> (∀ p ∈ ts, mainGlobals ≠ p /\ base.BuiltinsAt mg p) -> FnOk l.prog w (K w.params) mg base (CX w) k fa fd [x] (sp w))
  (hsp : ∀ (w : World) (H : Hp) (a : Addr) (ns : List Int), ns.length <= n -> SqL (K w.params) H a (ns.map V.int) -> (∀ p ∈ ts, H p = some (.tbl #[])) -> sp w [.ref a] H (fun v _ => v = .bl true) fun _ _ _ => False)
  (hCX : ∀ (w : World) (H : Hp) (s : Shared) (e : Value) (s' : Shared), CX w [] H s (fun _ _ _ => False) e s' -> False) :
  PySem.W.WalkO q loose XP YP l.row.toRowW d [] (fun f vs => PySem.call f vs) := by
 refine Att.attach_call hn hdf fun w s₀ s₁ mg mb fa o pm cd doc a vs ns G Y ho hd hcd hmg hobj hints hlen hg => ?_
 obtain ⟨KX, hT⟩ := hY w _ Y
 obtain ⟨fd, hb, hTK, hTc, hF⟩ := F w mg fa _ KX G.T.g hmg
 exact qee_ KX G.T.g G.T.b G.T.builtins G.T.nolimit hg hobj hints (Nat.le_trans hlen hn2) hr hT hTK hTc G.T.bmain hF hb (fun H hS hTb => hsp w H a ns hlen hS hTb) fun H e s' => hCX w H s₁ e s'
end L2
set_option Elab.async false
set_option linter.all false
set_option maxRecDepth 100000
namespace L2
open PySem PySem.W PyProof.Rows
section
variable {α β : Type} {n : Nat} {lt : Nat -> Nat -> Bool}
def KWl (n : Nat) (lt : Nat -> Nat -> Bool) : KasT α -> (α -> Prop) -> Prop
 | .ret a, Q => Q a
 | .ask i j k, Q => i < n /\ j < n /\ KWl n lt (k (lt i j)) Q
theorem KWl.bind {f : α -> KasT β} {Q : β -> Prop} : ∀ (t : KasT α), KWl n lt t (fun a => KWl n lt (f a) Q) -> KWl n lt (t.bind f) Q
 | .ret _, h => h
 | .ask _ _ k, h => ⟨h.1, h.2.1, KWl.bind (k _) h.2.2⟩
theorem KWl.mono {Q Q' : α -> Prop} (hq : ∀ a, Q a -> Q' a) : ∀ (t : KasT α), KWl n lt t Q -> KWl n lt t Q'
 | .ret a, h => hq a h
 | .ask _ _ k, h => ⟨h.1, h.2.1, KWl.mono hq (k _) h.2.2⟩
theorem KWl.wp {cmp : Nat -> Nat -> (Bool -> Shared -> Prop) -> Shared -> Prop} {R : α -> Shared -> Prop} {s : Shared} (hc : ∀ i j (C : Bool -> Shared -> Prop), i < n -> j < n -> C (lt i j) s -> cmp i j C s) : ∀ (t : KasT α), KWl n lt t (fun a => R a s) -> t.kasWp cmp R s
 | .ret _, h => h
 | .ask i j k, h => hc i j _ h.1 h.2.1 (KWl.wp hc (k (lt i j)) h.2.2)
end
structure Pm (n : Nat) (p : Array Nat) : Prop where
 pm : p.Perm (List.range n).toArray
section
variable {n : Nat} {p : Array Nat} {z : Nat -> Int}
theorem Pm.size (h : Pm n p) : p.size = n := by rw [h.pm.size_eq]; simp
theorem Pm.lt (h : Pm n p) (hn : 0 < n) (i : Nat) : p.getD i 0 < n := by
 by_cases hi : i < p.size
 ·have e : p.getD i 0 = p[i] := by simp [Array.getD, hi]
  rw [e]
  have := (Array.perm_iff_toList_perm.mp h.pm).mem_iff.mp (show p[i] ∈ p.toList by simp)
  simpa using this
 ·have e : p.getD i 0 = 0 := by simp [Array.getD, hi]
  rw [e]; exact hn
theorem Pm.inj (h : Pm n p) {i j : Nat} (hi : i < n) (hj : j < n) (e : p.getD i 0 = p.getD j 0) : i = j := by
 have hs := h.size
 have nd : p.toList.Nodup := (Array.perm_iff_toList_perm.mp h.pm).nodup_iff.mpr (by simpa using List.nodup_range)
 have e1 : p.getD i 0 = p.toList[i]'(by simpa [hs] using hi) := by simp [Array.getD, hs, hi]
 have e2 : p.getD j 0 = p.toList[j]'(by simpa [hs] using hj) := by simp [Array.getD, hs, hj]
 rw [e1, e2] at e
 by_cases q : i = j
 ·exact q
 ·exact absurd e (by
   rcases Nat.lt_or_gt_of_ne q with q | q
   ·exact List.pairwise_iff_getElem.mp nd i j _ _ q
   ·exact fun z => List.pairwise_iff_getElem.mp nd j i _ _ q z.symm)
def Kz (z : Nat -> Int) (p : Array Nat) (i : Nat) : Int := z (p.getD i 0)
def Up (z : Nat -> Int) (p : Array Nat) (m : Nat) : Prop := ∀ i j, i < j -> j < m -> Kz z p i < Kz z p j
def Dn (z : Nat -> Int) (p : Array Nat) (m : Nat) : Prop := ∀ i j, i < j -> j < m -> Kz z p j < Kz z p i
theorem u4_ {p q : Array Nat} {i j : Nat} (h : p[i]? = q[j]?) : Kz z p i = Kz z q j := by
 unfold Kz
 rw [Array.getD_eq_getD_getElem?, Array.getD_eq_getD_getElem?, h]
theorem Pm.ne (h : Pm n p) (hn : 0 < n) (hz : ∀ i j, i < n -> j < n -> z i = z j -> i = j) {i j : Nat} (hi : i < n) (hj : j < n) (ij : i ≠ j) : Kz z p i ≠ Kz z p j := fun e => ij (h.inj hi hj (hz _ _ (h.lt hn _) (h.lt hn _) e))
theorem Pm.rev (h : Pm n p) (i j : Nat) : Pm n (kas_rev p i j) := ⟨(mirror_perm p i j _).trans h.pm⟩
theorem Pm.bub (h : Pm n p) (i j : Nat) : Pm n (bubble p i j) := ⟨(bubble_perm p i j).trans h.pm⟩
variable (z) in
abbrev ltz : Nat -> Nat -> Bool := fun i j => decide (z i < z j)
theorem qas_ (h : Pm n p) (hn : 0 < n) (hz : ∀ i j, i < n -> j < n -> z i = z j -> i = j) : ∀ (f m : Nat), 1 <= m -> m + f <= n -> Up z p m -> KWl n (ltz z) (kas_asc p f m) fun m' => m <= m' /\ m' <= m + f /\ Up z p m' /\ (m' = m + f \/ Kz z p m' < Kz z p (m' - 1))
 | 0, m, _, _, u => ⟨Nat.le_refl _, Nat.le_refl _, u, .inl rfl⟩
 | f + 1, m, h1, hm, u => by
  refine ⟨h.lt hn _, h.lt hn _, ?_⟩
  by_cases c : Kz z p m < Kz z p (m - 1)
  ·rw [show ltz z (p.getD m 0) (p.getD (m - 1) 0) = true from decide_eq_true c]
   dsimp only
   rw [if_pos rfl]
   exact ⟨Nat.le_refl _, by omega, u, .inr c⟩
  ·rw [show ltz z (p.getD m 0) (p.getD (m - 1) 0) = false from decide_eq_false c]
   dsimp only
   rw [if_neg (by decide)]
   have c' : Kz z p (m - 1) < Kz z p m := by
    have := h.ne hn hz (show m < n by omega) (show m - 1 < n by omega) (by omega)
    omega
   refine KWl.mono (fun m' q => ⟨by omega, by omega, q.2.2.1, ?_⟩) _ (qas_ h hn hz f (m + 1) (by omega) (by omega) fun i j hij hj => ?_)
   ·rcases q.2.2.2 with q | q
    ·exact .inl (by omega)
    ·exact .inr q
   ·by_cases hjm : j < m
    ·exact u i j hij hjm
    ·obtain rfl : j = m := by omega
     by_cases him : i = j - 1
     ·rw [him]; exact c'
     ·exact Int.lt_trans (u i (j - 1) (by omega) (by omega)) c'
theorem qcf_ (h : Pm n p) (hn : 0 < n) (hz : ∀ i j, i < n -> j < n -> z i = z j -> i = j) : ∀ (f m : Nat), 1 <= m -> m + f <= n -> Dn z p m -> KWl n (ltz z) (kas_desc f p m 0) fun r => r.1 = p /\ r.2.2 = 0 /\ m <= r.2.1 /\ r.2.1 <= m + f /\ Dn z p r.2.1
 | 0, m, _, _, u => ⟨rfl, rfl, Nat.le_refl _, Nat.le_refl _, u⟩
 | f + 1, m, h1, hm, u => by
  refine ⟨h.lt hn _, h.lt hn _, ?_⟩
  by_cases c : Kz z p m < Kz z p (m - 1)
  ·rw [show ltz z (p.getD m 0) (p.getD (m - 1) 0) = true from decide_eq_true c]
   dsimp only
   rw [if_pos rfl, if_neg (by decide)]
   refine KWl.mono (fun r q => ⟨q.1, q.2.1, by omega, by omega, q.2.2.2.2⟩) _ (qcf_ h hn hz f (m + 1) (by omega) (by omega) fun i j hij hj => ?_)
   by_cases hjm : j < m
   ·exact u i j hij hjm
   ·obtain rfl : j = m := by omega
    by_cases him : i = j - 1
    ·rw [him]; exact c
    ·exact Int.lt_trans c (u i (j - 1) (by omega) (by omega))
  ·rw [show ltz z (p.getD m 0) (p.getD (m - 1) 0) = false from decide_eq_false c]
   dsimp only
   rw [if_neg (by decide)]
   have c' : Kz z p (m - 1) < Kz z p m := by
    have := h.ne hn hz (show m < n by omega) (show m - 1 < n by omega) (by omega)
    omega
   refine ⟨h.lt hn _, h.lt hn _, ?_⟩
   rw [show ltz z (p.getD (m - 1) 0) (p.getD m 0) = true from decide_eq_true c']
   dsimp only
   rw [if_pos rfl]
   exact ⟨rfl, rfl, Nat.le_refl _, Nat.le_add_right _ _, u⟩
theorem qjb_ (h : Pm n p) {m : Nat} (hm : m <= n) (u : Dn z p m) : Up z (kas_rev p 0 m) m := by
 intro i j hij hj
 have g : ∀ k, k < m -> Kz z (kas_rev p 0 m) k = Kz z p (m - 1 - k) := fun k hk => by
  refine u4_ ?_
  unfold kas_rev
  rw [getElem?_mirror_all (by rw [h.size]; exact hm), if_pos ⟨Nat.zero_le _, hk⟩, Nat.zero_add]
 rw [g i (by omega), g j hj]
 exact u _ _ (by omega) (by omega)
theorem qf0_ (h : Pm n p) (hn : 0 < n) (hz : ∀ i j, i < n -> j < n -> z i = z j -> i = j) {m : Nat} (h1 : 1 <= m) (hm : m <= n) (u : Dn z p m) : KWl n (ltz z) (kas_tail3 m n p) fun r => Pm n r.2 /\ 1 <= r.1 /\ r.1 <= n /\ Up z r.2 r.1 := by
 unfold kas_tail3
 refine KWl.bind _ (KWl.mono (fun m' q => ?_) _ (qas_ (h.rev 0 m) hn hz (n - m) m h1 (by omega) (qjb_ h hm u)))
 exact ⟨h.rev 0 m, by omega, by omega, q.2.2.1⟩
theorem qf1_ (h : Pm n p) (h2 : 2 <= n) (hz : ∀ i j, i < n -> j < n -> z i = z j -> i = j) : KWl n (ltz z) (kas_count n p) fun r => Pm n r.2 /\ 1 <= r.1 /\ r.1 <= n /\ Up z r.2 r.1 := by
 have hn : 0 < n := by omega
 unfold kas_count
 refine KWl.bind _ (KWl.mono (fun m q => ?_) _ (qas_ h hn hz (n - 1) 1 (Nat.le_refl 1) (by omega) fun i j _ _ => by omega))
 by_cases e : m = n
 ·rw [if_pos (by simpa using e)]
  exact ⟨h, by omega, by omega, q.2.2.1⟩
 ·rw [if_neg (by simpa using e)]
  by_cases e1 : m > 1
  ·rw [if_pos e1]
   refine ⟨h.lt hn _, h.lt hn _, ?_⟩
   rw [show ltz z (p.getD 0 0) (p.getD (m - 1) 0) = true from decide_eq_true (q.2.2.1 0 (m - 1) (by omega) (by omega))]
   dsimp only
   rw [if_pos rfl]
   exact ⟨h, by omega, by omega, q.2.2.1⟩
  ·rw [if_neg e1]
   obtain rfl : m = 1 := by omega
   have c : Kz z p 1 < Kz z p 0 := by
    rcases q.2.2.2 with c | c
    ·omega
    ·exact c
   unfold kas_descPart
   refine KWl.bind _ (KWl.mono (fun r q' => ?_) _ (qcf_ h hn hz (n - (1 + 1)) (1 + 1) (by omega) (by omega) fun i j hij hj => ?_))
   ·obtain ⟨p', m', q0⟩ := r
    obtain ⟨e1, e2, e3, e4, e5⟩ := q'
    dsimp only at e1 e2 e3 e4 e5 ⊢
    subst e1 e2
    rw [if_neg (by decide)]
    exact qf0_ h hn hz (by omega) (by omega) e5
   ·obtain rfl : j = 1 := by omega
    obtain rfl : i = 0 := by omega
    exact c
theorem vn_ (h : Pm n p) (hn : 0 < n) (hz : ∀ i j, i < n -> j < n -> z i = z j -> i = j) {k : Nat} (hk : k < n) (u : Up z p k) : ∀ (f l r : Nat), r <= l + f -> l <= r -> r <= k -> (∀ i, i < l -> Kz z p i < Kz z p k) -> (∀ i, r <= i -> i < k -> Kz z p k < Kz z p i) →
  KWl n (ltz z) (kas_place p k f l r) fun l' => l' <= k /\ (∀ i, i < l' -> Kz z p i < Kz z p k) /\ (∀ i, l' <= i -> i < k -> Kz z p k < Kz z p i)
 | 0, l, r, hf, hl, hr, h1, h2 => by
  obtain rfl : l = r := by omega
  exact ⟨hr, h1, h2⟩
 | f + 1, l, r, hf, hl, hr, h1, h2 => by
  unfold kas_place
  by_cases e : l ≥ r
  ·rw [if_pos e]
   obtain rfl : l = r := by omega
   exact ⟨hr, h1, h2⟩
  ·rw [if_neg e]
   refine ⟨h.lt hn _, h.lt hn _, ?_⟩
   by_cases c : Kz z p k < Kz z p ((l + r) / 2)
   ·rw [show ltz z (p.getD k 0) (p.getD ((l + r) / 2) 0) = true from decide_eq_true c]
    dsimp only
    rw [if_pos rfl]
    refine vn_ h hn hz hk u f l ((l + r) / 2) (by omega) (by omega) (by omega) h1 fun i hi hik => ?_
    by_cases q : i = (l + r) / 2
    ·rw [q]; exact c
    ·exact Int.lt_trans c (u _ _ (by omega) hik)
   ·rw [show ltz z (p.getD k 0) (p.getD ((l + r) / 2) 0) = false from decide_eq_false c]
    dsimp only
    rw [if_neg (by decide)]
    have c' : Kz z p ((l + r) / 2) < Kz z p k := by
     have := h.ne hn hz (show k < n by omega) (show (l + r) / 2 < n by omega) (by omega)
     omega
    refine vn_ h hn hz hk u f ((l + r) / 2 + 1) r (by omega) (by omega) hr (fun i hi => ?_) h2
    by_cases q : i = (l + r) / 2
    ·rw [q]; exact c'
    ·exact Int.lt_trans (u _ _ (by omega) (by omega)) c'
theorem qef_ (hn : 0 < n) (hz : ∀ i j, i < n -> j < n -> z i = z j -> i = j) : ∀ (f : Nat) (p : Array Nat) (k : Nat), Pm n p -> k + f <= n -> Up z p k -> KWl n (ltz z) (kas_bin f p k) fun p' => Pm n p' /\ Up z p' (k + f)
 | 0, p, k, h, _, u => ⟨h, u⟩
 | f + 1, p, k, h, hk, u => by
  unfold kas_bin
  refine KWl.bind _ (KWl.mono (fun l q => ?_) _ (vn_ h hn hz (show k < n by omega) u k 0 k (by omega) (by omega) (Nat.le_refl _) (fun i hi => absurd hi (Nat.not_lt_zero i)) fun i h1 h2 => by omega))
  obtain ⟨q1, q2, q3⟩ := q
  refine KWl.mono (fun p' q' => ⟨q'.1, by rw [show k + (f + 1) = k + 1 + f by omega]; exact q'.2⟩) _ (qef_ hn hz f _ (k + 1) (h.bub k (k - l)) (by omega) fun i j hij hj => ?_)
  have g : ∀ i, Kz z (bubble p k (k - l)) i = if i = l then Kz z p k else if l < i /\ i <= k then Kz z p (i - 1) else Kz z p i := fun i => by
   have e := getElem?_bubble (xs := p) (src := k) (by rw [h.size]; omega) (k - l) (by omega) i
   rw [show k - (k - l) = l by omega] at e
   by_cases c1 : i = l
   ·rw [if_pos c1] at e ⊢; exact u4_ e
   ·rw [if_neg c1] at e ⊢
    by_cases c2 : l < i /\ i <= k
    ·rw [if_pos c2] at e ⊢; exact u4_ e
    ·rw [if_neg c2] at e ⊢; exact u4_ e
  rw [g i, g j]
  repeat' split
  all_goals first
   | (exfalso; omega)
   | exact q2 _ (by omega)
   | exact q3 _ (by omega) (by omega)
   | exact u _ _ (by omega) (by omega)
theorem qho_ (h2 : 2 <= n) (hz : ∀ i j, i < n -> j < n -> z i = z j -> i = j) : KWl n (ltz z) (kas_sort n) fun p => Pm n p /\ Up z p n := by
 unfold kas_sort
 refine KWl.bind _ (KWl.mono (fun r q => ?_) _ (qf1_ (p := (List.range n).toArray) ⟨Array.Perm.refl _⟩ h2 hz))
 obtain ⟨m, p⟩ := r
 obtain ⟨q1, q2, q3, q4⟩ := q
 dsimp only at q1 q2 q3 q4 ⊢
 by_cases c : m < n
 ·rw [if_pos c]
  have e : max m 1 = m := by omega
  rw [e]
  refine KWl.mono (fun p' q' => ⟨q'.1, ?_⟩) _ (qef_ (by omega) hz (n - m) p m q1 (by omega) q4)
  have := q'.2
  rwa [show m + (n - m) = n by omega] at this
 ·rw [if_neg c]
  obtain rfl : m = n := by omega
  exact ⟨q1, q4⟩
end
end L2
set_option Elab.async false
set_option linter.all false
set_option maxRecDepth 100000
set_option maxHeartbeats 1000000
namespace L2
open PySem PySem.Spec PySem.W PyProof.Rows
section
variable {P : Program} {w : World} {K : PySem.W.Frag} {mg : Str -> Option Value} {base : Heap} {A A' : Around} {outer : List Env} {s s' : Shared} {H H' : Hp}
theorem Env0.nofr (e0 : Env0 P w K mg base A outer s H) {b : Addr} {o : Obj} (e : base.get? b = some o) : b ∉ frs outer := fun hb => by
 have := (e0.funs.mem hb).1
 rw [e] at this; cases this
theorem Env0.after (e0 : Env0 P w K mg base A outer s H) (hA : A'.frames = A.frames) (un : Un (frs outer) [] H H' s.heap s'.heap) (hok : HOk P w H' s'.heap) (bare : AllBare s'.gens) (hsz : s.heap.objs.size <= s'.heap.objs.size) : Env0 P w K mg base A' outer s' H' := by
 have noA : ∀ b : Addr, b ∉ ([] : List Addr) := fun b => List.not_mem_nil
 refine ⟨hA.trans e0.frames, e0.mod, fun b o e => ?_, Nat.le_trans e0.bsz hsz, ?_, fun b hb => ?_, hok, bare⟩
 ·obtain ⟨h1, h2⟩ := e0.bs b o e
  exact ⟨un.keep b o h1 h2 (e0.nofr e) (noA b), un.free b o h1 h2 (noA b)⟩
 ·have all : ∀ (l : List Env), (∀ b ∈ frs l, b ∈ frs outer) -> s.heap.FunFrames base l -> s'.heap.FunFrames base l := by
   intro l
   induction l with
   | nil => intro _ _; trivial
   | cons env r ih =>
    intro hs hl
    obtain ⟨hk, ⟨L, o, hf, hn, ho, hd⟩, hr⟩ := hl
    have hL : L ∈ frs outer := hs L (by unfold frs; rw [List.filterMap_cons, hf]; exact List.mem_cons_self)
    obtain ⟨sl, e⟩ := un.slot L o ho (e0.frf L hL) hL (noA L)
    exact ⟨hk, ⟨L, _, hf, hn, e, hd⟩, ih (fun b hb => hs b (by unfold frs; rw [List.filterMap_cons, hf]; exact List.mem_cons_of_mem _ hb)) hr⟩
  exact all outer (fun _ hb => hb) e0.funs
 ·obtain ⟨_, o, ho, _⟩ := e0.funs.mem hb
  exact un.free b o ho (e0.frf b hb) (noA b)
theorem Env0.lt (e0 : Env0 P w K mg base A outer s H) {b : Addr} (hb : b ∈ frs outer) : b < s.heap.objs.size := by
 obtain ⟨_, o, ho, _⟩ := e0.funs.mem hb
 exact Heap.lt_size ho
end
def keyV (c : Int) (n : Nat) : HO := .tup [.int c, .int (n : Nat)]
section
variable {P : Program} {w : World} {A : Around} {s : Shared} {H : Hp}
theorem qhp_ {t u : Addr} {c d : Int} {m n : Nat} {Q : Bool -> Shared -> Prop} {E : Value -> Shared -> Prop} (hok : HOk P w H s.heap) (h1 : H t = some (keyV c m)) (h2 : H u = some (keyV d n)) (hcalm : A.handled = none) (hu : A.units + 64 < cLine) (q : Q (decide (c < d \/ c = d /\ m < n)) s) :
  wpAny (model P w) A (keyLt' (tuples' true) (.ref t) (.ref u)) Q E s := by
 obtain ⟨_, its, r, ot, e1, e2, n1, e3⟩ := hok t _ h1
 obtain ⟨_, its', r', ou, e1', e2', n1', e3'⟩ := hok u _ h2
 obtain ⟨x, y, rfl, ⟨t1, rfl⟩, ⟨t2, rfl⟩⟩ := zZ_ r
 obtain ⟨x', y', rfl, ⟨t3, rfl⟩, ⟨t4, rfl⟩⟩ := zZ_ r'
 refine kat_lt e1 e3 e1' e3' ?_
 refine kat_cons (wpAny_eqBool_int ?_)
 by_cases h : c = d
 ·rw [show (c == d) = true from by simpa using h]
  refine kat_yes (kat_cons (wpAny_eqBool_int ?_))
  by_cases h' : m = n
  ·subst h h'
   rw [show (((m : Nat) : Int) == ((m : Nat) : Int)) = true from by simp]
   refine kat_yes (kat_nil ?_)
   have e : decide (c < c \/ c = c /\ m < m) = false := decide_eq_false (by omega)
   rw [e] at q
   exact q
  ·rw [show (((m : Nat) : Int) == ((n : Nat) : Int)) = false from by
    have : ((m : Nat) : Int) ≠ ((n : Nat) : Int) := by omega
    simpa using this]
   refine kat_no ?_
   rw [show (true && (0 + 1 == 0)) = false from rfl]
   refine kat_one _ _ ?_
   refine lt_int ?_
   have e : decide (c < d \/ c = d /\ m < n) = decide (((m : Nat) : Int) < ((n : Nat) : Int)) := by
    by_cases z : m < n
    ·rw [decide_eq_true (by omega : ((m : Nat) : Int) < (n : Nat)), decide_eq_true (.inr ⟨h, z⟩)]
    ·rw [decide_eq_false (by omega : ¬ ((m : Nat) : Int) < (n : Nat)), decide_eq_false (by omega)]
   rw [e] at q
   exact q
 ·rw [show (c == d) = false from by simpa using h]
  refine kat_no ?_
  rw [show (true && (0 == 0)) = true from rfl]
  refine oneLt_int ?_
  have e : decide (c < d \/ c = d /\ m < n) = decide (c < d) := by
   by_cases z : c < d
   ·rw [decide_eq_true z, decide_eq_true (.inl z)]
   ·rw [decide_eq_false z, decide_eq_false (by omega)]
  rw [e] at q
  exact q
def klt (ck : Nat -> Int) (m n : Nat) : Prop := ck m < ck n \/ ck m = ck n /\ m < n
instance (ck : Nat -> Int) (m n : Nat) : Decidable (klt ck m n) := inferInstanceAs (Decidable (_ \/ _ /\ _))
def Keys (H : Hp) (ck : Nat -> Int) : List Nat -> List Value -> Prop
 | [], [] => True
 | n :: ns, k :: ks => (∃ t, k = .ref t /\ H t = some (keyV (ck n) n)) /\ Keys H ck ns ks
 | _, _ => False
theorem Keys.snoc {ck : Nat -> Int} {n : Nat} {t : Addr} (h : H t = some (keyV (ck n) n)) : ∀ {ns : List Nat} {ks : List Value}, Keys H ck ns ks -> Keys H ck (ns ++ [n]) (ks ++ [.ref t])
 | [], [], _ => ⟨⟨t, rfl, h⟩, trivial⟩
 | [], _ :: _, z => z.elim
 | _ :: _, [], z => z.elim
 | _ :: _, _ :: _, z => ⟨z.1, Keys.snoc h z.2⟩
theorem Keys.imp {H' : Hp} {ck : Nat -> Int} (h : ∀ t xs, H t = some (.tup xs) -> H' t = some (.tup xs)) : ∀ {ns : List Nat} {ks : List Value}, Keys H ck ns ks -> Keys H' ck ns ks
 | [], [], _ => trivial
 | [], _ :: _, z => z.elim
 | _ :: _, [], z => z.elim
 | _ :: _, _ :: _, ⟨⟨t, e, z⟩, r⟩ => ⟨⟨t, e, h t _ z⟩, Keys.imp h r⟩
theorem Keys.length {ck : Nat -> Int} : ∀ {ns : List Nat} {ks : List Value}, Keys H ck ns ks -> ks.length = ns.length
 | [], [], _ => rfl
 | [], _ :: _, z => z.elim
 | _ :: _, [], z => z.elim
 | _ :: _, _ :: _, z => by rw [List.length_cons, List.length_cons, Keys.length z.2]
theorem Keys.get {ck : Nat -> Int} : ∀ {ns : List Nat} {ks : List Value} {i : Nat}, Keys H ck ns ks -> i < ns.length -> ∃ t, ks.getD i Value.none = .ref t /\ H t = some (keyV (ck (ns.getD i 0)) (ns.getD i 0))
 | [], _, i, _, hi => absurd hi (Nat.not_lt_zero i)
 | _ :: _, [], _, z, _ => z.elim
 | _ :: _, _ :: _, 0, ⟨⟨t, e, z⟩, _⟩, _ => ⟨t, e, z⟩
 | _ :: ns, _ :: ks, i + 1, z, hi => Keys.get (ns := ns) (ks := ks) (i := i) z.2 (by simpa using hi)
theorem Keys.tups {ck : Nat -> Int} (hok : HOk P w H s.heap) : ∀ {ns : List Nat} {ks : List Value}, Keys H ck ns ks -> ∃ fs : List Value, KatTups s.heap ks fs /\ fs.length = ns.length /\ ∀ v ∈ fs, ∃ i t, v = Value.int i t
 | [], [], _ => ⟨[], KatTups.nil, rfl, fun _ h => absurd h List.not_mem_nil⟩
 | [], _ :: _, z => z.elim
 | _ :: _, [], z => z.elim
 | _ :: ns, _ :: ks, ⟨⟨t, e, z⟩, r⟩ => by
  obtain ⟨fs, h1, h2, h3⟩ := Keys.tups hok r
  obtain ⟨_, its, rv, ot, e1, e2, n1, e3⟩ := hok t _ z
  obtain ⟨x, y, rfl, ⟨t1, rfl⟩, ⟨t2, rfl⟩⟩ := zZ_ rv
  subst e
  refine ⟨_ :: fs, KatTups.cons e1 e2 e3 rfl h1, by rw [List.length_cons, List.length_cons, h2], fun v hv => ?_⟩
  rcases List.mem_cons.mp hv with rfl | hv
  ·exact ⟨_, _, rfl⟩
  ·exact h3 v hv
def kzz (ck : Nat -> Int) (ns : List Nat) (B : Int) (i : Nat) : Int := ck (ns.getD i 0) * B + (ns.getD i 0 : Nat)
theorem vP_ {ck : Nat -> Int} {ns : List Nat} {B : Nat} (hB : ∀ n ∈ ns, n < B) {i j : Nat} (hi : i < ns.length) (hj : j < ns.length) : kzz ck ns B i < kzz ck ns B j ↔ klt ck (ns.getD i 0) (ns.getD j 0) := by
 have mem : ∀ i, i < ns.length -> ns.getD i 0 < B := fun i h => hB _ (by rw [List.getD_eq_getElem?_getD, List.getElem?_eq_getElem h]; exact List.getElem_mem h)
 have a := mem i hi
 have b := mem j hj
 unfold kzz klt
 generalize ns.getD i 0 = m at a
 generalize ns.getD j 0 = n at b
 generalize ck m = c
 generalize ck n = d
 constructor
 ·intro h
  rcases Int.lt_trichotomy c d with z | z | z
  ·exact .inl z
  ·subst z; exact .inr ⟨rfl, by omega⟩
  ·exfalso
   have : (d + 1) * (B : Int) <= c * B := Int.mul_le_mul_of_nonneg_right (by omega) (by omega)
   rw [Int.add_mul] at this
   omega
 ·intro h
  rcases h with z | ⟨rfl, z⟩
  ·have : (c + 1) * (B : Int) <= d * B := Int.mul_le_mul_of_nonneg_right (by omega) (by omega)
   rw [Int.add_mul] at this
   omega
  ·omega
end
end L2
set_option Elab.async false
set_option linter.all false
set_option maxRecDepth 100000
set_option maxHeartbeats 1000000
namespace L2
open PySem PySem.Spec PySem.W PyProof.Rows
section
variable {fs ex : List Addr} {H H' : Hp} {h h' h'' : Heap} {x : Addr} {P : Program} {w : World}
theorem Un.turn (u : Un fs ex H H' h h') (hx : h.objs.size <= x) (k : ∀ b o, b ≠ x -> h'.get? b = some o -> h''.get? b = some o) : Un fs ex H H' h h'' where
 keep := fun b o e n hb he => k b o (Nat.ne_of_lt (Nat.lt_of_lt_of_le (Heap.lt_size e) hx)) (u.keep b o e n hb he)
 slot := fun b o e n hb he => let ⟨sl, z⟩ := u.slot b o e n hb he; ⟨sl, k b _ (Nat.ne_of_lt (Nat.lt_of_lt_of_le (Heap.lt_size e) hx)) z⟩
 free := u.free
 there := fun b o e he => let ⟨o', z⟩ := u.there b o e he; ⟨o', k b _ (Nat.ne_of_lt (Nat.lt_of_lt_of_le (Heap.lt_size e) hx)) z⟩
 tups := u.tups
 frzs := u.frzs
 tbls := u.tbls
theorem HOk.turn (ok : HOk P w H h) (hx : H x = none) (k : ∀ b o, b ≠ x -> h.get? b = some o -> h'.get? b = some o) : HOk P w H h' := fun b o e => by
 have ne : ∀ c u, H c = some u -> c ≠ x := fun c u e z => by rw [z, hx] at e; cases e
 refine (ok b o e).stay (fun c v hc q => k c v ?_ q) (fun _ q => q) fun _ _ q => q
 rcases hc with z | z
 ·rw [z]; exact ne b o e
 ·exact ne c _ z
theorem Un.trk {o : HO} (u : Un fs ex H H' h h') (hx : h.objs.size <= x) (n : H' x = none) : Un fs ex H (upd H' x o) h h' where
 keep := u.keep
 slot := u.slot
 free := fun b q e m he => by
  rw [qe_ (Nat.ne_of_lt (Nat.lt_of_lt_of_le (Heap.lt_size e) hx))]
  exact u.free b q e m he
 there := u.there
 tups := fun b xs e => by
  have z := u.tups b xs e
  rw [qe_ (qk_ z n)]; exact z
 frzs := fun b q v e => by
  have z := u.frzs b q v e
  rw [qe_ (qk_ z n)]; exact z
 tbls := fun b ps e => by
  obtain ⟨m, z⟩ := u.tbls b ps e
  exact ⟨m, by rw [qe_ (qk_ z n)]; exact z⟩
theorem HOk.trk {o : HO} (ok : HOk P w H h) (n : H x = none) (new : ObjOk P w (upd H x o) h x o) : HOk P w (upd H x o) h := fun b u e => by
 by_cases hb : b = x
 ·subst hb; rw [qd_] at e; cases e; exact new
 ·rw [qe_ hb] at e
  exact (ok b u e).stay (fun _ _ _ q => q) (fun c q => by rw [qe_ (qk_ q n)]; exact q) fun c xs q => by rw [qe_ (qk_ q n)]; exact q
end
def jW_ (ns : List Nat) : List V := ns.map fun n => .int ((n : Nat) : Int)
theorem zw_ {ns : List Nat} {vs : List Value} (r : Vals (jW_ ns) vs) : vs.length = ns.length /\ ∀ i, i < ns.length -> ∃ t, vs.getD i Value.none = Value.int (ns.getD i 0 : Nat) t := by
 have hl := r.length
 unfold jW_ at hl
 rw [List.length_map] at hl
 refine ⟨hl.symm, fun i hi => ?_⟩
 obtain ⟨u, h1, t, rfl⟩ := r.get (i := i) (x := .int ((ns.getD i 0 : Nat) : Int)) (by
  unfold jW_
  rw [List.getElem?_map, List.getElem?_eq_getElem hi, List.getD_eq_getElem?_getD, List.getElem?_eq_getElem hi]
  rfl)
 exact ⟨t, by rw [List.getD_eq_getElem?_getD, h1]; rfl⟩
section
variable {P : Program} {w : World} {K : PySem.W.Frag} {mg : Str -> Option Value} {base : Heap} {A : Around} {outer : List Env} {s : Shared} {H : Hp} {k : Nat} {sp : SpV} {l fa : Addr} {vs : List Value} {ns : List Nat} {ck : Nat -> Int} {B : Nat} {Q : VK} {E : Value -> Shared -> Prop}
theorem qeg_ {s' : Shared} {H' : Hp} {D kS : Addr} {ks : List Value} {e e1 : Nat} {R : PySem.Fin -> Shared -> Prop} (hA : A.handled = none) (hAu : A.units + 64 < cLine) (r : Vals (jW_ ns) vs) (nd : ns.Nodup) (hB : ∀ n ∈ ns, n < B) (h64 : ns.length < 64)
  (hok : HOk P w H' s'.heap) (hD : s'.heap.get? D = some (seqObj "list" #[] e1)) (hk : s'.heap.get? kS = some (seqObj "list" ks.toArray e)) (hDk : D ≠ kS) (hK : Keys H' ck ns ks)
  (fin : ∀ (h' : Heap) (ms : List Nat) (out : List Value) (c : Nat), (∀ b o, b ≠ D → b ≠ kS → s'.heap.get? b = some o → h'.get? b = some o) → h'.get? D = some (seqObj "list" out.toArray c) → Vals (jW_ ms) out → ms.Perm ns → ms.Pairwise (klt ck) → R (.done (.ret .none)) { s' with heap := h' }) :
  wpAny (model P w) A (ksk_end D false vs.toArray e1 (.ref kS) ks.toArray) R E s' := by
 obtain ⟨hvl, hvi⟩ := zw_ r
 have hkl := hK.length
 have tail : ∀ (st : SortSt) (p : Array Nat), Pm ns.length p -> arrOf st = p.map (kas_item (ks.toArray.zip vs.toArray)) -> failedOf st = none -> (∀ i j, i < j -> j < ns.length -> klt ck (ns.getD (p.getD i 0) 0) (ns.getD (p.getD j 0) 0)) -> wpAny (model P w) A (ksk_tail D false e1 (.ref kS) st) R E s' := by
  intro st p hp har hf hord
  have hsn := kat_snds (ks := ks) (vs := vs) (by omega) har
  have hps := hp.size
  have s1 := Heap.SameBut.update s'.heap kS (Obj.mapSeq fun _ => (#[] : Array Value))
  have na1 : (s'.heap.update kS (Obj.mapSeq fun _ => (#[] : Array Value))).get? D = some (seqObj "list" #[] e1) := (s1.2 D hDk).trans hD
  have s2 := Heap.SameBut.update (s'.heap.update kS (Obj.mapSeq fun _ => (#[] : Array Value))) D (Obj.mapSeq fun _ => (arrOf st).map (·.2))
  obtain ⟨c2, hc2⟩ : ∃ c2, ((s'.heap.update kS (Obj.mapSeq fun _ => (#[] : Array Value))).update D (Obj.mapSeq fun _ => (arrOf st).map (·.2))).get? D = some (seqObj "list" ((arrOf st).map (·.2)) c2) := ⟨_, get?_update_seq na1 fun _ => (arrOf st).map (·.2)⟩
  unfold ksk_tail
  try dsimp only
  refine wpAny_bind (listUpdate_at hk rfl ?_ (by rw [List.size_toArray, sizeLine_eq]; omega) (Nat.zero_le _))
  refine wpAny_bind (wpAny_letGo ?_)
  refine wpAny_bind (seqEpoch_at na1 rfl ?_)
  simp only [Bool.false_eq_true, if_false]
  refine wpAny_bind (listUpdate_at na1 rfl ?_ (Nat.zero_le _) (by
   show ((arrOf st).map (·.2)).size <= _
   rw [hsn, List.size_toArray, List.length_map, Array.length_toList, hps, sizeLine_eq]; omega))
  rw [hf]
  simp only [bne_self_eq_false, Bool.false_eq_true, if_false]
  have hc2 := hc2.trans (congrArg (fun z => some (seqObj "list" z c2)) hsn)
  have pl : p.toList.Perm (List.range ns.length) := by simpa using Array.perm_iff_toList_perm.mp hp.pm
  have pin : ∀ i ∈ p.toList, i < ns.length := fun i hi => List.mem_range.mp (pl.mem_iff.mp hi)
  refine wpAny_pure (fin _ (p.toList.map fun i => ns.getD i 0) _ c2 (fun b o hb hb' q => ?_) hc2 ?_ ?_ ?_)
  ·rw [s2.2 b hb, s1.2 b hb']; exact q
  ·unfold jW_
   rw [List.map_map]
   have : ∀ (ls : List Nat), (∀ i ∈ ls, i < ns.length) -> Vals (ls.map ((fun n : Nat => V.int ((n : Nat) : Int)) ∘ fun i => ns.getD i 0)) (ls.map fun i => vs.getD i Value.none) := by
    intro ls
    induction ls with
    | nil => intro _; exact .nil
    | cons i ls ih =>
     intro hl
     obtain ⟨t, e⟩ := hvi i (hl i (.head _))
     exact .cons ⟨t, e⟩ (ih fun j hj => hl j (.tail _ hj))
   exact this _ pin
  ·have e0 : (List.range ns.length).map (fun i => ns.getD i 0) = ns := by
    apply List.ext_getElem?
    intro i
    rw [List.getElem?_map]
    by_cases hi : i < ns.length
    ·rw [List.getElem?_range hi, List.getElem?_eq_getElem hi, Option.map_some, List.getD_eq_getElem?_getD, List.getElem?_eq_getElem hi]
     rfl
    ·rw [List.getElem?_eq_none (by rw [List.length_range]; omega), List.getElem?_eq_none (by omega)]
     rfl
   have := pl.map fun i => ns.getD i 0
   rwa [e0] at this
  ·rw [List.pairwise_map, List.pairwise_iff_getElem]
   intro i j hi hj hij
   have := hord i j hij (by rw [Array.length_toList, hps] at hj; exact hj)
   have g : ∀ m (hm : m < p.toList.length), p.getD m 0 = p.toList[m] := fun m hm => by
    have : m < p.size := by simpa using hm
    simp [Array.getD, this]
   rw [g i hi, g j hj] at this
   exact this
 unfold ksk_end
 try dsimp only
 simp only [Bool.false_eq_true, if_false]
 by_cases h2 : vs.toArray.size < 2
 ·rw [if_pos h2, if_pos h2]
  rw [List.size_toArray, hvl] at h2
  refine wpAny_bind (wpAny_pure ?_)
  rw [StateT.run_pure]
  refine wpAny_bind (wpAny_pure ?_)
  try dsimp only
  refine tail _ (List.range ns.length).toArray ⟨Array.Perm.refl _⟩ ?_ rfl (fun i j hij hj => by omega)
  have e := kas_range (ks.toArray.zip vs.toArray)
  rw [show (ks.toArray.zip vs.toArray).size = ns.length by simp [hkl, hvl]] at e
  rw [e]
 ·rw [if_neg h2, if_neg h2]
  rw [List.size_toArray, hvl] at h2
  obtain ⟨fs, t1, t2, t3⟩ := hK.tups hok
  refine wpAny_bind (kat_kind (T := .type "int") t1 (by omega) (fun v hv => ?_) rfl ?_)
  ·obtain ⟨i, t, rfl⟩ := t3 v hv
   exact Looks.of_pure rfl
  rw [show ((Value.type "int") != Value.type "tuple") = true from rfl]
  have hz : ∀ i j, i < ns.length -> j < ns.length -> kzz ck ns B i = kzz ck ns B j -> i = j := fun i j hi hj e => by
   have n1 : ¬ klt ck (ns.getD i 0) (ns.getD j 0) := fun z => by have := (vP_ hB hi hj).mpr z; omega
   have n2 : ¬ klt ck (ns.getD j 0) (ns.getD i 0) := fun z => by have := (vP_ hB hj hi).mpr z; omega
   have e3 : ns.getD i 0 = ns.getD j 0 := by
    unfold klt at n1 n2
    generalize ck (ns.getD i 0) = c at n1 n2
    generalize ck (ns.getD j 0) = d at n1 n2
    omega
   rw [List.getD_eq_getElem?_getD, List.getElem?_eq_getElem hi, List.getD_eq_getElem?_getD, List.getElem?_eq_getElem hj] at e3
   exact (List.getElem_inj nd).mp e3
  have ask : (kas_sort vs.length).kasWp (kas_ask P w A (tuples' true) ks) (fun p s'' => s'' = s' /\ Pm ns.length p /\ Up (kzz ck ns B) p ns.length) s' := by
   rw [hvl]
   refine KWl.wp (lt := ltz (kzz ck ns B)) (n := ns.length) (fun i j C hi hj q => ?_) _ (KWl.mono (fun p q => ⟨rfl, q⟩) _ (qho_ (by omega) hz))
   obtain ⟨t, e1, e2⟩ := hK.get hi
   obtain ⟨u, e3, e4⟩ := hK.get hj
   unfold kas_ask
   rw [e1, e3]
   refine qhp_ hok e2 e4 hA hAu ?_
   have e5 : decide (ck (ns.getD i 0) < ck (ns.getD j 0) \/ ck (ns.getD i 0) = ck (ns.getD j 0) /\ ns.getD i 0 < ns.getD j 0) = ltz (kzz ck ns B) i j := by
    show _ = decide _
    rw [decide_eq_decide]
    exact (vP_ hB hi hj).symm
   rw [e5]
   exact q
  refine wpAny_bind (wpAny_mono (kat_run (Q := fun st' s'' => ∃ p : Array Nat, arrOf st' = p.map (kas_item (ks.toArray.zip vs.toArray)) /\ failedOf st' = none /\ s'' = s' /\ Pm ns.length p /\ Up (kzz ck ns B) p ns.length) (by omega) (by omega) (by omega) (fun p' st' s'' a1 a2 a3 a4 => ⟨p', a2, a3, a4⟩) ask) ?_ fun _ _ x => x)
  rintro ⟨⟨⟩, st'⟩ s'' ⟨p, har, hf, rfl, hp, hu⟩
  try dsimp only
  refine tail st' p hp har hf fun i j hij hj => ?_
  have := hu i j hij hj
  exact (vP_ hB (hp.lt (by omega) i) (hp.lt (by omega) j)).mp this
end
end L2
set_option Elab.async false
set_option linter.all false
set_option maxRecDepth 100000
set_option maxHeartbeats 1000000
namespace L2
open PySem PySem.Spec PySem.W PyProof.Rows
section
variable {P : Program} {w : World} {K : PySem.W.Frag} {mg : Str -> Option Value} {base : Heap} {A : Around} {outer : List Env} {s : Shared} {H : Hp} {k : Nat} {sp : SpV} {l fa : Addr} {vs : List Value} {ns : List Nat} {ck : Nat -> Int} {B : Nat} {Q : VK} {E : Value -> Shared -> Prop}
structure SortAt (P : Program) (w : World) (outer : List Env) (s : Shared) (H : Hp) (D kS : Addr) (e1 : Nat) (ck : Nat -> Int) (ns : List Nat) (s' : Shared) (H' : Hp) (ks : List Value) (e : Nat) : Prop where
 os : s'.os = s.os
 bare : AllBare s'.gens
 un : Un (frs outer) [] H H' s.heap s'.heap
 hok : HOk P w H' s'.heap
 same : Same H H'
 hD : s'.heap.get? D = some (seqObj "list" #[] e1)
 nD : H' D = none
 hk : s'.heap.get? kS = some (seqObj "list" ks.toArray e)
 nk : H' kS = none
 keys : Keys H' ck ns ks
theorem qc5_ {D kS : Addr} {e1 : Nat} {s5 : Shared} {R : PySem.Fin -> Shared -> Prop} (hr : Room k A) (e0 : Env0 P w K mg base A outer s H) (r : Vals (jW_ ns) vs) (nd : ns.Nodup) (hB : ∀ n ∈ ns, n < B) (h64 : ns.length < 64)
  (hf : ∀ (s' : Shared) (H' : Hp) (n : Nat) (x : Value), n ∈ ns -> Same H H' -> Env0 P w K mg base A outer s' H' -> Un (frs outer) [] H H' s.heap s'.heap -> RelV (.int ((n : Nat) : Int)) x -> codeAny (model P w) A (.call (.ref fa) ⟨[x], []⟩) (CR CX0 outer P w H' s' (fun v H'' => ∃ t, v = .ref t /\ H'' t = some (keyV (ck n) n) /\ Same H' H'') E0) s')
  (nDs : s.heap.objs.size <= D) (nks : s.heap.objs.size <= kS) (hDk : D ≠ kS) (S5 : SortAt P w outer s H D kS e1 ck [] s5 H [] 0)
  (fin : ∀ (s' : Shared) (H' : Hp) (ms : List Nat), s'.os = s.os -> AllBare s'.gens -> Un (frs outer) [] H (upd H' D (.lst (jW_ ms))) s.heap s'.heap -> HOk P w (upd H' D (.lst (jW_ ms))) s'.heap -> Same H H' -> H' D = none -> ms.Perm ns -> ms.Pairwise (klt ck) -> R (.done (.ret .none)) s') :
  wpAny (model P w) A (ksk_rest D (.ref fa) false vs.toArray e1 (.ref kS)) R E s5 := by
 obtain ⟨hvl, hvi⟩ := zw_ r
 have noA : ∀ b : Addr, b ∉ ([] : List Addr) := fun b => List.not_mem_nil
 have hsz : ∀ {s' : Shared}, (∃ o, s'.heap.get? D = some o) -> s.heap.objs.size <= s'.heap.objs.size := fun {s'} ⟨o, z⟩ => Nat.le_trans nDs (Nat.le_of_lt (Heap.lt_size z))
 have nfD : D ∉ frs outer := fun z => absurd (e0.lt z) (Nat.not_lt.mpr nDs)
 have nfk : kS ∉ frs outer := fun z => absurd (e0.lt z) (Nat.not_lt.mpr nks)
 unfold ksk_rest
 refine wpAny_bind (wpAny_rule ?_)
 rw [<- Array.forIn_toList]
 refine wpAny_bind (ksk_fold (I := fun j s' => ∃ H' ks e, SortAt P w outer s H D kS e1 ck (ns.take j) s' H' ks e) vs 0 s5 ⟨H, [], 0, S5⟩ (fun j x s' hx hI => ?_) fun s' hI => ?_)
 ·obtain ⟨H', ks, e, S⟩ := hI
  rw [Nat.zero_add] at S ⊢
  have hj : j < ns.length := by rw [<- hvl]; exact (List.getElem?_eq_some_iff.mp hx).1
  have hn : ns.getD j 0 ∈ ns := by rw [List.getD_eq_getElem?_getD, List.getElem?_eq_getElem hj]; exact List.getElem_mem hj
  obtain ⟨t, ex⟩ := hvi j hj
  rw [List.getD_eq_getElem?_getD, hx] at ex
  have ex : x = _ := ex
  have e0' := e0.after (A' := A) rfl S.un S.hok S.bare (hsz ⟨_, S.hD⟩)
  have hc := hf s' H' _ x hn S.same e0' S.un ⟨t, ex⟩
  refine wpAny_bind (wpAny_attempt (wpAny_call (codeAny_mono hc fun rs s'' hq => ?_)))
  cases rs with
  | error _ => exact False.elim hq
  | ok fl =>
   cases fl with
   | next => exact False.elim hq
   | brk => exact False.elim hq
   | cont => exact False.elim hq
   | ret u =>
    obtain ⟨v, H'', os, bare, un, hok, rv, q⟩ := hq
    obtain ⟨ta, rfl, hta, sm⟩ := q
    obtain rfl : u = .ref ta := rv
    have hD2 := un.keep D _ S.hD S.nD nfD (noA D)
    have hk2 := un.keep kS _ S.hk S.nk nfk (noA kS)
    have nD2 := un.free D _ S.hD S.nD (noA D)
    have nk2 := un.free kS _ S.hk S.nk (noA kS)
    have s1 := Heap.SameBut.update s''.heap kS (Obj.mapSeq (·.push (.ref ta)))
    have k1 : ∀ b o, b ≠ kS -> s''.heap.get? b = some o -> (s''.heap.update kS (Obj.mapSeq (·.push (.ref ta)))).get? b = some o := fun b o hb z => (s1.2 b hb).trans z
    have ea : (List.toArray ks).push (.ref ta) = List.toArray (ks ++ [.ref ta]) := by simp
    have hkl := S.keys.length
    rw [List.length_take, Nat.min_eq_left (by omega)] at hkl
    obtain ⟨c2, hc2⟩ : ∃ c2, (s''.heap.update kS (Obj.mapSeq (·.push (.ref ta)))).get? kS = some (seqObj "list" (List.toArray (ks ++ [.ref ta])) c2) := ⟨_, by rw [← ea]; exact get?_update_seq hk2 (·.push (.ref ta))⟩
    show wpAny _ _ (do Builtin.List.listUpdate (.ref kS) (·.push (.ref ta)); pure (ForInStep.yield PUnit.unit)) _ _ _
    refine wpAny_bind (listUpdate_at hk2 rfl ?_ (by rw [List.size_toArray, sizeLine_eq]; omega) (Nat.le_trans (Nat.le_of_eq (Array.size_push ..)) (by rw [List.size_toArray, sizeLine_eq]; omega)))
    refine wpAny_pure ⟨rfl, H'', ks ++ [.ref ta], c2, os.trans S.os, bare, (S.un.trans un).turn nks k1, hok.turn nk2 k1, fun b o z => sm b o (S.same b o z), (k1 D _ hDk hD2), nD2, hc2, nk2, ?_⟩
    rw [List.take_succ, List.getElem?_eq_getElem hj]
    have eg : ns.getD j 0 = ns[j] := by rw [List.getD_eq_getElem?_getD, List.getElem?_eq_getElem hj]; rfl
    rw [eg] at hta
    exact Keys.snoc hta (S.keys.imp fun t xs z => un.tups t xs z)
 ·obtain ⟨H', ks, e, S⟩ := hI
  rw [Nat.zero_add, hvl, List.take_length] at S
  have hkl := S.keys.length
  refine wpAny_bind (listItems_at S.hk rfl ?_)
  refine qeg_ hr.hd hr.units r nd hB h64 S.hok S.hD S.hk hDk S.keys fun h' ms out c kp hD rv pm pw => ?_
  have u1 : Un (frs outer) [] H H' s.heap h' := ⟨fun b o z n hb he => ?_, fun b o z n hb he => ?_, S.un.free, fun b o z he => ?_, S.un.tups, S.un.frzs, S.un.tbls⟩
  have ok1 : HOk P w H' h' := fun b o z => by
   have ne : ∀ c u x, H' x = none -> H' c = some u -> c ≠ x := fun c u x n z y => by rw [y, n] at z; cases z
   refine (S.hok b o z).stay (fun c v hc q => ?_) (fun _ q => q) fun _ _ q => q
   rcases hc with rfl | y
   ·exact kp c v (ne c o _ S.nD z) (ne c o _ S.nk z) q
   ·exact kp c v (ne c _ _ S.nD y) (ne c _ _ S.nk y) q
  refine fin _ H' ms S.os S.bare (u1.trk nDs S.nD) (ok1.trk S.nD ⟨?_, out, c, rv, hD⟩) S.same S.nD pm pw
  ·unfold jW_
   rw [List.length_map, pm.length_eq, sizeLine_eq]
   omega
  ·exact kp b o (Nat.ne_of_lt (Nat.lt_of_lt_of_le (Heap.lt_size z) nDs)) (Nat.ne_of_lt (Nat.lt_of_lt_of_le (Heap.lt_size z) nks)) (S.un.keep b o z n hb he)
  ·obtain ⟨sl, y⟩ := S.un.slot b o z n hb he
   exact ⟨sl, kp b _ (Nat.ne_of_lt (Nat.lt_of_lt_of_le (Heap.lt_size z) nDs)) (Nat.ne_of_lt (Nat.lt_of_lt_of_le (Heap.lt_size z) nks)) y⟩
  ·obtain ⟨o', y⟩ := S.un.there b o z he
   exact ⟨o', kp b _ (Nat.ne_of_lt (Nat.lt_of_lt_of_le (Heap.lt_size z) nDs)) (Nat.ne_of_lt (Nat.lt_of_lt_of_le (Heap.lt_size z) nks)) y⟩
theorem qeh_ (hr : Room (k + 2) A) (e0 : Env0 P w K mg base A outer s H) (hl : s.heap.IsList l vs.toArray) (r : Vals (jW_ ns) vs) (nd : ns.Nodup) (hB : ∀ n ∈ ns, n < B) (h64 : ns.length < 64)
  (hf : ∀ (s' : Shared) (H' : Hp) (n : Nat) (x : Value), n ∈ ns -> Same H H' -> Env0 P w K mg base A.in1.in1 outer s' H' -> Un (frs outer) [] H H' s.heap s'.heap -> RelV (.int ((n : Nat) : Int)) x -> codeAny (model P w) A.in1.in1 (.call (.ref fa) ⟨[x], []⟩) (CR CX0 outer P w H' s' (fun v H'' => ∃ t, v = .ref t /\ H'' t = some (keyV (ck n) n) /\ Same H' H'') E0) s')
  (hq : ∀ (D : Addr) (H' : Hp) (ms : List Nat), H D = none -> H' D = none -> Same H H' -> ms.Perm ns -> ms.Pairwise (klt ck) -> Q (.ref D) (upd H' D (.lst (jW_ ms)))) :
  wpAny (model P w) A (call (.builtin "sorted") [.ref l] [(Str.ofString "key", .ref fa)]) (fun u s' => CE outer P w H s Q u s') E s := by
 obtain ⟨hvl, hvi⟩ := zw_ r
 refine call_function_entry_kw kind_sorted plain_sorted entry_sorted (ksk_s1 _ _) ?_
 unfold Builtin.«sorted»
 refine wpAny_bind (m := checkCount "sorted" 1 1 _) (wpAny_pure ?_)
 refine wpAny_bind (collect_list hl ?_ (by rw [sizeLine_eq]; omega))
 refine wpAny_bind (wpAny_newList ?_ (by rw [sizeLine_eq]; omega))
 have hsz : ((s.heap.push (seqObj "list" #[] 0)).update s.heap.objs.size (Obj.mapSeq (· ++ vs.toArray))).objs.size = s.heap.objs.size + 1 := by
  rw [Heap.size_update, size_push']
 have hoL : (((s.heap.push (seqObj "list" #[] 0)).update s.heap.objs.size (Obj.mapSeq (· ++ vs.toArray))).push (seqObj "list" vs.toArray 0)).get? (s.heap.objs.size + 1) = some (seqObj "list" vs.toArray 0) := by
  rw [<- hsz]; exact Heap.get?_push_size _ rfl
 have keep : ∀ b o, s.heap.get? b = some o → (((s.heap.push (seqObj "list" #[] 0)).update s.heap.objs.size (Obj.mapSeq (· ++ vs.toArray))).push (seqObj "list" vs.toArray 0)).get? b = some o := fun b o q => by
  have hlt : b < s.heap.objs.size := Heap.lt_size q
  rw [Heap.get?_push_ne _ _ _ (by rw [hsz]; exact Nat.ne_of_lt (Nat.lt_succ_of_lt hlt)), Heap.get?_update_ne _ _ _ _ (Nat.ne_of_lt hlt), Heap.get?_push_ne _ _ _ (Nat.ne_of_lt hlt)]
  exact q
 show wpAny _ _ _ _ _ { s with heap := ((s.heap.push (seqObj "list" #[] 0)).update s.heap.objs.size (Obj.mapSeq (· ++ vs.toArray))).push (seqObj "list" vs.toArray 0) }
 rw [hsz]
 generalize (((s.heap.push (seqObj "list" #[] 0)).update s.heap.objs.size (Obj.mapSeq (· ++ vs.toArray))).push (seqObj "list" vs.toArray 0)) = h2 at hoL keep
 refine wpAny_bind (wpAny_holding (wpAny_call_entry_kw slot_list_sort ⟨_, hoL, rfl⟩ entry_list_sort ?body (ksk_l1 _ _)))
 show wpAny (model P w) A.in1.in1 (Builtin.«list.sort» ⟨[.ref (s.heap.objs.size + 1)], [(Str.ofString "key", .ref fa)]⟩) _ _ _
 rw [ksk_t1]
 unfold ksk_tree
 have s1 := Heap.SameBut.update h2 (s.heap.objs.size + 1) (Obj.mapSeq fun _ => (#[] : Array Value))
 obtain ⟨e1, ho1⟩ : ∃ e1, (h2.update (s.heap.objs.size + 1) (Obj.mapSeq fun _ => (#[] : Array Value))).get? (s.heap.objs.size + 1) = some (seqObj "list" #[] e1) := ⟨_, get?_update_seq hoL fun _ => #[]⟩
 refine wpAny_bind (listItems_at hoL rfl ?_)
 refine wpAny_bind (listUpdate_at hoL rfl ?_ (by rw [List.size_toArray, sizeLine_eq]; omega) (Nat.zero_le _))
 refine wpAny_bind (seqEpoch_at ho1 rfl ?_)
 refine wpAny_bind (wpAny_newTuple ?_ (by show vs.length <= _; rw [sizeLine_eq]; omega))
 refine wpAny_bind (wpAny_newList ?_ (Nat.zero_le _))
 refine wpAny_holding ?_
 have kp5 : ∀ b o, s.heap.get? b = some o → (((h2.update (s.heap.objs.size + 1) (Obj.mapSeq fun _ => (#[] : Array Value))).push (seqObj "tuple" vs.toArray 0)).push (seqObj "list" #[] 0)).get? b = some o := fun b o q => by
  refine Heap.get?_push_of_some _ (Heap.get?_push_of_some _ ?_)
  rw [s1.2 b (Nat.ne_of_lt (Nat.lt_succ_of_lt (Heap.lt_size q)))]
  exact keep b o q
 have hlt2 : s.heap.objs.size + 1 < h2.objs.size := Heap.lt_size hoL
 have hkS : ((h2.update (s.heap.objs.size + 1) (Obj.mapSeq fun _ => (#[] : Array Value))).push (seqObj "tuple" vs.toArray 0)).objs.size = h2.objs.size + 1 := by rw [size_push', Heap.size_update]
 have fr : ∀ a, s.heap.objs.size <= a -> H a = none := fun a z => e0.hok.fresh z
 refine qc5_ (D := s.heap.objs.size + 1) (A := A.in1.in1) (outer := outer) (s := s) (H := H) (s5 := { s with heap := ((h2.update (s.heap.objs.size + 1) (Obj.mapSeq fun _ => (#[] : Array Value))).push (seqObj "tuple" vs.toArray 0)).push (seqObj "list" #[] 0) }) (kS := ((h2.update (s.heap.objs.size + 1) (Obj.mapSeq fun _ => (#[] : Array Value))).push (seqObj "tuple" vs.toArray 0)).objs.size) hr.in1.in1 (e0.after rfl Un.refl e0.hok e0.bare (Nat.le_refl _)) r nd hB h64 hf (Nat.le_succ _) (by have := hkS; omega) (Nat.ne_of_lt (by have := hkS; omega))
  ⟨rfl, e0.bare, Un.kept kp5, e0.hok.kept kp5, fun _ _ z => z, Heap.get?_push_of_some _ (Heap.get?_push_of_some _ ho1), fr _ (by omega), Heap.get?_push_size _ rfl, fr _ (by rw [hkS]; omega), trivial⟩ ?_
 intro s' H' ms os bare un hok sm nD pm pw
 exact ⟨_, rfl, wpAny_pure ⟨_, rfl, .ref (s.heap.objs.size + 1), _, os, bare, un, hok, rfl, hq _ H' ms (fr _ (by omega)) nD sm pm pw⟩⟩
end
end L2
set_option Elab.async false
set_option linter.all false
set_option maxRecDepth 100000
set_option maxHeartbeats 1000000
namespace L2
open PySem PySem.Spec PyProof.Rows
def qei_ (ps : List Str) (vs : List V) (scope : Scope) (clos : List (Str × Addr)) (cv : List (Str × V)) (N : List Str) (σ : St) : Prop :=
 σ.length = N.length /\ ∀ (i : Nat) (x : Str) (v : V), N[i]? = some x -> σ[i]? = some (some v) -> (ps[i]? = some x /\ vs[i]? = some v) \/ (scope.names.lookup x = some .free /\ (∃ c, clos.lookup x = some c) /\ cv.lookup x = some v)
structure CloL (scope : Scope) (clos : List (Str × Addr)) (cv : List (Str × V)) (H : Hp) (h : Heap) : Prop where
 inj : ∀ x y c, clos.lookup x = some c -> clos.lookup y = some c -> x = y
 has : ∀ x, scope.names.lookup x = some .free -> ∃ c, clos.lookup x = some c
 val : ∀ x c, clos.lookup x = some c -> ∃ v u, cv.lookup x = some v /\ RelV v u /\ h.IsCell c (some u) /\ H c = none
section
variable {P : Program} {w : World} {K : PySem.W.Frag} {mg : Str -> Option Value} {base : Heap} {A : Around} {outer : List Env} {s : Shared} {H : Hp} {N ps : List Str} {scope : Scope} {fa : Addr} {q : Str} {cd : Value} {clos : List (Str × Addr)} {cv : List (Str × V)} {vs : List V} {us : List Value} {σ0 : St} {h' : Heap} {tk : Nat}
theorem qf2_ (S : CloScope N ps scope) (hd : A.handled = none) (e0 : Env0 P w K mg base A outer s H) (r : Vals vs us) (C : CloL scope clos cv H s.heap) (h0 : qei_ ps vs scope clos cv N σ0)
  (hn : h'.Ns s.heap.objs.size fun x => (ps.zip us).reverse.lookup x) (hs : Heap.SameBut s.heap.objs.size (s.heap.push { cls := .type "frame", data := .dict #[] }) h') :
  Inv (cxC P w K mg base N (envC q scope s.heap.objs.size fa cd clos) A outer s H) [] σ0 H { s with heap := h', toks := tk } := by
 have hk : ∀ b o, s.heap.get? b = some o -> h'.get? b = some o := fun b o e => by
  rw [hs.2 b (Nat.ne_of_lt (Heap.lt_size e))]
  exact Heap.get?_push_of_some _ e
 have noA : ∀ b : Addr, b ∉ ([] : List Addr) := fun b => List.not_mem_nil
 have ik : ∀ {c u}, s.heap.IsCell c (some u) -> h'.IsCell c (some u) := fun ⟨o, e1, e2⟩ => ⟨o, hk _ _ e1, e2⟩
 refine ⟨⟨e0.mod, S.kind, rfl, rfl, Nat.le_refl _, C.inj, fun x hx => ?_, (fun x c z => Bool.noConfusion z), fun _ => hd, Around.frames_deeper e0.frames, .inr ⟨rfl, rfl⟩, fun b z => absurd z (noA b), e0.bs, e0.bsz, fun b _ _ => noA b, fun b z => absurd z (noA b), e0.funs, e0.frf⟩,
  rfl, e0.bare, Un.kept hk, ⟨_, hn, fun i x v h1 h2 h3 => ?_⟩, fun x c e => ?_, ?_, fun x c e => ?_, fun p hp => absurd (show p ∈ ([] : List (Addr × Obj)) from hp) (by simp), e0.hok.kept hk, h0.1⟩
 ·rcases hx with hx | hx
  ·exact absurd rfl (S.nocell _ (PySem.mem_of_lookup (show scope.names.lookup x = some .cell from hx)))
  ·exact C.has x hx
 ·rcases h0.2 i x v h1 h2 with ⟨hp, hv⟩ | ⟨hf, ⟨c, hc⟩, hv⟩
  ·obtain ⟨u, hu, rv⟩ := r.get hv
   have ndP : ps.Nodup := by rw [<- S.pre]; exact S.nd.sublist (List.take_sublist _ _)
   exact ⟨u, rv, .inl ⟨S.par x (List.mem_of_getElem? hp), qcd_ ndP hp hu⟩⟩
  ·obtain ⟨v', u, hv', ru, z, _⟩ := C.val x c hc
   rw [hv] at hv'
   cases hv'
   exact ⟨u, ru, .inr ⟨.inr hf, c, hc, ik z⟩⟩
 ·obtain ⟨v', u, hv', ru, z, _⟩ := C.val x c e
  exact ⟨_, ik z⟩
 ·exact e0.hok.fresh (Nat.le_refl _)
 ·obtain ⟨v', u, hv', _, _, n⟩ := C.val x c e
  exact n
theorem qf3_ {k : Nat} {name : Str} {params : Arguments} {body : Expr} {pm ctv : Value} {c' : Addr} {Q : VK} {E : XK} {t : TE} (S : CloScope N ps scope) (hr : Room (k + 1) A) (e0 : Env0 P w K mg base A outer s H) (r : Vals vs us)
  (hf : H fa = some (FunO fa (PySem.W.kla_fn name q params body scope clos pm (.ref c') ctv))) (hc : H c' = some (yn_ q c')) (hb : bindArgs (PySem.W.kla_fn name q params body scope clos pm (.ref c') ctv) ⟨us, []⟩ = pure (ps.zip us))
  (C : CloL scope clos cv H s.heap) (h0 : qei_ ps vs scope clos cv N σ0)
  (ht : PE (cxC P w K mg base N (envC q scope s.heap.objs.size fa (.ref c') clos) A outer s H) body t) (hq : t σ0 H Q) :
  codeAny (model P w) A (.call (.ref fa) ⟨us, []⟩) (CR CX0 outer P w H s Q E) s := by
 have lim : s.heap.NoLimit := e0.mod.nolimit.keeps fun b o e => (e0.bs b o e).1
 have ho : s.heap.get? fa = some { cls := .type "function", data := .func (PySem.W.kla_fn name q params body scope clos pm (.ref c') ctv) } := (e0.hok fa _ hf).1
 have hcr : s.heap.CodeRec (.ref c') q := (e0.hok c' _ hc).1
 refine PySem.W.kla_callFunE hr.depth ho rfl S.co S.gen rfl hcr ?_
 rw [hb]
 refine wpAny_pure ?_
 refine wpAny_newFunctionEnv S.nocell (fun x hx => S.par x.1 (List.of_mem_zip hx).1) (fun h' hn hs => ?_) S.kind
 have hk : ∀ b o, s.heap.get? b = some o -> h'.get? b = some o := fun b o e => by
  rw [hs.2 b (Nat.ne_of_lt (Heap.lt_size e))]
  exact Heap.get?_push_of_some _ e
 refine ⟨lim.keeps hk, PySem.W.kla_codeExpr ?_⟩
 have I := qf2_ (q := q) (fa := fa) (cd := .ref c') (tk := s.toks + (ps.zip us).length) S hr.hd e0 r C h0 hn hs
 refine wpAny_mono (ht [] _ σ0 _ _ I hq) (fun u s' ⟨v, H', J, rv, q⟩ => ?_) fun e s' hs' => False.elim hs'
 exact ⟨v, H', J.os, J.bare, J.base, J.hok, rv, q⟩
end
end L2
set_option Elab.async false
set_option linter.all false
set_option maxRecDepth 100000
set_option maxHeartbeats 1000000
namespace L2
open PySem PySem.Spec PyProof.Rows
section
variable {X : Cx} {pins : List (Addr × Obj)} {σ : St} {H : Hp} {s : Shared}
theorem qf4_ {P : Addr} {pos : Pos} {q : Str} {mk : Value -> Value -> Value -> Value -> FuncData} {Q : VK} (h : tFn P pos q mk σ H Q) : tFn P pos q mk σ H fun v H2 => Q v H2 /\ ∃ fa c' doc pm ctv, v = .ref fa /\ H2 fa = some (FunO fa (mk doc pm (.ref c') ctv)) /\ H2 c' = some (yn_ q c') := by
 obtain ⟨ps, hP, tr, h⟩ := h
 refine ⟨ps, hP, tr, ?_⟩
 rcases h with ⟨hn, h⟩ | ⟨c', hs, hc, h⟩
 ·refine .inl ⟨hn, fun c' fa doc pm ctv n1 n2 ne => ⟨h c' fa doc pm ctv n1 n2 ne, fa, c', doc, pm, ctv, rfl, qd_, ?_⟩⟩
  rw [qe_ ne.symm]
  exact qd_
 ·refine .inr ⟨c', hs, hc, fun fa doc pm ctv n => ⟨h fa doc pm ctv n, fa, c', doc, pm, ctv, rfl, qd_, ?_⟩⟩
  rw [qe_ (qk_ hc n)]
  exact hc
def qej_ (K : PySem.W.Frag) (j : Nat) (tb : TE) (σ : St) (Q : VK) (x : V) (H2 : Hp) : Prop :=
 ∃ (l : Addr) (ns : List Nat) (ck : Nat -> Int) (B : Nat) (vy : V), x = .ref l /\ SqL K H2 l (jW_ ns) /\ ns.Nodup /\ (∀ n ∈ ns, n < B) /\ ns.length < 64 /\ σ[j]? = some (some vy) ∧
  (∀ (n : Nat) (H' : Hp), n ∈ ns -> Same H2 H' -> tb [some (.int ((n : Nat) : Int)), some vy] H' fun v H'' => ∃ t, v = .ref t /\ H'' t = some (keyV (ck n) n) /\ Same H' H'') ∧
  ∀ (D : Addr) (H' : Hp) (ms : List Nat), H2 D = none -> H' D = none -> Same H2 H' -> ms.Perm ns -> ms.Pairwise (klt ck) -> Q (.ref D) (upd H' D (.lst (jW_ ms)))
def qjc_ (K : PySem.W.Frag) (P : Addr) (lpos : Pos) (q : Str) (mk : Value -> Value -> Value -> Value -> FuncData) (j : Nat) (te tb : TE) : TE := fun σ H Q => te σ H fun x H1 => tFn P lpos q mk σ H1 fun _ H2 => qej_ K j tb σ Q x H2
theorem qf5_ {c P cy : Addr} {p y : Str} {j k : Nat} {e : Expr} {te tb : TE} {params : Arguments} {body : Expr} {scope : Scope} {lpos kp p0 pos : Pos} (T : TabK X c P) (hcl : closureFor scope X.env = pure [(y, cy)]) (hr : Room (k + 3) X.A) (hg : Gl X "sorted") (hm : X.mg "sorted" = none) (he : PE X e te)
  (S : CloScope [p, y] [p] scope) (hyf : scope.names.lookup y = some .free) (hfr : ∀ q ∈ scope.names, q.2 = .free -> q.1 = y) (hcy : X.env.cells.lookup y = some cy) (hky : X.env.kindOf y = some .cell) (hfn : X.fn y = true) (hj : X.N[j]? = some y)
  (hb : ∀ (pm cdv ctv u : Value), bindArgs (PySem.W.kla_fn (Str.ofString "<lambda>") (X.env.qual ++ Str.ofString "<lambda>") params body scope [(y, cy)] pm cdv ctv) ⟨[u], []⟩ = pure [(p, u)])
  (hbody : ∀ (A : Around) (outer : List Env) (s : Shared) (H : Hp) (fa c' : Addr), Room k (A.deeper (envC (X.env.qual ++ Str.ofString "<lambda>") scope s.heap.objs.size fa (.ref c') [(y, cy)])) → PE (cxC X.prog X.w X.K X.mg X.base [p, y] (envC (X.env.qual ++ Str.ofString "<lambda>") scope s.heap.objs.size fa (.ref c') [(y, cy)]) A outer s H) body tb)
  (h1 : defaultsOf params X.env = ([], []) := by rfl) (hs : starEach [e] X.env = (false, eval e X.env) :: starEach [] X.env := by rfl) (hs2 : backTo pos (starEach [e] X.env) = (false, eval e X.env) :: backTo pos (starEach [] X.env) := by rfl) (hs3 : (backTo pos (starEach [e] X.env)).any (·.1) = false := by rfl) :
  PE X (.Call (.Name "sorted" p0) [e] [⟨some "key", .Lambda params body scope lpos, kp⟩] pos) (qjc_ X.K P lpos (X.env.qual ++ Str.ofString "<lambda>") (fun _ pm cdv ctv => PySem.W.kla_fn (Str.ofString "<lambda>") (X.env.qual ++ Str.ofString "<lambda>") params body scope [(y, cy)] pm cdv ctv) j te tb) := by
 intro pins s σ H Q I h
 refine wpAny_Call_Name_kw (yr_ I hg hm PyProof.Rows.Boot.sorted ?_ (by decide) (by decide))
 refine callWith_kw ?_ hs2 hs3 rfl rfl
 refine thn ((qa_ he qf_ hs) pos pins s σ H (fun vs H1 => match vs with
  | [x] => tFn P lpos (X.env.qual ++ Str.ofString "<lambda>") (fun _ pm cdv ctv => PySem.W.kla_fn (Str.ofString "<lambda>") (X.env.qual ++ Str.ofString "<lambda>") params body scope [(y, cy)] pm cdv ctv) σ H1 (fun _ H2 => qej_ X.K j tb σ Q x H2)
  | _ => False) I h) ?_
 rintro us s1 ⟨vs, H1, I1, rv, q1⟩
 match vs, rv, q1 with
 | [x], rv, q1 =>
  obtain ⟨u, rfl, rx⟩ := yY_ rv
  refine kws_cons (PySem.W.kla_eval h1 (thn (qfw_ T hcl I1 (qf4_ q1)) fun f s2 ⟨vf, H2, I2, rf, q2, fa, c', _, pm, ctv, evf, hfa, hcc⟩ => ?_))
  subst evf
  obtain rfl : f = Value.ref fa := rf
  obtain ⟨l, ns, ck, B, vy, rfl, hsq, nd, hB, h64, hσ, hbd, hq⟩ := q2
  obtain rfl : u = Value.ref l := rx
  refine kws_nil ?_
  obtain ⟨its, ri, pl, _⟩ := I2.list hsq
  refine wpAny_mono (qeh_ (K := X.K) (mg := X.mg) (base := X.base) (ck := ck) (B := B) (ns := ns) (Q := Q) hr I2.env0 pl.isList ri nd hB h64 (fun s3 H3 n xv hn sm e0 un rxv => ?_) hq) (fun u s' ce => I2.after ce) fun _ _ z => z
  obtain ⟨m, hns, hl⟩ := I2.loc
  obtain ⟨uy, ruy, lk⟩ := hl j y vy hj hσ (.inr (.inl hky))
  have hce : s2.heap.IsCell cy (some uy) := by
   rcases lk with ⟨z, _⟩ | ⟨_, c2, ec, z⟩
   ·rw [hky] at z; cases z
   ·rw [hcy] at ec; cases ec; exact z
  obtain ⟨oc, ho, hd⟩ := id hce
  have ncy := I2.freeC y cy hcy
  have nf : cy ∉ frs X.stack := fun z => by
   rcases List.mem_cons.mp (I2.stkSub cy z) with e | hb2
   ·exact I2.cne y cy hcy e
   ·obtain ⟨_, o2, ho2, _⟩ := I2.ok.funs.mem hb2
    exact absurd (Heap.lt_size ho2) (Nat.not_lt.mpr (I2.ok.cab y cy hfn hcy))
  have ho3 := un.keep cy oc ho ncy nf List.not_mem_nil
  have ncy3 := un.free cy oc ho ncy List.not_mem_nil
  have L1 : ∀ x c, [(y, cy)].lookup x = some c -> x = y /\ c = cy := fun x c e => by
   rw [List.lookup_cons] at e
   split at e
   ·rename_i hxy
    cases e
    exact ⟨eq_of_beq hxy, rfl⟩
   ·cases e
  have L2' : [(y, cy)].lookup y = some cy := by rw [List.lookup_cons]; simp
  have L3 : [(y, vy)].lookup y = some vy := by rw [List.lookup_cons]; simp
  refine qf3_ (cv := [(y, vy)]) (vs := [.int ((n : Nat) : Int)]) (us := [xv]) (σ0 := [some (.int ((n : Nat) : Int)), some vy]) S (k := k) hr.in1.in1 e0 (.cons rxv .nil) (sm _ _ hfa) (sm _ _ hcc) (hb _ _ _ _) ⟨fun x z c e1 e2 => ((L1 x c e1).1).trans ((L1 z c e2).1).symm, fun x hx => ⟨cy, by have e : x = y := hfr (x, .free) (PySem.mem_of_lookup hx) rfl; rw [e]; exact L2'⟩, fun x c e => ?_⟩ ⟨rfl, fun i x v e1 e2 => ?_⟩ (hbody _ _ _ _ _ _ ((hr.in1.in1).deeper _)) (hbd n H3 hn sm)
  ·obtain ⟨rfl, rfl⟩ := L1 x c e
   exact ⟨vy, uy, L3, ruy, ⟨oc, ho3, hd⟩, ncy3⟩
  ·match i, e1, e2 with
   | 0, e1, e2 => exact .inl ⟨e1, by cases e2; rfl⟩
   | 1, e1, e2 =>
    cases e1
    cases e2
    exact .inr ⟨hyf, ⟨cy, L2'⟩, L3⟩
end
end L2
set_option Elab.async false
set_option linter.all false
set_option maxRecDepth 100000
namespace L2
open PySem PySem.Spec PyProof.Rows
structure FunT (K : PySem.W.Frag) (x qual : Str) (st : Stmt) (f : Addr) (fd : FuncData) (c t : Addr) : Prop where
 ex : ∃ (oc : Value) (od : Option Addr) (kV doc pm : Value) (an : Option Addr) (ct : Value) (osl : Array (Option Value)),
  fd = PySem.W.fnOf x qual (qi_ st) (qh_ st) (qb_ st) .none kV doc pm an (.ref c) ct /\ K.lookup f = some ⟨oc, od, .func fd, osl⟩ /\ PySem.W.codeIn K (.ref c) qual = true
 kp : PySem.W.keepIn K (.ref f) = true
 hd : PySem.W.codeHdIn K c t = true
section
variable {P : Program} {w : World} {K : PySem.W.Frag} {mg : Str -> Option Value} {base : Heap} {x qual : Str} {st : Stmt} {f c t : Addr} {fd : FuncData} {N ps : List Str} {k : Nat} {sp : Sp}
theorem FunT.fun (F : FunT K x qual st f fd c t) : Fun K x qual st f fd := by
 obtain ⟨oc, od, kV, doc, pm, an, ct, osl, e, lk, hcd⟩ := F.ex
 exact ⟨⟨oc, od, kV, doc, pm, an, _, ct, osl, e, lk, hcd⟩, F.kp⟩
theorem FunT.ok (F : FunT K x qual st f fd c t) (S : FnScope N ps (qb_ st)) (len : ∀ vs H Q E, sp vs H Q E -> vs.length = ps.length)
  (hbody : ∀ (A : Around) (outer : List Env) (s : Shared) (H : Hp) (vs : List V) (Q : VK) (E : XK), Room k (A.deeper (envOfC qual (qb_ st) s.heap.objs.size f (.ref c))) -> sp vs H Q E →
   ∃ t, PSs (cxOf CX0 P w K mg base N qual (qb_ st) f (.ref c) A outer s H E).nox (qh_ st) t /\ t { nx := fun _ H' => Q .non H', rt := Q } (start N vs) H) : FnOk P w K mg base CX0 (k + 1) f fd ps sp := by
 obtain ⟨oc, od, kV, doc, pm, an, ct, osl, rfl, lk, hcd⟩ := F.ex
 refine qg1_ lk hcd S len fun A outer s H vs Q E hr hsp => ?_
 obtain ⟨t, h, q⟩ := hbody A outer s H vs Q E hr hsp
 exact ⟨t, h.nox, q⟩
theorem qcg_ {oc : Value} {od an : Option Addr} {osl : Array (Option Value)} {kV doc pm ct : Value} (l : K.lookup f = some ⟨oc, od, .func (PySem.W.fnOf x qual (qi_ st) (qh_ st) (qb_ st) .none kV doc pm an (.ref c) ct), osl⟩)
  (hc : PySem.W.codeIn K (.ref c) qual = true) (hk : PySem.W.keepIn K (.ref f) = true) (hd : PySem.W.codeHdIn K c t = true) : FunT K x qual st f (PySem.W.fnOf x qual (qi_ st) (qh_ st) (qb_ st) .none kV doc pm an (.ref c) ct) c t := ⟨⟨oc, od, kV, doc, pm, an, ct, osl, rfl, l, hc⟩, hk, hd⟩
theorem FunT.tab {A : Around} {outer : List Env} {s : Shared} {H : Hp} {E : XK} {sc : Scope} (F : FunT K x qual st f fd c t) (hb : base.BuiltinsAt mg t) (ne : mainGlobals ≠ t) : TabK (cxOf CX0 P w K mg base N qual sc f (.ref c) A outer s H E).nox c t := ⟨rfl, F.hd, hb, ne⟩
end
end L2
namespace My
open PySem L2 PyProof.Rows
set_option maxRecDepth 100000
set_option maxHeartbeats 1000000
def top (i : Nat) : Stmt := PySem.Challenge.pw_spareplank_k42_whole_least_price_of_a_re.main.body.getD i (.Pass ⟨0, 0, 0, 0⟩)
abbrev ji_ : Stmt := qG_ (top 35) 0
abbrev qC_ : Stmt := qG_ (top 35) 1
abbrev q0_ : Stmt := qG_ (top 35) 2
abbrev q7_ : Stmt := qG_ (top 35) 3
abbrev jj_ : Stmt := qG_ (top 35) 4
abbrev q8_ : Stmt := qG_ (top 35) 5
abbrev yw_ : Stmt := top 17
abbrev q9_ : Stmt := top 18
abbrev jk_ : Stmt := top 19
abbrev jl_ : Stmt := top 20
abbrev jI_ : Stmt := top 21
abbrev jJ_ : Stmt := top 22
abbrev jK_ : Stmt := top 23
abbrev ju_ : Stmt := top 24
abbrev ja_ : Stmt := qG_ (top 15) 0
abbrev qM_ : Stmt := qG_ (top 15) 2
abbrev qQ_ : Stmt := qG_ (top 15) 3
abbrev qR_ : Stmt := qG_ (top 15) 5
abbrev qS_ : Stmt := qG_ (top 15) 6
abbrev qT_ : Stmt := top 28
abbrev qU_ : Stmt := top 29
abbrev jb_ : Stmt := top 30
abbrev jv_ : Stmt := qG_ (top 31) 0
abbrev jw_ : Stmt := qG_ (top 31) 5
abbrev qJ_ : Stmt := qG_ (top 31) 12
abbrev jm_ : Stmt := qG_ (top 31) 6
abbrev qN_ : Stmt := qG_ (top 31) 8
abbrev qV_ : Stmt := qG_ (top 31) 7
abbrev jx_ : Stmt := top 4
abbrev jc_ : Stmt := qG_ (top 5) 0
abbrev jn_ : Stmt := qG_ (top 5) 1
abbrev jd_ : Stmt := qG_ (top 5) 2
abbrev qI_ : Stmt := qG_ (top 5) 3
abbrev q1_ : Stmt := qG_ (top 5) 4
abbrev q2_ : Stmt := qG_ (top 5) 5
abbrev qK_ : Stmt := qG_ (top 5) 7
abbrev q3_ : Stmt := qG_ (top 5) 9
abbrev qW_ : Stmt := qG_ (top 5) 10
abbrev qL_ : Stmt := qG_ (top 5) 11
abbrev jy_ : Stmt := top 2
abbrev yx_ : Stmt := top 37
abbrev yy_ : Stmt := top 38
abbrev ye_ : Stmt := top 39
abbrev jX_ : Stmt := top 40
abbrev yz_ : Stmt := top 41
abbrev yA_ : Stmt := top 42
abbrev yf_ : Stmt := top 43
abbrev yg_ : Stmt := top 44
abbrev yh_ : Stmt := top 45
abbrev j0_ : Stmt := top 46
abbrev yB_ : Stmt := top 47
abbrev yi_ : Stmt := top 48
abbrev yj_ : Stmt := top 49
abbrev yZ_ : Stmt := top 50
theorem sc_Field_init : FnScope ["self", "rule", "after"] ["self", "rule"] (qb_ ji_) := ⟨rfl, rfl, rfl, by decide +kernel, rfl, by decide +kernel, by decide +kernel⟩
theorem sc_Field_doublings_of_one : FnScope ["self", "symbol", "after"] ["self"] (qb_ qC_) := ⟨rfl, rfl, rfl, by decide +kernel, rfl, by decide +kernel, by decide +kernel⟩
theorem sc_Field_double : FnScope ["self", "one", "twice"] ["self", "one"] (qb_ q0_) := ⟨rfl, rfl, rfl, by decide +kernel, rfl, by decide +kernel, by decide +kernel⟩
theorem sc_Field_times : FnScope ["self", "one", "other", "product", "doubled", "digits"] ["self", "one", "other"] (qb_ q7_) := ⟨rfl, rfl, rfl, by decide +kernel, rfl, by decide +kernel, by decide +kernel⟩
theorem uS_ : FnScope ["self", "one"] ["self", "one"] (qb_ jj_) := ⟨rfl, rfl, rfl, by decide +kernel, rfl, by decide +kernel, by decide +kernel⟩
theorem sc_Field_power : FnScope ["self", "one", "many", "product", "square", "digits"] ["self", "one", "many"] (qb_ q8_) := ⟨rfl, rfl, rfl, by decide +kernel, rfl, by decide +kernel, by decide +kernel⟩
theorem sc_unit : FnScope ["many", "at", "some"] ["many", "at"] (qb_ yw_) := ⟨rfl, rfl, rfl, by decide +kernel, rfl, by decide +kernel, by decide +kernel⟩
theorem ub_ : FnScope ["field", "factor", "line"] ["field", "factor", "line"] (qb_ q9_) := ⟨rfl, rfl, rfl, by decide +kernel, rfl, by decide +kernel, by decide +kernel⟩
theorem uT_ : FnScope ["one", "other"] ["one", "other"] (qb_ jk_) := ⟨rfl, rfl, rfl, by decide +kernel, rfl, by decide +kernel, by decide +kernel⟩
theorem sc_first_with : FnScope ["lines", "start", "place", "at"] ["lines", "start", "place"] (qb_ jl_) := ⟨rfl, rfl, rfl, by decide +kernel, rfl, by decide +kernel, by decide +kernel⟩
theorem sc_swapped : FnScope ["lines", "one", "other", "some"] ["lines", "one", "other"] (qb_ jI_) := ⟨rfl, rfl, rfl, by decide +kernel, rfl, by decide +kernel, by decide +kernel⟩
theorem sc_cleared : FnScope ["field", "lines", "at", "place", "head", "some", "number", "line"] ["field", "lines", "at", "place"] (qb_ jJ_) := ⟨rfl, rfl, rfl, by decide +kernel, rfl, by decide +kernel, by decide +kernel⟩
theorem sc_told_of : FnScope ["field", "lines", "known", "place", "some", "heads", "other", "found", "by"] ["field", "lines", "known", "place"] (qb_ jK_) := ⟨rfl, rfl, rfl, by decide +kernel, rfl, by decide +kernel, by decide +kernel⟩
theorem sc_free_make : FnScope ["lines", "heads", "many", "place", "make", "head", "line"] ["lines", "heads", "many", "place"] (qb_ ju_) := ⟨rfl, rfl, rfl, by decide +kernel, rfl, by decide +kernel, by decide +kernel⟩
theorem sc_Blocks_init : FnScope ["self", "field", "many", "step"] ["self", "field", "many"] (qb_ ja_) := ⟨rfl, rfl, rfl, by decide +kernel, rfl, by decide +kernel, by decide +kernel⟩
theorem sc_Blocks_symbols : FnScope ["self", "block", "base", "some", "rest", "at"] ["self", "block"] (qb_ qM_) := ⟨rfl, rfl, rfl, by decide +kernel, rfl, by decide +kernel, by decide +kernel⟩
theorem sc_Blocks_joined : FnScope ["self", "some", "base", "block", "symbol"] ["self", "some"] (qb_ qQ_) := ⟨rfl, rfl, rfl, by decide +kernel, rfl, by decide +kernel, by decide +kernel⟩
theorem vo_ : FnScope ["self", "factor", "block"] ["self", "factor", "block"] (qb_ qR_) := ⟨rfl, rfl, rfl, by decide +kernel, rfl, by decide +kernel, by decide +kernel⟩
theorem sc_Blocks_summed : FnScope ["self", "factors", "some", "total", "factor", "block"] ["self", "factors", "some"] (qb_ qS_) := ⟨rfl, rfl, rfl, by decide +kernel, rfl, by decide +kernel, by decide +kernel⟩
theorem sc_check_lengths : FnScope ["weights", "data", "some"] ["weights"] (qb_ qT_) := ⟨rfl, rfl, rfl, by decide +kernel, rfl, by decide +kernel, by decide +kernel⟩
theorem sc_check_weights : FnScope ["field", "weights", "some", "weight", "role"] ["field", "weights"] (qb_ qU_) := ⟨rfl, rfl, rfl, by decide +kernel, rfl, by decide +kernel, by decide +kernel⟩
theorem sc_equation_of : FnScope ["weights", "total", "line", "other"] ["weights", "total"] (qb_ jb_) := ⟨rfl, rfl, rfl, by decide +kernel, rfl, by decide +kernel, by decide +kernel⟩
theorem qat_ : FnScope ["self", "blocks", "weights"] ["self", "blocks", "weights"] (qb_ jv_) := ⟨rfl, rfl, rfl, by decide +kernel, rfl, by decide +kernel, by decide +kernel⟩
theorem qau_ : FnScope ["self", "known", "role"] ["self", "known", "role"] (qb_ jw_) := ⟨rfl, rfl, rfl, by decide +kernel, rfl, by decide +kernel, by decide +kernel⟩
theorem zL_ : FnScope ["self", "role"] ["self", "role"] (qb_ qJ_) := ⟨rfl, rfl, rfl, by decide +kernel, rfl, by decide +kernel, by decide +kernel⟩
theorem uU_ : FnScope ["self", "known", "role"] ["self", "known", "role"] (qb_ jm_) := ⟨rfl, rfl, rfl, by decide +kernel, rfl, by decide +kernel, by decide +kernel⟩
theorem sc_Code_summed_by : FnScope ["self", "by", "row", "line", "factor", "equation", "told"] ["self", "by", "row"] (qb_ qN_) := ⟨rfl, rfl, rfl, by decide +kernel, rfl, by decide +kernel, by decide +kernel⟩
theorem sc_Code_reckoned : FnScope ["self", "row", "role", "told"] ["self", "row", "role"] (qb_ qV_) := ⟨rfl, rfl, rfl, by decide +kernel, rfl, by decide +kernel, by decide +kernel⟩
theorem sc_fixes_all : FnScope ["code", "known", "some", "role"] ["code", "known", "some"] (qb_ jx_) := ⟨rfl, rfl, rfl, by decide +kernel, rfl, by decide +kernel, by decide +kernel⟩
theorem uc_ : FnScope ["self", "code", "ask", "costs"] ["self", "code", "ask", "costs"] (qb_ jc_) := ⟨rfl, rfl, rfl, by decide +kernel, rfl, by decide +kernel, by decide +kernel⟩
theorem uV_ : FnScope ["self", "role"] ["self", "role"] (qb_ jn_) := ⟨rfl, rfl, rfl, by decide +kernel, rfl, by decide +kernel, by decide +kernel⟩
theorem ud_ : FnScope ["self", "role"] ["self", "role"] (qb_ jd_) := ⟨rfl, rfl, rfl, by decide +kernel, rfl, by decide +kernel, by decide +kernel⟩
theorem sc_Asking_take_along : FnScope ["self", "some", "role"] ["self", "some"] (qb_ qI_) := ⟨rfl, rfl, rfl, by decide +kernel, rfl, by decide +kernel, by decide +kernel⟩
theorem vQ_ : FnScope ["self"] ["self"] (qb_ q1_) := ⟨rfl, rfl, rfl, by decide +kernel, rfl, by decide +kernel, by decide +kernel⟩
theorem vR_ : FnScope ["self", "some"] ["self", "some"] (qb_ q2_) := ⟨rfl, rfl, rfl, by decide +kernel, rfl, by decide +kernel, by decide +kernel⟩
theorem zM_ : FnScope ["self", "some"] ["self", "some"] (qb_ qK_) := ⟨rfl, rfl, rfl, by decide +kernel, rfl, by decide +kernel, by decide +kernel⟩
theorem sc_Asking_order : FnScope ["self", "free"] ["self"] (qb_ q3_) := ⟨rfl, rfl, rfl, by decide +kernel, rfl, by decide +kernel, by decide +kernel⟩
theorem sc_Asking_detour : FnScope ["self", "some", "order", "known", "way", "role"] ["self", "some"] (qb_ qW_) := ⟨rfl, rfl, rfl, by decide +kernel, rfl, by decide +kernel, by decide +kernel⟩
theorem zN_ : FnScope ["self", "role"] ["self", "role"] (qb_ qL_) := ⟨rfl, rfl, rfl, by decide +kernel, rfl, by decide +kernel, by decide +kernel⟩
theorem sc_read_role : FnScope ["asking", "role", "way"] ["asking", "role"] (qb_ jy_) := ⟨rfl, rfl, rfl, by decide +kernel, rfl, by decide +kernel, by decide +kernel⟩
theorem sc_cell : FnScope ["_law_script", "_law_k", "_law_number"] ["_law_script", "_law_k"] (qb_ yx_) := ⟨rfl, rfl, rfl, by decide +kernel, rfl, by decide +kernel, by decide +kernel⟩
theorem qhq_ : FnScope ["_law_cell_here"] ["_law_cell_here"] (qb_ yy_) := ⟨rfl, rfl, rfl, by decide +kernel, rfl, by decide +kernel, by decide +kernel⟩
theorem sc_times : FnScope ["_law_one", "_law_other", "_law_rule_here", "_law_found"] ["_law_one", "_law_other", "_law_rule_here"] (qb_ ye_) := ⟨rfl, rfl, rfl, by decide +kernel, rfl, by decide +kernel, by decide +kernel⟩
theorem sc_scaled : FnScope ["_law_factor", "_law_block", "_law_rule_here", "_law_size", "_law_found", "_law_place"] ["_law_factor", "_law_block", "_law_rule_here"] (qb_ jX_) := ⟨rfl, rfl, rfl, by decide +kernel, rfl, by decide +kernel, by decide +kernel⟩
theorem sc_make : FnScope ["_law_some_here", "_law_weights", "_law_rule_here", "_law_made", "_law_line", "_law_total", "_law_factor", "_law_block"] ["_law_some_here", "_law_weights", "_law_rule_here"] (qb_ yz_) := ⟨rfl, rfl, rfl, by decide +kernel, rfl, by decide +kernel, by decide +kernel⟩
theorem sc_some : FnScope ["_law_script", "_law_start", "_law_many", "_law_limit", "_law_some_here", "_law_k", "_law_number"] ["_law_script", "_law_start", "_law_many", "_law_limit"] (qb_ yA_) := ⟨rfl, rfl, rfl, by decide +kernel, rfl, by decide +kernel, by decide +kernel⟩
theorem sc_plain : FnScope ["_law_data", "_law_sums", "_law_weights"] ["_law_data", "_law_sums"] (qb_ yf_) := ⟨rfl, rfl, rfl, by decide +kernel, rfl, by decide +kernel, by decide +kernel⟩
theorem sc_sizes : FnScope ["_law_cell_here", "_law_sums"] ["_law_cell_here"] (qb_ yg_) := ⟨rfl, rfl, rfl, by decide +kernel, rfl, by decide +kernel, by decide +kernel⟩
theorem sc_costs : FnScope ["_law_cell_here", "_law_roles", "_law_left", "_law_costs_here", "_law_k"] ["_law_cell_here", "_law_roles"] (qb_ yh_) := ⟨rfl, rfl, rfl, by decide +kernel, rfl, by decide +kernel, by decide +kernel⟩
theorem sc_asker : FnScope ["_law_row", "_law_seen", "_law_ask"] ["_law_row", "_law_seen"] (qb_ j0_) := ⟨rfl, rfl, rfl, by decide +kernel, rfl, by decide +kernel, by decide +kernel⟩
theorem sc_lost : FnScope ["_law_cell_here", "_law_roles", "_law_sums", "_law_costs_here", "_law_left", "_law_one", "_law_two", "_law_role"] ["_law_cell_here", "_law_roles", "_law_sums", "_law_costs_here"] (qb_ yB_) := ⟨rfl, rfl, rfl, by decide +kernel, rfl, by decide +kernel, by decide +kernel⟩
theorem sc_least : FnScope ["_law_costs_here", "_law_role", "_law_data", "_law_others", "_law_least_here"] ["_law_costs_here", "_law_role", "_law_data"] (qb_ yi_) := ⟨rfl, rfl, rfl, by decide +kernel, rfl, by decide +kernel, by decide +kernel⟩
theorem sc_scene : FnScope ["_law_code", "_law_make_here", "_law_costs_here", "_law_role", "_law_data", "_law_seen", "_law_asking", "_law_paid", "_law_other"] ["_law_code", "_law_make_here", "_law_costs_here", "_law_role", "_law_data"] (qb_ yj_) := ⟨rfl, rfl, rfl, by decide +kernel, rfl, by decide +kernel, by decide +kernel⟩
theorem sc_law : FnScope ["_law_script", "_law_data", "_law_sums", "_law_rule_here", "_law_weights", "_law_make_here", "_law_code", "_law_roles", "_law_at", "_law_costs_here", "_law_other"] ["_law_script"] (qb_ yZ_) := ⟨rfl, rfl, rfl, by decide +kernel, rfl, by decide +kernel, by decide +kernel⟩
structure Adr where
 C_Field : Addr
 C_Blocks : Addr
 C_Code : Addr
 C_Asking : Addr
 f_Field_init : Addr
 d_Field_init : FuncData
 f_Field_doublings_of_one : Addr
 d_Field_doublings_of_one : FuncData
 f_Field_double : Addr
 d_Field_double : FuncData
 f_Field_times : Addr
 d_Field_times : FuncData
 f_Field_back : Addr
 d_Field_back : FuncData
 f_Field_power : Addr
 d_Field_power : FuncData
 f_unit : Addr
 d_unit : FuncData
 f_scaled_line : Addr
 d_scaled_line : FuncData
 f_sum_of_two : Addr
 d_sum_of_two : FuncData
 f_first_with : Addr
 d_first_with : FuncData
 f_swapped : Addr
 d_swapped : FuncData
 f_cleared : Addr
 d_cleared : FuncData
 f_told_of : Addr
 d_told_of : FuncData
 f_free_make : Addr
 d_free_make : FuncData
 f_Blocks_init : Addr
 d_Blocks_init : FuncData
 f_Blocks_symbols : Addr
 d_Blocks_symbols : FuncData
 f_Blocks_joined : Addr
 d_Blocks_joined : FuncData
 f_Blocks_scaled : Addr
 d_Blocks_scaled : FuncData
 f_Blocks_summed : Addr
 d_Blocks_summed : FuncData
 f_check_lengths : Addr
 d_check_lengths : FuncData
 f_check_weights : Addr
 d_check_weights : FuncData
 f_equation_of : Addr
 d_equation_of : FuncData
 f_Code_init : Addr
 d_Code_init : FuncData
 f_Code_told : Addr
 d_Code_told : FuncData
 f_Code_check_role : Addr
 d_Code_check_role : FuncData
 f_Code_fixes : Addr
 d_Code_fixes : FuncData
 f_Code_summed_by : Addr
 d_Code_summed_by : FuncData
 f_Code_reckoned : Addr
 d_Code_reckoned : FuncData
 f_fixes_all : Addr
 d_fixes_all : FuncData
 f_Asking_init : Addr
 d_Asking_init : FuncData
 f_Asking_may : Addr
 d_Asking_may : FuncData
 f_Asking_take : Addr
 d_Asking_take : FuncData
 f_Asking_take_along : Addr
 d_Asking_take_along : FuncData
 f_Asking_known : Addr
 d_Asking_known : FuncData
 f_Asking_fixes : Addr
 d_Asking_fixes : FuncData
 f_Asking_cost_sum : Addr
 d_Asking_cost_sum : FuncData
 f_Asking_order : Addr
 d_Asking_order : FuncData
 f_Asking_detour : Addr
 d_Asking_detour : FuncData
 f_Asking_block_of : Addr
 d_Asking_block_of : FuncData
 f_read_role : Addr
 d_read_role : FuncData
 f_cell : Addr
 d_cell : FuncData
 f_rule : Addr
 d_rule : FuncData
 f_times : Addr
 d_times : FuncData
 f_scaled : Addr
 d_scaled : FuncData
 f_make : Addr
 d_make : FuncData
 f_some : Addr
 d_some : FuncData
 f_plain : Addr
 d_plain : FuncData
 f_sizes : Addr
 d_sizes : FuncData
 f_costs : Addr
 d_costs : FuncData
 f_asker : Addr
 d_asker : FuncData
 f_lost : Addr
 d_lost : FuncData
 f_least : Addr
 d_least : FuncData
 f_scene : Addr
 d_scene : FuncData
 f_law : Addr
 d_law : FuncData
 c_Asking_order : Addr
 t_Asking_order : Addr
 c_asker : Addr
 t_asker : Addr
 t_MOST_SUMS : Tok
 t_MOST_ROLES : Tok
 t_MOST_SYMBOLS : Tok
 t_GREATEST_RULE : Tok
 t_LEAST_RULE : Tok
structure Txt (K : W.Frag) (mg : Str -> Option Value) (a : Adr) : Prop where
 cl_Field : Cls K a.C_Field
 m_Field : mg "Field" = some (.ref a.C_Field)
 no_Field_rule : NoAttr K a.C_Field "rule"
 no_Field_width : NoAttr K a.C_Field "width"
 no_Field_last : NoAttr K a.C_Field "last"
 mk_Field : Mk K a.C_Field a.f_Field_init
 cl_Blocks : Cls K a.C_Blocks
 m_Blocks : mg "Blocks" = some (.ref a.C_Blocks)
 no_Blocks_field : NoAttr K a.C_Blocks "field"
 no_Blocks_many : NoAttr K a.C_Blocks "many"
 no_Blocks_limit : NoAttr K a.C_Blocks "limit"
 mk_Blocks : Mk K a.C_Blocks a.f_Blocks_init
 cl_Code : Cls K a.C_Code
 m_Code : mg "Code" = some (.ref a.C_Code)
 no_Code_blocks : NoAttr K a.C_Code "blocks"
 no_Code_sums : NoAttr K a.C_Code "sums"
 no_Code_data : NoAttr K a.C_Code "data"
 no_Code_roles : NoAttr K a.C_Code "roles"
 no_Code_lines : NoAttr K a.C_Code "lines"
 mk_Code : Mk K a.C_Code a.f_Code_init
 cl_Asking : Cls K a.C_Asking
 m_Asking : mg "Asking" = some (.ref a.C_Asking)
 no_Asking_code : NoAttr K a.C_Asking "code"
 no_Asking_ask : NoAttr K a.C_Asking "ask"
 no_Asking_costs : NoAttr K a.C_Asking "costs"
 no_Asking_row : NoAttr K a.C_Asking "row"
 no_Asking_asked : NoAttr K a.C_Asking "asked"
 mk_Asking : Mk K a.C_Asking a.f_Asking_init
 F_Field_init : Fun K "__init__" "Field.__init__" ji_ a.f_Field_init a.d_Field_init
 b_Field_init : Binds K a.d_Field_init ["self", "rule"] []
 k_Field_init : W.keepIn K (.ref a.f_Field_init) = true
 me_Field_init : Meth K a.C_Field "__init__" a.f_Field_init
 F_Field_doublings_of_one : Fun K "doublings_of_one" "Field.doublings_of_one" qC_ a.f_Field_doublings_of_one a.d_Field_doublings_of_one
 b_Field_doublings_of_one : Binds K a.d_Field_doublings_of_one ["self"] []
 k_Field_doublings_of_one : W.keepIn K (.ref a.f_Field_doublings_of_one) = true
 me_Field_doublings_of_one : Meth K a.C_Field "doublings_of_one" a.f_Field_doublings_of_one
 F_Field_double : Fun K "double" "Field.double" q0_ a.f_Field_double a.d_Field_double
 b_Field_double : Binds K a.d_Field_double ["self", "one"] []
 k_Field_double : W.keepIn K (.ref a.f_Field_double) = true
 me_Field_double : Meth K a.C_Field "double" a.f_Field_double
 F_Field_times : Fun K "times" "Field.times" q7_ a.f_Field_times a.d_Field_times
 b_Field_times : Binds K a.d_Field_times ["self", "one", "other"] []
 k_Field_times : W.keepIn K (.ref a.f_Field_times) = true
 me_Field_times : Meth K a.C_Field "times" a.f_Field_times
 F_Field_back : Fun K "back" "Field.back" jj_ a.f_Field_back a.d_Field_back
 b_Field_back : Binds K a.d_Field_back ["self", "one"] []
 k_Field_back : W.keepIn K (.ref a.f_Field_back) = true
 me_Field_back : Meth K a.C_Field "back" a.f_Field_back
 F_Field_power : Fun K "power" "Field.power" q8_ a.f_Field_power a.d_Field_power
 b_Field_power : Binds K a.d_Field_power ["self", "one", "many"] []
 k_Field_power : W.keepIn K (.ref a.f_Field_power) = true
 me_Field_power : Meth K a.C_Field "power" a.f_Field_power
 F_unit : Fun K "unit" "unit" yw_ a.f_unit a.d_unit
 b_unit : Binds K a.d_unit ["many", "at"] []
 k_unit : W.keepIn K (.ref a.f_unit) = true
 m_unit : mg "unit" = some (.ref a.f_unit)
 F_scaled_line : Fun K "scaled_line" "scaled_line" q9_ a.f_scaled_line a.d_scaled_line
 b_scaled_line : Binds K a.d_scaled_line ["field", "factor", "line"] []
 k_scaled_line : W.keepIn K (.ref a.f_scaled_line) = true
 m_scaled_line : mg "scaled_line" = some (.ref a.f_scaled_line)
 F_sum_of_two : Fun K "sum_of_two" "sum_of_two" jk_ a.f_sum_of_two a.d_sum_of_two
 b_sum_of_two : Binds K a.d_sum_of_two ["one", "other"] []
 k_sum_of_two : W.keepIn K (.ref a.f_sum_of_two) = true
 m_sum_of_two : mg "sum_of_two" = some (.ref a.f_sum_of_two)
 F_first_with : Fun K "first_with" "first_with" jl_ a.f_first_with a.d_first_with
 b_first_with : Binds K a.d_first_with ["lines", "start", "place"] []
 k_first_with : W.keepIn K (.ref a.f_first_with) = true
 m_first_with : mg "first_with" = some (.ref a.f_first_with)
 F_swapped : Fun K "swapped" "swapped" jI_ a.f_swapped a.d_swapped
 b_swapped : Binds K a.d_swapped ["lines", "one", "other"] []
 k_swapped : W.keepIn K (.ref a.f_swapped) = true
 m_swapped : mg "swapped" = some (.ref a.f_swapped)
 F_cleared : Fun K "cleared" "cleared" jJ_ a.f_cleared a.d_cleared
 b_cleared : Binds K a.d_cleared ["field", "lines", "at", "place"] []
 k_cleared : W.keepIn K (.ref a.f_cleared) = true
 m_cleared : mg "cleared" = some (.ref a.f_cleared)
 F_told_of : Fun K "told_of" "told_of" jK_ a.f_told_of a.d_told_of
 b_told_of : Binds K a.d_told_of ["field", "lines", "known", "place"] []
 k_told_of : W.keepIn K (.ref a.f_told_of) = true
 m_told_of : mg "told_of" = some (.ref a.f_told_of)
 F_free_make : Fun K "free_make" "free_make" ju_ a.f_free_make a.d_free_make
 b_free_make : Binds K a.d_free_make ["lines", "heads", "many", "place"] []
 k_free_make : W.keepIn K (.ref a.f_free_make) = true
 m_free_make : mg "free_make" = some (.ref a.f_free_make)
 F_Blocks_init : Fun K "__init__" "Blocks.__init__" ja_ a.f_Blocks_init a.d_Blocks_init
 b_Blocks_init : Binds K a.d_Blocks_init ["self", "field", "many"] []
 k_Blocks_init : W.keepIn K (.ref a.f_Blocks_init) = true
 me_Blocks_init : Meth K a.C_Blocks "__init__" a.f_Blocks_init
 F_Blocks_symbols : Fun K "symbols" "Blocks.symbols" qM_ a.f_Blocks_symbols a.d_Blocks_symbols
 b_Blocks_symbols : Binds K a.d_Blocks_symbols ["self", "block"] []
 k_Blocks_symbols : W.keepIn K (.ref a.f_Blocks_symbols) = true
 me_Blocks_symbols : Meth K a.C_Blocks "symbols" a.f_Blocks_symbols
 F_Blocks_joined : Fun K "joined" "Blocks.joined" qQ_ a.f_Blocks_joined a.d_Blocks_joined
 b_Blocks_joined : Binds K a.d_Blocks_joined ["self", "some"] []
 k_Blocks_joined : W.keepIn K (.ref a.f_Blocks_joined) = true
 me_Blocks_joined : Meth K a.C_Blocks "joined" a.f_Blocks_joined
 F_Blocks_scaled : Fun K "scaled" "Blocks.scaled" qR_ a.f_Blocks_scaled a.d_Blocks_scaled
 b_Blocks_scaled : Binds K a.d_Blocks_scaled ["self", "factor", "block"] []
 k_Blocks_scaled : W.keepIn K (.ref a.f_Blocks_scaled) = true
 me_Blocks_scaled : Meth K a.C_Blocks "scaled" a.f_Blocks_scaled
 F_Blocks_summed : Fun K "summed" "Blocks.summed" qS_ a.f_Blocks_summed a.d_Blocks_summed
 b_Blocks_summed : Binds K a.d_Blocks_summed ["self", "factors", "some"] []
 k_Blocks_summed : W.keepIn K (.ref a.f_Blocks_summed) = true
 me_Blocks_summed : Meth K a.C_Blocks "summed" a.f_Blocks_summed
 F_check_lengths : Fun K "check_lengths" "check_lengths" qT_ a.f_check_lengths a.d_check_lengths
 b_check_lengths : Binds K a.d_check_lengths ["weights"] []
 k_check_lengths : W.keepIn K (.ref a.f_check_lengths) = true
 m_check_lengths : mg "check_lengths" = some (.ref a.f_check_lengths)
 F_check_weights : Fun K "check_weights" "check_weights" qU_ a.f_check_weights a.d_check_weights
 b_check_weights : Binds K a.d_check_weights ["field", "weights"] []
 k_check_weights : W.keepIn K (.ref a.f_check_weights) = true
 m_check_weights : mg "check_weights" = some (.ref a.f_check_weights)
 F_equation_of : Fun K "equation_of" "equation_of" jb_ a.f_equation_of a.d_equation_of
 b_equation_of : Binds K a.d_equation_of ["weights", "total"] []
 k_equation_of : W.keepIn K (.ref a.f_equation_of) = true
 m_equation_of : mg "equation_of" = some (.ref a.f_equation_of)
 F_Code_init : Fun K "__init__" "Code.__init__" jv_ a.f_Code_init a.d_Code_init
 b_Code_init : Binds K a.d_Code_init ["self", "blocks", "weights"] []
 k_Code_init : W.keepIn K (.ref a.f_Code_init) = true
 me_Code_init : Meth K a.C_Code "__init__" a.f_Code_init
 F_Code_told : Fun K "told" "Code.told" jw_ a.f_Code_told a.d_Code_told
 b_Code_told : Binds K a.d_Code_told ["self", "known", "role"] []
 k_Code_told : W.keepIn K (.ref a.f_Code_told) = true
 me_Code_told : Meth K a.C_Code "told" a.f_Code_told
 F_Code_check_role : Fun K "check_role" "Code.check_role" qJ_ a.f_Code_check_role a.d_Code_check_role
 b_Code_check_role : Binds K a.d_Code_check_role ["self", "role"] []
 k_Code_check_role : W.keepIn K (.ref a.f_Code_check_role) = true
 me_Code_check_role : Meth K a.C_Code "check_role" a.f_Code_check_role
 F_Code_fixes : Fun K "fixes" "Code.fixes" jm_ a.f_Code_fixes a.d_Code_fixes
 b_Code_fixes : Binds K a.d_Code_fixes ["self", "known", "role"] []
 k_Code_fixes : W.keepIn K (.ref a.f_Code_fixes) = true
 me_Code_fixes : Meth K a.C_Code "fixes" a.f_Code_fixes
 F_Code_summed_by : Fun K "summed_by" "Code.summed_by" qN_ a.f_Code_summed_by a.d_Code_summed_by
 b_Code_summed_by : Binds K a.d_Code_summed_by ["self", "by", "row"] []
 k_Code_summed_by : W.keepIn K (.ref a.f_Code_summed_by) = true
 me_Code_summed_by : Meth K a.C_Code "summed_by" a.f_Code_summed_by
 F_Code_reckoned : Fun K "reckoned" "Code.reckoned" qV_ a.f_Code_reckoned a.d_Code_reckoned
 b_Code_reckoned : Binds K a.d_Code_reckoned ["self", "row", "role"] []
 k_Code_reckoned : W.keepIn K (.ref a.f_Code_reckoned) = true
 me_Code_reckoned : Meth K a.C_Code "reckoned" a.f_Code_reckoned
 F_fixes_all : Fun K "fixes_all" "fixes_all" jx_ a.f_fixes_all a.d_fixes_all
 b_fixes_all : Binds K a.d_fixes_all ["code", "known", "some"] []
 k_fixes_all : W.keepIn K (.ref a.f_fixes_all) = true
 m_fixes_all : mg "fixes_all" = some (.ref a.f_fixes_all)
 F_Asking_init : Fun K "__init__" "Asking.__init__" jc_ a.f_Asking_init a.d_Asking_init
 b_Asking_init : Binds K a.d_Asking_init ["self", "code", "ask", "costs"] []
 k_Asking_init : W.keepIn K (.ref a.f_Asking_init) = true
 me_Asking_init : Meth K a.C_Asking "__init__" a.f_Asking_init
 F_Asking_may : Fun K "may" "Asking.may" jn_ a.f_Asking_may a.d_Asking_may
 b_Asking_may : Binds K a.d_Asking_may ["self", "role"] []
 k_Asking_may : W.keepIn K (.ref a.f_Asking_may) = true
 me_Asking_may : Meth K a.C_Asking "may" a.f_Asking_may
 F_Asking_take : Fun K "take" "Asking.take" jd_ a.f_Asking_take a.d_Asking_take
 b_Asking_take : Binds K a.d_Asking_take ["self", "role"] []
 k_Asking_take : W.keepIn K (.ref a.f_Asking_take) = true
 me_Asking_take : Meth K a.C_Asking "take" a.f_Asking_take
 F_Asking_take_along : Fun K "take_along" "Asking.take_along" qI_ a.f_Asking_take_along a.d_Asking_take_along
 b_Asking_take_along : Binds K a.d_Asking_take_along ["self", "some"] []
 k_Asking_take_along : W.keepIn K (.ref a.f_Asking_take_along) = true
 me_Asking_take_along : Meth K a.C_Asking "take_along" a.f_Asking_take_along
 F_Asking_known : Fun K "known" "Asking.known" q1_ a.f_Asking_known a.d_Asking_known
 b_Asking_known : Binds K a.d_Asking_known ["self"] []
 k_Asking_known : W.keepIn K (.ref a.f_Asking_known) = true
 me_Asking_known : Meth K a.C_Asking "known" a.f_Asking_known
 F_Asking_fixes : Fun K "fixes" "Asking.fixes" q2_ a.f_Asking_fixes a.d_Asking_fixes
 b_Asking_fixes : Binds K a.d_Asking_fixes ["self", "some"] []
 k_Asking_fixes : W.keepIn K (.ref a.f_Asking_fixes) = true
 me_Asking_fixes : Meth K a.C_Asking "fixes" a.f_Asking_fixes
 F_Asking_cost_sum : Fun K "cost_sum" "Asking.cost_sum" qK_ a.f_Asking_cost_sum a.d_Asking_cost_sum
 b_Asking_cost_sum : Binds K a.d_Asking_cost_sum ["self", "some"] []
 k_Asking_cost_sum : W.keepIn K (.ref a.f_Asking_cost_sum) = true
 me_Asking_cost_sum : Meth K a.C_Asking "cost_sum" a.f_Asking_cost_sum
 F_Asking_order : FunT K "order" "Asking.order" q3_ a.f_Asking_order a.d_Asking_order a.c_Asking_order a.t_Asking_order
 b_Asking_order : Binds K a.d_Asking_order ["self"] []
 k_Asking_order : W.keepIn K (.ref a.f_Asking_order) = true
 me_Asking_order : Meth K a.C_Asking "order" a.f_Asking_order
 F_Asking_detour : Fun K "detour" "Asking.detour" qW_ a.f_Asking_detour a.d_Asking_detour
 b_Asking_detour : Binds K a.d_Asking_detour ["self", "some"] []
 k_Asking_detour : W.keepIn K (.ref a.f_Asking_detour) = true
 me_Asking_detour : Meth K a.C_Asking "detour" a.f_Asking_detour
 F_Asking_block_of : Fun K "block_of" "Asking.block_of" qL_ a.f_Asking_block_of a.d_Asking_block_of
 b_Asking_block_of : Binds K a.d_Asking_block_of ["self", "role"] []
 k_Asking_block_of : W.keepIn K (.ref a.f_Asking_block_of) = true
 me_Asking_block_of : Meth K a.C_Asking "block_of" a.f_Asking_block_of
 F_read_role : Fun K "read_role" "read_role" jy_ a.f_read_role a.d_read_role
 b_read_role : Binds K a.d_read_role ["asking", "role"] []
 k_read_role : W.keepIn K (.ref a.f_read_role) = true
 m_read_role : mg "read_role" = some (.ref a.f_read_role)
 F_cell : Fun K "_law_cell" "_law_cell" yx_ a.f_cell a.d_cell
 b_cell : Binds K a.d_cell ["_law_script", "_law_k"] []
 k_cell : W.keepIn K (.ref a.f_cell) = true
 m_cell : mg "_law_cell" = some (.ref a.f_cell)
 F_rule : Fun K "_law_rule" "_law_rule" yy_ a.f_rule a.d_rule
 b_rule : Binds K a.d_rule ["_law_cell_here"] []
 k_rule : W.keepIn K (.ref a.f_rule) = true
 m_rule : mg "_law_rule" = some (.ref a.f_rule)
 F_times : Fun K "_law_times" "_law_times" ye_ a.f_times a.d_times
 b_times : Binds K a.d_times ["_law_one", "_law_other", "_law_rule_here"] []
 k_times : W.keepIn K (.ref a.f_times) = true
 m_times : mg "_law_times" = some (.ref a.f_times)
 F_scaled : Fun K "_law_scaled" "_law_scaled" jX_ a.f_scaled a.d_scaled
 b_scaled : Binds K a.d_scaled ["_law_factor", "_law_block", "_law_rule_here"] []
 k_scaled : W.keepIn K (.ref a.f_scaled) = true
 m_scaled : mg "_law_scaled" = some (.ref a.f_scaled)
 F_make : Fun K "_law_make" "_law_make" yz_ a.f_make a.d_make
 b_make : Binds K a.d_make ["_law_some_here", "_law_weights", "_law_rule_here"] []
 k_make : W.keepIn K (.ref a.f_make) = true
 m_make : mg "_law_make" = some (.ref a.f_make)
 F_some : Fun K "_law_some" "_law_some" yA_ a.f_some a.d_some
 b_some : Binds K a.d_some ["_law_script", "_law_start", "_law_many", "_law_limit"] []
 k_some : W.keepIn K (.ref a.f_some) = true
 m_some : mg "_law_some" = some (.ref a.f_some)
 F_plain : Fun K "_law_plain" "_law_plain" yf_ a.f_plain a.d_plain
 b_plain : Binds K a.d_plain ["_law_data", "_law_sums"] []
 k_plain : W.keepIn K (.ref a.f_plain) = true
 m_plain : mg "_law_plain" = some (.ref a.f_plain)
 F_sizes : Fun K "_law_sizes" "_law_sizes" yg_ a.f_sizes a.d_sizes
 b_sizes : Binds K a.d_sizes ["_law_cell_here"] []
 k_sizes : W.keepIn K (.ref a.f_sizes) = true
 m_sizes : mg "_law_sizes" = some (.ref a.f_sizes)
 F_costs : Fun K "_law_costs" "_law_costs" yh_ a.f_costs a.d_costs
 b_costs : Binds K a.d_costs ["_law_cell_here", "_law_roles"] []
 k_costs : W.keepIn K (.ref a.f_costs) = true
 m_costs : mg "_law_costs" = some (.ref a.f_costs)
 F_asker : FunT K "_law_asker" "_law_asker" j0_ a.f_asker a.d_asker a.c_asker a.t_asker
 b_asker : Binds K a.d_asker ["_law_row", "_law_seen"] []
 k_asker : W.keepIn K (.ref a.f_asker) = true
 m_asker : mg "_law_asker" = some (.ref a.f_asker)
 F_lost : Fun K "_law_lost" "_law_lost" yB_ a.f_lost a.d_lost
 b_lost : Binds K a.d_lost ["_law_cell_here", "_law_roles", "_law_sums", "_law_costs_here"] []
 k_lost : W.keepIn K (.ref a.f_lost) = true
 m_lost : mg "_law_lost" = some (.ref a.f_lost)
 F_least : Fun K "_law_least" "_law_least" yi_ a.f_least a.d_least
 b_least : Binds K a.d_least ["_law_costs_here", "_law_role", "_law_data"] []
 k_least : W.keepIn K (.ref a.f_least) = true
 m_least : mg "_law_least" = some (.ref a.f_least)
 F_scene : Fun K "_law_scene" "_law_scene" yj_ a.f_scene a.d_scene
 b_scene : Binds K a.d_scene ["_law_code", "_law_make_here", "_law_costs_here", "_law_role", "_law_data"] []
 k_scene : W.keepIn K (.ref a.f_scene) = true
 m_scene : mg "_law_scene" = some (.ref a.f_scene)
 F_law : Fun K "law" "law" yZ_ a.f_law a.d_law
 b_law : Binds K a.d_law ["_law_script"] []
 k_law : W.keepIn K (.ref a.f_law) = true
 m_law : mg "law" = some (.ref a.f_law)
 n_zip : mg "zip" = none
 n_range : mg "range" = none
 n_len : mg "len" = none
 n_list : mg "list" = none
 n_enumerate : mg "enumerate" = none
 n_reversed : mg "reversed" = none
 n_any : mg "any" = none
 n_sum : mg "sum" = none
 n_sorted : mg "sorted" = none
 n_max : mg "max" = none
 n_min : mg "min" = none
 v_LEAST_RULE : mg "LEAST_RULE" = some (.int 16 a.t_LEAST_RULE)
 v_GREATEST_RULE : mg "GREATEST_RULE" = some (.int 511 a.t_GREATEST_RULE)
 v_MOST_SYMBOLS : mg "MOST_SYMBOLS" = some (.int 16 a.t_MOST_SYMBOLS)
 v_MOST_ROLES : mg "MOST_ROLES" = some (.int 8 a.t_MOST_ROLES)
 v_MOST_SUMS : mg "MOST_SUMS" = some (.int 2 a.t_MOST_SUMS)
structure Tb (base : Heap) (mg : Str -> Option Value) (a : Adr) : Prop where
 b_Asking_order : base.BuiltinsAt mg a.t_Asking_order
 n_Asking_order : mainGlobals ≠ a.t_Asking_order
 b_asker : base.BuiltinsAt mg a.t_asker
 n_asker : mainGlobals ≠ a.t_asker
 d_Asking_order_asker : a.t_Asking_order ≠ a.t_asker
theorem txt_mk {K : W.Frag} {h : Heap} {mg : Str -> Option Value} {z0 z1 z2 z3 z4 z5 z6 z7 z8 z9 z10 z11 z12 z13 z14 z15 z16 z17 z18 z19 z20 z21 z22 z23 z24 z25 z26 z27 z28 z29 z30 z31 z32 z33 z34 z35 z36 z37 z38 z39 z40 z41 z42 z43 z44 z45 z46 z47 z48 z49 z50 z51 z52 z53 z54 z55 z56 z57 : Addr} (X : K.In h) (G : h.Ns mainGlobals mg)
  {z58 z59 z60 z61 z62 : Tok} {z63 z64 : Option Addr} {z65 : Array (Option Value)} {z66 z67 z68 z69 z70 z71 : Value}
  {z72 z73 : Option Addr} {z74 : Array (Option Value)} {z75 z76 z77 z78 z79 z80 : Value}
  {z81 z82 : Option Addr} {z83 : Array (Option Value)} {z84 z85 z86 z87 z88 z89 : Value}
  {z90 z91 : Option Addr} {z92 : Array (Option Value)} {z93 z94 z95 z96 z97 z98 : Value}
  {z99 z100 : Option Addr} {z101 : Array (Option Value)} {z102 z103 z104 z105 z106 z107 : Value}
  {z108 z109 : Option Addr} {z110 : Array (Option Value)} {z111 z112 z113 z114 z115 z116 : Value}
  {z117 z118 : Option Addr} {z119 : Array (Option Value)} {z120 z121 z122 z123 z124 z125 : Value}
  {z126 z127 : Option Addr} {z128 : Array (Option Value)} {z129 z130 z131 z132 z133 z134 : Value}
  {z135 z136 : Option Addr} {z137 : Array (Option Value)} {z138 z139 z140 z141 z142 z143 : Value}
  {z144 z145 : Option Addr} {z146 : Array (Option Value)} {z147 z148 z149 z150 z151 z152 : Value}
  {z153 z154 : Option Addr} {z155 : Array (Option Value)} {z156 z157 z158 z159 z160 z161 : Value}
  {z162 z163 : Option Addr} {z164 : Array (Option Value)} {z165 z166 z167 z168 z169 z170 : Value}
  {z171 z172 : Option Addr} {z173 : Array (Option Value)} {z174 z175 z176 z177 z178 z179 : Value}
  {z180 z181 : Option Addr} {z182 : Array (Option Value)} {z183 z184 z185 z186 z187 z188 : Value}
  {z189 z190 : Option Addr} {z191 : Array (Option Value)} {z192 z193 z194 z195 z196 z197 : Value}
  {z198 z199 : Option Addr} {z200 : Array (Option Value)} {z201 z202 z203 z204 z205 z206 : Value}
  {z207 z208 : Option Addr} {z209 : Array (Option Value)} {z210 z211 z212 z213 z214 z215 : Value}
  {z216 z217 : Option Addr} {z218 : Array (Option Value)} {z219 z220 z221 z222 z223 z224 : Value}
  {z225 z226 : Option Addr} {z227 : Array (Option Value)} {z228 z229 z230 z231 z232 z233 : Value}
  {z234 z235 : Option Addr} {z236 : Array (Option Value)} {z237 z238 z239 z240 z241 z242 : Value}
  {z243 z244 : Option Addr} {z245 : Array (Option Value)} {z246 z247 z248 z249 z250 z251 : Value}
  {z252 z253 : Option Addr} {z254 : Array (Option Value)} {z255 z256 z257 z258 z259 z260 : Value}
  {z261 z262 : Option Addr} {z263 : Array (Option Value)} {z264 z265 z266 z267 z268 z269 : Value}
  {z270 z271 : Option Addr} {z272 : Array (Option Value)} {z273 z274 z275 z276 z277 z278 : Value}
  {z279 z280 : Option Addr} {z281 : Array (Option Value)} {z282 z283 z284 z285 z286 z287 : Value}
  {z288 z289 : Option Addr} {z290 : Array (Option Value)} {z291 z292 z293 z294 z295 z296 : Value}
  {z297 z298 : Option Addr} {z299 : Array (Option Value)} {z300 z301 z302 z303 z304 z305 : Value}
  {z306 z307 : Option Addr} {z308 : Array (Option Value)} {z309 z310 z311 z312 z313 z314 : Value}
  {z315 z316 : Option Addr} {z317 : Array (Option Value)} {z318 z319 z320 z321 z322 z323 : Value}
  {z324 z325 : Option Addr} {z326 : Array (Option Value)} {z327 z328 z329 z330 z331 z332 : Value}
  {z333 z334 : Option Addr} {z335 : Array (Option Value)} {z336 z337 z338 z339 z340 z341 : Value}
  {z342 z343 : Option Addr} {z344 : Array (Option Value)} {z345 z346 z347 z348 z349 z350 : Value}
  {z351 z352 : Option Addr} {z353 : Array (Option Value)} {z354 z355 z356 z357 z358 z359 : Value}
  {z360 z361 : Option Addr} {z362 : Array (Option Value)} {z363 z364 z365 z366 z367 z368 : Value}
  {z369 z370 : Option Addr} {z371 : Array (Option Value)} {z372 z373 z374 z375 z376 z377 : Value}
  {z378 z379 : Option Addr} {z380 : Array (Option Value)} {z381 z382 z383 z384 z385 z386 : Value}
  {z387 z388 : Addr} {z389 : Option Addr} {z390 : Array Value} {z391 : Array (Option Value)}
  {z392 z393 : Option Addr} {z394 : Array (Option Value)} {z395 z396 z397 z398 z399 : Value}
  {z400 z401 : Option Addr} {z402 : Array (Option Value)} {z403 z404 z405 z406 z407 z408 : Value}
  {z409 z410 : Option Addr} {z411 : Array (Option Value)} {z412 z413 z414 z415 z416 z417 : Value}
  {z418 z419 : Option Addr} {z420 : Array (Option Value)} {z421 z422 z423 z424 z425 z426 : Value}
  {z427 z428 : Option Addr} {z429 : Array (Option Value)} {z430 z431 z432 z433 z434 z435 : Value}
  {z436 z437 : Option Addr} {z438 : Array (Option Value)} {z439 z440 z441 z442 z443 z444 : Value}
  {z445 z446 : Option Addr} {z447 : Array (Option Value)} {z448 z449 z450 z451 z452 z453 : Value}
  {z454 z455 : Option Addr} {z456 : Array (Option Value)} {z457 z458 z459 z460 z461 z462 : Value}
  {z463 z464 : Option Addr} {z465 : Array (Option Value)} {z466 z467 z468 z469 z470 z471 : Value}
  {z472 z473 : Option Addr} {z474 : Array (Option Value)} {z475 z476 z477 z478 z479 z480 : Value}
  {z481 z482 : Option Addr} {z483 : Array (Option Value)} {z484 z485 z486 z487 z488 z489 : Value}
  {z490 z491 : Option Addr} {z492 : Array (Option Value)} {z493 z494 z495 z496 z497 z498 : Value}
  {z499 z500 : Option Addr} {z501 : Array (Option Value)} {z502 z503 z504 z505 z506 z507 : Value}
  {z508 z509 : Addr} {z510 : Option Addr} {z511 : Array Value} {z512 : Array (Option Value)}
  {z513 z514 : Option Addr} {z515 : Array (Option Value)} {z516 z517 z518 z519 z520 : Value}
  {z521 z522 : Option Addr} {z523 : Array (Option Value)} {z524 z525 z526 z527 z528 z529 : Value}
  {z530 z531 : Option Addr} {z532 : Array (Option Value)} {z533 z534 z535 z536 z537 z538 : Value}
  {z539 z540 : Option Addr} {z541 : Array (Option Value)} {z542 z543 z544 z545 z546 z547 : Value}
  {z548 z549 : Option Addr} {z550 : Array (Option Value)} {z551 z552 z553 z554 z555 z556 : Value}
  {ts : List Addr}
  (z557 : W.nsIn K mainGlobals "Field" = some (some (.ref z0)))
  (z558 : W.plainGet K z0 Str.empty = true)
  (z559 : W.hasDictIn K z0 = true)
  (z560 : W.plainOver K z0 = true)
  (z561 : W.findIn K (.ref z0) "__setattr__" = some (some (.builtin "object.__setattr__")))
  (z562 : W.findIn K (.ref z0) "rule" = some none)
  (z563 : W.findIn K (.ref z0) "width" = some none)
  (z564 : W.findIn K (.ref z0) "last" = some none)
  (z565 : W.makesIn K z0 = true)
  (z566 : W.keepIn K (.ref z0) = true)
  (z567 : W.nsIn K mainGlobals "Blocks" = some (some (.ref z1)))
  (z568 : W.plainGet K z1 Str.empty = true)
  (z569 : W.hasDictIn K z1 = true)
  (z570 : W.plainOver K z1 = true)
  (z571 : W.findIn K (.ref z1) "__setattr__" = some (some (.builtin "object.__setattr__")))
  (z572 : W.findIn K (.ref z1) "field" = some none)
  (z573 : W.findIn K (.ref z1) "many" = some none)
  (z574 : W.findIn K (.ref z1) "limit" = some none)
  (z575 : W.makesIn K z1 = true)
  (z576 : W.keepIn K (.ref z1) = true)
  (z577 : W.nsIn K mainGlobals "Code" = some (some (.ref z2)))
  (z578 : W.plainGet K z2 Str.empty = true)
  (z579 : W.hasDictIn K z2 = true)
  (z580 : W.plainOver K z2 = true)
  (z581 : W.findIn K (.ref z2) "__setattr__" = some (some (.builtin "object.__setattr__")))
  (z582 : W.findIn K (.ref z2) "blocks" = some none)
  (z583 : W.findIn K (.ref z2) "sums" = some none)
  (z584 : W.findIn K (.ref z2) "data" = some none)
  (z585 : W.findIn K (.ref z2) "roles" = some none)
  (z586 : W.findIn K (.ref z2) "lines" = some none)
  (z587 : W.makesIn K z2 = true)
  (z588 : W.keepIn K (.ref z2) = true)
  (z589 : W.nsIn K mainGlobals "Asking" = some (some (.ref z3)))
  (z590 : W.plainGet K z3 Str.empty = true)
  (z591 : W.hasDictIn K z3 = true)
  (z592 : W.plainOver K z3 = true)
  (z593 : W.findIn K (.ref z3) "__setattr__" = some (some (.builtin "object.__setattr__")))
  (z594 : W.findIn K (.ref z3) "code" = some none)
  (z595 : W.findIn K (.ref z3) "ask" = some none)
  (z596 : W.findIn K (.ref z3) "costs" = some none)
  (z597 : W.findIn K (.ref z3) "row" = some none)
  (z598 : W.findIn K (.ref z3) "asked" = some none)
  (z599 : W.makesIn K z3 = true)
  (z600 : W.keepIn K (.ref z3) = true)
  (z601 : W.findIn K (.ref z0) "__init__" = some (some (.ref z4)))
  (z602 : W.isFn K (.ref z4) = true)
  (z603 : K.lookup z4 = some ⟨z66, z63, .func (W.fnOf "__init__" "Field.__init__" (qi_ ji_) (qh_ ji_) (qb_ ji_) .none z67 z68 z69 z64 z70 z71), z65⟩)
  (z604 : W.codeIn K z70 "Field.__init__" = true)
  (z605 : W.keepIn K (.ref z4) = true)
  (z606 : W.findIn K (.ref z0) "doublings_of_one" = some (some (.ref z5)))
  (z607 : W.isFn K (.ref z5) = true)
  (z608 : K.lookup z5 = some ⟨z75, z72, .func (W.fnOf "doublings_of_one" "Field.doublings_of_one" (qi_ qC_) (qh_ qC_) (qb_ qC_) .none z76 z77 z78 z73 z79 z80), z74⟩)
  (z609 : W.codeIn K z79 "Field.doublings_of_one" = true)
  (z610 : W.keepIn K (.ref z5) = true)
  (z611 : W.findIn K (.ref z0) "double" = some (some (.ref z6)))
  (z612 : W.isFn K (.ref z6) = true)
  (z613 : K.lookup z6 = some ⟨z84, z81, .func (W.fnOf "double" "Field.double" (qi_ q0_) (qh_ q0_) (qb_ q0_) .none z85 z86 z87 z82 z88 z89), z83⟩)
  (z614 : W.codeIn K z88 "Field.double" = true)
  (z615 : W.keepIn K (.ref z6) = true)
  (z616 : W.findIn K (.ref z0) "times" = some (some (.ref z7)))
  (z617 : W.isFn K (.ref z7) = true)
  (z618 : K.lookup z7 = some ⟨z93, z90, .func (W.fnOf "times" "Field.times" (qi_ q7_) (qh_ q7_) (qb_ q7_) .none z94 z95 z96 z91 z97 z98), z92⟩)
  (z619 : W.codeIn K z97 "Field.times" = true)
  (z620 : W.keepIn K (.ref z7) = true)
  (z621 : W.findIn K (.ref z0) "back" = some (some (.ref z8)))
  (z622 : W.isFn K (.ref z8) = true)
  (z623 : K.lookup z8 = some ⟨z102, z99, .func (W.fnOf "back" "Field.back" (qi_ jj_) (qh_ jj_) (qb_ jj_) .none z103 z104 z105 z100 z106 z107), z101⟩)
  (z624 : W.codeIn K z106 "Field.back" = true)
  (z625 : W.keepIn K (.ref z8) = true)
  (z626 : W.findIn K (.ref z0) "power" = some (some (.ref z9)))
  (z627 : W.isFn K (.ref z9) = true)
  (z628 : K.lookup z9 = some ⟨z111, z108, .func (W.fnOf "power" "Field.power" (qi_ q8_) (qh_ q8_) (qb_ q8_) .none z112 z113 z114 z109 z115 z116), z110⟩)
  (z629 : W.codeIn K z115 "Field.power" = true)
  (z630 : W.keepIn K (.ref z9) = true)
  (z631 : W.nsIn K mainGlobals "unit" = some (some (.ref z10)))
  (z632 : K.lookup z10 = some ⟨z120, z117, .func (W.fnOf "unit" "unit" (qi_ yw_) (qh_ yw_) (qb_ yw_) .none z121 z122 z123 z118 z124 z125), z119⟩)
  (z633 : W.codeIn K z124 "unit" = true)
  (z634 : W.keepIn K (.ref z10) = true)
  (z635 : W.nsIn K mainGlobals "scaled_line" = some (some (.ref z11)))
  (z636 : K.lookup z11 = some ⟨z129, z126, .func (W.fnOf "scaled_line" "scaled_line" (qi_ q9_) (qh_ q9_) (qb_ q9_) .none z130 z131 z132 z127 z133 z134), z128⟩)
  (z637 : W.codeIn K z133 "scaled_line" = true)
  (z638 : W.keepIn K (.ref z11) = true)
  (z639 : W.nsIn K mainGlobals "sum_of_two" = some (some (.ref z12)))
  (z640 : K.lookup z12 = some ⟨z138, z135, .func (W.fnOf "sum_of_two" "sum_of_two" (qi_ jk_) (qh_ jk_) (qb_ jk_) .none z139 z140 z141 z136 z142 z143), z137⟩)
  (z641 : W.codeIn K z142 "sum_of_two" = true)
  (z642 : W.keepIn K (.ref z12) = true)
  (z643 : W.nsIn K mainGlobals "first_with" = some (some (.ref z13)))
  (z644 : K.lookup z13 = some ⟨z147, z144, .func (W.fnOf "first_with" "first_with" (qi_ jl_) (qh_ jl_) (qb_ jl_) .none z148 z149 z150 z145 z151 z152), z146⟩)
  (z645 : W.codeIn K z151 "first_with" = true)
  (z646 : W.keepIn K (.ref z13) = true)
  (z647 : W.nsIn K mainGlobals "swapped" = some (some (.ref z14)))
  (z648 : K.lookup z14 = some ⟨z156, z153, .func (W.fnOf "swapped" "swapped" (qi_ jI_) (qh_ jI_) (qb_ jI_) .none z157 z158 z159 z154 z160 z161), z155⟩)
  (z649 : W.codeIn K z160 "swapped" = true)
  (z650 : W.keepIn K (.ref z14) = true)
  (z651 : W.nsIn K mainGlobals "cleared" = some (some (.ref z15)))
  (z652 : K.lookup z15 = some ⟨z165, z162, .func (W.fnOf "cleared" "cleared" (qi_ jJ_) (qh_ jJ_) (qb_ jJ_) .none z166 z167 z168 z163 z169 z170), z164⟩)
  (z653 : W.codeIn K z169 "cleared" = true)
  (z654 : W.keepIn K (.ref z15) = true)
  (z655 : W.nsIn K mainGlobals "told_of" = some (some (.ref z16)))
  (z656 : K.lookup z16 = some ⟨z174, z171, .func (W.fnOf "told_of" "told_of" (qi_ jK_) (qh_ jK_) (qb_ jK_) .none z175 z176 z177 z172 z178 z179), z173⟩)
  (z657 : W.codeIn K z178 "told_of" = true)
  (z658 : W.keepIn K (.ref z16) = true)
  (z659 : W.nsIn K mainGlobals "free_make" = some (some (.ref z17)))
  (z660 : K.lookup z17 = some ⟨z183, z180, .func (W.fnOf "free_make" "free_make" (qi_ ju_) (qh_ ju_) (qb_ ju_) .none z184 z185 z186 z181 z187 z188), z182⟩)
  (z661 : W.codeIn K z187 "free_make" = true)
  (z662 : W.keepIn K (.ref z17) = true)
  (z663 : W.findIn K (.ref z1) "__init__" = some (some (.ref z18)))
  (z664 : W.isFn K (.ref z18) = true)
  (z665 : K.lookup z18 = some ⟨z192, z189, .func (W.fnOf "__init__" "Blocks.__init__" (qi_ ja_) (qh_ ja_) (qb_ ja_) .none z193 z194 z195 z190 z196 z197), z191⟩)
  (z666 : W.codeIn K z196 "Blocks.__init__" = true)
  (z667 : W.keepIn K (.ref z18) = true)
  (z668 : W.findIn K (.ref z1) "symbols" = some (some (.ref z19)))
  (z669 : W.isFn K (.ref z19) = true)
  (z670 : K.lookup z19 = some ⟨z201, z198, .func (W.fnOf "symbols" "Blocks.symbols" (qi_ qM_) (qh_ qM_) (qb_ qM_) .none z202 z203 z204 z199 z205 z206), z200⟩)
  (z671 : W.codeIn K z205 "Blocks.symbols" = true)
  (z672 : W.keepIn K (.ref z19) = true)
  (z673 : W.findIn K (.ref z1) "joined" = some (some (.ref z20)))
  (z674 : W.isFn K (.ref z20) = true)
  (z675 : K.lookup z20 = some ⟨z210, z207, .func (W.fnOf "joined" "Blocks.joined" (qi_ qQ_) (qh_ qQ_) (qb_ qQ_) .none z211 z212 z213 z208 z214 z215), z209⟩)
  (z676 : W.codeIn K z214 "Blocks.joined" = true)
  (z677 : W.keepIn K (.ref z20) = true)
  (z678 : W.findIn K (.ref z1) "scaled" = some (some (.ref z21)))
  (z679 : W.isFn K (.ref z21) = true)
  (z680 : K.lookup z21 = some ⟨z219, z216, .func (W.fnOf "scaled" "Blocks.scaled" (qi_ qR_) (qh_ qR_) (qb_ qR_) .none z220 z221 z222 z217 z223 z224), z218⟩)
  (z681 : W.codeIn K z223 "Blocks.scaled" = true)
  (z682 : W.keepIn K (.ref z21) = true)
  (z683 : W.findIn K (.ref z1) "summed" = some (some (.ref z22)))
  (z684 : W.isFn K (.ref z22) = true)
  (z685 : K.lookup z22 = some ⟨z228, z225, .func (W.fnOf "summed" "Blocks.summed" (qi_ qS_) (qh_ qS_) (qb_ qS_) .none z229 z230 z231 z226 z232 z233), z227⟩)
  (z686 : W.codeIn K z232 "Blocks.summed" = true)
  (z687 : W.keepIn K (.ref z22) = true)
  (z688 : W.nsIn K mainGlobals "check_lengths" = some (some (.ref z23)))
  (z689 : K.lookup z23 = some ⟨z237, z234, .func (W.fnOf "check_lengths" "check_lengths" (qi_ qT_) (qh_ qT_) (qb_ qT_) .none z238 z239 z240 z235 z241 z242), z236⟩)
  (z690 : W.codeIn K z241 "check_lengths" = true)
  (z691 : W.keepIn K (.ref z23) = true)
  (z692 : W.nsIn K mainGlobals "check_weights" = some (some (.ref z24)))
  (z693 : K.lookup z24 = some ⟨z246, z243, .func (W.fnOf "check_weights" "check_weights" (qi_ qU_) (qh_ qU_) (qb_ qU_) .none z247 z248 z249 z244 z250 z251), z245⟩)
  (z694 : W.codeIn K z250 "check_weights" = true)
  (z695 : W.keepIn K (.ref z24) = true)
  (z696 : W.nsIn K mainGlobals "equation_of" = some (some (.ref z25)))
  (z697 : K.lookup z25 = some ⟨z255, z252, .func (W.fnOf "equation_of" "equation_of" (qi_ jb_) (qh_ jb_) (qb_ jb_) .none z256 z257 z258 z253 z259 z260), z254⟩)
  (z698 : W.codeIn K z259 "equation_of" = true)
  (z699 : W.keepIn K (.ref z25) = true)
  (z700 : W.findIn K (.ref z2) "__init__" = some (some (.ref z26)))
  (z701 : W.isFn K (.ref z26) = true)
  (z702 : K.lookup z26 = some ⟨z264, z261, .func (W.fnOf "__init__" "Code.__init__" (qi_ jv_) (qh_ jv_) (qb_ jv_) .none z265 z266 z267 z262 z268 z269), z263⟩)
  (z703 : W.codeIn K z268 "Code.__init__" = true)
  (z704 : W.keepIn K (.ref z26) = true)
  (z705 : W.findIn K (.ref z2) "told" = some (some (.ref z27)))
  (z706 : W.isFn K (.ref z27) = true)
  (z707 : K.lookup z27 = some ⟨z273, z270, .func (W.fnOf "told" "Code.told" (qi_ jw_) (qh_ jw_) (qb_ jw_) .none z274 z275 z276 z271 z277 z278), z272⟩)
  (z708 : W.codeIn K z277 "Code.told" = true)
  (z709 : W.keepIn K (.ref z27) = true)
  (z710 : W.findIn K (.ref z2) "check_role" = some (some (.ref z28)))
  (z711 : W.isFn K (.ref z28) = true)
  (z712 : K.lookup z28 = some ⟨z282, z279, .func (W.fnOf "check_role" "Code.check_role" (qi_ qJ_) (qh_ qJ_) (qb_ qJ_) .none z283 z284 z285 z280 z286 z287), z281⟩)
  (z713 : W.codeIn K z286 "Code.check_role" = true)
  (z714 : W.keepIn K (.ref z28) = true)
  (z715 : W.findIn K (.ref z2) "fixes" = some (some (.ref z29)))
  (z716 : W.isFn K (.ref z29) = true)
  (z717 : K.lookup z29 = some ⟨z291, z288, .func (W.fnOf "fixes" "Code.fixes" (qi_ jm_) (qh_ jm_) (qb_ jm_) .none z292 z293 z294 z289 z295 z296), z290⟩)
  (z718 : W.codeIn K z295 "Code.fixes" = true)
  (z719 : W.keepIn K (.ref z29) = true)
  (z720 : W.findIn K (.ref z2) "summed_by" = some (some (.ref z30)))
  (z721 : W.isFn K (.ref z30) = true)
  (z722 : K.lookup z30 = some ⟨z300, z297, .func (W.fnOf "summed_by" "Code.summed_by" (qi_ qN_) (qh_ qN_) (qb_ qN_) .none z301 z302 z303 z298 z304 z305), z299⟩)
  (z723 : W.codeIn K z304 "Code.summed_by" = true)
  (z724 : W.keepIn K (.ref z30) = true)
  (z725 : W.findIn K (.ref z2) "reckoned" = some (some (.ref z31)))
  (z726 : W.isFn K (.ref z31) = true)
  (z727 : K.lookup z31 = some ⟨z309, z306, .func (W.fnOf "reckoned" "Code.reckoned" (qi_ qV_) (qh_ qV_) (qb_ qV_) .none z310 z311 z312 z307 z313 z314), z308⟩)
  (z728 : W.codeIn K z313 "Code.reckoned" = true)
  (z729 : W.keepIn K (.ref z31) = true)
  (z730 : W.nsIn K mainGlobals "fixes_all" = some (some (.ref z32)))
  (z731 : K.lookup z32 = some ⟨z318, z315, .func (W.fnOf "fixes_all" "fixes_all" (qi_ jx_) (qh_ jx_) (qb_ jx_) .none z319 z320 z321 z316 z322 z323), z317⟩)
  (z732 : W.codeIn K z322 "fixes_all" = true)
  (z733 : W.keepIn K (.ref z32) = true)
  (z734 : W.findIn K (.ref z3) "__init__" = some (some (.ref z33)))
  (z735 : W.isFn K (.ref z33) = true)
  (z736 : K.lookup z33 = some ⟨z327, z324, .func (W.fnOf "__init__" "Asking.__init__" (qi_ jc_) (qh_ jc_) (qb_ jc_) .none z328 z329 z330 z325 z331 z332), z326⟩)
  (z737 : W.codeIn K z331 "Asking.__init__" = true)
  (z738 : W.keepIn K (.ref z33) = true)
  (z739 : W.findIn K (.ref z3) "may" = some (some (.ref z34)))
  (z740 : W.isFn K (.ref z34) = true)
  (z741 : K.lookup z34 = some ⟨z336, z333, .func (W.fnOf "may" "Asking.may" (qi_ jn_) (qh_ jn_) (qb_ jn_) .none z337 z338 z339 z334 z340 z341), z335⟩)
  (z742 : W.codeIn K z340 "Asking.may" = true)
  (z743 : W.keepIn K (.ref z34) = true)
  (z744 : W.findIn K (.ref z3) "take" = some (some (.ref z35)))
  (z745 : W.isFn K (.ref z35) = true)
  (z746 : K.lookup z35 = some ⟨z345, z342, .func (W.fnOf "take" "Asking.take" (qi_ jd_) (qh_ jd_) (qb_ jd_) .none z346 z347 z348 z343 z349 z350), z344⟩)
  (z747 : W.codeIn K z349 "Asking.take" = true)
  (z748 : W.keepIn K (.ref z35) = true)
  (z749 : W.findIn K (.ref z3) "take_along" = some (some (.ref z36)))
  (z750 : W.isFn K (.ref z36) = true)
  (z751 : K.lookup z36 = some ⟨z354, z351, .func (W.fnOf "take_along" "Asking.take_along" (qi_ qI_) (qh_ qI_) (qb_ qI_) .none z355 z356 z357 z352 z358 z359), z353⟩)
  (z752 : W.codeIn K z358 "Asking.take_along" = true)
  (z753 : W.keepIn K (.ref z36) = true)
  (z754 : W.findIn K (.ref z3) "known" = some (some (.ref z37)))
  (z755 : W.isFn K (.ref z37) = true)
  (z756 : K.lookup z37 = some ⟨z363, z360, .func (W.fnOf "known" "Asking.known" (qi_ q1_) (qh_ q1_) (qb_ q1_) .none z364 z365 z366 z361 z367 z368), z362⟩)
  (z757 : W.codeIn K z367 "Asking.known" = true)
  (z758 : W.keepIn K (.ref z37) = true)
  (z759 : W.findIn K (.ref z3) "fixes" = some (some (.ref z38)))
  (z760 : W.isFn K (.ref z38) = true)
  (z761 : K.lookup z38 = some ⟨z372, z369, .func (W.fnOf "fixes" "Asking.fixes" (qi_ q2_) (qh_ q2_) (qb_ q2_) .none z373 z374 z375 z370 z376 z377), z371⟩)
  (z762 : W.codeIn K z376 "Asking.fixes" = true)
  (z763 : W.keepIn K (.ref z38) = true)
  (z764 : W.findIn K (.ref z3) "cost_sum" = some (some (.ref z39)))
  (z765 : W.isFn K (.ref z39) = true)
  (z766 : K.lookup z39 = some ⟨z381, z378, .func (W.fnOf "cost_sum" "Asking.cost_sum" (qi_ qK_) (qh_ qK_) (qb_ qK_) .none z382 z383 z384 z379 z385 z386), z380⟩)
  (z767 : W.codeIn K z385 "Asking.cost_sum" = true)
  (z768 : W.keepIn K (.ref z39) = true)
  (z769 : W.findIn K (.ref z3) "order" = some (some (.ref z40)))
  (z770 : W.isFn K (.ref z40) = true)
  (z771 : K.lookup z40 = some ⟨z395, z392, .func (W.fnOf "order" "Asking.order" (qi_ q3_) (qh_ q3_) (qb_ q3_) .none z396 z397 z398 z393 (.ref z387) z399), z394⟩)
  (z772 : W.codeIn K (.ref z387) "Asking.order" = true)
  (z773 : K.lookup z387 = some ⟨.type "code", z389, .fields z390, z391⟩)
  (z774 : z390[11]? = some (.ref z388))
  (z775 : W.codeHdIn K z387 z388 = true)
  (z776 : K.lookup z388 = none)
  (z777 : W.keepIn K (.ref z40) = true)
  (z778 : W.findIn K (.ref z3) "detour" = some (some (.ref z41)))
  (z779 : W.isFn K (.ref z41) = true)
  (z780 : K.lookup z41 = some ⟨z403, z400, .func (W.fnOf "detour" "Asking.detour" (qi_ qW_) (qh_ qW_) (qb_ qW_) .none z404 z405 z406 z401 z407 z408), z402⟩)
  (z781 : W.codeIn K z407 "Asking.detour" = true)
  (z782 : W.keepIn K (.ref z41) = true)
  (z783 : W.findIn K (.ref z3) "block_of" = some (some (.ref z42)))
  (z784 : W.isFn K (.ref z42) = true)
  (z785 : K.lookup z42 = some ⟨z412, z409, .func (W.fnOf "block_of" "Asking.block_of" (qi_ qL_) (qh_ qL_) (qb_ qL_) .none z413 z414 z415 z410 z416 z417), z411⟩)
  (z786 : W.codeIn K z416 "Asking.block_of" = true)
  (z787 : W.keepIn K (.ref z42) = true)
  (z788 : W.nsIn K mainGlobals "read_role" = some (some (.ref z43)))
  (z789 : K.lookup z43 = some ⟨z421, z418, .func (W.fnOf "read_role" "read_role" (qi_ jy_) (qh_ jy_) (qb_ jy_) .none z422 z423 z424 z419 z425 z426), z420⟩)
  (z790 : W.codeIn K z425 "read_role" = true)
  (z791 : W.keepIn K (.ref z43) = true)
  (z792 : W.nsIn K mainGlobals "_law_cell" = some (some (.ref z44)))
  (z793 : K.lookup z44 = some ⟨z430, z427, .func (W.fnOf "_law_cell" "_law_cell" (qi_ yx_) (qh_ yx_) (qb_ yx_) .none z431 z432 z433 z428 z434 z435), z429⟩)
  (z794 : W.codeIn K z434 "_law_cell" = true)
  (z795 : W.keepIn K (.ref z44) = true)
  (z796 : W.nsIn K mainGlobals "_law_rule" = some (some (.ref z45)))
  (z797 : K.lookup z45 = some ⟨z439, z436, .func (W.fnOf "_law_rule" "_law_rule" (qi_ yy_) (qh_ yy_) (qb_ yy_) .none z440 z441 z442 z437 z443 z444), z438⟩)
  (z798 : W.codeIn K z443 "_law_rule" = true)
  (z799 : W.keepIn K (.ref z45) = true)
  (z800 : W.nsIn K mainGlobals "_law_times" = some (some (.ref z46)))
  (z801 : K.lookup z46 = some ⟨z448, z445, .func (W.fnOf "_law_times" "_law_times" (qi_ ye_) (qh_ ye_) (qb_ ye_) .none z449 z450 z451 z446 z452 z453), z447⟩)
  (z802 : W.codeIn K z452 "_law_times" = true)
  (z803 : W.keepIn K (.ref z46) = true)
  (z804 : W.nsIn K mainGlobals "_law_scaled" = some (some (.ref z47)))
  (z805 : K.lookup z47 = some ⟨z457, z454, .func (W.fnOf "_law_scaled" "_law_scaled" (qi_ jX_) (qh_ jX_) (qb_ jX_) .none z458 z459 z460 z455 z461 z462), z456⟩)
  (z806 : W.codeIn K z461 "_law_scaled" = true)
  (z807 : W.keepIn K (.ref z47) = true)
  (z808 : W.nsIn K mainGlobals "_law_make" = some (some (.ref z48)))
  (z809 : K.lookup z48 = some ⟨z466, z463, .func (W.fnOf "_law_make" "_law_make" (qi_ yz_) (qh_ yz_) (qb_ yz_) .none z467 z468 z469 z464 z470 z471), z465⟩)
  (z810 : W.codeIn K z470 "_law_make" = true)
  (z811 : W.keepIn K (.ref z48) = true)
  (z812 : W.nsIn K mainGlobals "_law_some" = some (some (.ref z49)))
  (z813 : K.lookup z49 = some ⟨z475, z472, .func (W.fnOf "_law_some" "_law_some" (qi_ yA_) (qh_ yA_) (qb_ yA_) .none z476 z477 z478 z473 z479 z480), z474⟩)
  (z814 : W.codeIn K z479 "_law_some" = true)
  (z815 : W.keepIn K (.ref z49) = true)
  (z816 : W.nsIn K mainGlobals "_law_plain" = some (some (.ref z50)))
  (z817 : K.lookup z50 = some ⟨z484, z481, .func (W.fnOf "_law_plain" "_law_plain" (qi_ yf_) (qh_ yf_) (qb_ yf_) .none z485 z486 z487 z482 z488 z489), z483⟩)
  (z818 : W.codeIn K z488 "_law_plain" = true)
  (z819 : W.keepIn K (.ref z50) = true)
  (z820 : W.nsIn K mainGlobals "_law_sizes" = some (some (.ref z51)))
  (z821 : K.lookup z51 = some ⟨z493, z490, .func (W.fnOf "_law_sizes" "_law_sizes" (qi_ yg_) (qh_ yg_) (qb_ yg_) .none z494 z495 z496 z491 z497 z498), z492⟩)
  (z822 : W.codeIn K z497 "_law_sizes" = true)
  (z823 : W.keepIn K (.ref z51) = true)
  (z824 : W.nsIn K mainGlobals "_law_costs" = some (some (.ref z52)))
  (z825 : K.lookup z52 = some ⟨z502, z499, .func (W.fnOf "_law_costs" "_law_costs" (qi_ yh_) (qh_ yh_) (qb_ yh_) .none z503 z504 z505 z500 z506 z507), z501⟩)
  (z826 : W.codeIn K z506 "_law_costs" = true)
  (z827 : W.keepIn K (.ref z52) = true)
  (z828 : W.nsIn K mainGlobals "_law_asker" = some (some (.ref z53)))
  (z829 : K.lookup z53 = some ⟨z516, z513, .func (W.fnOf "_law_asker" "_law_asker" (qi_ j0_) (qh_ j0_) (qb_ j0_) .none z517 z518 z519 z514 (.ref z508) z520), z515⟩)
  (z830 : W.codeIn K (.ref z508) "_law_asker" = true)
  (z831 : K.lookup z508 = some ⟨.type "code", z510, .fields z511, z512⟩)
  (z832 : z511[11]? = some (.ref z509))
  (z833 : W.codeHdIn K z508 z509 = true)
  (z834 : K.lookup z509 = none)
  (z835 : W.keepIn K (.ref z53) = true)
  (z836 : W.nsIn K mainGlobals "_law_lost" = some (some (.ref z54)))
  (z837 : K.lookup z54 = some ⟨z524, z521, .func (W.fnOf "_law_lost" "_law_lost" (qi_ yB_) (qh_ yB_) (qb_ yB_) .none z525 z526 z527 z522 z528 z529), z523⟩)
  (z838 : W.codeIn K z528 "_law_lost" = true)
  (z839 : W.keepIn K (.ref z54) = true)
  (z840 : W.nsIn K mainGlobals "_law_least" = some (some (.ref z55)))
  (z841 : K.lookup z55 = some ⟨z533, z530, .func (W.fnOf "_law_least" "_law_least" (qi_ yi_) (qh_ yi_) (qb_ yi_) .none z534 z535 z536 z531 z537 z538), z532⟩)
  (z842 : W.codeIn K z537 "_law_least" = true)
  (z843 : W.keepIn K (.ref z55) = true)
  (z844 : W.nsIn K mainGlobals "_law_scene" = some (some (.ref z56)))
  (z845 : K.lookup z56 = some ⟨z542, z539, .func (W.fnOf "_law_scene" "_law_scene" (qi_ yj_) (qh_ yj_) (qb_ yj_) .none z543 z544 z545 z540 z546 z547), z541⟩)
  (z846 : W.codeIn K z546 "_law_scene" = true)
  (z847 : W.keepIn K (.ref z56) = true)
  (z848 : W.nsIn K mainGlobals "law" = some (some (.ref z57)))
  (z849 : K.lookup z57 = some ⟨z551, z548, .func (W.fnOf "law" "law" (qi_ yZ_) (qh_ yZ_) (qb_ yZ_) .none z552 z553 z554 z549 z555 z556), z550⟩)
  (z850 : W.codeIn K z555 "law" = true)
  (z851 : W.keepIn K (.ref z57) = true)
  (z852 : W.nsIn K mainGlobals "zip" = some none)
  (z853 : W.nsIn K mainGlobals "range" = some none)
  (z854 : W.nsIn K mainGlobals "len" = some none)
  (z855 : W.nsIn K mainGlobals "list" = some none)
  (z856 : W.nsIn K mainGlobals "enumerate" = some none)
  (z857 : W.nsIn K mainGlobals "reversed" = some none)
  (z858 : W.nsIn K mainGlobals "any" = some none)
  (z859 : W.nsIn K mainGlobals "sum" = some none)
  (z860 : W.nsIn K mainGlobals "sorted" = some none)
  (z861 : W.nsIn K mainGlobals "max" = some none)
  (z862 : W.nsIn K mainGlobals "min" = some none)
  (z863 : W.nsIn K mainGlobals "LEAST_RULE" = some (some (.int 16 z58)))
  (z864 : W.nsIn K mainGlobals "GREATEST_RULE" = some (some (.int 511 z59)))
  (z865 : W.nsIn K mainGlobals "MOST_SYMBOLS" = some (some (.int 16 z60)))
  (z866 : W.nsIn K mainGlobals "MOST_ROLES" = some (some (.int 8 z61)))
  (z867 : W.nsIn K mainGlobals "MOST_SUMS" = some (some (.int 2 z62)))
  (ets : ts.Perm [z388, z509]) :
  ∃ a : Adr, Txt K mg a ∧ (∀ (s : Shared) (v : Value), BindsTo s a.d_law ⟨[v], []⟩ [("_law_script", v)]) ∧ ts.Perm [a.t_Asking_order, a.t_asker] ∧ (∀ p ∈ ts, K.lookup p = none) ∧ ∀ p ∈ ts, ∃ c, W.codeHdIn K c p = true := by
 have y0 := qv_ (st := ji_) z603 z604 z605
 have y1 := qv_ (st := qC_) z608 z609 z610
 have y2 := qv_ (st := q0_) z613 z614 z615
 have y3 := qv_ (st := q7_) z618 z619 z620
 have y4 := qv_ (st := jj_) z623 z624 z625
 have y5 := qv_ (st := q8_) z628 z629 z630
 have y6 := qv_ (st := yw_) z632 z633 z634
 have y7 := qv_ (st := q9_) z636 z637 z638
 have y8 := qv_ (st := jk_) z640 z641 z642
 have y9 := qv_ (st := jl_) z644 z645 z646
 have y10 := qv_ (st := jI_) z648 z649 z650
 have y11 := qv_ (st := jJ_) z652 z653 z654
 have y12 := qv_ (st := jK_) z656 z657 z658
 have y13 := qv_ (st := ju_) z660 z661 z662
 have y14 := qv_ (st := ja_) z665 z666 z667
 have y15 := qv_ (st := qM_) z670 z671 z672
 have y16 := qv_ (st := qQ_) z675 z676 z677
 have y17 := qv_ (st := qR_) z680 z681 z682
 have y18 := qv_ (st := qS_) z685 z686 z687
 have y19 := qv_ (st := qT_) z689 z690 z691
 have y20 := qv_ (st := qU_) z693 z694 z695
 have y21 := qv_ (st := jb_) z697 z698 z699
 have y22 := qv_ (st := jv_) z702 z703 z704
 have y23 := qv_ (st := jw_) z707 z708 z709
 have y24 := qv_ (st := qJ_) z712 z713 z714
 have y25 := qv_ (st := jm_) z717 z718 z719
 have y26 := qv_ (st := qN_) z722 z723 z724
 have y27 := qv_ (st := qV_) z727 z728 z729
 have y28 := qv_ (st := jx_) z731 z732 z733
 have y29 := qv_ (st := jc_) z736 z737 z738
 have y30 := qv_ (st := jn_) z741 z742 z743
 have y31 := qv_ (st := jd_) z746 z747 z748
 have y32 := qv_ (st := qI_) z751 z752 z753
 have y33 := qv_ (st := q1_) z756 z757 z758
 have y34 := qv_ (st := q2_) z761 z762 z763
 have y35 := qv_ (st := qK_) z766 z767 z768
 have y36 := qcg_ (st := q3_) z771 z772 z777 z775
 have y37 := qv_ (st := qW_) z780 z781 z782
 have y38 := qv_ (st := qL_) z785 z786 z787
 have y39 := qv_ (st := jy_) z789 z790 z791
 have y40 := qv_ (st := yx_) z793 z794 z795
 have y41 := qv_ (st := yy_) z797 z798 z799
 have y42 := qv_ (st := ye_) z801 z802 z803
 have y43 := qv_ (st := jX_) z805 z806 z807
 have y44 := qv_ (st := yz_) z809 z810 z811
 have y45 := qv_ (st := yA_) z813 z814 z815
 have y46 := qv_ (st := yf_) z817 z818 z819
 have y47 := qv_ (st := yg_) z821 z822 z823
 have y48 := qv_ (st := yh_) z825 z826 z827
 have y49 := qcg_ (st := j0_) z829 z830 z835 z833
 have y50 := qv_ (st := yB_) z837 z838 z839
 have y51 := qv_ (st := yi_) z841 z842 z843
 have y52 := qv_ (st := yj_) z845 z846 z847
 have y53 := qv_ (st := yZ_) z849 z850 z851
 refine ⟨⟨z0, z1, z2, z3, z4, W.fnOf "__init__" "Field.__init__" (qi_ ji_) (qh_ ji_) (qb_ ji_) .none z67 z68 z69 z64 z70 z71, z5, W.fnOf "doublings_of_one" "Field.doublings_of_one" (qi_ qC_) (qh_ qC_) (qb_ qC_) .none z76 z77 z78 z73 z79 z80, z6, W.fnOf "double" "Field.double" (qi_ q0_) (qh_ q0_) (qb_ q0_) .none z85 z86 z87 z82 z88 z89, z7, W.fnOf "times" "Field.times" (qi_ q7_) (qh_ q7_) (qb_ q7_) .none z94 z95 z96 z91 z97 z98, z8, W.fnOf "back" "Field.back" (qi_ jj_) (qh_ jj_) (qb_ jj_) .none z103 z104 z105 z100 z106 z107, z9, W.fnOf "power" "Field.power" (qi_ q8_) (qh_ q8_) (qb_ q8_) .none z112 z113 z114 z109 z115 z116, z10, W.fnOf "unit" "unit" (qi_ yw_) (qh_ yw_) (qb_ yw_) .none z121 z122 z123 z118 z124 z125, z11, W.fnOf "scaled_line" "scaled_line" (qi_ q9_) (qh_ q9_) (qb_ q9_) .none z130 z131 z132 z127 z133 z134, z12, W.fnOf "sum_of_two" "sum_of_two" (qi_ jk_) (qh_ jk_) (qb_ jk_) .none z139 z140 z141 z136 z142 z143, z13, W.fnOf "first_with" "first_with" (qi_ jl_) (qh_ jl_) (qb_ jl_) .none z148 z149 z150 z145 z151 z152, z14, W.fnOf "swapped" "swapped" (qi_ jI_) (qh_ jI_) (qb_ jI_) .none z157 z158 z159 z154 z160 z161, z15, W.fnOf "cleared" "cleared" (qi_ jJ_) (qh_ jJ_) (qb_ jJ_) .none z166 z167 z168 z163 z169 z170, z16, W.fnOf "told_of" "told_of" (qi_ jK_) (qh_ jK_) (qb_ jK_) .none z175 z176 z177 z172 z178 z179, z17, W.fnOf "free_make" "free_make" (qi_ ju_) (qh_ ju_) (qb_ ju_) .none z184 z185 z186 z181 z187 z188, z18, W.fnOf "__init__" "Blocks.__init__" (qi_ ja_) (qh_ ja_) (qb_ ja_) .none z193 z194 z195 z190 z196 z197, z19, W.fnOf "symbols" "Blocks.symbols" (qi_ qM_) (qh_ qM_) (qb_ qM_) .none z202 z203 z204 z199 z205 z206, z20, W.fnOf "joined" "Blocks.joined" (qi_ qQ_) (qh_ qQ_) (qb_ qQ_) .none z211 z212 z213 z208 z214 z215, z21, W.fnOf "scaled" "Blocks.scaled" (qi_ qR_) (qh_ qR_) (qb_ qR_) .none z220 z221 z222 z217 z223 z224, z22, W.fnOf "summed" "Blocks.summed" (qi_ qS_) (qh_ qS_) (qb_ qS_) .none z229 z230 z231 z226 z232 z233, z23, W.fnOf "check_lengths" "check_lengths" (qi_ qT_) (qh_ qT_) (qb_ qT_) .none z238 z239 z240 z235 z241 z242, z24, W.fnOf "check_weights" "check_weights" (qi_ qU_) (qh_ qU_) (qb_ qU_) .none z247 z248 z249 z244 z250 z251, z25, W.fnOf "equation_of" "equation_of" (qi_ jb_) (qh_ jb_) (qb_ jb_) .none z256 z257 z258 z253 z259 z260, z26, W.fnOf "__init__" "Code.__init__" (qi_ jv_) (qh_ jv_) (qb_ jv_) .none z265 z266 z267 z262 z268 z269, z27, W.fnOf "told" "Code.told" (qi_ jw_) (qh_ jw_) (qb_ jw_) .none z274 z275 z276 z271 z277 z278, z28, W.fnOf "check_role" "Code.check_role" (qi_ qJ_) (qh_ qJ_) (qb_ qJ_) .none z283 z284 z285 z280 z286 z287, z29, W.fnOf "fixes" "Code.fixes" (qi_ jm_) (qh_ jm_) (qb_ jm_) .none z292 z293 z294 z289 z295 z296, z30, W.fnOf "summed_by" "Code.summed_by" (qi_ qN_) (qh_ qN_) (qb_ qN_) .none z301 z302 z303 z298 z304 z305, z31, W.fnOf "reckoned" "Code.reckoned" (qi_ qV_) (qh_ qV_) (qb_ qV_) .none z310 z311 z312 z307 z313 z314, z32, W.fnOf "fixes_all" "fixes_all" (qi_ jx_) (qh_ jx_) (qb_ jx_) .none z319 z320 z321 z316 z322 z323, z33, W.fnOf "__init__" "Asking.__init__" (qi_ jc_) (qh_ jc_) (qb_ jc_) .none z328 z329 z330 z325 z331 z332, z34, W.fnOf "may" "Asking.may" (qi_ jn_) (qh_ jn_) (qb_ jn_) .none z337 z338 z339 z334 z340 z341, z35, W.fnOf "take" "Asking.take" (qi_ jd_) (qh_ jd_) (qb_ jd_) .none z346 z347 z348 z343 z349 z350, z36, W.fnOf "take_along" "Asking.take_along" (qi_ qI_) (qh_ qI_) (qb_ qI_) .none z355 z356 z357 z352 z358 z359, z37, W.fnOf "known" "Asking.known" (qi_ q1_) (qh_ q1_) (qb_ q1_) .none z364 z365 z366 z361 z367 z368, z38, W.fnOf "fixes" "Asking.fixes" (qi_ q2_) (qh_ q2_) (qb_ q2_) .none z373 z374 z375 z370 z376 z377, z39, W.fnOf "cost_sum" "Asking.cost_sum" (qi_ qK_) (qh_ qK_) (qb_ qK_) .none z382 z383 z384 z379 z385 z386, z40, W.fnOf "order" "Asking.order" (qi_ q3_) (qh_ q3_) (qb_ q3_) .none z396 z397 z398 z393 (.ref z387) z399, z41, W.fnOf "detour" "Asking.detour" (qi_ qW_) (qh_ qW_) (qb_ qW_) .none z404 z405 z406 z401 z407 z408, z42, W.fnOf "block_of" "Asking.block_of" (qi_ qL_) (qh_ qL_) (qb_ qL_) .none z413 z414 z415 z410 z416 z417, z43, W.fnOf "read_role" "read_role" (qi_ jy_) (qh_ jy_) (qb_ jy_) .none z422 z423 z424 z419 z425 z426, z44, W.fnOf "_law_cell" "_law_cell" (qi_ yx_) (qh_ yx_) (qb_ yx_) .none z431 z432 z433 z428 z434 z435, z45, W.fnOf "_law_rule" "_law_rule" (qi_ yy_) (qh_ yy_) (qb_ yy_) .none z440 z441 z442 z437 z443 z444, z46, W.fnOf "_law_times" "_law_times" (qi_ ye_) (qh_ ye_) (qb_ ye_) .none z449 z450 z451 z446 z452 z453, z47, W.fnOf "_law_scaled" "_law_scaled" (qi_ jX_) (qh_ jX_) (qb_ jX_) .none z458 z459 z460 z455 z461 z462, z48, W.fnOf "_law_make" "_law_make" (qi_ yz_) (qh_ yz_) (qb_ yz_) .none z467 z468 z469 z464 z470 z471, z49, W.fnOf "_law_some" "_law_some" (qi_ yA_) (qh_ yA_) (qb_ yA_) .none z476 z477 z478 z473 z479 z480, z50, W.fnOf "_law_plain" "_law_plain" (qi_ yf_) (qh_ yf_) (qb_ yf_) .none z485 z486 z487 z482 z488 z489, z51, W.fnOf "_law_sizes" "_law_sizes" (qi_ yg_) (qh_ yg_) (qb_ yg_) .none z494 z495 z496 z491 z497 z498, z52, W.fnOf "_law_costs" "_law_costs" (qi_ yh_) (qh_ yh_) (qb_ yh_) .none z503 z504 z505 z500 z506 z507, z53, W.fnOf "_law_asker" "_law_asker" (qi_ j0_) (qh_ j0_) (qb_ j0_) .none z517 z518 z519 z514 (.ref z508) z520, z54, W.fnOf "_law_lost" "_law_lost" (qi_ yB_) (qh_ yB_) (qb_ yB_) .none z525 z526 z527 z522 z528 z529, z55, W.fnOf "_law_least" "_law_least" (qi_ yi_) (qh_ yi_) (qb_ yi_) .none z534 z535 z536 z531 z537 z538, z56, W.fnOf "_law_scene" "_law_scene" (qi_ yj_) (qh_ yj_) (qb_ yj_) .none z543 z544 z545 z540 z546 z547, z57, W.fnOf "law" "law" (qi_ yZ_) (qh_ yZ_) (qb_ yZ_) .none z552 z553 z554 z549 z555 z556, z387, z388, z508, z509, z62, z61, z60, z59, z58⟩, ?_, fun s v => .of_eq rfl, ets, fun p hp => (show ∀ p ∈ [z388, z509], K.lookup p = none from (List.forall_mem_cons.mpr ⟨z776, (List.forall_mem_cons.mpr ⟨z834, (fun _ z => nomatch z)⟩)⟩)) p (ets.mem_iff.mp hp), fun p hp => (show ∀ p ∈ [z388, z509], ∃ c, W.codeHdIn K c p = true from (List.forall_mem_cons.mpr ⟨⟨_, z775⟩, (List.forall_mem_cons.mpr ⟨⟨_, z833⟩, (fun _ z => nomatch z)⟩)⟩)) p (ets.mem_iff.mp hp)⟩
 exact {
  cl_Field := ⟨z558, z559, z560, z561⟩
  m_Field := W.mg_of X G z557
  no_Field_rule := z562
  no_Field_width := z563
  no_Field_last := z564
  mk_Field := ⟨z565, z601, z602, z566⟩
  cl_Blocks := ⟨z568, z569, z570, z571⟩
  m_Blocks := W.mg_of X G z567
  no_Blocks_field := z572
  no_Blocks_many := z573
  no_Blocks_limit := z574
  mk_Blocks := ⟨z575, z663, z664, z576⟩
  cl_Code := ⟨z578, z579, z580, z581⟩
  m_Code := W.mg_of X G z577
  no_Code_blocks := z582
  no_Code_sums := z583
  no_Code_data := z584
  no_Code_roles := z585
  no_Code_lines := z586
  mk_Code := ⟨z587, z700, z701, z588⟩
  cl_Asking := ⟨z590, z591, z592, z593⟩
  m_Asking := W.mg_of X G z589
  no_Asking_code := z594
  no_Asking_ask := z595
  no_Asking_costs := z596
  no_Asking_row := z597
  no_Asking_asked := z598
  mk_Asking := ⟨z599, z734, z735, z600⟩
  F_Field_init := y0
  b_Field_init := y0.binds (ps := ["self", "rule"]) fun _ _ _ _ _ _ us hl => match us, hl with | [_, _], _ => rfl
  k_Field_init := z605
  me_Field_init := ⟨z601, z602, z605⟩
  F_Field_doublings_of_one := y1
  b_Field_doublings_of_one := y1.binds (ps := ["self"]) fun _ _ _ _ _ _ us hl => match us, hl with | [_], _ => rfl
  k_Field_doublings_of_one := z610
  me_Field_doublings_of_one := ⟨z606, z607, z610⟩
  F_Field_double := y2
  b_Field_double := y2.binds (ps := ["self", "one"]) fun _ _ _ _ _ _ us hl => match us, hl with | [_, _], _ => rfl
  k_Field_double := z615
  me_Field_double := ⟨z611, z612, z615⟩
  F_Field_times := y3
  b_Field_times := y3.binds (ps := ["self", "one", "other"]) fun _ _ _ _ _ _ us hl => match us, hl with | [_, _, _], _ => rfl
  k_Field_times := z620
  me_Field_times := ⟨z616, z617, z620⟩
  F_Field_back := y4
  b_Field_back := y4.binds (ps := ["self", "one"]) fun _ _ _ _ _ _ us hl => match us, hl with | [_, _], _ => rfl
  k_Field_back := z625
  me_Field_back := ⟨z621, z622, z625⟩
  F_Field_power := y5
  b_Field_power := y5.binds (ps := ["self", "one", "many"]) fun _ _ _ _ _ _ us hl => match us, hl with | [_, _, _], _ => rfl
  k_Field_power := z630
  me_Field_power := ⟨z626, z627, z630⟩
  F_unit := y6
  b_unit := y6.binds (ps := ["many", "at"]) fun _ _ _ _ _ _ us hl => match us, hl with | [_, _], _ => rfl
  k_unit := z634
  m_unit := W.mg_of X G z631
  F_scaled_line := y7
  b_scaled_line := y7.binds (ps := ["field", "factor", "line"]) fun _ _ _ _ _ _ us hl => match us, hl with | [_, _, _], _ => rfl
  k_scaled_line := z638
  m_scaled_line := W.mg_of X G z635
  F_sum_of_two := y8
  b_sum_of_two := y8.binds (ps := ["one", "other"]) fun _ _ _ _ _ _ us hl => match us, hl with | [_, _], _ => rfl
  k_sum_of_two := z642
  m_sum_of_two := W.mg_of X G z639
  F_first_with := y9
  b_first_with := y9.binds (ps := ["lines", "start", "place"]) fun _ _ _ _ _ _ us hl => match us, hl with | [_, _, _], _ => rfl
  k_first_with := z646
  m_first_with := W.mg_of X G z643
  F_swapped := y10
  b_swapped := y10.binds (ps := ["lines", "one", "other"]) fun _ _ _ _ _ _ us hl => match us, hl with | [_, _, _], _ => rfl
  k_swapped := z650
  m_swapped := W.mg_of X G z647
  F_cleared := y11
  b_cleared := y11.binds (ps := ["field", "lines", "at", "place"]) fun _ _ _ _ _ _ us hl => match us, hl with | [_, _, _, _], _ => rfl
  k_cleared := z654
  m_cleared := W.mg_of X G z651
  F_told_of := y12
  b_told_of := y12.binds (ps := ["field", "lines", "known", "place"]) fun _ _ _ _ _ _ us hl => match us, hl with | [_, _, _, _], _ => rfl
  k_told_of := z658
  m_told_of := W.mg_of X G z655
  F_free_make := y13
  b_free_make := y13.binds (ps := ["lines", "heads", "many", "place"]) fun _ _ _ _ _ _ us hl => match us, hl with | [_, _, _, _], _ => rfl
  k_free_make := z662
  m_free_make := W.mg_of X G z659
  F_Blocks_init := y14
  b_Blocks_init := y14.binds (ps := ["self", "field", "many"]) fun _ _ _ _ _ _ us hl => match us, hl with | [_, _, _], _ => rfl
  k_Blocks_init := z667
  me_Blocks_init := ⟨z663, z664, z667⟩
  F_Blocks_symbols := y15
  b_Blocks_symbols := y15.binds (ps := ["self", "block"]) fun _ _ _ _ _ _ us hl => match us, hl with | [_, _], _ => rfl
  k_Blocks_symbols := z672
  me_Blocks_symbols := ⟨z668, z669, z672⟩
  F_Blocks_joined := y16
  b_Blocks_joined := y16.binds (ps := ["self", "some"]) fun _ _ _ _ _ _ us hl => match us, hl with | [_, _], _ => rfl
  k_Blocks_joined := z677
  me_Blocks_joined := ⟨z673, z674, z677⟩
  F_Blocks_scaled := y17
  b_Blocks_scaled := y17.binds (ps := ["self", "factor", "block"]) fun _ _ _ _ _ _ us hl => match us, hl with | [_, _, _], _ => rfl
  k_Blocks_scaled := z682
  me_Blocks_scaled := ⟨z678, z679, z682⟩
  F_Blocks_summed := y18
  b_Blocks_summed := y18.binds (ps := ["self", "factors", "some"]) fun _ _ _ _ _ _ us hl => match us, hl with | [_, _, _], _ => rfl
  k_Blocks_summed := z687
  me_Blocks_summed := ⟨z683, z684, z687⟩
  F_check_lengths := y19
  b_check_lengths := y19.binds (ps := ["weights"]) fun _ _ _ _ _ _ us hl => match us, hl with | [_], _ => rfl
  k_check_lengths := z691
  m_check_lengths := W.mg_of X G z688
  F_check_weights := y20
  b_check_weights := y20.binds (ps := ["field", "weights"]) fun _ _ _ _ _ _ us hl => match us, hl with | [_, _], _ => rfl
  k_check_weights := z695
  m_check_weights := W.mg_of X G z692
  F_equation_of := y21
  b_equation_of := y21.binds (ps := ["weights", "total"]) fun _ _ _ _ _ _ us hl => match us, hl with | [_, _], _ => rfl
  k_equation_of := z699
  m_equation_of := W.mg_of X G z696
  F_Code_init := y22
  b_Code_init := y22.binds (ps := ["self", "blocks", "weights"]) fun _ _ _ _ _ _ us hl => match us, hl with | [_, _, _], _ => rfl
  k_Code_init := z704
  me_Code_init := ⟨z700, z701, z704⟩
  F_Code_told := y23
  b_Code_told := y23.binds (ps := ["self", "known", "role"]) fun _ _ _ _ _ _ us hl => match us, hl with | [_, _, _], _ => rfl
  k_Code_told := z709
  me_Code_told := ⟨z705, z706, z709⟩
  F_Code_check_role := y24
  b_Code_check_role := y24.binds (ps := ["self", "role"]) fun _ _ _ _ _ _ us hl => match us, hl with | [_, _], _ => rfl
  k_Code_check_role := z714
  me_Code_check_role := ⟨z710, z711, z714⟩
  F_Code_fixes := y25
  b_Code_fixes := y25.binds (ps := ["self", "known", "role"]) fun _ _ _ _ _ _ us hl => match us, hl with | [_, _, _], _ => rfl
  k_Code_fixes := z719
  me_Code_fixes := ⟨z715, z716, z719⟩
  F_Code_summed_by := y26
  b_Code_summed_by := y26.binds (ps := ["self", "by", "row"]) fun _ _ _ _ _ _ us hl => match us, hl with | [_, _, _], _ => rfl
  k_Code_summed_by := z724
  me_Code_summed_by := ⟨z720, z721, z724⟩
  F_Code_reckoned := y27
  b_Code_reckoned := y27.binds (ps := ["self", "row", "role"]) fun _ _ _ _ _ _ us hl => match us, hl with | [_, _, _], _ => rfl
  k_Code_reckoned := z729
  me_Code_reckoned := ⟨z725, z726, z729⟩
  F_fixes_all := y28
  b_fixes_all := y28.binds (ps := ["code", "known", "some"]) fun _ _ _ _ _ _ us hl => match us, hl with | [_, _, _], _ => rfl
  k_fixes_all := z733
  m_fixes_all := W.mg_of X G z730
  F_Asking_init := y29
  b_Asking_init := y29.binds (ps := ["self", "code", "ask", "costs"]) fun _ _ _ _ _ _ us hl => match us, hl with | [_, _, _, _], _ => rfl
  k_Asking_init := z738
  me_Asking_init := ⟨z734, z735, z738⟩
  F_Asking_may := y30
  b_Asking_may := y30.binds (ps := ["self", "role"]) fun _ _ _ _ _ _ us hl => match us, hl with | [_, _], _ => rfl
  k_Asking_may := z743
  me_Asking_may := ⟨z739, z740, z743⟩
  F_Asking_take := y31
  b_Asking_take := y31.binds (ps := ["self", "role"]) fun _ _ _ _ _ _ us hl => match us, hl with | [_, _], _ => rfl
  k_Asking_take := z748
  me_Asking_take := ⟨z744, z745, z748⟩
  F_Asking_take_along := y32
  b_Asking_take_along := y32.binds (ps := ["self", "some"]) fun _ _ _ _ _ _ us hl => match us, hl with | [_, _], _ => rfl
  k_Asking_take_along := z753
  me_Asking_take_along := ⟨z749, z750, z753⟩
  F_Asking_known := y33
  b_Asking_known := y33.binds (ps := ["self"]) fun _ _ _ _ _ _ us hl => match us, hl with | [_], _ => rfl
  k_Asking_known := z758
  me_Asking_known := ⟨z754, z755, z758⟩
  F_Asking_fixes := y34
  b_Asking_fixes := y34.binds (ps := ["self", "some"]) fun _ _ _ _ _ _ us hl => match us, hl with | [_, _], _ => rfl
  k_Asking_fixes := z763
  me_Asking_fixes := ⟨z759, z760, z763⟩
  F_Asking_cost_sum := y35
  b_Asking_cost_sum := y35.binds (ps := ["self", "some"]) fun _ _ _ _ _ _ us hl => match us, hl with | [_, _], _ => rfl
  k_Asking_cost_sum := z768
  me_Asking_cost_sum := ⟨z764, z765, z768⟩
  F_Asking_order := y36
  b_Asking_order := y36.fun.binds (ps := ["self"]) fun _ _ _ _ _ _ us hl => match us, hl with | [_], _ => rfl
  k_Asking_order := z777
  me_Asking_order := ⟨z769, z770, z777⟩
  F_Asking_detour := y37
  b_Asking_detour := y37.binds (ps := ["self", "some"]) fun _ _ _ _ _ _ us hl => match us, hl with | [_, _], _ => rfl
  k_Asking_detour := z782
  me_Asking_detour := ⟨z778, z779, z782⟩
  F_Asking_block_of := y38
  b_Asking_block_of := y38.binds (ps := ["self", "role"]) fun _ _ _ _ _ _ us hl => match us, hl with | [_, _], _ => rfl
  k_Asking_block_of := z787
  me_Asking_block_of := ⟨z783, z784, z787⟩
  F_read_role := y39
  b_read_role := y39.binds (ps := ["asking", "role"]) fun _ _ _ _ _ _ us hl => match us, hl with | [_, _], _ => rfl
  k_read_role := z791
  m_read_role := W.mg_of X G z788
  F_cell := y40
  b_cell := y40.binds (ps := ["_law_script", "_law_k"]) fun _ _ _ _ _ _ us hl => match us, hl with | [_, _], _ => rfl
  k_cell := z795
  m_cell := W.mg_of X G z792
  F_rule := y41
  b_rule := y41.binds (ps := ["_law_cell_here"]) fun _ _ _ _ _ _ us hl => match us, hl with | [_], _ => rfl
  k_rule := z799
  m_rule := W.mg_of X G z796
  F_times := y42
  b_times := y42.binds (ps := ["_law_one", "_law_other", "_law_rule_here"]) fun _ _ _ _ _ _ us hl => match us, hl with | [_, _, _], _ => rfl
  k_times := z803
  m_times := W.mg_of X G z800
  F_scaled := y43
  b_scaled := y43.binds (ps := ["_law_factor", "_law_block", "_law_rule_here"]) fun _ _ _ _ _ _ us hl => match us, hl with | [_, _, _], _ => rfl
  k_scaled := z807
  m_scaled := W.mg_of X G z804
  F_make := y44
  b_make := y44.binds (ps := ["_law_some_here", "_law_weights", "_law_rule_here"]) fun _ _ _ _ _ _ us hl => match us, hl with | [_, _, _], _ => rfl
  k_make := z811
  m_make := W.mg_of X G z808
  F_some := y45
  b_some := y45.binds (ps := ["_law_script", "_law_start", "_law_many", "_law_limit"]) fun _ _ _ _ _ _ us hl => match us, hl with | [_, _, _, _], _ => rfl
  k_some := z815
  m_some := W.mg_of X G z812
  F_plain := y46
  b_plain := y46.binds (ps := ["_law_data", "_law_sums"]) fun _ _ _ _ _ _ us hl => match us, hl with | [_, _], _ => rfl
  k_plain := z819
  m_plain := W.mg_of X G z816
  F_sizes := y47
  b_sizes := y47.binds (ps := ["_law_cell_here"]) fun _ _ _ _ _ _ us hl => match us, hl with | [_], _ => rfl
  k_sizes := z823
  m_sizes := W.mg_of X G z820
  F_costs := y48
  b_costs := y48.binds (ps := ["_law_cell_here", "_law_roles"]) fun _ _ _ _ _ _ us hl => match us, hl with | [_, _], _ => rfl
  k_costs := z827
  m_costs := W.mg_of X G z824
  F_asker := y49
  b_asker := y49.fun.binds (ps := ["_law_row", "_law_seen"]) fun _ _ _ _ _ _ us hl => match us, hl with | [_, _], _ => rfl
  k_asker := z835
  m_asker := W.mg_of X G z828
  F_lost := y50
  b_lost := y50.binds (ps := ["_law_cell_here", "_law_roles", "_law_sums", "_law_costs_here"]) fun _ _ _ _ _ _ us hl => match us, hl with | [_, _, _, _], _ => rfl
  k_lost := z839
  m_lost := W.mg_of X G z836
  F_least := y51
  b_least := y51.binds (ps := ["_law_costs_here", "_law_role", "_law_data"]) fun _ _ _ _ _ _ us hl => match us, hl with | [_, _, _], _ => rfl
  k_least := z843
  m_least := W.mg_of X G z840
  F_scene := y52
  b_scene := y52.binds (ps := ["_law_code", "_law_make_here", "_law_costs_here", "_law_role", "_law_data"]) fun _ _ _ _ _ _ us hl => match us, hl with | [_, _, _, _, _], _ => rfl
  k_scene := z847
  m_scene := W.mg_of X G z844
  F_law := y53
  b_law := y53.binds (ps := ["_law_script"]) fun _ _ _ _ _ _ us hl => match us, hl with | [_], _ => rfl
  k_law := z851
  m_law := W.mg_of X G z848
  n_zip := W.mg_none_of X G z852
  n_range := W.mg_none_of X G z853
  n_len := W.mg_none_of X G z854
  n_list := W.mg_none_of X G z855
  n_enumerate := W.mg_none_of X G z856
  n_reversed := W.mg_none_of X G z857
  n_any := W.mg_none_of X G z858
  n_sum := W.mg_none_of X G z859
  n_sorted := W.mg_none_of X G z860
  n_max := W.mg_none_of X G z861
  n_min := W.mg_none_of X G z862
  v_LEAST_RULE := W.mg_of X G z863
  v_GREATEST_RULE := W.mg_of X G z864
  v_MOST_SYMBOLS := W.mg_of X G z865
  v_MOST_ROLES := W.mg_of X G z866
  v_MOST_SUMS := W.mg_of X G z867 }
def ff (r w : Nat) : List (Str × V) := [("rule", .int r), ("width", .int w), ("last", .int ((2 ^ w - 1 : Nat) : Int))]
theorem qhr_ (r w : Nat) : (ff r w).lookup ("rule" : Str) = some (.int r) := rfl
theorem yH_ (r w : Nat) : (ff r w).lookup ("last" : Str) = some (.int ((2 ^ w - 1 : Nat) : Int)) := rfl
def FieldAt (C : Addr) (H : Hp) (p : Addr) (r w : Nat) : Prop := ∃ dx, H p = some (.ins C dx (ff r w))
theorem FieldAt.same {C : Addr} {H H' : Hp} {p : Addr} {r w : Nat} (h : FieldAt C H p r w) (s : Same H H') : FieldAt C H' p r w := let ⟨dx, e⟩ := h; ⟨dx, s _ _ e⟩
section
variable {P : Program} {wo : World} {K : PySem.W.Frag} {mg : Str -> Option Value} {base : Heap} {a : Adr}
def vp_ (a : Adr) : Sp := fun vs H Q _ => ∃ (p : Addr) (r w x : Nat), vs = [.ref p, .int x] /\ FieldAt a.C_Field H p r w /\ x < 2 ^ w /\ Q (.int (GF.dbl r w x : Nat)) H
theorem zf_ (T : Txt K mg a) : FnOk P wo K mg base CX0 1 a.f_Field_double a.d_Field_double ["self", "one"] (vp_ a) := by
 refine T.F_Field_double.ok (k := 0) sc_Field_double (fun vs H Q E h => ?_) (fun cdv A outer s H vs Q E hr h => ?_)
 ·obtain ⟨p, r, w, x, rfl, _⟩ := h
  rfl
 ·obtain ⟨p, r, w, x, rfl, ⟨dx, hF⟩, hx, k⟩ := h
  refine ⟨_, (qc_ (qm_ (i := 2) sc_Field_double.nd rfl (Or.inl rfl) (qn_ yk_ qj_ (pv 1)))
   (qc_ (qH_ (qp_ ym_ (pv 2) (qA_ (pv 0) rfl) (qr_ _)) (qg_ (qq_ (qn_ y9_ (pv 2) (qA_ (pv 0) rfl)))) qB_)
   (qg_ (qq_ (pv 2))))), ?_⟩
  refine ⟨_, rfl, _, _, rfl, rfl, .inl ⟨by decide, by decide⟩, ?_⟩
  refine ⟨_, rfl, _, rfl, p, _, _, _, _, rfl, hF, T.cl_Field, T.no_Field_last, yH_ r w, _, _, rfl, rfl, _, rfl, ?_⟩
  have hp : 0 < 2 ^ w := Nat.two_pow_pos w
  refine ite2 (fun h => ?_) (fun h => ?_)
  ·have h' := of_decide_eq_true h
   refine ⟨_, rfl, _, rfl, p, _, _, _, _, rfl, hF, T.cl_Field, T.no_Field_rule, qhr_ r w, _, _, rfl, rfl, ?_⟩
   have e : Builtin.bitXor (2 * (x : Int)) (r : Int) = ((GF.dbl r w x : Nat) : Int) := by
    have e0 : (2 * (x : Int)) = ((2 * x : Nat) : Int) := by omega
    rw [e0, jV_]
    unfold GF.dbl
    rw [if_pos (by omega)]
   show Q (.int (Builtin.bitXor (2 * (x : Int)) (r : Int))) H
   rw [e]
   exact k
  ·have h' : ¬ (((2 ^ w - 1 : Nat) : Int) < 2 * (x : Int)) := fun z => h (decide_eq_true z)
   refine ⟨_, rfl, ?_⟩
   have e : (2 * (x : Int)) = ((GF.dbl r w x : Nat) : Int) := by
    unfold GF.dbl
    rw [if_neg (by omega)]
    omega
   show Q (.int (2 * (x : Int))) H
   rw [e]
   exact k
def qhs_ (a : Adr) : Sp := fun vs H Q _ => ∃ (p : Addr) (r w x y : Nat), vs = [.ref p, .int x, .int y] /\ FieldAt a.C_Field H p r w /\ GF.Rule r w /\ x < 2 ^ w /\ Q (.int (GF.tm r w x y : Nat)) H
theorem yI_ (T : Txt K mg a) : FnOk P wo K mg base CX0 2 a.f_Field_times a.d_Field_times ["self", "one", "other"] (qhs_ a) := by
 have G_Field_double : FnOk P wo K mg base CX0 1 a.f_Field_double a.d_Field_double ["self", "one"] (vp_ a) := zf_ T
 refine T.F_Field_times.ok (k := 1) sc_Field_times (fun vs H Q E h => ?_) (fun cdv A outer s H vs Q E hr h => ?_)
 ·obtain ⟨p, r, w, x, y, rfl, _⟩ := h
  rfl
 ·obtain ⟨p, r, w, x, y, rfl, hF, R, hx, k⟩ := h
  refine ⟨_, (qc_ (qm_ (i := 3) sc_Field_times.nd rfl (Or.inl rfl) qj_)
   (qc_ (qm_ (i := 4) sc_Field_times.nd rfl (Or.inl rfl) (pv 1))
   (qc_ (qm_ (i := 5) sc_Field_times.nd rfl (Or.inl rfl) (pv 2))
   (qc_ (yo_ PassesOwn.never (qp_ ym_ (pv 5) qj_ (qr_ _)) (qc_ (qH_ (qp_ j1_ (qn_ q6_ (pv 5) qj_) qj_ (qr_ _)) (qg_ (qm_ (i := 3) sc_Field_times.nd rfl (Or.inl rfl) (qn_ y9_ (pv 3) (pv 4)))) qB_)
   (qc_ (qm_ (i := 4) sc_Field_times.nd rfl (Or.inl rfl) (qE_ (pv 0) T.cl_Field T.me_Field_double G_Field_double (hr.mono (by decide)) T.b_Field_double .nil qo_ (qa_ (pv 4) qf_)))
   (qg_ (qm_ (i := 5) sc_Field_times.nd rfl (Or.inl rfl) (qn_ jY_ (pv 5) qj_))))))
   (qg_ (qq_ (pv 3))))))), ?_⟩
  refine ⟨_, rfl, _, rfl, ?_⟩
  refine ⟨fun m σ H' => ∃ f d g : Nat, g = m /\ σ = [some (.ref p), some (.int x), some (.int y), some (.int f), some (.int d), some (.int g)] /\ H' = H /\ d < 2 ^ w /\ f ^^^ GF.tm r w d g = GF.tm r w x y,
   ⟨_, 0, x, y, rfl, rfl, rfl, hx, Nat.zero_xor _⟩, ?_⟩
  rintro m σ H' ⟨f, d, g, rfl, rfl, rfl, hd, inv⟩
  refine ⟨_, rfl, _, _, rfl, rfl, _, rfl, ?_⟩
  refine ite2 (fun h => ⟨_, fun _ _ z => z, ?_⟩) (fun h => ?_)
  ·have hg : 0 < g := by
    have := of_decide_eq_true h
    omega
   have hm : ((g : Int) % 2) = ((g % 2 : Nat) : Int) := by omega
   have hdv : ((g : Int) / 2) = ((g / 2 : Nat) : Int) := by omega
   have step := GF.tm_step (r := r) (w := w) d g
   refine ⟨_, rfl, _, _, rfl, rfl, p0 (by decide), rfl, _, rfl, ?_⟩
   refine ite2 (fun h1 => ?_) (fun h1 => ?_)
   ·have h1' : g % 2 = 1 := by
     have := V.int.inj (of_decide_eq_true h1)
     omega
    refine ⟨_, rfl, _, rfl, _, _, rfl, rfl, ?_⟩
    obtain ⟨dx, hF'⟩ := id hF
    refine ⟨_, rfl, p, dx, _, rfl, hF', rfl, _, rfl, p, r, w, d, rfl, hF, hd, ?_⟩
    refine ⟨_, rfl, _, _, rfl, rfl, ⟨by decide, by decide⟩, ?_⟩
    refine ⟨g / 2, Nat.div_lt_self hg (by decide), f ^^^ d, GF.dbl r w d, g / 2, rfl, ?_, rfl, GF.dbl_lt R hd, ?_⟩
    ·show [some (V.ref p), some (V.int x), some (V.int y), some (V.int (Builtin.bitXor f d)), some (V.int (GF.dbl r w d : Nat)), some (V.int ((g : Int) / 2))] = _
     rw [jV_, hdv]
    ·rw [<- inv, step, if_pos h1', Nat.xor_assoc]
   ·have h1' : ¬ g % 2 = 1 := by
     intro z
     apply h1
     apply decide_eq_true
     show V.int ((g : Int) % 2) = V.int 1
     congr 1
     omega
    obtain ⟨dx, hF'⟩ := id hF
    refine ⟨_, rfl, p, dx, _, rfl, hF', rfl, _, rfl, p, r, w, d, rfl, hF, hd, ?_⟩
    refine ⟨_, rfl, _, _, rfl, rfl, ⟨by decide, by decide⟩, ?_⟩
    refine ⟨g / 2, Nat.div_lt_self hg (by decide), f, GF.dbl r w d, g / 2, rfl, ?_, rfl, GF.dbl_lt R hd, ?_⟩
    ·show [some (V.ref p), some (V.int x), some (V.int y), some (V.int f), some (V.int (GF.dbl r w d : Nat)), some (V.int ((g : Int) / 2))] = _
     rw [hdv]
    ·rw [<- inv, step, if_neg h1', Nat.zero_xor]
  ·have hg : g = 0 := by
    have : ¬ ((0 : Int) < g) := fun z => h (decide_eq_true z)
    omega
   subst hg
   rw [GF.tm_zero, Nat.xor_zero] at inv
   refine ⟨_, rfl, ?_⟩
   show Q (.int (f : Nat)) H'
   rw [inv]
   exact k
def vf_ (a : Adr) : Sp := fun vs H Q _ => ∃ (p : Addr) (r w : Nat), vs = [.ref p] /\ FieldAt a.C_Field H p r w /\ GF.Good r w /\ Q (.int ((2 ^ w - 1 : Nat) : Int)) H
theorem y0_ (T : Txt K mg a) : FnOk P wo K mg base CX0 2 a.f_Field_doublings_of_one a.d_Field_doublings_of_one ["self"] (vf_ a) := by
 have G_Field_double : FnOk P wo K mg base CX0 1 a.f_Field_double a.d_Field_double ["self", "one"] (vp_ a) := zf_ T
 refine T.F_Field_doublings_of_one.ok (k := 1) sc_Field_doublings_of_one (fun vs H Q E h => ?_) (fun cdv A outer s H vs Q E hr h => ?_)
 ·obtain ⟨p, r, w, rfl, _⟩ := h
  rfl
 ·obtain ⟨p, r, w, rfl, hF, R, k⟩ := h
  obtain ⟨dx, hF'⟩ := id hF
  refine ⟨_, (qc_ (qm_ (i := 1) sc_Field_doublings_of_one.nd rfl (Or.inl rfl) (qE_ (pv 0) T.cl_Field T.me_Field_double G_Field_double (hr.mono (by decide)) T.b_Field_double .nil qo_ (qa_ qj_ qf_)))
   (qc_ (qm_ (i := 2) sc_Field_doublings_of_one.nd rfl (Or.inl rfl) qj_)
   (qc_ (yo_ PassesOwn.never (qp_ zY_ (pv 1) qj_ (qr_ _)) (qc_ (qm_ (i := 1) sc_Field_doublings_of_one.nd rfl (Or.inl rfl) (qE_ (pv 0) T.cl_Field T.me_Field_double G_Field_double (hr.mono (by decide)) T.b_Field_double .nil qo_ (qa_ (pv 1) qf_)))
   (qg_ (qix_ (i := 2) sc_Field_doublings_of_one.nd rfl (Or.inl rfl) qj_ qiy_))))
   (qg_ (qq_ (pv 2)))))), ?_⟩
  refine ⟨_, rfl, p, dx, _, rfl, hF', rfl, p, r, w, 1, rfl, hF, GF.one_lt R.w1, ?_⟩
  refine ⟨fun m σ H' => ∃ n : Nat, m = 2 ^ w - 1 - n /\ σ = [some (.ref p), some (.int (GF.it r w n : Nat)), some (.int n)] /\ H' = H /\ 1 <= n /\ n <= 2 ^ w - 1, ⟨_, 1, rfl, rfl, rfl, Nat.le_refl _, R.last1⟩, ?_⟩
  rintro m σ H' ⟨n, rfl, rfl, rfl, h1, hn⟩
  refine ⟨_, rfl, rfl, _, rfl, ?_⟩
  refine ite2 (fun h => ⟨_, fun _ _ z => z, ?_⟩) (fun h => ?_)
  ·have hne : GF.it r w n ≠ 1 := by
    intro z
    rw [z] at h
    exact absurd h (by decide)
   have hlt : n < 2 ^ w - 1 := Nat.lt_of_le_of_ne hn fun z => hne (by rw [z]; exact R.back)
   refine ⟨_, rfl, p, dx, _, rfl, hF', rfl, _, rfl, p, r, w, _, rfl, hF, GF.it_lt R.rule R.w1 n, ?_⟩
   refine ⟨_, rfl, _, _, rfl, rfl, ?_⟩
   exact ⟨2 ^ w - 1 - (n + 1), by omega, n + 1, rfl, rfl, rfl, by omega, by omega⟩
  ·have he : GF.it r w n = 1 := by
    refine Classical.byContradiction fun z => h ?_
    have : ¬ (V.int (GF.it r w n : Nat) = V.int 1) := fun q => z (by have := V.int.inj q; omega)
    show (!decide (V.int (GF.it r w n : Nat) = V.int 1)) = true
    rw [decide_eq_false this]
    rfl
   have hnn : n = 2 ^ w - 1 := by
    refine Classical.byContradiction fun z => R.first n h1 (by omega) he
   subst hnn
   exact ⟨_, rfl, k⟩
def qbt_ (a : Adr) : Sp := fun vs H Q _ => ∃ (p dx : Addr) (r w : Nat), vs = [.ref p, .int r] /\ H p = some (.ins a.C_Field dx []) /\ GF.Good r w /\ Q .non (upd H p (.ins a.C_Field dx (ff r w)))
theorem uW_ (T : Txt K mg a) : FnOk P wo K mg base CX0 3 a.f_Field_init a.d_Field_init ["self", "rule"] (qbt_ a) := by
 have G_Field_doublings_of_one : FnOk P wo K mg base CX0 2 a.f_Field_doublings_of_one a.d_Field_doublings_of_one ["self"] (vf_ a) := y0_ T
 refine T.F_Field_init.ok (k := 2) sc_Field_init (fun vs H Q E h => ?_) (fun cdv A outer s H vs Q E hr h => ?_)
 ·obtain ⟨p, dx, r, w, rfl, _⟩ := h
  rfl
 ·obtain ⟨p, dx, r, w, rfl, hp, R, k⟩ := h
  refine ⟨_, (qc_ (qH_ (PW.pt (yt_ (qp_ yN_ (pv 1) (zk_ (v := .int 16) rfl T.v_LEAST_RULE ⟨_, rfl⟩) (qr_ _)) (yt_ (qp_ ym_ (pv 1) (zk_ (v := .int 511) rfl T.v_GREATEST_RULE ⟨_, rfl⟩) (qr_ _)) (ys_ (qp_ j1_ (qn_ q6_ (pv 1) qj_) qj_ (qr_ _)))))) (qg_ jE_) qB_)
   (qc_ (jA_ (pv 0) (pv 1) rfl)
   (qc_ (jA_ (pv 0) (qn_ y8_ (zG_ PySem.F.plainAttrs_int PyProof.Rows.slot_int_bit_length PyProof.Rows.type_int_bit_length yS_ (pv 1)) qj_) rfl)
   (qc_ (jA_ (pv 0) (qn_ y8_ (qn_ u8_ qj_ (qA_ (pv 0) rfl)) qj_) rfl)
   (qc_ (qm_ (i := 2) sc_Field_init.nd rfl (Or.inl rfl) (zs_ (pv 0) T.cl_Field T.me_Field_doublings_of_one G_Field_doublings_of_one (hr.mono (by decide)) T.b_Field_doublings_of_one .nil qo_))
   (qg_ (qH_ (qp_ zY_ (pv 2) (qA_ (pv 0) rfl) (qr_ _)) (qg_ jE_) qB_))))))), ?_⟩
  have h16 := R.lo16
  have h511 := R.hi511
  have hod := R.odd
  refine ⟨_, rfl, _, _, rfl, rfl, _, rfl, ?_⟩
  refine ite2 (fun h => absurd (of_decide_eq_true h) (by omega)) (fun _ => ?_)
  refine ⟨_, rfl, _, _, rfl, rfl, _, rfl, ?_⟩
  refine ite2 (fun h => absurd (of_decide_eq_true h) (by omega)) (fun _ => ?_)
  refine ⟨_, rfl, _, _, rfl, rfl, p0 (by decide), rfl, _, rfl, ?_⟩
  refine ite2 (fun h => absurd (V.int.inj (of_decide_eq_true h)) (by omega)) (fun _ => ?_)
  refine ⟨_, rfl, _, rfl, p, a.C_Field, dx, _, rfl, hp, T.cl_Field, T.no_Field_rule, (by decide), ?_⟩
  refine ⟨_, rfl, rfl, _, rfl, rfl, _, _, rfl, rfl, _, rfl, p, a.C_Field, dx, _, rfl, qd_, T.cl_Field, T.no_Field_width, (by show (1 : Nat) < 1000; decide), ?_⟩
  have ew : ((Builtin.Int.intBits (r : Int) : Nat) : Int) - 1 = (w : Int) := by
   rw [jZ_ R.rule.lo R.rule.hi]
   omega
  dsimp only
  rw [ew, js_]
  refine ⟨_, rfl, p, _, _, _, _, rfl, qd_, T.cl_Field, T.no_Field_width, rfl, _, _, rfl, rfl, ⟨by omega, by have := R.w8; omega, by decide⟩, _, _, rfl, rfl, ?_⟩
  refine ⟨_, rfl, p, a.C_Field, dx, _, rfl, qd_, T.cl_Field, T.no_Field_last, (by show (2 : Nat) < 1000; decide), ?_⟩
  have el : (1 : Int) * 2 ^ ((w : Int)).toNat - 1 = ((2 ^ w - 1 : Nat) : Int) := by
   have : ((w : Int)).toNat = w := by omega
   rw [this, Int.one_mul]
   have h1 : 0 < 2 ^ w := Nat.two_pow_pos w
   have h2 : ((2 ^ w : Nat) : Int) = (2 : Int) ^ w := by simp
   omega
  dsimp only
  rw [el, js_]
  have hF : FieldAt a.C_Field (upd H p (.ins a.C_Field dx (ff r w))) p r w := ⟨dx, qd_⟩
  have ef : putF "last" (.int ((2 ^ w - 1 : Nat) : Int)) (putF "width" (.int (w : Int)) (putF "rule" (.int (r : Int)) [])) = ff r w := rfl
  rw [ef]
  refine ⟨_, rfl, p, dx, _, rfl, qd_, rfl, p, r, w, rfl, hF, R, ?_⟩
  refine ⟨_, rfl, _, rfl, p, _, _, _, _, rfl, qd_, T.cl_Field, T.no_Field_last, yH_ r w, rfl, _, rfl, ?_⟩
  refine ite2 (fun h => ?_) (fun _ => k)
  exact absurd h (by simp)
end
theorem Same.new {H : Hp} {p : Addr} {o : HO} (h : H p = none) : Same H (upd H p o) := fun b u e => by rw [qe_ (qk_ e h)]; exact e
theorem qht_ (x k : Nat) : (x : Int) * 2 ^ ((k : Int)).toNat = ((x * 2 ^ k : Nat) : Int) := by
 have : ((k : Int)).toNat = k := by omega
 rw [this]
 simp
theorem qav_ (w : Nat) : (1 : Int) * 2 ^ ((w : Int)).toNat = ((2 ^ w : Nat) : Int) := by
 have := qht_ 1 w
 rw [Nat.one_mul] at this
 exact this
def cell (ns : List Int) (k : Nat) : Int := ns.getD k 0
section
variable {P : Program} {wo : World} {K : PySem.W.Frag} {mg : Str -> Option Value} {base : Heap} {a : Adr}
def qhu_ (K : PySem.W.Frag) : Sp := fun vs H Q _ => ∃ (s : Addr) (ns : List Int) (k : Nat), vs = [.ref s, .int k] /\ SqL K H s (ns.map V.int) /\ k <= 99 /\ ns.length <= 63 /\ ∀ c : Int, Q (.int c) H
theorem qch_ (T : Txt K mg a) : FnOk P wo K mg base CX0 1 a.f_cell a.d_cell ["_law_script", "_law_k"] (qhu_ K) := by
 refine T.F_cell.ok (k := 0) sc_cell (fun vs H Q E h => ?_) (fun cdv A outer s H vs Q E hr h => ?_)
 ·obtain ⟨p, ns, k, rfl, _⟩ := h
  rfl
 ·obtain ⟨p, ns, k, rfl, hS, hk9, hn, q⟩ := h
  refine ⟨_, (qc_ (qH_ (qp_ yN_ (pv 1) (qw_ qt_ rfl T.n_len PySem.boot_len (qa_ (pv 0) qf_)) (qr_ _)) (qg_ (qq_ (qD_ qz_ (pv 0) (pv 1) (fun _ _ => rfl)))) qB_)
   (qc_ (qm_ (i := 2) sc_cell.nd rfl (Or.inl rfl) (qn_ qP_ (qn_ yk_ qj_ (pv 1)) qj_))
   (qc_ (qH_ (qp_ ym_ (qw_ qt_ rfl T.n_len PySem.boot_len (qa_ (pv 0) qf_)) qj_ (qr_ _)) (qg_ (qm_ (i := 2) sc_cell.nd rfl (Or.inl rfl) (qn_ qP_ (pv 2) (qn_ yk_ (qn_ q6_ (qD_ qz_ (pv 0) (qn_ q6_ (qn_ yk_ qj_ (pv 1)) (qw_ qt_ rfl T.n_len PySem.boot_len (qa_ (pv 0) qf_))) (fun _ _ => rfl)) qj_) (qn_ qP_ (pv 1) qj_))))) qB_)
   (qg_ (qq_ (qn_ q6_ (qn_ yk_ (pv 2) (pv 2)) qj_)))))), ?_⟩
  have el : (ns.map V.int).length = ns.length := List.length_map ..
  refine ⟨_, rfl, _, rfl, p, _, rfl, .inl hS, _, _, rfl, rfl, _, rfl, ?_⟩
  refine ite2 (fun h => ?_) (fun h => ?_)
  ·have hk : k < ns.length := by
    have := of_decide_eq_true h
    rw [List.length_map] at this
    omega
   have e : (ns.map V.int)[k]? = some (V.int (ns.getD k 0)) := by
    rw [List.getElem?_map, List.getD_eq_getElem?_getD, List.getElem?_eq_getElem hk]
    rfl
   exact ⟨_, rfl, _, rfl, p, _, _, _, rfl, rfl, hS, qy_ e, q _⟩
  ·refine ⟨_, rfl, _, _, rfl, rfl, .inl ⟨by decide, by decide⟩, _, _, rfl, rfl, ?_⟩
   refine ⟨_, rfl, p, _, rfl, .inl hS, _, _, rfl, rfl, _, rfl, ?_⟩
   refine ite2 (fun h0 => ?_) (fun h0 => ?_)
   ·have hp : 0 < ns.length := by
     have := of_decide_eq_true h0
     rw [List.length_map] at this
     omega
    obtain ⟨i, hi, ei⟩ : ∃ i : Nat, i < ns.length /\ (7 * (k : Int)) % (((ns.map V.int).length : Nat) : Int) = (i : Int) := by
     rw [el]
     exact ⟨(7 * k) % ns.length, Nat.mod_lt _ hp, by rw [Int.natCast_emod, Int.natCast_mul]; rfl⟩
    have e : (ns.map V.int)[i]? = some (V.int (ns.getD i 0)) := by
     rw [List.getElem?_map, List.getD_eq_getElem?_getD, List.getElem?_eq_getElem hi]
     rfl
    have y1 : ns.getD i 0 % 1000003 < 1000003 := by omega
    have y0 : 0 <= ns.getD i 0 % 1000003 := by omega
    have b1 : ns.getD i 0 % 1000003 * ((k : Int) + 3) <= ns.getD i 0 % 1000003 * 102 := Int.mul_le_mul_of_nonneg_left (by omega) y0
    have b0 : 0 <= ns.getD i 0 % 1000003 * ((k : Int) + 3) := Int.mul_nonneg y0 (by omega)
    refine ⟨_, rfl, _, rfl, _, rfl, _, _, rfl, rfl, .inl ⟨by decide, by decide⟩, _, rfl, p, _, rfl, .inl hS, _, _, rfl, rfl, (by rw [el]; omega), p, _, _, _, rfl, rfl, hS, (by rw [ei]; exact qy_ e), _, _, rfl, rfl, (by show (0 : Int) < 1000003; decide), _, rfl, _, _, rfl, rfl, _, _, rfl, rfl, .inl ⟨by omega, by omega⟩, _, _, rfl, rfl, ?_⟩
    exact ⟨_, rfl, _, rfl, _, _, rfl, rfl, .inl ⟨by omega, by omega⟩, _, _, rfl, rfl, (by show (0 : Int) < 1000003; decide), q _⟩
   ·exact ⟨_, rfl, _, rfl, _, _, rfl, rfl, .inl ⟨by omega, by omega⟩, _, _, rfl, rfl, (by show (0 : Int) < 1000003; decide), q _⟩
end
def R81 : List Nat := [19, 25, 37, 41, 67, 97, 131, 193, 285, 369]
theorem qjd_ : ∀ i, i < 10 -> ∃ j, j < 48 /\ GF.rules.getD j 19 = R81.getD i 0 := by decide
theorem qf6_ (i : Nat) (h : i < 10) : GF.Full (R81.getD i 0) (R81.getD i 0).log2 := by
 obtain ⟨j, hj, e⟩ := qjd_ i h
 have := GF.ruleOf_full (j : Int)
 have e2 : GF.ruleOf (j : Int) = R81.getD i 0 := by
  unfold GF.ruleOf
  rw [<- e]
  congr 1
  omega
 rw [e2] at this
 exact this
section
variable {P : Program} {wo : World} {K : PySem.W.Frag} {mg : Str -> Option Value} {base : Heap} {a : Adr}
def qf7_ : Sp := fun vs H Q _ => ∃ c : Int, vs = [.int c] /\ ∀ (r : Nat) H', GF.Full r r.log2 -> Same H H' -> Q (.int r) H'
theorem qhv_ (T : Txt K mg a) : FnOk P wo K mg base CX0 1 a.f_rule a.d_rule ["_law_cell_here"] qf7_ := by
 refine T.F_rule.ok (k := 0) qhq_ (fun vs H Q E h => ?_) (fun cdv A outer s H vs Q E hr h => ?_)
 ·obtain ⟨c, rfl, _⟩ := h
  rfl
 ·obtain ⟨c, rfl, q⟩ := h
  refine ⟨_, (@qg_ _ _ _ (qq_ (@qD_ _ _ _ _ _ _ _ qz_ (@jB_ _ _ _ _ (@qca_ _ _ [19, 25, 37, 41, 67, 97, 131, 193, 285, 369] (by kernel_rfl))) (qn_ q6_ (pv 0) qj_) (fun _ _ => rfl)))), ?_⟩
  refine ⟨(by decide), fun p1 n1 => ?_⟩
  obtain ⟨d, hd, e⟩ : ∃ d : Nat, d < 10 /\ c % 10 = (d : Int) := ⟨(c % 10).toNat, by omega, by omega⟩
  have e1 : (R81.map fun n : Nat => V.int n)[d]? = some (V.int ((R81.getD d 0 : Nat) : Int)) := by
   rw [List.getElem?_map, List.getD_eq_getElem?_getD, List.getElem?_eq_getElem (show d < R81.length from hd)]
   rfl
  refine ⟨_, rfl, _, _, rfl, rfl, (by show (0 : Int) < 10; decide), p1, (R81.map fun n : Nat => V.int n), c % 10, _, rfl, rfl, SqL.of qd_, (by rw [e]; exact qy_ e1), ?_⟩
  exact q _ _ (qf6_ d hd) (Same.new n1)
end
section
variable {P : Program} {wo : World} {K : PySem.W.Frag} {mg : Str -> Option Value} {base : Heap} {a : Adr}
theorem qhw_ {r w d : Nat} (h : ((2 ^ w : Nat) : Int) <= (d : Int) * 2) : Builtin.bitXor ((d : Int) * 2) (r : Int) = ((GF.dbl r w d : Nat) : Int) := by
 have e0 : (d : Int) * 2 = ((2 * d : Nat) : Int) := by omega
 try dsimp only
 rw [e0, jV_]
 unfold GF.dbl
 rw [if_pos (by omega)]
theorem qhx_ {r w d : Nat} (h : ¬ ((2 ^ w : Nat) : Int) <= (d : Int) * 2) : (d : Int) * 2 = ((GF.dbl r w d : Nat) : Int) := by
 unfold GF.dbl
 rw [if_neg (by omega)]
 omega
end
def rowV (row : List Nat) : List V := row.map fun (n : Nat) => V.int (n : Int)
theorem qaw_ {row : List Nat} {i : Nat} (h : i < row.length) : (rowV row)[i]? = some (.int (row[i] : Nat)) := by
 unfold rowV
 rw [List.getElem?_map, List.getElem?_eq_getElem h]
 rfl
theorem ql_ (row : List Nat) : (rowV row).length = row.length := List.length_map _
theorem jq_ {row : List Nat} {i : Nat} {v : V} (h : (rowV row)[i]? = some v) : ∃ x, row[i]? = some x /\ v = .int (x : Nat) := by
 unfold rowV at h
 rw [List.getElem?_map] at h
 cases q : row[i]? with
 | none => rw [q] at h; cases h
 | some x => rw [q] at h; exact ⟨x, rfl, (Option.some.inj h).symm⟩
theorem jU_ (row : List Nat) (x : Nat) : rowV row ++ [.int (x : Nat)] = rowV (row ++ [x]) := by unfold rowV; rw [List.map_append]; rfl
theorem qax_ (row : List Nat) (f : Nat -> Nat) (g : V -> V) (h : ∀ n : Nat, g (.int (n : Int)) = .int ((f n : Nat) : Int)) : (rowV row).map g = rowV (row.map f) := by
 unfold rowV
 rw [List.map_map, List.map_map]
 apply List.map_congr_left
 intro n _
 exact h n
theorem vq_ {row : List Nat} {v : V} (h : v ∈ rowV row) : ∃ x ∈ row, v = .int (x : Nat) := by
 unfold rowV at h
 obtain ⟨x, hx, e⟩ := List.mem_map.mp h
 exact ⟨x, hx, e.symm⟩
theorem modN (c : Int) {n : Nat} (h : 0 < n) : ∃ y : Nat, y < n /\ c % (n : Int) = (y : Int) := by
 have hp : (0 : Int) < (n : Int) := by omega
 have h1 := Int.emod_lt_of_pos c hp
 have h2 := Int.emod_nonneg c (Int.ne_of_gt hp)
 exact ⟨(c % (n : Int)).toNat, by omega, by omega⟩
theorem qek_ {a : Adr} {H H1 : Hp} {x dx : Addr} {r w : Nat} (s1 : Same H H1) (nx : H1 x = none) (ndx : H1 dx = none) : Same H (upd (upd (upd H1 dx (.own x)) x (.ins a.C_Field dx [])) x (.ins a.C_Field dx (ff r w))) := by
 rw [js_]
 refine s1.trans fun b o e => ?_
 rw [qe_ (qk_ e nx), qe_ (qk_ e ndx)]
 exact e
theorem vS_ {u v : V} (h : u = v) : ¬ (!decide (u = v)) = true := by rw [decide_eq_true h]; decide
theorem yJ_ {n j : Nat} (h : j < n) : ixN n (j : Int) = some j := by
 unfold ixN
 rw [if_pos (by omega), if_pos (by omega), Int.toNat_natCast]
theorem qel_ {row : List Nat} {k : Nat} (h : k <= row.length) : cutV (rowV row) (some (k : Int)) none = rowV (row.drop k) := by
 unfold cutV
 rw [HT.sIx_none, HT.sIx_nat, ql_, Nat.min_eq_left h]
 unfold rowV
 rw [<- List.map_drop, ← List.map_take]
 congr 1
 apply List.take_of_length_le
 rw [List.length_drop]
 exact Nat.le_refl _
def bf (fp : Addr) (w n : Nat) : List (Str × V) := [("field", .ref fp), ("many", .int n), ("limit", .int (((2 ^ w) ^ n : Nat) : Int))]
theorem yK_ (fp : Addr) (w n : Nat) : (bf fp w n).lookup ("field" : Str) = some (.ref fp) := rfl
theorem qhy_ (fp : Addr) (w n : Nat) : (bf fp w n).lookup ("many" : Str) = some (.int n) := rfl
structure BlocksAt (a : Adr) (H : Hp) (p fp : Addr) (r w n : Nat) : Prop where
 ins : ∃ dx, H p = some (.ins a.C_Blocks dx (bf fp w n))
 fld : FieldAt a.C_Field H fp r w
theorem BlocksAt.same {a : Adr} {H H' : Hp} {p fp : Addr} {r w n : Nat} (h : BlocksAt a H p fp r w n) (s : Same H H') : BlocksAt a H' p fp r w n := let ⟨dx, e⟩ := h.ins; ⟨⟨dx, s _ _ e⟩, h.fld.same s⟩
theorem qc6_ {a : Adr} {H H1 : Hp} {x dx fp : Addr} {w n : Nat} (s1 : Same H H1) (nx : H1 x = none) (ndx : H1 dx = none) : Same H (upd (upd (upd H1 dx (.own x)) x (.ins a.C_Blocks dx [])) x (.ins a.C_Blocks dx (bf fp w n))) := by
 rw [js_]
 refine s1.trans fun b o e => ?_
 rw [qe_ (qk_ e nx), qe_ (qk_ e ndx)]
 exact e
section
variable {P : Program} {wo : World} {K : PySem.W.Frag} {mg : Str -> Option Value} {base : Heap} {a : Adr}
def qay_ (a : Adr) : Sp := fun vs H Q _ => ∃ (p dx fp : Addr) (r w n : Nat), vs = [.ref p, .ref fp, .int n] /\ H p = some (.ins a.C_Blocks dx []) /\ FieldAt a.C_Field H fp r w /\ p ≠ fp /\ GF.Good r w /\ 1 <= n /\ n <= 16 /\ Q .non (upd H p (.ins a.C_Blocks dx (bf fp w n)))
theorem ue_ (T : Txt K mg a) : FnOk P wo K mg base CX0 1 a.f_Blocks_init a.d_Blocks_init ["self", "field", "many"] (qay_ a) := by
 refine T.F_Blocks_init.ok (k := 0) sc_Blocks_init (fun vs H Q E h => ?_) (fun cdv A outer s H vs Q E hr h => ?_)
 ·obtain ⟨p, dx, fp, r, w, n, rfl, _⟩ := h
  rfl
 ·obtain ⟨p, dx, fp, r, w, n, rfl, hp, hF, hne, R, h1, h16, q⟩ := h
  have t16 := R.top16
  have t256 := R.top256
  refine ⟨_, (qc_ (qH_ (PW.pt (yt_ (qp_ yN_ (pv 2) qj_ (qr_ _)) (ys_ (qp_ ym_ (pv 2) (zk_ (v := .int 16) rfl T.v_MOST_SYMBOLS ⟨_, rfl⟩) (qr_ _))))) (qg_ jE_) qB_)
   (qc_ (jA_ (pv 0) (pv 1) rfl)
   (qc_ (jA_ (pv 0) (pv 2) rfl)
   (qc_ (jA_ (pv 0) qj_ rfl)
   (qg_ (qY_ PassesOwn.never rfl (jz_ rfl T.n_range (qa_ (pv 2) qf_)) (qs_ (i := 3) sc_Blocks_init.nd rfl (Or.inl rfl)) (qg_ (jA_ (pv 0) (qn_ yk_ (qA_ (pv 0) rfl) (qn_ qP_ (qA_ (pv 1) rfl) qj_)) rfl)))))))), ?_⟩
  refine ⟨_, rfl, _, _, rfl, rfl, _, rfl, ?_⟩
  refine ite2 (fun h => absurd (of_decide_eq_true h) (by omega)) (fun _ => ?_)
  refine ⟨_, rfl, _, _, rfl, rfl, _, rfl, ?_⟩
  refine ite2 (fun h => absurd (of_decide_eq_true h) (by omega)) (fun _ => ?_)
  refine ⟨_, rfl, _, rfl, p, a.C_Blocks, dx, _, rfl, hp, T.cl_Blocks, T.no_Blocks_field, (by decide), ?_⟩
  refine ⟨_, rfl, _, rfl, p, a.C_Blocks, dx, _, rfl, qd_, T.cl_Blocks, T.no_Blocks_many, (by show (1 : Nat) < 1000; decide), ?_⟩
  refine ⟨_, rfl, p, a.C_Blocks, dx, _, rfl, qd_, T.cl_Blocks, T.no_Blocks_limit, (by show (2 : Nat) < 1000; decide), ?_⟩
  dsimp only
  rw [js_, js_]
  have ef : ∀ v : V, putF "limit" v (putF "many" (.int (n : Int)) (putF "field" (.ref fp) [])) = [(("field" : Str), .ref fp), (("many" : Str), .int (n : Int)), (("limit" : Str), v)] := fun v => rfl
  rw [ef]
  refine ⟨_, rfl, _, rfl, by omega, by omega, jS_ (lo := 0) (n := n) (fun i σ H' => ∃ v : Option V, σ = [some (.ref p), some (.ref fp), some (.int n), v] ∧ H' = upd H p (.ins a.C_Blocks dx [(("field" : Str), .ref fp), (("many" : Str), .int (n : Int)), (("limit" : Str), .int (((2 ^ w) ^ i : Nat) : Int))])) ⟨none, rfl, rfl⟩ ?_ ?_⟩
  ·rintro i σ H' hi ⟨v, rfl, rfl⟩
   obtain ⟨dF, hF'⟩ := hF
   have el : (((2 ^ w - 1 : Nat) : Int) + 1) = ((2 ^ w : Nat) : Int) := by omega
   refine ⟨_, rfl, p, _, _, _, _, rfl, qd_, T.cl_Blocks, T.no_Blocks_limit, rfl, _, rfl, fp, _, _, _, _, rfl, (by rw [qe_ hne.symm]; exact hF'), T.cl_Field, T.no_Field_last, yH_ r w, _, _, rfl, rfl, _, _, rfl, rfl, .inr ⟨by omega, by omega⟩, ?_⟩
   refine ⟨_, rfl, p, a.C_Blocks, dx, _, rfl, qd_, T.cl_Blocks, T.no_Blocks_limit, (by show (3 : Nat) < 1000; decide), ?_⟩
   refine ⟨_, rfl, ?_⟩
   rw [js_]
   have e2 : (((2 ^ w) ^ i : Nat) : Int) * (((2 ^ w - 1 : Nat) : Int) + 1) = (((2 ^ w) ^ (i + 1) : Nat) : Int) := by
    rw [el, Nat.pow_succ, Int.natCast_mul]
   rw [<- e2]
   rfl
  ·rintro σ H' ⟨v, rfl, rfl⟩
   exact q
def qem_ (a : Adr) : Sp := fun vs H Q _ => ∃ (p fp : Addr) (r w n b : Nat), vs = [.ref p, .int b] /\ BlocksAt a H p fp r w n /\ GF.Good r w /\ n <= 16 /\ ∀ D H', H D = none -> Same H H' -> H' D = some (.lst (rowV (GF.syms w n b))) -> Q (.ref D) H'
theorem z8_ (T : Txt K mg a) : FnOk P wo K mg base CX0 1 a.f_Blocks_symbols a.d_Blocks_symbols ["self", "block"] (qem_ a) := by
 refine T.F_Blocks_symbols.ok (k := 0) sc_Blocks_symbols (fun vs H Q E h => ?_) (fun cdv A outer s H vs Q E hr h => ?_)
 ·obtain ⟨p, fp, r, w, n, b, rfl, _⟩ := h
  rfl
 ·obtain ⟨p, fp, r, w, n, b, rfl, hB, R, h16, q⟩ := h
  have t16 := R.top16
  have t256 := R.top256
  obtain ⟨dB, hB'⟩ := hB.ins
  obtain ⟨dF, hF'⟩ := hB.fld
  have el : (((2 ^ w - 1 : Nat) : Int) + 1) = ((2 ^ w : Nat) : Int) := by omega
  refine ⟨_, (qc_ (qm_ (i := 2) sc_Blocks_symbols.nd rfl (Or.inl rfl) (qn_ qP_ (qA_ (qA_ (pv 0) rfl) rfl) qj_))
   (qc_ (qm_ (i := 3) sc_Blocks_symbols.nd rfl (Or.inl rfl) (jB_ qf_))
   (qc_ (qm_ (i := 4) sc_Blocks_symbols.nd rfl (Or.inl rfl) (pv 1))
   (qc_ (qY_ PassesOwn.never rfl (jz_ rfl T.n_range (qa_ (qA_ (pv 0) rfl) qf_)) (qs_ (i := 5) sc_Blocks_symbols.nd rfl (Or.inl rfl)) (qc_ (q4_ (yc_ PySem.F.plainAttrs_list PySem.F.slot_list_append PySem.F.type_list_append jf_ (pv 3) (qa_ (qn_ q6_ (pv 4) (pv 2)) qf_)))
   (qg_ (qm_ (i := 4) sc_Blocks_symbols.nd rfl (Or.inl rfl) (qn_ jY_ (pv 4) (pv 2))))))
   (qg_ (qq_ (pv 3))))))), ?_⟩
  refine ⟨_, rfl, p, _, _, _, _, rfl, hB', T.cl_Blocks, T.no_Blocks_field, yK_ fp w n, fp, _, _, _, _, rfl, hF', T.cl_Field, T.no_Field_last, yH_ r w, _, _, rfl, rfl, ?_⟩
  dsimp only
  rw [el]
  refine ⟨by decide, fun D nD => ?_⟩
  have s1 := Same.new (o := .lst []) nD
  refine ⟨_, rfl, ?_⟩
  refine ⟨_, rfl, p, _, _, _, _, rfl, s1 _ _ hB', T.cl_Blocks, T.no_Blocks_many, qhy_ fp w n, _, rfl, by omega, by omega, jS_ (lo := 0) (n := n) (fun i σ H' => ∃ (v : Option V) (row : List Nat) (c : Nat), σ = [some (.ref p), some (.int b), some (.int ((2 ^ w : Nat) : Int)), some (.ref D), some (.int c), v] /\ Same H H' /\ H' D = some (.lst (rowV row)) /\ row.length = i /\ row ++ GF.syms w (n - i) c = GF.syms w n b)
   ⟨none, [], b, rfl, s1, qd_, rfl, rfl⟩ ?_ ?_⟩
  ·rintro i σ H' hi ⟨v, row, c, rfl, sm, hD, hl, inv⟩
   have hp : (0 : Int) < ((2 ^ w : Nat) : Int) := by omega
   have em : ((c : Int) % ((2 ^ w : Nat) : Int)) = ((c % 2 ^ w : Nat) : Int) := (Int.natCast_emod _ _).symm
   have ed : ((c : Int) / ((2 ^ w : Nat) : Int)) = ((c / 2 ^ w : Nat) : Int) := (Int.natCast_ediv _ _).symm
   refine ⟨_, rfl, .inl ⟨rfl, _, SqL.of hD⟩, _, rfl, _, rfl, _, _, rfl, rfl, p0 hp, D, _, _, rfl, rfl, hD, qd0_ (by rw [ql_]; omega), ?_⟩
   refine ⟨_, rfl, _, rfl, _, _, rfl, rfl, ⟨hp, by omega⟩, ?_⟩
   dsimp only
   rw [em, ed, jU_]
   refine ⟨_, row ++ [c % 2 ^ w], c / 2 ^ w, rfl, fun b' o e => by rw [qe_ (qk_ e nD)]; exact sm b' o e, qd_, by rw [List.length_append, hl]; rfl, ?_⟩
   rw [<- inv]
   have e1 : n - i = (n - (i + 1)) + 1 := by omega
   rw [e1, GF.syms, List.append_assoc]
   rfl
  ·rintro σ H' ⟨v, row, c, rfl, sm, hD, hl, inv⟩
   rw [Nat.sub_self, GF.syms, List.append_nil] at inv
   rw [inv] at hD
   exact ⟨_, rfl, q D H' nD sm hD⟩
def qf8_ (K : PySem.W.Frag) (a : Adr) : Sp := fun vs H Q _ => ∃ (p fp l : Addr) (r w n : Nat) (row : List Nat), vs = [.ref p, .ref l] /\ BlocksAt a H p fp r w n /\ GF.Good r w /\ SqL K H l (rowV row) /\ Q (.int ((GF.join w row : Nat) : Int)) H
theorem vr_ (T : Txt K mg a) : FnOk P wo K mg base CX0 1 a.f_Blocks_joined a.d_Blocks_joined ["self", "some"] (qf8_ K a) := by
 refine T.F_Blocks_joined.ok (k := 0) sc_Blocks_joined (fun vs H Q E h => ?_) (fun cdv A outer s H vs Q E hr h => ?_)
 ·obtain ⟨p, fp, l, r, w, n, row, rfl, _⟩ := h
  rfl
 ·obtain ⟨p, fp, l, r, w, n, row, rfl, hB, R, hL, q⟩ := h
  have t16 := R.top16
  have t256 := R.top256
  obtain ⟨dB, hB'⟩ := hB.ins
  obtain ⟨dF, hF'⟩ := hB.fld
  have el : (((2 ^ w - 1 : Nat) : Int) + 1) = ((2 ^ w : Nat) : Int) := by omega
  refine ⟨_, (qc_ (qm_ (i := 2) sc_Blocks_joined.nd rfl (Or.inl rfl) (qn_ qP_ (qA_ (qA_ (pv 0) rfl) rfl) qj_))
   (qc_ (qm_ (i := 3) sc_Blocks_joined.nd rfl (Or.inl rfl) qj_)
   (qc_ (qY_ PassesOwn.never rfl (qi5_ rfl T.n_reversed (qa_ (pv 1) qf_)) (qs_ (i := 4) sc_Blocks_joined.nd rfl (Or.inl rfl)) (qg_ (qm_ (i := 3) sc_Blocks_joined.nd rfl (Or.inl rfl) (qn_ qP_ (qn_ yk_ (pv 3) (pv 2)) (pv 4)))))
   (qg_ (qq_ (pv 3)))))), ?_⟩
  refine ⟨_, rfl, p, _, _, _, _, rfl, hB', T.cl_Blocks, T.no_Blocks_field, yK_ fp w n, fp, _, _, _, _, rfl, hF', T.cl_Field, T.no_Field_last, yH_ r w, _, _, rfl, rfl, ?_⟩
  dsimp only
  rw [el]
  refine ⟨_, rfl, l, _, rfl, hL, qhh_ (K := K) (a := l) (xs := rowV row) (fun i σ H' => ∃ v : Option V, σ = [some (.ref p), some (.ref l), some (.int ((2 ^ w : Nat) : Int)), some (.int ((GF.join w (row.drop (row.length - i)) : Nat) : Int)), v] /\ H' = H) ⟨none, ?_, rfl⟩ ?_ ?_ ?_⟩
  ·rw [Nat.sub_zero, List.drop_length]
   rfl
  ·rintro i σ H' _ ⟨v, _, rfl⟩
   exact hL
  ·rintro i v σ H' hi hx ⟨v0, rfl, rfl⟩
   rw [ql_] at hi hx
   obtain ⟨y, hy, rfl⟩ := jq_ hx
   refine ⟨_, rfl, _, rfl, _, _, rfl, rfl, .inr ⟨by omega, by omega⟩, _, rfl, _, _, rfl, rfl, some (.int (y : Nat)), ?_, rfl⟩
   have ed : row.drop (row.length - (i + 1)) = y :: row.drop (row.length - i) := by
    have e1 : row.length - (i + 1) = row.length - 1 - i := by omega
    have e2 : row.length - i = row.length - 1 - i + 1 := by omega
    rw [e1, e2]
    have hlt : row.length - 1 - i < row.length := by omega
    rw [List.drop_eq_getElem_cons hlt]
    congr 1
    rw [List.getElem?_eq_getElem hlt] at hy
    exact Option.some.inj hy
   rw [ed, GF.join, Int.natCast_add, Int.natCast_mul]
   rfl
  ·rintro σ H' ⟨v, rfl, rfl⟩
   rw [ql_, Nat.sub_self, List.drop_zero]
   exact ⟨_, rfl, q⟩
def qf9_ (a : Adr) : Sp := fun vs H Q _ => ∃ (p fp : Addr) (r w n f b : Nat), vs = [.ref p, .int f, .int b] /\ BlocksAt a H p fp r w n /\ GF.Good r w /\ n <= 16 /\ f < 2 ^ w /\ ∀ H', Same H H' -> Q (.int ((GF.join w ((GF.syms w n b).map (GF.tm r w f)) : Nat) : Int)) H'
theorem vs_ (T : Txt K mg a) : FnOk P wo K mg base CX0 3 a.f_Blocks_scaled a.d_Blocks_scaled ["self", "factor", "block"] (qf9_ a) := by
 have G_Field_times : FnOk P wo K mg base CX0 2 _ _ _ _ := yI_ T
 have G_Blocks_joined : FnOk P wo K mg base CX0 1 _ _ _ _ := vr_ T
 have G_Blocks_symbols : FnOk P wo K mg base CX0 1 _ _ _ _ := z8_ T
 refine T.F_Blocks_scaled.ok (k := 2) vo_ (fun vs H Q E h => ?_) (fun cdv A outer s H vs Q E hr h => ?_)
 ·obtain ⟨p, fp, r, w, n, f, b, rfl, _⟩ := h
  rfl
 ·obtain ⟨p, fp, r, w, n, f, b, rfl, hB, R, h16, hf, q⟩ := h
  obtain ⟨dB, hB'⟩ := hB.ins
  obtain ⟨dF, hF'⟩ := hB.fld
  refine ⟨_, (qg_ (qq_ (qE_ (pv 0) T.cl_Blocks T.me_Blocks_joined G_Blocks_joined (hr.mono (by decide)) T.b_Blocks_joined .nil qo_ (qa_ (jH_ (CompOk.of (cap := [1, 0]) (own := ["symbol"]) (by kernel_rfl)) rfl (jp_ (qE_ (pv 0) T.cl_Blocks T.me_Blocks_symbols G_Blocks_symbols (hr.mono (by decide)) T.b_Blocks_symbols .nil qo_ (qa_ (pv 2) qf_))) (fun _ _ _ _ _ => (qs_ (i := 2) (of_decide_eq_true (by kernel_rfl)) rfl (Or.inl rfl))) (fun _ _ _ _ _ => jG_) (fun _ _ _ _ _ => by exact (qE_ (by exact (v6_ (K := K) rfl (pv 1) rfl)) T.cl_Field T.me_Field_times G_Field_times (hr.mono (by decide)) T.b_Field_times .nil qo_ (qa_ (pv 0) (qa_ (pv 2) qf_))))) qf_)))), ?_⟩
  refine ⟨_, rfl, p, dB, _, rfl, hB', rfl, _, rfl, p, dB, _, rfl, hB', rfl, _, rfl, p, fp, r, w, n, b, rfl, hB, R, h16, fun l H1 nl s1 hl => ?_⟩
  refine ⟨l, rfl, ⟨_, SqL.of hl⟩, fun D nD => ?_⟩
  refine vM_ (xs := rowV (GF.syms w n b)) (f := fun v => match v with | .int i => .int ((GF.tm r w f i.toNat : Nat) : Int) | v => v) (cs := [some (.int f), some (.ref p)]) (SqL.of hl) nD rfl (Nat.le_trans (by rw [ql_, GF.syms_length]; exact h16) (by decide)) (fun x H2 R2 hx s2 hR => ?_) (fun H2 s2 hD => ?_)
  ·obtain ⟨y, hy, rfl⟩ := vq_ hx
   have hF2 := s2 _ _ (s1 _ _ hF')
   refine ⟨_, rfl, p, _, _, _, _, rfl, s2 _ _ (s1 _ _ hB'), T.cl_Blocks, T.no_Blocks_field, yK_ fp w n, fp, dF, _, rfl, hF2, rfl, _, rfl, _, rfl, fp, r, w, f, y, rfl, ⟨dF, hF2⟩, R.rule, hf, hR _ (Same.refl _)⟩
  ·rw [qax_ (f := GF.tm r w f) (h := fun n => rfl)] at hD
   exact ⟨p, fp, D, r, w, n, _, rfl, hB.same (s1.trans s2), R, SqL.of hD, q _ (s1.trans s2)⟩
end
section
variable {P : Program} {wo : World} {K : PySem.W.Frag} {mg : Str -> Option Value} {base : Heap} {a : Adr}
def qga_ (K : PySem.W.Frag) (a : Adr) : Sp := fun vs H Q _ => ∃ (p fp lf lb : Addr) (r w n : Nat) (fs bs : List Nat), vs = [.ref p, .ref lf, .ref lb] /\ BlocksAt a H p fp r w n /\ GF.Good r w /\ n <= 16 /\ SqL K H lf (rowV fs) /\ SqL K H lb (rowV bs) /\ fs.length = bs.length /\ (∀ f ∈ fs, f < 2 ^ w) ∧
 ∀ H', Same H H' -> Q (.int ((GF.sumB r w n (fs.zip bs) : Nat) : Int)) H'
theorem qgb_ {fs bs : List Nat} {i f b : Nat} (hf : fs[i]? = some f) (hb : bs[i]? = some b) : (fs.zip bs).take (i + 1) = (fs.zip bs).take i ++ [(f, b)] := by
 rw [List.take_add_one]
 have : (fs.zip bs)[i]? = some (f, b) := by
  rw [List.zip, List.getElem?_zipWith, hf, hb]
 rw [this]
 rfl
theorem vt_ (T : Txt K mg a) : FnOk P wo K mg base CX0 4 a.f_Blocks_summed a.d_Blocks_summed ["self", "factors", "some"] (qga_ K a) := by
 have G_Blocks_scaled : FnOk P wo K mg base CX0 3 _ _ _ _ := vs_ T
 refine T.F_Blocks_summed.ok (k := 3) sc_Blocks_summed (fun vs H Q E h => ?_) (fun cdv A outer s H vs Q E hr h => ?_)
 ·obtain ⟨p, fp, lf, lb, r, w, n, fs, bs, rfl, _⟩ := h
  rfl
 ·obtain ⟨p, fp, lf, lb, r, w, n, fs, bs, rfl, hB, R, h16, hf, hb, hlen, hall, q⟩ := h
  refine ⟨_, (qc_ (qm_ (i := 3) sc_Blocks_summed.nd rfl (Or.inl rfl) qj_)
   (qc_ (qY_ PassesOwn.never rfl (zI_ rfl T.n_zip (qa_ (pv 1) (qa_ (pv 2) qf_))) (y6_ rfl (qO_ (qs_ (i := 4) sc_Blocks_summed.nd rfl (Or.inl rfl)) (qO_ (qs_ (i := 5) sc_Blocks_summed.nd rfl (Or.inl rfl)) yb_))) (qg_ (qm_ (i := 3) sc_Blocks_summed.nd rfl (Or.inl rfl) (qn_ y9_ (pv 3) (qE_ (pv 0) T.cl_Blocks T.me_Blocks_scaled G_Blocks_scaled (hr.mono (by decide)) T.b_Blocks_scaled .nil qo_ (qa_ (pv 4) (qa_ (pv 5) qf_)))))))
   (qg_ (qq_ (pv 3))))), ?_⟩
  refine ⟨_, rfl, _, rfl, lf, lb, _, _, rfl, hf, hb, v5_ (K := K) (l1 := lf) (l2 := lb) (xs := rowV fs) (ys := rowV bs) (fun i σ H' => ∃ v4 v5 : Option V, σ = [some (.ref p), some (.ref lf), some (.ref lb), some (.int ((GF.sumB r w n ((fs.zip bs).take i) : Nat) : Int)), v4, v5] /\ Same H H') ⟨none, none, rfl, Same.refl _⟩ ?_ (by rw [ql_, ql_]; exact hlen) ?_ ?_⟩
  ·rintro i σ H' _ ⟨v4, v5, _, sm⟩
   exact ⟨sm.seq hf, sm.seq hb⟩
  ·rintro i u v T' σ H' hi hu hv hT ⟨v4, v5, rfl, sm⟩
   obtain ⟨f, hfi, rfl⟩ := jq_ hu
   obtain ⟨b, hbi, rfl⟩ := jq_ hv
   have s1 := sm.trans (Same.new (o := .tup [V.int (f : Nat), V.int (b : Nat)]) hT)
   have hB1 := hB.same s1
   obtain ⟨dB, hB'⟩ := hB1.ins
   refine ⟨T', _, rfl, SqT.of qd_, rfl, _, _, rfl, _, _, rfl, rfl, ?_⟩
   refine ⟨_, rfl, _, rfl, p, dB, _, rfl, hB', rfl, _, rfl, _, rfl, p, fp, r, w, n, f, b, rfl, hB1, R, h16, hall f (List.mem_of_getElem? hfi), fun H2 s2 => ?_⟩
   refine ⟨_, _, rfl, rfl, some (.int (f : Nat)), some (.int (b : Nat)), ?_, s1.trans s2⟩
   rw [qgb_ hfi hbi, GF.sumB_snoc]
   show [_, _, _, some (V.int (Builtin.bitXor _ _)), _, _] = _
   rw [jV_]
  ·rintro σ H' ⟨v4, v5, rfl, sm⟩
   have e : (fs.zip bs).take (rowV fs).length = fs.zip bs := by
    rw [ql_]
    apply List.take_of_length_le
    rw [List.length_zip]
    omega
   rw [e]
   exact ⟨_, rfl, q H' sm⟩
end
structure TabAt (H : Hp) (ps : List Addr) (M : Nat) (row : Nat -> List Nat) : Prop where
 len : ps.length = M
 on : ∀ (i : Nat) p, ps[i]? = some p -> H p = some (.lst (rowV (row i)))
theorem TabAt.same {H H' : Hp} {ps : List Addr} {M : Nat} {row : Nat -> List Nat} (h : TabAt H ps M row) (s : Same H H') : TabAt H' ps M row := ⟨h.len, fun i p e => s _ _ (h.on i p e)⟩
theorem TabAt.get {H : Hp} {ps : List Addr} {M : Nat} {row : Nat -> List Nat} (h : TabAt H ps M row) {i : Nat} (hi : i < M) : ∃ p, ps[i]? = some p /\ H p = some (.lst (rowV (row i))) := by
 have hl : i < ps.length := by rw [h.len]; exact hi
 exact ⟨ps[i], List.getElem?_eq_getElem hl, h.on i _ (List.getElem?_eq_getElem hl)⟩
theorem q5_ {ps : List Addr} {i : Nat} {p : Addr} (h : ps[i]? = some p) : (ps.map V.ref)[i]? = some (.ref p) := by rw [List.getElem?_map, h]; rfl
theorem j8_ {row : List Nat} {i : Nat} (h : i < row.length) : (rowV row)[i]? = some (.int ((row.getD i 0 : Nat) : Int)) := by
 rw [qaw_ h, List.getD_eq_getElem?_getD, List.getElem?_eq_getElem h]
 rfl
def yC_ (m at' : Nat) : List Nat := (List.replicate m 0).set at' 1
theorem uf_ (n c : Nat) : (List.replicate n [V.int (c : Int)]).flatten = rowV (List.replicate n c) := by
 induction n with
 | zero => rfl
 | succ n ih => rw [List.replicate_succ, List.flatten_cons, ih, List.replicate_succ]; rfl
theorem qaz_ (row : List Nat) (i x : Nat) : (rowV row).set i (.int (x : Nat)) = rowV (row.set i x) := by
 unfold rowV
 rw [List.map_set]
def rowT (W : Nat) (T : Nat -> Nat -> Nat) (i : Nat) : List Nat := (List.range W).map (T i)
theorem qu_ (W : Nat) (T : Nat -> Nat -> Nat) (i : Nat) : (rowT W T i).length = W := by unfold rowT; rw [List.length_map, List.length_range]
theorem jC_ {W : Nat} {T : Nat -> Nat -> Nat} {i k : Nat} (h : k < W) : (rowT W T i).getD k 0 = T i k := by
 unfold rowT
 rw [List.getD_eq_getElem?_getD, List.getElem?_map, List.getElem?_range h]
 rfl
theorem y1_ {W : Nat} {T U : Nat -> Nat -> Nat} {i j : Nat} (h : ∀ k, k < W -> T i k = U j k) : rowT W T i = rowT W U j := List.map_congr_left fun k hk => h k (List.mem_range.mp hk)
theorem y4_ {W : Nat} {T : Nat -> Nat -> Nat} {i n : Nat} (h : ∀ k, k < W -> T i k < n) : ∀ x ∈ rowT W T i, x < n := fun x hx => by
 obtain ⟨k, hk, rfl⟩ := List.mem_map.mp hx
 exact h k (List.mem_range.mp hk)
theorem TabAt.congr {H : Hp} {ps : List Addr} {M : Nat} {row row' : Nat -> List Nat} (h : TabAt H ps M row) (e : ∀ i, i < M -> row i = row' i) : TabAt H ps M row' :=
 ⟨h.len, fun i p hi => by
  have : i < M := by
   rw [<- h.len]
   exact (List.getElem?_eq_some_iff.mp hi).1
  rw [<- e i this]
  exact h.on i p hi⟩
theorem TabAt.snoc {H H' : Hp} {ps : List Addr} {n : Nat} {row : Nat -> List Nat} {p : Addr} (h : TabAt H ps n row) (s : ∀ q ∈ ps, H' q = H q) (hp : H' p = some (.lst (rowV (row n)))) : TabAt H' (ps ++ [p]) (n + 1) row := by
 refine ⟨by rw [List.length_append, h.len]; rfl, fun i q e => ?_⟩
 rw [List.getElem?_append] at e
 split at e
 ·rw [s q (List.mem_of_getElem? e)]
  exact h.on i q e
 ·rename_i hge
  cases ht : i - ps.length with
  | zero =>
   rw [ht] at e
   have : p = q := by simpa using e
   subst this
   have : i = n := by have := h.len; omega
   rw [this]
   exact hp
  | succ m => rw [ht] at e; simp at e
def knV (ks : List Bool) : List V := ks.map V.bl
theorem zO_ (m i : Nat) : (yC_ m i).length = m := by unfold yC_; rw [List.length_set, List.length_replicate]
theorem vg_ (x y : List Nat) : rowV x ++ rowV y = rowV (x ++ y) := by unfold rowV; rw [List.map_append]
theorem qen_ {W : Nat} {f : Nat -> List Nat} {i : Nat} (h : (f i).length = W) : rowT W (fun i k => (f i).getD k 0) i = f i := by
 unfold rowT
 apply List.ext_getElem
 ·rw [List.length_map, List.length_range, h]
 ·intro k k1 k2
  simp [k2]
theorem qc7_ {N M i k : Nat} {l : Nat -> Nat -> Nat} (hk : k < N) : (rowT N l i ++ yC_ M i).getD k 0 = l i k := by
 rw [List.getD_eq_getElem?_getD, List.getElem?_append_left (by rw [qu_]; exact hk), ← List.getD_eq_getElem?_getD, jC_ hk]
theorem qbu_ {N M i j : Nat} {l : Nat -> Nat -> Nat} (hj : j < M) : (rowT N l i ++ yC_ M i).getD (N + j) 0 = if j = i then 1 else 0 := by
 rw [List.getD_eq_getElem?_getD, List.getElem?_append_right (by rw [qu_]; omega), qu_, Nat.add_sub_cancel_left]
 unfold yC_
 rw [List.getElem?_set]
 by_cases z : i = j
 ·rw [if_pos z, if_pos (by rw [List.length_replicate]; omega), if_pos z.symm]
  rfl
 ·rw [if_neg z, if_neg (fun e => z e.symm), List.getElem?_replicate, if_pos hj]
  rfl
theorem TabAt.upd {H : Hp} {ps : List Addr} {M : Nat} {row : Nat -> List Nat} {d : Addr} {o : HO} (h : TabAt H ps M row) (n : d ∉ ps) : TabAt (upd H d o) ps M row :=
 ⟨h.len, fun i p e => by
  have np : p ≠ d := fun z => n (by rw [<- z]; exact List.mem_of_getElem? e)
  rw [qe_ np]
  exact h.on i p e⟩
theorem qbv_ {n : Nat} : (!decide (V.int (n : Int) = V.non)) = true := by
 rw [decide_eq_false (fun z => by cases z)]
 rfl
section
variable {P : Program} {wo : World} {K : PySem.W.Frag} {mg : Str -> Option Value} {base : Heap} {a : Adr}
def qje_ : Sp := fun vs H Q _ => ∃ (m i : Nat), vs = [.int m, .int i] /\ i < m /\ m <= 30 /\ ∀ D H', H D = none -> Same H H' -> H' D = some (.lst (rowV (yC_ m i))) -> Q (.ref D) H'
theorem qci_ (T : Txt K mg a) : FnOk P wo K mg base CX0 1 a.f_unit a.d_unit ["many", "at"] qje_ := by
 refine T.F_unit.ok (k := 0) sc_unit (fun vs H Q E h => ?_) (fun cdv A outer s H vs Q E hr h => ?_)
 ·obtain ⟨m, i, rfl, _⟩ := h
  rfl
 ·obtain ⟨m, i, rfl, hi, hm, q⟩ := h
  refine ⟨_, (qc_ (qm_ (i := 2) sc_unit.nd rfl (Or.inl rfl) (qn_ vF_ (jB_ (qa_ qj_ qf_)) (pv 0)))
   (qc_ (yQ_ qj_ (y7_ (pv 2) (pv 1) yp_))
   (qg_ (qq_ (pv 2))))), ?_⟩
  refine ⟨(by decide), fun p1 n1 => ⟨_, rfl, p1, _, _, rfl, rfl, qd_, by omega, by omega, ?_, fun p2 n2 => ?_⟩⟩
  ·rw [Int.toNat_natCast]
   show 1 * m <= sizeLine
   exact Nat.le_trans (by omega : 1 * m <= 30) (by decide)
  have eR : (List.replicate ((m : Int)).toNat [V.int 0]).flatten = rowV (List.replicate m 0) := by rw [Int.toNat_natCast]; exact uf_ m 0
  rw [eR]
  refine ⟨_, rfl, _, rfl, p2, _, _, i, rfl, rfl, qd_, yJ_ (by rw [ql_, List.length_replicate]; exact hi), ?_⟩
  have s12 := (Same.new (o := .lst [V.int 0]) n1)
  refine ⟨_, rfl, q p2 _ (s12.free n2) ?_ ?_⟩
  ·rw [js_]
   exact s12.trans (Same.new n2)
  ·rw [qd_]
   exact congrArg (fun l => some (HO.lst l)) (qaz_ _ _ 1)
end
section
variable {P : Program} {wo : World} {K : PySem.W.Frag} {mg : Str -> Option Value} {base : Heap} {a : Adr}
def qhz_ (a : Adr) : Sp := fun vs H Q _ => ∃ (p : Addr) (r w x n : Nat), vs = [.ref p, .int x, .int n] /\ FieldAt a.C_Field H p r w /\ GF.Good r w /\ x < 2 ^ w /\ Q (.int (GF.pw r w x n : Nat)) H
theorem ug_ (T : Txt K mg a) : FnOk P wo K mg base CX0 3 a.f_Field_power a.d_Field_power ["self", "one", "many"] (qhz_ a) := by
 have G_Field_times : FnOk P wo K mg base CX0 2 _ _ _ _ := yI_ T
 refine T.F_Field_power.ok (k := 2) sc_Field_power (fun vs H Q E h => ?_) (fun cdv A outer s H vs Q E hr h => ?_)
 ·obtain ⟨p, r, w, x, n, rfl, _⟩ := h
  rfl
 ·obtain ⟨p, r, w, x, n, rfl, hF, g, hx, q⟩ := h
  obtain ⟨dx, hF'⟩ := id hF
  have t16 := g.top16
  refine ⟨_, (qc_ (qm_ (i := 3) sc_Field_power.nd rfl (Or.inl rfl) qj_)
   (qc_ (qm_ (i := 4) sc_Field_power.nd rfl (Or.inl rfl) (pv 1))
   (qc_ (qm_ (i := 5) sc_Field_power.nd rfl (Or.inl rfl) (pv 2))
   (qc_ (yo_ PassesOwn.never (qp_ ym_ (pv 5) qj_ (qr_ _)) (qc_ (qH_ (qp_ j1_ (qn_ q6_ (pv 5) qj_) qj_ (qr_ _)) (qg_ (qm_ (i := 3) sc_Field_power.nd rfl (Or.inl rfl) (qE_ (pv 0) T.cl_Field T.me_Field_times G_Field_times (hr.mono (by decide)) T.b_Field_times .nil qo_ (qa_ (pv 3) (qa_ (pv 4) qf_))))) qB_)
   (qc_ (qm_ (i := 4) sc_Field_power.nd rfl (Or.inl rfl) (qE_ (pv 0) T.cl_Field T.me_Field_times G_Field_times (hr.mono (by decide)) T.b_Field_times .nil qo_ (qa_ (pv 4) (qa_ (pv 4) qf_))))
   (qg_ (qm_ (i := 5) sc_Field_power.nd rfl (Or.inl rfl) (qn_ jY_ (pv 5) qj_))))))
   (qg_ (qq_ (pv 3))))))), ?_⟩
  refine ⟨_, rfl, _, rfl, ⟨fun m σ H' => ∃ (y s d : Nat), d = m /\ σ = [some (.ref p), some (.int x), some (.int n), some (.int (y : Nat)), some (.int (s : Nat)), some (.int (d : Nat))] /\ H' = H /\ y < 2 ^ w /\ s < 2 ^ w /\ GF.tm r w y (GF.pw r w s d) = GF.pw r w x n, ⟨_, 1, x, n, rfl, rfl, rfl, by omega, hx, GF.one_tm g.rule g.w1 (GF.pw_lt g hx n)⟩, ?_⟩⟩
  rintro m σ H' ⟨y, s, d, rfl, rfl, rfl, hy, hs, inv⟩
  refine ⟨_, rfl, _, _, rfl, rfl, _, rfl, ?_⟩
  refine ite2 (fun h => ⟨_, fun _ _ z => z, ?_⟩) (fun h => ?_)
  ·have hd : 0 < d := by
    have := of_decide_eq_true h
    omega
   have hdv : ((d : Int) / 2) = ((d / 2 : Nat) : Int) := by omega
   have hss := GF.tm_lt g.rule (b := s) hs
   refine ⟨_, rfl, _, _, rfl, rfl, p0 (by decide), rfl, _, rfl, ?_⟩
   refine ite2 (fun h1 => ?_) (fun h1 => ?_)
   ·have h1' : d % 2 = 1 := by
     have := V.int.inj (of_decide_eq_true h1)
     omega
    refine ⟨_, rfl, p, dx, _, rfl, hF', rfl, _, rfl, _, rfl, p, r, w, y, s, rfl, hF, g.rule, hy, ?_⟩
    refine ⟨_, rfl, p, dx, _, rfl, hF', rfl, _, rfl, _, rfl, p, r, w, s, s, rfl, hF, g.rule, hs, ?_⟩
    refine ⟨_, rfl, _, _, rfl, rfl, ⟨by decide, by decide⟩, ?_⟩
    try dsimp only
    rw [hdv]
    refine ⟨d / 2, Nat.div_lt_self hd (by decide), GF.tm r w y s, GF.tm r w s s, d / 2, rfl, rfl, rfl, GF.tm_lt g.rule hy, hss, ?_⟩
    have e : d = 1 + 2 * (d / 2) := by omega
    rw [<- inv, GF.pw_half g hs]
    conv => rhs; rw [e]
    rw [GF.pw_add g hs, GF.pw_one s g hs, GF.tm_assoc g.rule g.w1 hy hs]
   ·have h1' : ¬ d % 2 = 1 := by
     intro z
     apply h1
     apply decide_eq_true
     show V.int ((d : Int) % 2) = V.int 1
     congr 1
     omega
    refine ⟨_, rfl, p, dx, _, rfl, hF', rfl, _, rfl, _, rfl, p, r, w, s, s, rfl, hF, g.rule, hs, ?_⟩
    refine ⟨_, rfl, _, _, rfl, rfl, ⟨by decide, by decide⟩, ?_⟩
    try dsimp only
    rw [hdv]
    refine ⟨d / 2, Nat.div_lt_self hd (by decide), y, GF.tm r w s s, d / 2, rfl, rfl, rfl, hy, hss, ?_⟩
    have e : d = 2 * (d / 2) := by omega
    rw [<- inv, GF.pw_half g hs]
    conv => rhs; rw [e]
  ·have hd : d = 0 := by
    have : ¬ ((0 : Int) < (d : Int)) := fun z => h (decide_eq_true z)
    omega
   subst hd
   have e : GF.pw r w s 0 = 1 := rfl
   rw [e, GF.tm_one] at inv
   refine ⟨_, rfl, ?_⟩
   show Q (.int (y : Nat)) H'
   rw [inv]
   exact q
end
section
variable {P : Program} {wo : World} {K : PySem.W.Frag} {mg : Str -> Option Value} {base : Heap} {a : Adr}
def qjf_ (a : Adr) : Sp := fun vs H Q _ => ∃ (p : Addr) (r w x : Nat), vs = [.ref p, .int x] /\ FieldAt a.C_Field H p r w /\ GF.Good r w /\ 0 < x /\ x < 2 ^ w /\ Q (.int (GF.pw r w x (2 ^ w - 1 - 1) : Nat)) H
theorem uX_ (T : Txt K mg a) : FnOk P wo K mg base CX0 4 a.f_Field_back a.d_Field_back ["self", "one"] (qjf_ a) := by
 have G_Field_power : FnOk P wo K mg base CX0 3 _ _ _ _ := ug_ T
 refine T.F_Field_back.ok (k := 3) uS_ (fun vs H Q E h => ?_) (fun cdv A outer s H vs Q E hr h => ?_)
 ·obtain ⟨p, r, w, x, rfl, _⟩ := h
  rfl
 ·obtain ⟨p, r, w, x, rfl, hF, g, h0, hx, q⟩ := h
  obtain ⟨dx, hF'⟩ := id hF
  have t16 := g.top16
  refine ⟨_, (qc_ (qH_ (qp_ j1_ (pv 1) qj_ (qr_ _)) (qg_ jE_) qB_)
   (qg_ (qq_ (qE_ (pv 0) T.cl_Field T.me_Field_power G_Field_power (hr.mono (by decide)) T.b_Field_power .nil qo_ (qa_ (pv 1) (qa_ (qn_ y8_ (qA_ (pv 0) rfl) qj_) qf_)))))), ?_⟩
  refine ⟨_, rfl, rfl, _, rfl, ?_⟩
  refine ite2 (fun h => absurd (V.int.inj (of_decide_eq_true h)) (by omega)) (fun _ => ?_)
  have e : (((2 ^ w - 1 : Nat) : Int) - 1) = ((2 ^ w - 1 - 1 : Nat) : Int) := by omega
  refine ⟨_, rfl, p, dx, _, rfl, hF', rfl, _, rfl, _, rfl, p, _, _, _, _, rfl, hF', T.cl_Field, T.no_Field_last, yH_ r w, _, _, rfl, rfl, ?_⟩
  try dsimp only
  rw [e]
  exact ⟨p, r, w, x, _, rfl, hF, g, hx, q⟩
def qa0_ (K : PySem.W.Frag) (a : Adr) : Sp := fun vs H Q _ => ∃ (p l : Addr) (r w c : Nat) (row : List Nat), vs = [.ref p, .int c, .ref l] /\ FieldAt a.C_Field H p r w /\ GF.Good r w /\ H l = some (.lst (rowV row)) /\ (∀ x ∈ row, x < 2 ^ w) /\ row.length <= 100 /\ ∀ D H', H D = none -> Same H H' -> H' D = some (.lst (rowV (row.map fun s => GF.tm r w s c))) -> Q (.ref D) H'
theorem zo_ (T : Txt K mg a) : FnOk P wo K mg base CX0 3 a.f_scaled_line a.d_scaled_line ["field", "factor", "line"] (qa0_ K a) := by
 have G_Field_times : FnOk P wo K mg base CX0 2 _ _ _ _ := yI_ T
 refine T.F_scaled_line.ok (k := 2) ub_ (fun vs H Q E h => ?_) (fun cdv A outer s H vs Q E hr h => ?_)
 ·obtain ⟨p, l, r, w, c, row, rfl, _⟩ := h
  rfl
 ·obtain ⟨p, l, r, w, c, row, rfl, hF, g, hl, hall, hlen, q⟩ := h
  obtain ⟨dx, hF'⟩ := id hF
  refine ⟨_, (qg_ (qq_ (jH_ (CompOk.of (cap := [1, 0]) (own := ["symbol"]) (by kernel_rfl)) rfl (jp_ (pv 2)) (fun _ _ _ _ _ => (qs_ (i := 2) (of_decide_eq_true (by kernel_rfl)) rfl (Or.inl rfl))) (fun _ _ _ _ _ => jG_) (fun _ _ _ _ _ => by exact (qE_ (pv 1) T.cl_Field T.me_Field_times G_Field_times (hr.mono (by decide)) T.b_Field_times .nil qo_ (qa_ (pv 2) (qa_ (pv 0) qf_))))))), ?_⟩
  refine ⟨_, rfl, l, rfl, ⟨_, SqL.of hl⟩, fun D nD => ?_⟩
  refine vM_ (xs := rowV row) (f := fun v => match v with | .int i => .int ((GF.tm r w i.toNat c : Nat) : Int) | v => v) (cs := [some (.int c), some (.ref p)]) (SqL.of hl) nD rfl (Nat.le_trans (by rw [ql_]; exact hlen) (by decide)) (fun x H2 R2 hx s2 hR => ?_) (fun H2 s2 hD => ?_)
  ·obtain ⟨y, hy, rfl⟩ := vq_ hx
   exact ⟨_, rfl, p, dx, _, rfl, s2 _ _ hF', rfl, _, rfl, _, rfl, p, r, w, y, c, rfl, hF.same s2, g.rule, hall y hy, hR _ (Same.refl _)⟩
  ·rw [qax_ (f := fun s => GF.tm r w s c) (h := fun n => rfl)] at hD
   exact q D H2 nD s2 hD
def qgc_ (K : PySem.W.Frag) : Sp := fun vs H Q _ => ∃ (l1 l2 : Addr) (x y : List Nat), vs = [.ref l1, .ref l2] /\ H l1 = some (.lst (rowV x)) /\ H l2 = some (.lst (rowV y)) /\ x.length = y.length /\ x.length <= 100 /\ ∀ D H', H D = none -> Same H H' -> H' D = some (.lst (rowV (List.zipWith (fun s t => s ^^^ t) x y))) -> Q (.ref D) H'
theorem zE_ (T : Txt K mg a) : FnOk P wo K mg base CX0 1 a.f_sum_of_two a.d_sum_of_two ["one", "other"] (qgc_ K) := by
 refine T.F_sum_of_two.ok (k := 0) uT_ (fun vs H Q E h => ?_) (fun cdv A outer s H vs Q E hr h => ?_)
 ·obtain ⟨l1, l2, x, y, rfl, _⟩ := h
  rfl
 ·obtain ⟨l1, l2, x, y, rfl, h1, h2, hl, hlen, q⟩ := h
  refine ⟨_, (qg_ (qq_ (jH_ (CompOk.of (cap := []) (own := ["symbol", "another"]) (by kernel_rfl)) rfl (zI_ rfl T.n_zip (qa_ (pv 0) (qa_ (pv 1) qf_))) (fun _ _ _ _ _ => (v9_ (n := 2) (K := K) rfl rfl (qO_ (qs_ (i := 0) (of_decide_eq_true (by kernel_rfl)) rfl (Or.inl rfl)) (qO_ (qs_ (i := 1) (of_decide_eq_true (by kernel_rfl)) rfl (Or.inl rfl)) yb_)))) (fun _ _ _ _ _ => jG_) (fun _ _ _ _ _ => by exact (qn_ y9_ (pv 0) (pv 1)))))), ?_⟩
  refine ⟨_, rfl, _, rfl, l1, l2, _, _, rfl, SqL.of h1, SqL.of h2, fun D nD => ?_⟩
  refine qeb_ (xs := rowV x) (ys := rowV y) (f := fun i => .int ((x.getD i 0 ^^^ y.getD i 0 : Nat) : Int)) (cs := []) (SqL.of h1) (SqL.of h2) (by rw [ql_, ql_, hl]) nD rfl (Nat.le_trans (by rw [ql_]; exact hlen) (by decide)) (fun i u v H2 R2 hu hv s2 hR => ?_) (fun H2 s2 hD => q D H2 nD s2 ?_)
  ·obtain ⟨su, eu, rfl⟩ := jq_ hu
   obtain ⟨sv, ev, rfl⟩ := jq_ hv
   refine ⟨_, rfl, _, rfl, _, _, rfl, rfl, ?_⟩
   try dsimp only
   rw [jV_]
   have e1 : x.getD i 0 = su := by rw [List.getD_eq_getElem?_getD, eu]; rfl
   have e2 : y.getD i 0 = sv := by rw [List.getD_eq_getElem?_getD, ev]; rfl
   rw [e1, e2] at hR
   exact hR _ (Same.refl _)
  ·rw [hD]
   congr 2
   rw [ql_]
   apply List.ext_getElem
   ·rw [List.length_map, List.length_range, ql_, List.length_zipWith, hl, Nat.min_self]
   ·intro i i1 i2
    rw [List.length_map, List.length_range] at i1
    have j2 : i < y.length := by omega
    simp [rowV, i1, j2]
end
section
variable {P : Program} {wo : World} {K : PySem.W.Frag} {mg : Str -> Option Value} {base : Heap} {a : Adr}
def qh0_ (K : PySem.W.Frag) : Sp := fun vs H Q _ => ∃ (l : Addr) (st pl M : Nat) (ps : List Addr) (row : Nat -> List Nat), vs = [.ref l, .int st, .int pl] /\ H l = some (.lst (ps.map V.ref)) /\ TabAt H ps M row /\ (∀ i, i < M -> pl < (row i).length) /\ st <= M /\ M <= 8 ∧
 (∀ f, st <= f -> f < M -> (row f).getD pl 0 ≠ 0 -> Q (.int (f : Nat)) H) /\ ((∀ i, st <= i -> i < M -> (row i).getD pl 0 = 0) -> Q .non H)
theorem uY_ (T : Txt K mg a) : FnOk P wo K mg base CX0 1 a.f_first_with a.d_first_with ["lines", "start", "place"] (qh0_ K) := by
 refine T.F_first_with.ok (k := 0) sc_first_with (fun vs H Q E h => ?_) (fun cdv A outer s H vs Q E hr h => ?_)
 ·obtain ⟨l, st, pl, M, ps, row, rfl, _⟩ := h
  rfl
 ·obtain ⟨l, st, pl, M, ps, row, rfl, hl, ht, hp, hs, hm, q1, q2⟩ := h
  refine ⟨_, (qc_ (qY_ PassesOwn.never rfl (qdo_ rfl T.n_range (qa_ (pv 1) (qa_ (qw_ qt_ rfl T.n_len PySem.boot_len (qa_ (pv 0) qf_)) qf_))) (qs_ (i := 3) sc_first_with.nd rfl (Or.inl rfl)) (qg_ (qH_ (qp_ zY_ (qD_ qz_ (qD_ qz_ (pv 0) (pv 3) (fun _ _ => rfl)) (pv 2) (fun _ _ => rfl)) qj_ (qr_ _)) (qg_ (qq_ (pv 3))) qB_)))
   (qg_ (qq_ jr_))), ?_⟩
  have hlen : ((ps.map V.ref).length : Int) = (M : Nat) := by rw [List.length_map, ht.len]
  refine ⟨_, rfl, _, rfl, l, _, rfl, .inl (SqL.of hl), _, _, rfl, ⟨by omega, by omega, by omega, by omega⟩, ?_⟩
  have en : (((ps.map V.ref).length : Int) - (st : Nat)).toNat = M - st := by rw [hlen]; omega
  rw [en]
  refine jS_ (lo := (st : Nat)) (n := M - st) (fun i σ H' => (∃ v : Option V, σ = [some (.ref l), some (.int st), some (.int pl), v]) /\ H' = H /\ ∀ k, st <= k -> k < st + i -> (row k).getD pl 0 = 0) ⟨⟨none, rfl⟩, rfl, fun k h1 h2 => by omega⟩ ?_ ?_
  ·rintro i σ H' hi ⟨⟨v, rfl⟩, rfl, inv⟩
   have ek : ((st : Nat) : Int) + (i : Nat) = ((st + i : Nat) : Int) := by omega
   obtain ⟨p, ep, hp1⟩ := ht.get (i := st + i) (by omega)
   have hpl := hp (st + i) (by omega)
   rw [ek]
   refine ⟨_, rfl, _, rfl, l, _, _, _, rfl, rfl, SqL.of hl, qy_ (q5_ ep), _, rfl, p, _, _, _, rfl, rfl, SqL.of hp1, qy_ (j8_ hpl), rfl, _, rfl, ?_⟩
   refine ite2 (fun h => ?_) (fun h => ?_)
   ·refine ⟨_, rfl, ?_⟩
    refine q1 (st + i) (by omega) (by omega) fun z => ?_
    rw [z] at h
    revert h
    decide
   ·refine ⟨⟨_, rfl⟩, rfl, fun k h1 h2 => ?_⟩
    by_cases e : k = st + i
    ·rw [e]
     apply Decidable.byContradiction
     intro z
     apply h
     rw [decide_eq_false]
     ·rfl
     ·intro y
      have := V.int.inj y
      omega
    ·exact inv k h1 (by omega)
  ·rintro σ H' ⟨⟨v, rfl⟩, rfl, inv⟩
   exact q2 fun i h1 h2 => inv i h1 (by omega)
def qeo_ (K : PySem.W.Frag) : Sp := fun vs H Q _ => ∃ (l : Addr) (h f M : Nat) (ps : List Addr) (row : Nat -> List Nat), vs = [.ref l, .int h, .int f] /\ H l = some (.lst (ps.map V.ref)) /\ TabAt H ps M row /\ h < M /\ f < M /\ M <= 8 ∧
 ∀ D H' ps', H D = none -> Same H H' -> H' D = some (.lst (ps'.map V.ref)) -> TabAt H' ps' M (fun i => if i = h then row f else if i = f then row h else row i) -> (∀ p ∈ ps', p ∈ ps) -> Q (.ref D) H'
theorem qc8_ (T : Txt K mg a) : FnOk P wo K mg base CX0 1 a.f_swapped a.d_swapped ["lines", "one", "other"] (qeo_ K) := by
 refine T.F_swapped.ok (k := 0) sc_swapped (fun vs H Q E h => ?_) (fun cdv A outer s H vs Q E hr h => ?_)
 ·obtain ⟨l, h, f, M, ps, row, rfl, _⟩ := h
  rfl
 ·obtain ⟨l, h, f, M, ps, row, rfl, hl, ht, hh, hf, hm, q⟩ := h
  refine ⟨_, (qc_ (qm_ (i := 3) sc_swapped.nd rfl (Or.inl rfl) (yR_ j5_ rfl T.n_list (by decide +kernel) (qa_ (pv 0) qf_)))
   (qc_ (yQ_ (qD_ qz_ (pv 0) (pv 2) (fun _ _ => rfl)) (y7_ (pv 3) (pv 1) yp_))
   (qc_ (yQ_ (qD_ qz_ (pv 0) (pv 1) (fun _ _ => rfl)) (y7_ (pv 3) (pv 2) yp_))
   (qg_ (qq_ (pv 3)))))), ?_⟩
  obtain ⟨p1, e1, hp1⟩ := ht.get hf
  obtain ⟨p2, e2, hp2⟩ := ht.get hh
  refine ⟨_, rfl, l, _, rfl, .inl (SqL.of hl), fun D nD => ?_⟩
  have hll : h < (ps.map V.ref).length := by rw [List.length_map, ht.len]; exact hh
  have hlf : f < (ps.map V.ref).length := by rw [List.length_map, ht.len]; exact hf
  have lD : l ≠ D := qk_ hl nD
  refine ⟨_, rfl, _, rfl, l, _, _, _, rfl, rfl, SqL.of (by rw [qe_ lD]; exact hl), qy_ (q5_ e1), ?_⟩
  refine ⟨_, rfl, _, rfl, D, _, _, h, rfl, rfl, qd_, yJ_ hll, ?_⟩
  refine ⟨_, rfl, _, rfl, l, _, _, _, rfl, rfl, SqL.of (by rw [js_, qe_ lD]; exact hl), qy_ (q5_ e2), ?_⟩
  refine ⟨_, rfl, _, rfl, D, _, _, f, rfl, rfl, qd_, yJ_ (by rw [List.length_set]; exact hlf), ?_⟩
  rw [js_, js_]
  have eps : (((ps.map V.ref).set h (.ref p1)).set f (.ref p2)) = (((ps.set h p1).set f p2).map V.ref) := by rw [List.map_set, List.map_set]
  rw [eps]
  refine ⟨_, rfl, q D _ _ nD (Same.new nD) qd_ ⟨by rw [List.length_set, List.length_set, ht.len], fun i p ei => ?_⟩ (fun p hp => ?_)⟩
  rotate_left
  ·rcases List.mem_or_eq_of_mem_set hp with z | z
   ·rcases List.mem_or_eq_of_mem_set z with z | z
    ·exact z
    ·rw [z]
     exact List.mem_of_getElem? e1
   ·rw [z]
    exact List.mem_of_getElem? e2
  have on := fun i p e => (Same.new (o := .lst (((ps.set h p1).set f p2).map V.ref)) nD) _ _ (ht.on i p e)
  rw [List.getElem?_set, List.getElem?_set] at ei
  by_cases zf : f = i
  ·rw [if_pos zf, if_pos (by rw [List.length_set, ht.len]; exact hf)] at ei
   subst zf
   have := Option.some.inj ei
   subst this
   by_cases zh : f = h
   ·rw [if_pos zh]
    subst zh
    exact on f p2 e2
   ·rw [if_neg zh, if_pos rfl]
    exact on h p2 e2
  ·rw [if_neg zf] at ei
   by_cases zh : h = i
   ·rw [if_pos zh, if_pos (by rw [ht.len]; exact hh)] at ei
    subst zh
    have := Option.some.inj ei
    subst this
    rw [if_pos rfl]
    exact on f p1 e1
   ·rw [if_neg zh] at ei
    rw [if_neg (fun z => zh z.symm), if_neg (fun z => zf z.symm)]
    exact on i p ei
end
section
variable {P : Program} {wo : World} {K : PySem.W.Frag} {mg : Str -> Option Value} {base : Heap} {a : Adr}
def qep_ (K : PySem.W.Frag) (a : Adr) : Sp := fun vs H Q _ => ∃ (fp l : Addr) (r w h pl M W : Nat) (ps : List Addr) (T : Nat -> Nat -> Nat), vs = [.ref fp, .ref l, .int h, .int pl] /\ FieldAt a.C_Field H fp r w /\ GF.Good r w /\ H l = some (.lst (ps.map V.ref)) /\ TabAt H ps M (rowT W T) /\ (∀ i k, i < M -> k < W -> T i k < 2 ^ w) /\ W <= 30 /\ pl < W /\ h < M /\ M <= 8 /\ T h pl ≠ 0 ∧
 ∀ D H' ps', H D = none -> Same H H' -> H' D = some (.lst (ps'.map V.ref)) -> TabAt H' ps' M (rowT W (GF.clearT r w T h pl (GF.pw r w (T h pl) (2 ^ w - 1 - 1)))) -> (∀ p ∈ ps', p ∈ ps \/ H p = none) -> Q (.ref D) H'
theorem qc9_ (T : Txt K mg a) : FnOk P wo K mg base CX0 5 a.f_cleared a.d_cleared ["field", "lines", "at", "place"] (qep_ K a) := by
 have G_Field_back : FnOk P wo K mg base CX0 4 _ _ _ _ := uX_ T
 have G_scaled_line : FnOk P wo K mg base CX0 4 _ _ _ _ := (zo_ T).mono (by decide)
 have G_sum_of_two : FnOk P wo K mg base CX0 4 _ _ _ _ := (zE_ T).mono (by decide)
 refine T.F_cleared.ok (k := 4) sc_cleared (fun vs H Q E h => ?_) (fun cdv A outer s H vs Q E hr h => ?_)
 ·obtain ⟨fp, l, r, w, h, pl, M, W, ps, t, rfl, _⟩ := h
  rfl
 ·obtain ⟨fp, l, r, w, h, pl, M, W, ps, t, rfl, hF, g, hl, ht, hlt, hW, hpl, hh, hm, h0, q⟩ := h
  obtain ⟨dx, hF'⟩ := id hF
  refine ⟨_, (qc_ (qm_ (i := 4) sc_cleared.nd rfl (Or.inl rfl) (qx_ G_scaled_line (hr.mono (by decide)) rfl T.m_scaled_line T.k_scaled_line T.b_scaled_line .nil qo_ (qa_ (pv 0) (qa_ (qE_ (pv 0) T.cl_Field T.me_Field_back G_Field_back (hr.mono (by decide)) T.b_Field_back .nil qo_ (qa_ (qD_ qz_ (qD_ qz_ (pv 1) (pv 2) (fun _ _ => rfl)) (pv 3) (fun _ _ => rfl)) qf_)) (qa_ (qD_ qz_ (pv 1) (pv 2) (fun _ _ => rfl)) qf_)))))
   (qc_ (qm_ (i := 5) sc_cleared.nd rfl (Or.inl rfl) (jB_ qf_))
   (qc_ (qY_ PassesOwn.never rfl (v8_ rfl T.n_enumerate (qa_ (pv 1) qf_)) (y6_ rfl (qO_ (qs_ (i := 6) sc_cleared.nd rfl (Or.inl rfl)) (qO_ (qs_ (i := 7) sc_cleared.nd rfl (Or.inl rfl)) yb_))) (qg_ (qH_ (qp_ j1_ (pv 6) (pv 2) (qr_ _)) (qg_ (q4_ (yc_ PySem.F.plainAttrs_list PySem.F.slot_list_append PySem.F.type_list_append jf_ (pv 5) (qa_ (pv 4) qf_)))) (qg_ (qH_ (qp_ j1_ (qD_ qz_ (pv 7) (pv 3) (fun _ _ => rfl)) qj_ (qr_ _)) (qg_ (q4_ (yc_ PySem.F.plainAttrs_list PySem.F.slot_list_append PySem.F.type_list_append jf_ (pv 5) (qa_ (pv 7) qf_)))) (qg_ (q4_ (yc_ PySem.F.plainAttrs_list PySem.F.slot_list_append PySem.F.type_list_append jf_ (pv 5) (qa_ (qx_ G_sum_of_two (hr.mono (by decide)) rfl T.m_sum_of_two T.k_sum_of_two T.b_sum_of_two .nil qo_ (qa_ (pv 7) (qa_ (qx_ G_scaled_line (hr.mono (by decide)) rfl T.m_scaled_line T.k_scaled_line T.b_scaled_line .nil qo_ (qa_ (pv 0) (qa_ (qD_ qz_ (pv 7) (pv 3) (fun _ _ => rfl)) (qa_ (pv 4) qf_)))) qf_))) qf_)))))))))
   (qg_ (qq_ (pv 5)))))), ?_⟩
  obtain ⟨ph, eh, hph⟩ := ht.get hh
  have hTh : t h pl < 2 ^ w := hlt h pl hh hpl
  have eg : (rowT W t h).getD pl 0 = t h pl := jC_ hpl
  have gt := qy_ (j8_ (row := rowT W t h) (i := pl) (by rw [qu_]; exact hpl))
  rw [eg] at gt
  refine ⟨_, rfl, _, rfl, fp, dx, _, rfl, hF', rfl, _, rfl, _, rfl, l, _, _, _, rfl, rfl, SqL.of hl, qy_ (q5_ eh), _, rfl, ph, _, _, _, rfl, rfl, SqL.of hph, gt, ?_⟩
  refine ⟨fp, r, w, t h pl, rfl, hF, g, by omega, hTh, ?_⟩
  generalize hc : GF.pw r w (t h pl) (2 ^ w - 1 - 1) = c at q
  refine ⟨_, rfl, _, rfl, l, _, _, _, rfl, rfl, SqL.of hl, qy_ (q5_ eh), ?_⟩
  refine ⟨fp, ph, r, w, c, rowT W t h, rfl, hF, g, hph, y4_ fun k hk => hlt h k hh hk, by rw [qu_]; omega, fun hd H1 nhd s1 hhd => ?_⟩
  refine ⟨by decide, fun D nD => ⟨_, rfl, l, _, rfl, SqL.of ((Same.new nD) _ _ (s1 _ _ hl)), ?_⟩⟩
  have hlen : (ps.map V.ref).length = M := by rw [List.length_map, ht.len]
  refine qfp_ (fun i σ H' => ∃ (v u : Option V) (ps' : List Addr), σ = [some (.ref fp), some (.ref l), some (.int h), some (.int pl), some (.ref hd), some (.ref D), v, u] /\ Same H1 H' /\ H' D = some (.lst (ps'.map V.ref)) /\ TabAt H' ps' i (rowT W (GF.clearT r w t h pl c)) /\ D ∉ ps' /\ ∀ p ∈ ps', p ∈ ps \/ H p = none)
   ⟨none, none, [], rfl, Same.new nD, qd_, ⟨rfl, fun i p e => by simp at e⟩, by simp, by simp⟩ ?_ ?_ ?_
  ·rintro i σ H' hi ⟨v, u, ps', rfl, s2, _⟩
   exact SqL.of (s2 _ _ (s1 _ _ hl))
  ·rintro i u Tt σ H' hi hu nT ⟨v, u', ps', rfl, s2, hD, ht', nin, org⟩
   rw [hlen] at hi
   obtain ⟨p, ep, hp⟩ := ht.get hi
   have eu : u = .ref p := by
    rw [q5_ ep] at hu
    exact (Option.some.inj hu).symm
   subst eu
   refine ⟨Tt, _, rfl, SqT.of qd_, rfl, _, _, rfl, _, _, rfl, rfl, ?_⟩
   have s3 : Same H' (upd H' Tt (.tup [.int (i : Nat), .ref p])) := Same.new nT
   have nD2 : ∀ q ∈ ps', H' q = upd H' Tt (.tup [.int (i : Nat), .ref p]) q := fun q hq => by
    rw [qe_]
    intro z
    obtain ⟨j, hj⟩ := List.getElem?_of_mem hq
    rw [z] at hj
    rw [ht'.on j _ hj] at nT
    cases nT
   generalize (upd H' Tt (.tup [.int (i : Nat), .ref p])) = H2 at s3 nD2
   have hd2 : H2 hd = some (.lst (rowV ((rowT W t h).map fun s => GF.tm r w s c))) := s3 _ _ (s2 _ _ hhd)
   have hp2 : H2 p = some (.lst (rowV (rowT W t i))) := s3 _ _ (s2 _ _ (s1 _ _ hp))
   have hD2 : H2 D = some (.lst (ps'.map V.ref)) := s3 _ _ hD
   have s12 : Same H1 H2 := s2.trans s3
   have hip : t i pl < 2 ^ w := hlt i pl hi hpl
   have i8 : ps'.length < 8 := by rw [ht'.len]; omega
   have fin : ∀ p' H3, Same H2 H3 -> p' ≠ D -> (p' ∈ ps \/ H p' = none) -> H3 p' = some (.lst (rowV (rowT W (GF.clearT r w t h pl c) i))) -> ∃ (v u : Option V) (ps'' : List Addr), [some (V.ref fp), some (.ref l), some (.int h), some (.int pl), some (.ref hd), some (.ref D), some (.int (i : Nat)), some (.ref p)] = [some (.ref fp), some (.ref l), some (.int h), some (.int pl), some (.ref hd), some (.ref D), v, u] /\ Same H1 (upd H3 D (.lst (ps'.map V.ref ++ [.ref p']))) /\ (upd H3 D (.lst (ps'.map V.ref ++ [.ref p']))) D = some (.lst (ps''.map V.ref)) /\ TabAt (upd H3 D (.lst (ps'.map V.ref ++ [.ref p']))) ps'' (i + 1) (rowT W (GF.clearT r w t h pl c)) /\ D ∉ ps'' /\ ∀ p ∈ ps'', p ∈ ps \/ H p = none := fun p' H3 s4 nz hor hp' => by
    refine ⟨_, _, ps' ++ [p'], rfl, (s12.trans s4).up nD, ?_, ht'.snoc (fun q hq => ?_) ?_, ?_, fun q hq => (List.mem_append.mp hq).elim (org q) fun z => by rw [List.mem_singleton.mp z]; exact hor⟩
    ·rw [qd_, List.map_append]
     rfl
    ·have nq : q ≠ D := fun z => nin (by rw [<- z]; exact hq)
     rw [qe_ nq]
     obtain ⟨j, hj⟩ := List.getElem?_of_mem hq
     have e1 := ht'.on j _ hj
     rw [e1, s4 _ _ (s3 _ _ e1)]
    ·rw [qe_ nz]
     exact hp'
    ·intro z
     rcases List.mem_append.mp z with z | z
     ·exact nin z
     ·exact nz (List.mem_singleton.mp z).symm
   have fits : (ps'.map V.ref).length < sizeLine := Nat.lt_trans (by rw [List.length_map]; exact i8) (by decide)
   refine ⟨_, rfl, _, rfl, rfl, _, rfl, ?_⟩
   refine ite2 (fun z => ?_) (fun z => ?_)
   ·have z' : i = h := by
     have := V.int.inj (of_decide_eq_true z)
     omega
    refine ⟨_, rfl, .inl ⟨rfl, _, SqL.of hD2⟩, _, rfl, D, _, _, rfl, rfl, hD2, fits, ?_⟩
    refine fin hd H2 (Same.refl _) (qk_ hhd nD) (.inr nhd) ?_
    rw [hd2, z']
    congr 3
    unfold rowT
    rw [List.map_map]
    exact List.map_congr_left fun k _ => by unfold GF.clearT; rw [if_pos rfl]; rfl
   ·have z' : i ≠ h := fun e => z (decide_eq_true (by rw [e]))
    have gi := qy_ (j8_ (row := rowT W t i) (i := pl) (by rw [qu_]; exact hpl))
    rw [jC_ hpl] at gi
    refine ⟨_, rfl, _, rfl, p, _, _, _, rfl, rfl, SqL.of hp2, gi, rfl, _, rfl, ?_⟩
    refine ite2 (fun y => ?_) (fun y => ?_)
    ·have y' : t i pl = 0 := by
      have := V.int.inj (of_decide_eq_true y)
      omega
     refine ⟨_, rfl, .inl ⟨rfl, _, SqL.of hD2⟩, _, rfl, D, _, _, rfl, rfl, hD2, fits, ?_⟩
     refine fin p H2 (Same.refl _) (qk_ (s1 _ _ hp) nD) (.inl (List.mem_of_getElem? ep)) ?_
     rw [hp2]
     congr 3
     refine y1_ fun k _ => ?_
     unfold GF.clearT
     rw [if_neg z', y', GF.tm_zero, Nat.xor_zero]
    ·refine ⟨_, rfl, .inl ⟨rfl, _, SqL.of hD2⟩, _, rfl, _, rfl, _, rfl, _, rfl, p, _, _, _, rfl, rfl, SqL.of hp2, gi, _, rfl, ?_⟩
     refine ⟨fp, hd, r, w, t i pl, _, rfl, hF.same (s1.trans s12), g, hd2, ?_, ?_, fun d3 H3 n3 s4 h3 => ?_⟩
     ·intro x hx
      obtain ⟨k, hk, rfl⟩ := List.mem_map.mp hx
      exact GF.tm_lt g.rule (y4_ (fun k hk => hlt h k hh hk) k hk)
     ·rw [List.length_map, qu_]
      omega
     ·refine ⟨p, d3, _, _, rfl, s4 _ _ hp2, h3, ?_, ?_, fun d4 H4 n4 s5 h4 => ?_⟩
      ·rw [List.length_map, List.length_map, qu_, qu_]
      ·rw [qu_]
       omega
      ·have hD4 := s5 _ _ (s4 _ _ hD2)
       refine ⟨D, _, _, rfl, rfl, hD4, fits, ?_⟩
       refine fin d4 H4 (s4.trans s5) (fun e => ?_) (.inr ((s1.trans (s12.trans s4)).free n4)) ?_
       ·rw [e, s4 _ _ hD2] at n4
        cases n4
       ·rw [h4]
        congr 3
        unfold rowT
        rw [List.map_map, List.map_map]
        apply List.ext_getElem
        ·simp
        ·intro k k1 k2
         simp [GF.clearT, z']
  ·rintro σ H' ⟨v, u, ps', rfl, s2, hD, ht', nin, org⟩
   rw [hlen] at ht'
   exact ⟨_, rfl, q D H' ps' (s1.free nD) (s1.trans s2) hD ht' org⟩
def qda_ (K : PySem.W.Frag) : Sp := fun vs H Q _ => ∃ (l hl : Addr) (m pl M W : Nat) (ps : List Addr) (hs : List Nat) (T : Nat -> Nat -> Nat), vs = [.ref l, .ref hl, .int m, .int pl] /\ H l = some (.lst (ps.map V.ref)) /\ TabAt H ps M (rowT W T) /\ H hl = some (.lst (rowV hs)) /\ hs.length <= M /\ pl < m /\ m <= 30 /\ m <= W /\ M <= 8 /\ (∀ p ∈ hs, p < m) ∧
 ∀ D H', H D = none -> Same H H' -> H' D = some (.lst (rowV ((List.range m).map (GF.makeX T hs pl hs.length)))) -> Q (.ref D) H'
theorem qa1_ (T : Txt K mg a) : FnOk P wo K mg base CX0 2 a.f_free_make a.d_free_make ["lines", "heads", "many", "place"] (qda_ K) := by
 have G_unit : FnOk P wo K mg base CX0 1 _ _ _ _ := qci_ T
 refine T.F_free_make.ok (k := 1) sc_free_make (fun vs H Q E h => ?_) (fun cdv A outer s H vs Q E hr h => ?_)
 ·obtain ⟨l, hl, m, pl, M, W, ps, hs, t, rfl, _⟩ := h
  rfl
 ·obtain ⟨l, hl, m, pl, M, W, ps, hs, t, rfl, h1, ht, h2, hhM, hpl, hm, hmW, hM8, hhs, q⟩ := h
  refine ⟨_, (qc_ (qm_ (i := 4) sc_free_make.nd rfl (Or.inl rfl) (qx_ G_unit (hr.mono (by decide)) rfl T.m_unit T.k_unit T.b_unit .nil qo_ (qa_ (pv 2) (qa_ (pv 3) qf_))))
   (qc_ (qY_ PassesOwn.never rfl (zI_ rfl T.n_zip (qa_ (pv 1) (qa_ (pv 0) qf_))) (y6_ rfl (qO_ (qs_ (i := 5) sc_free_make.nd rfl (Or.inl rfl)) (qO_ (qs_ (i := 6) sc_free_make.nd rfl (Or.inl rfl)) yb_))) (qg_ (yQ_ (qD_ qz_ (pv 6) (pv 3) (fun _ _ => rfl)) (y7_ (pv 4) (pv 5) yp_))))
   (qg_ (qq_ (pv 4))))), ?_⟩
  refine ⟨_, rfl, _, rfl, m, pl, rfl, hpl, hm, fun D H1 nD s1 hD => ?_⟩
  refine ⟨_, rfl, _, rfl, hl, l, _, _, rfl, SqL.of (s1 _ _ h2), SqL.of (s1 _ _ h1), ?_⟩
  have hlen : (rowV hs).length = hs.length := ql_ hs
  refine qfq_ (xs := rowV hs) (fun i σ H' => ∃ (v u : Option V), σ = [some (.ref l), some (.ref hl), some (.int m), some (.int pl), some (.ref D), v, u] /\ Same H H' /\ H' D = some (.lst (rowV ((List.range m).map (GF.makeX t hs pl i)))))
   ⟨none, none, rfl, s1, ?_⟩ ?_ ?_ ?_ ?_
  ·rw [hD]
   congr 3
   unfold yC_
   apply List.ext_getElem
   ·simp
   ·intro k k1 k2
    rw [List.getElem_set]
    simp [GF.makeX]
    by_cases z : pl = k
    ·rw [if_pos z, if_pos z.symm]
    ·rw [if_neg z, if_neg (fun e => z e.symm)]
  ·rintro i σ H' hi ⟨v, u, rfl, s2, hD'⟩
   exact ⟨SqL.of (s2 _ _ h2), SqL.of (s2 _ _ h1)⟩
  ·rw [hlen, List.length_map, ht.len]
   exact hhM
  ·rintro i x y Tt σ H' hi hx hy nT ⟨v, u, rfl, s2, hD'⟩
   rw [hlen] at hi
   refine ⟨Tt, _, rfl, SqT.of qd_, rfl, _, _, rfl, _, _, rfl, rfl, ?_⟩
   obtain ⟨xh, exh, rfl⟩ := jq_ hx
   obtain ⟨p, ep, hp⟩ := ht.get (i := i) (by omega)
   have ey : y = .ref p := by
    rw [q5_ ep] at hy
    exact (Option.some.inj hy).symm
   subst ey
   have s3 : Same H' (upd H' Tt (.tup [.int (xh : Nat), .ref p])) := Same.new nT
   generalize (upd H' Tt (.tup [.int (xh : Nat), .ref p])) = H2 at s3
   have gi := qy_ (j8_ (row := rowT W t i) (i := pl) (by rw [qu_]; omega))
   rw [jC_ (by omega)] at gi
   have hxm : xh < m := hhs xh (List.mem_of_getElem? exh)
   refine ⟨_, rfl, _, rfl, p, _, _, _, rfl, rfl, SqL.of (s3 _ _ (s2 _ _ hp)), gi, ?_⟩
   refine ⟨_, rfl, _, rfl, D, _, _, xh, rfl, rfl, s3 _ _ hD', yJ_ (by rw [ql_, List.length_map, List.length_range]; exact hxm), ?_⟩
   refine ⟨_, _, rfl, (s2.trans s3).up nD, ?_⟩
   rw [qd_, qaz_]
   congr 3
   have eh : hs.getD i 0 = xh := by rw [List.getD_eq_getElem?_getD, exh]; rfl
   apply List.ext_getElem
   ·simp
   ·intro k k1 k2
    rw [List.getElem_set]
    simp [GF.makeX, exh]
    by_cases z : xh = k
    ·rw [if_pos z, if_pos z.symm]
    ·rw [if_neg z, if_neg (fun e => z e.symm)]
  ·rintro σ H' ⟨v, u, rfl, s2, hD'⟩
   rw [hlen] at hD'
   exact ⟨_, rfl, q D H' nD s2 hD'⟩
end
section
variable {P : Program} {wo : World} {K : PySem.W.Frag} {mg : Str -> Option Value} {base : Heap} {a : Adr}
structure Reck (r w N M : Nat) (l : Nat -> Nat -> Nat) (ks : List Bool) (pl : Nat) (by' : List Nat) : Prop where
 len : by'.length = M
 lt : ∀ x ∈ by', x < 2 ^ w
 ok : ∀ k, k < N -> ks[k]? = some false -> GF.dot r w M (fun j => l j k) (fun j => by'.getD j 0) = if k = pl then 1 else 0
structure Free (r w N M : Nat) (l : Nat -> Nat -> Nat) (ks : List Bool) (pl : Nat) (mk : List Nat) : Prop where
 len : mk.length = N
 lt : ∀ x ∈ mk, x < 2 ^ w
 one : mk.getD pl 0 = 1
 zero : ∀ k, k < N -> ks[k]? = some true -> mk.getD k 0 = 0
 ok : ∀ j, j < M -> GF.dot r w N (l j) (fun k => mk.getD k 0) = 0
def qeq_ (H : Hp) (D : Addr) (r w N M : Nat) (l : Nat → Nat → Nat) (ks : List Bool) (pl : Nat) : Prop := (∃ e by', H D = some (.tup [.str "reckoned", .ref e]) ∧ H e = some (.lst (rowV by')) ∧ Reck r w N M l ks pl by') ∨ (∃ e mk, H D = some (.tup [.str "free", .ref e]) ∧ H e = some (.lst (rowV mk)) ∧ Free r w N M l ks pl mk)
end
section
variable {P : Program} {wo : World} {K : PySem.W.Frag} {mg : Str -> Option Value} {base : Heap} {a : Adr}
def qjg_ (K : PySem.W.Frag) (a : Adr) : Sp := fun vs H Q _ => ∃ (fp L kn : Addr) (r w N M pl : Nat) (pL : List Addr) (l : Nat -> Nat -> Nat) (ks : List Bool), vs = [.ref fp, .ref L, .ref kn, .int pl] /\ FieldAt a.C_Field H fp r w /\ GF.Full r w /\ H L = some (.lst (pL.map V.ref)) /\ TabAt H pL M (rowT N l) /\ (∀ i k, i < M -> k < N -> l i k < 2 ^ w) /\ H kn = some (.lst (knV ks)) /\ ks.length = N /\ N <= 12 /\ M <= 8 /\ pl < N /\ ks[pl]? = some false ∧
 (∀ D H', Same H H' -> H D = none -> qeq_ H' D r w N M l ks pl -> (∀ t e, H' D = some (.tup [t, .ref e]) -> H e = none) -> Q (.ref D) H')
theorem qdb_ (T : Txt K mg a) : FnOk P wo K mg base CX0 6 a.f_told_of a.d_told_of ["field", "lines", "known", "place"] (qjg_ K a) := by
 have G_unit : FnOk P wo K mg base CX0 5 _ _ _ _ := (qci_ T).mono (by decide)
 have G_first_with : FnOk P wo K mg base CX0 5 _ _ _ _ := (uY_ T).mono (by decide)
 have G_swapped : FnOk P wo K mg base CX0 5 _ _ _ _ := (qc8_ T).mono (by decide)
 have G_cleared : FnOk P wo K mg base CX0 5 _ _ _ _ := qc9_ T
 have G_free_make : FnOk P wo K mg base CX0 5 _ _ _ _ := (qa1_ T).mono (by decide)
 refine T.F_told_of.ok (k := 5) sc_told_of (fun vs H Q E h => ?_) (fun cdv A outer s H vs Q E hr h => ?_)
 ·obtain ⟨fp, L, kn, r, w, N, M, pl, pL, l, ks, rfl, _⟩ := h
  rfl
 ·obtain ⟨fp, L, kn, r, w, N, M, pl, pL, l, ks, rfl, hF, g, hL, ht, hlt, hkn, hks, hN, hM, hpl, hkp, q⟩ := h
  have q1 := fun D e by' H' s n ne h1 h2 h3 => q D H' s n (.inl ⟨e, by', h1, h2, h3⟩) (fun t e' h => by rw [h1] at h; cases h; exact ne)
  have q2 := fun D e mk H' s n ne h1 h2 h3 => q D H' s n (.inr ⟨e, mk, h1, h2, h3⟩) (fun t e' h => by rw [h1] at h; cases h; exact ne)
  refine ⟨_, (qc_ (qH_ (PW.pt (yt_ (qp_ yN_ (pv 3) qj_ (qr_ _)) (yt_ (qp_ qgz_ (pv 3) (qw_ qt_ rfl T.n_len PySem.boot_len (qa_ (pv 2) qf_)) (qr_ _)) (ys_ (j3_ (qD_ qz_ (pv 2) (pv 3) (fun _ _ => rfl))))))) (qg_ jE_) qB_)
   (qc_ (v4_ (i := 4) sc_told_of.nd rfl (Or.inl rfl) (CompOk.of (cap := [1]) (own := ["at", "line"]) (by kernel_rfl)) rfl (v8_ rfl T.n_enumerate (qa_ (pv 1) qf_)) (fun _ _ _ _ _ => (v9_ (n := 2) (K := K) rfl rfl (qO_ (qs_ (i := 1) (of_decide_eq_true (by kernel_rfl)) rfl (Or.inl rfl)) (qO_ (qs_ (i := 2) (of_decide_eq_true (by kernel_rfl)) rfl (Or.inl rfl)) yb_)))) (fun _ _ _ _ _ => jG_) (fun _ _ _ _ _ => by exact (qn_ qi1_ (pv 2) (qx_ G_unit (hr.mono (by decide)) rfl T.m_unit T.k_unit T.b_unit .nil qo_ (qa_ (qw_ (uR_ (K := K) rfl) rfl T.n_len PySem.boot_len (qa_ (pv 0) qf_)) (qa_ (pv 1) qf_))))))
   (qc_ (qm_ (i := 5) sc_told_of.nd rfl (Or.inl rfl) (jB_ qf_))
   (qc_ (qY_ PassesOwn.never rfl (jz_ rfl T.n_range (qa_ (qw_ qt_ rfl T.n_len PySem.boot_len (qa_ (pv 2) qf_)) qf_)) (qs_ (i := 6) sc_told_of.nd rfl (Or.inl rfl)) (qc_ (qH_ (PW.pt (yt_ (j3_ (qD_ qz_ (pv 2) (pv 6) (fun _ _ => rfl))) (ys_ (qp_ j1_ (pv 6) (pv 3) (qr_ _))))) (qg_ qbg_) qB_)
   (qc_ (qm_ (i := 7) sc_told_of.nd rfl (Or.inl rfl) (qx_ G_first_with (hr.mono (by decide)) rfl T.m_first_with T.k_first_with T.b_first_with .nil qo_ (qa_ (pv 4) (qa_ (qw_ qt_ rfl T.n_len PySem.boot_len (qa_ (pv 5) qf_)) (qa_ (pv 6) qf_)))))
   (qg_ (qH_ (qp_ yq_ (pv 7) jr_ (qr_ _)) (qc_ (qm_ (i := 4) sc_told_of.nd rfl (Or.inl rfl) (qx_ G_cleared (hr.mono (by decide)) rfl T.m_cleared T.k_cleared T.b_cleared .nil qo_ (qa_ (pv 0) (qa_ (qx_ G_swapped (hr.mono (by decide)) rfl T.m_swapped T.k_swapped T.b_swapped .nil qo_ (qa_ (pv 4) (qa_ (qw_ qt_ rfl T.n_len PySem.boot_len (qa_ (pv 5) qf_)) (qa_ (pv 7) qf_)))) (qa_ (qw_ qt_ rfl T.n_len PySem.boot_len (qa_ (pv 5) qf_)) (qa_ (pv 6) qf_))))))
   (qg_ (q4_ (yc_ PySem.F.plainAttrs_list PySem.F.slot_list_append PySem.F.type_list_append jf_ (pv 5) (qa_ (pv 6) qf_))))) qB_)))))
   (qc_ (qm_ (i := 7) sc_told_of.nd rfl (Or.inl rfl) (qx_ G_first_with (hr.mono (by decide)) rfl T.m_first_with T.k_first_with T.b_first_with .nil qo_ (qa_ (pv 4) (qa_ (qw_ qt_ rfl T.n_len PySem.boot_len (qa_ (pv 5) qf_)) (qa_ (pv 3) qf_)))))
   (qc_ (qH_ (qp_ vA_ (pv 7) jr_ (qr_ _)) (qg_ (qq_ (vE_ (qa_ vz_ (qa_ (qx_ G_free_make (hr.mono (by decide)) rfl T.m_free_make T.k_free_make T.b_free_make .nil qo_ (qa_ (pv 4) (qa_ (pv 5) (qa_ (qw_ qt_ rfl T.n_len PySem.boot_len (qa_ (pv 2) qf_)) (qa_ (pv 3) qf_))))) qf_))))) qB_)
   (qc_ (qm_ (i := 8) sc_told_of.nd rfl (Or.inl rfl) (zt_ z4_ (qD_ qz_ (qx_ G_cleared (hr.mono (by decide)) rfl T.m_cleared T.k_cleared T.b_cleared .nil qo_ (qa_ (pv 0) (qa_ (pv 4) (qa_ (pv 7) (qa_ (pv 3) qf_))))) (pv 7) (fun _ _ => rfl)) (z3_ (qw_ qt_ rfl T.n_len PySem.boot_len (qa_ (pv 2) qf_))) z2_))
   (qg_ (qq_ (vE_ (qa_ vz_ (qa_ (pv 8) qf_)))))))))))), ?_⟩
  have hS : SqL K H kn (knV ks) := SqL.of hkn
  have hkl : (knV ks).length = N := by unfold knV; rw [List.length_map, hks]
  have hkat : ∀ {k : Nat} {b : Bool}, ks[k]? = some b -> (knV ks)[k]? = some (.bl b) := fun {k b} e => by unfold knV; rw [List.getElem?_map, e]; rfl
  have hLl : (pL.map V.ref).length = M := by rw [List.length_map, ht.len]
  refine ⟨_, rfl, _, _, rfl, rfl, _, rfl, ?_⟩
  refine ite2 (fun z => ?_) (fun _ => ?_)
  ·have := of_decide_eq_true z
   omega
  refine ⟨_, rfl, _, rfl, kn, _, rfl, .inl hS, _, _, rfl, rfl, _, rfl, ?_⟩
  refine ite2 (fun z => ?_) (fun _ => ?_)
  ·have := of_decide_eq_true z
   rw [hkl] at this
   omega
  refine ⟨_, rfl, _, rfl, kn, _, _, _, rfl, rfl, hS, qy_ (hkat hkp), _, rfl, ?_⟩
  refine ite2 (fun z => absurd z (by decide)) (fun _ => ?_)
  refine ⟨_, rfl, L, _, rfl, SqL.of hL, fun D nD => ?_⟩
  refine qc4_ (xs := pL.map V.ref) (row := fun i => rowV (rowT N l i ++ yC_ M i)) (cs := [some (.ref L)]) (SqL.of hL) nD rfl (Nat.le_trans (by rw [hLl]; exact hM) (by decide : 8 <= sizeLine)) (fun i u H2 R2 hu s2 hR => ?_) (fun ps H1 s1 hD hrows hfree hDn => ?_)
  ·have hi : i < M := by
    rw [<- hLl]
    exact (List.getElem?_eq_some_iff.mp hu).1
   obtain ⟨p, ep, hp⟩ := ht.get hi
   have eu : u = .ref p := by
    rw [q5_ ep] at hu
    exact (Option.some.inj hu).symm
   subst eu
   refine ⟨_, rfl, _, rfl, L, _, rfl, .inl (s2.seq (SqL.of hL)), _, rfl, ?_⟩
   try dsimp only
   rw [hLl]
   refine ⟨M, i, rfl, hi, by omega, fun D3 H3 n3 s3 h3 => ?_⟩
   refine ⟨p, D3, _, _, rfl, rfl, s3 _ _ (s2 _ _ hp), h3, ?_, fun D4 n4 => ?_⟩
   ·rw [ql_, ql_, qu_, zO_]
    exact Nat.le_trans (by omega : N + M <= 30) (by decide)
   ·refine hR D4 _ (s3.free n4) (s3.trans (Same.new n4)) ?_
    rw [qd_, vg_]
  ·have ht1 : TabAt H1 ps M (rowT (N + M) fun i k => (rowT N l i ++ yC_ M i).getD k 0) := by
    refine ⟨by rw [hrows.len, hLl], fun i p e => ?_⟩
    rw [hrows.on i p e, qen_ (by rw [List.length_append, qu_, zO_])]
   have tb := GF.Tab.start g hlt (T := fun i k => (rowT N l i ++ yC_ M i).getD k 0) (fun i k _ hk => qc7_ hk) (fun i j hi hj => qbu_ hj)
   generalize (fun i k => (rowT N l i ++ yC_ M i).getD k 0) = t0 at ht1 tb
   have hS1 := s1.seq hS
   refine ⟨by decide, fun Hd nH => ⟨_, rfl, kn, _, rfl, .inl ((Same.new nH).seq hS1), _, rfl, by rw [hkl]; omega, by rw [hkl]; omega, ?_⟩⟩
   have en : (((knV ks).length : Nat) : Int).toNat = N := by rw [hkl]; omega
   rw [en]
   refine jS_ (lo := 0) (n := N) (fun o σ H' => ∃ (v6 v7 : Option V) (S : Addr) (ps : List Addr) (hs : List Nat) (t : Nat -> Nat -> Nat), σ = [some (.ref fp), some (.ref L), some (.ref kn), some (.int pl), some (.ref S), some (.ref Hd), v6, v7, none] /\ Same H H' /\ H' S = some (.lst (ps.map V.ref)) /\ TabAt H' ps M (rowT (N + M) t) /\ GF.Tab r w N M l t /\ GF.Piv N M t hs (fun k => k < o /\ ks[k]? = some false /\ k ≠ pl) /\ H' Hd = some (.lst (rowV hs)) /\ S ≠ Hd /\ Hd ∉ ps /\ (∀ p ∈ hs, ks[p]? = some false /\ p ≠ pl))
    ⟨none, none, D, ps, [], t0, rfl, (s1.trans (Same.new nH)), by rw [qe_ (qk_ hD nH)]; exact hD, ht1.same (Same.new nH), tb, GF.Piv.start.weaken (fun k z => absurd z.1 (Nat.not_lt_zero k)), qd_, qk_ hD nH, hrows.ne nH, by simp⟩ ?_ ?_
   ·rintro o σ H' ho ⟨v6, v7, S, ps, hs, t, rfl, s2, hS2, ht2, tb, pv, hH, nSH, nin, hun⟩
    have ek : (0 : Int) + (o : Nat) = ((o : Nat) : Int) := by omega
    rw [ek]
    obtain ⟨b, eb⟩ : ∃ b, ks[o]? = some b := ⟨_, List.getElem?_eq_getElem (by rw [hks]; exact ho)⟩
    refine ⟨_, rfl, _, rfl, kn, _, _, _, rfl, rfl, s2.seq hS, qy_ (hkat eb), b, rfl, ?_⟩
    refine ite2 (fun z => iteT ?_) (fun z => ?_)
    ·exact ⟨_, _, S, ps, hs, t, rfl, s2, hS2, ht2, tb, pv.weaken (fun k y => ⟨by
      have nk : k ≠ o := fun e => by
       rw [e, eb, z] at y
       exact absurd (Option.some.inj y.2.1) (by decide)
      omega, y.2⟩), hH, nSH, nin, hun⟩
    ·have eb' : ks[o]? = some false := by
      rw [eb]
      cases b
      ·rfl
      ·exact absurd rfl z
     refine ⟨_, rfl, _, rfl, rfl, _, rfl, ?_⟩
     refine ite2 (fun z => ?_) (fun z => ?_)
     ·exact ⟨_, _, S, ps, hs, t, rfl, s2, hS2, ht2, tb, pv.weaken (fun k y => ⟨by
       have nk : k ≠ o := fun e => y.2.2 (by
        have := V.int.inj (of_decide_eq_true z)
        omega)
       omega, y.2⟩), hH, nSH, nin, hun⟩
     ·have nop : o ≠ pl := fun e => z (decide_eq_true (by rw [e]))
      refine ⟨_, rfl, _, rfl, Hd, _, rfl, .inl (SqL.of hH), _, rfl, ?_⟩
      try dsimp only
      rw [ql_]
      refine ⟨S, hs.length, o, M, ps, rowT (N + M) t, rfl, hS2, ht2, fun i _ => by rw [qu_]; omega, pv.hl, hM, fun f h1 h2 h3 => ?_, fun h0 => ?_⟩
      ·rw [jC_ (by omega)] at h3
       refine ⟨_, rfl, rfl, _, rfl, ?_⟩
       refine ite2 (fun _ => ?_) (fun z => absurd qbv_ z)
       refine ⟨_, rfl, _, rfl, _, rfl, Hd, _, rfl, .inl (SqL.of hH), _, rfl, ?_⟩
       try dsimp only
       rw [ql_]
       refine ⟨S, hs.length, f, M, ps, rowT (N + M) t, rfl, hS2, ht2, by omega, h2, hM, fun D5 H5 ps5 n5 s5 hD5 ht5 org5 => ?_⟩
       refine ⟨_, rfl, Hd, _, rfl, .inl (SqL.of (s5 _ _ hH)), _, rfl, ?_⟩
       try dsimp only
       rw [ql_]
       have tsw := tb.swap (h := hs.length) (f := f) (by omega) h2
       have eT : GF.swapT t hs.length f hs.length o = t f o := by unfold GF.swapT; rw [if_pos rfl]
       have ht5' : TabAt H5 ps5 M (rowT (N + M) (GF.swapT t hs.length f)) := ht5.congr fun i _ => by
        unfold GF.swapT
        by_cases z1 : i = hs.length
        ·rw [if_pos z1]
         exact y1_ fun k _ => by rw [if_pos z1]
        ·rw [if_neg z1]
         by_cases z2 : i = f
         ·rw [if_pos z2]
          exact y1_ fun k _ => by rw [if_neg z1, if_pos z2]
         ·rw [if_neg z2]
          exact y1_ fun k _ => by rw [if_neg z1, if_neg z2]
       refine ⟨fp, D5, r, w, hs.length, o, M, N + M, ps5, GF.swapT t hs.length f, rfl, hF.same (s2.trans s5), g.toGood, hD5, ht5', tsw.lt, by omega, by omega, by omega, hM, by rw [eT]; exact h3, fun D6 H6 ps6 n6 s6 hD6 ht6 org6 => ?_⟩
       rw [eT] at ht6
       have t3 : t f o < 2 ^ w := tb.lt f o h2 (by omega)
       have hc := GF.pw_lt g.toGood t3 (2 ^ w - 1 - 1)
       have hinv := GF.pw_back g (Nat.pos_of_ne_zero h3) t3
       have hc0 : GF.pw r w (t f o) (2 ^ w - 1 - 1) ≠ 0 := fun z => by
        rw [z, GF.tm_zero] at hinv
        exact absurd hinv (by decide)
       have tcl := tsw.clear g hlt (h := hs.length) (p := o) (by omega) ho hc hc0
       have pv2 := pv.step g tb (p := o) ho h1 h2 hc hinv
       generalize GF.clearT r w (GF.swapT t hs.length f) hs.length o (GF.pw r w (t f o) (2 ^ w - 1 - 1)) = t6 at ht6 tcl pv2
       have hH5 := s5 _ _ hH
       have hH6 := s6 _ _ hH5
       have nin6 : Hd ∉ ps6 := fun z => (org6 Hd z).elim (fun y => nin (org5 Hd y)) fun y => by rw [hH5] at y; cases y
       have nD6 : D6 ≠ Hd := fun z => by rw [z, hH5] at n6; cases n6
       refine ⟨_, rfl, .inl ⟨rfl, _, SqL.of hH6⟩, _, rfl, Hd, _, _, rfl, rfl, hH6, ?_, ?_⟩
       ·rw [ql_]
        exact Nat.lt_trans (by omega : hs.length < 8) (by decide)
       ·refine ⟨_, _, D6, ps6, hs ++ [o], t6, rfl, (s2.trans (s5.trans s6)).up (s1.free nH), ?_, ht6.upd nin6, tcl, pv2.weaken (fun k y => ?_), ?_, nD6, nin6, fun p hp => ?_⟩
        ·rw [qe_ nD6]
         exact hD6
        ·by_cases z : k = o
         ·exact .inr z
         ·exact .inl ⟨by omega, y.2⟩
        ·rw [qd_, jU_]
        ·rcases List.mem_append.mp hp with y | y
         ·exact hun p y
         ·rw [List.mem_singleton.mp y]
          exact ⟨eb', nop⟩
      ·refine ⟨_, rfl, rfl, _, rfl, ?_⟩
       refine ite2 (fun z => absurd z (by decide)) (fun _ => ?_)
       refine ⟨_, _, S, ps, hs, t, rfl, s2, hS2, ht2, tb, (pv.skip (p := o) fun i h1 h2 => ?_).weaken (fun k y => ?_), hH, nSH, nin, hun⟩
       ·rw [<- h0 i h1 h2, jC_ (by omega)]
       ·by_cases z : k = o
        ·exact .inr z
        ·exact .inl ⟨by omega, y.2⟩
   ·rintro σ H' ⟨v6, v7, S, ps, hs, t, rfl, s2, hS2, ht2, tb, pv, hH, nSH, nin, hun⟩
    refine ⟨_, rfl, _, rfl, Hd, _, rfl, .inl (SqL.of hH), _, rfl, ?_⟩
    try dsimp only
    rw [ql_]
    have hS3 := s2.seq hS
    have hlthd : ∀ p ∈ hs, p < N := fun p hp => by
     obtain ⟨j, hj⟩ := List.getElem?_of_mem hp
     exact pv.lt j p hj
    refine ⟨S, hs.length, pl, M, ps, rowT (N + M) t, rfl, hS2, ht2, fun i _ => by rw [qu_]; omega, pv.hl, hM, fun f h1 h2 h3 => ?_, fun h0 => ?_⟩
    ·rw [jC_ (by omega)] at h3
     refine ⟨_, rfl, rfl, _, rfl, ?_⟩
     refine ite2 (fun z => absurd (of_decide_eq_true z) (fun y => by cases y)) (fun _ => ?_)
     refine ⟨_, rfl, _, rfl, _, rfl, _, rfl, ?_⟩
     refine ⟨fp, S, r, w, f, pl, M, N + M, ps, t, rfl, hF.same s2, g.toGood, hS2, ht2, tb.lt, by omega, by omega, h2, hM, h3, fun D6 H6 ps6 n6 s6 hD6 ht6 org6 => ?_⟩
     have t3 : t f pl < 2 ^ w := tb.lt f pl h2 (by omega)
     have hinv := GF.pw_back g (Nat.pos_of_ne_zero h3) t3
     generalize hce : GF.pw r w (t f pl) (2 ^ w - 1 - 1) = c at ht6 hinv
     obtain ⟨p6, e6, hp6⟩ := ht6.get h2
     refine ⟨_, rfl, D6, _, _, _, rfl, rfl, SqL.of hD6, qy_ (q5_ e6), _, rfl, kn, _, rfl, .inl (s6.seq hS3), _, rfl, p6, _, rfl, SqL.of hp6, fun D7 n7 => ?_⟩
     rw [hkl, qel_ (by rw [qu_]; omega)]
     have s27 := s2.trans (s6.trans (Same.new (o := .lst (rowV ((rowT (N + M) (GF.clearT r w t f pl c) f).drop N))) n7))
     refine ⟨_, rfl, (show 2 <= sizeLine by decide), fun D8 n8 => ?_⟩
     have n8' := s27.free n8
     refine q1 D8 D7 ((rowT (N + M) (GF.clearT r w t f pl c) f).drop N) _ (s27.trans (Same.new n8)) n8' ((s2.trans s6).free n7) qd_ (by rw [qe_ (qk_ qd_ n8)]; exact qd_) ?_
     have eby : ∀ j, j < M -> ((rowT (N + M) (GF.clearT r w t f pl c) f).drop N).getD j 0 = GF.tm r w (t f (N + j)) c := fun j hj => by
      rw [List.getD_eq_getElem?_getD, List.getElem?_drop, ← List.getD_eq_getElem?_getD, jC_ (by omega)]
      unfold GF.clearT
      rw [if_pos rfl]
     have rk := GF.reckoned_ok g tb hlt pv h1 h2 hpl hinv
     refine ⟨by rw [List.length_drop, qu_]; omega, fun x hx => ?_, fun k hk e => ?_⟩
     ·have hx' := List.mem_of_mem_drop hx
      obtain ⟨k, hk, rfl⟩ := List.mem_map.mp hx'
      have hk' := List.mem_range.mp hk
      unfold GF.clearT
      rw [if_pos rfl]
      exact GF.tm_lt g.rule (tb.lt f k h2 hk')
     ·rw [GF.dot_congr M (b := fun j => l j k) (y := fun j => GF.tm r w (t f (N + j)) c) fun j hj => ⟨rfl, eby j hj⟩]
      by_cases z : k = pl
      ·rw [if_pos z, z]
       exact rk.1
      ·rw [if_neg z]
       exact rk.2 k hk ⟨hk, e, z⟩
    ·refine ⟨_, rfl, rfl, _, rfl, ?_⟩
     refine ite2 (fun _ => ?_) (fun z => absurd rfl z)
     refine ⟨_, rfl, _, rfl, _, rfl, kn, _, rfl, .inl hS3, _, rfl, ?_⟩
     try dsimp only
     rw [hkl]
     refine ⟨S, Hd, N, pl, M, N + M, ps, hs, t, rfl, hS2, ht2, hH, pv.hl, hpl, by omega, by omega, hM, hlthd, fun D7 H7 n7 s7 h7 => ?_⟩
     refine ⟨(show 2 <= sizeLine by decide), fun D8 n8 => ?_⟩
     have n8' := (s2.trans s7).free n8
     have nget : ∀ s, s < hs.length -> hs.getD s 0 ∈ hs := fun s hs' => List.mem_of_getElem? (GF.getD_at hs')
     have hnp : ∀ s, s < hs.length -> hs.getD s 0 ≠ pl := fun s hs' => (hun _ (nget s hs')).2
     have hz : ∀ i, hs.length <= i -> i < M -> t i pl = 0 := fun i h1 h2 => by
      rw [<- h0 i h1 h2, jC_ (by omega)]
     have fr := GF.free_ok g tb pv hpl hnp hz
     have gx : ∀ k, k < N -> ((List.range N).map (GF.makeX t hs pl hs.length)).getD k 0 = GF.makeX t hs pl hs.length k := fun k hk => by
      rw [List.getD_eq_getElem?_getD, List.getElem?_map, List.getElem?_range hk]
      rfl
     refine q2 D8 D7 ((List.range N).map (GF.makeX t hs pl hs.length)) _ ((s2.trans s7).trans (Same.new n8)) n8' (s2.free n7) qd_ (by rw [qe_ (qk_ h7 n8)]; exact h7) ⟨by rw [List.length_map, List.length_range], fun x hx => ?_, ?_, fun k hk e => ?_, fun j hj => ?_⟩
     ·obtain ⟨k, hk, rfl⟩ := List.mem_map.mp hx
      exact GF.makeX_lt g tb pv hpl k _ (Nat.le_refl _)
     ·rw [gx pl hpl]
      exact GF.makeX_place _ (Nat.le_refl _) hnp
     ·rw [gx k hk]
      refine GF.makeX_none (fun z => ?_) _ (Nat.le_refl _) fun s hs' z => ?_
      ·rw [z, hkp] at e
       exact absurd (Option.some.inj e) (by decide)
      ·have := (hun _ (nget s hs')).1
       rw [z, e] at this
       exact absurd (Option.some.inj this) (by decide)
     ·exact (GF.dot_congr N fun k hk => ⟨rfl, gx k hk⟩).trans (fr j hj)
end
theorem y5_ {n i : Nat} {row : List Nat} (h : ∀ x ∈ row, x < n) (hi : i < row.length) : row.getD i 0 < n := by
 rw [List.getD_eq_getElem?_getD, List.getElem?_eq_getElem hi]
 exact h _ (List.getElem_mem hi)
section
variable {P : Program} {wo : World} {K : PySem.W.Frag} {mg : Str -> Option Value} {base : Heap} {a : Adr}
def qer_ : Sp := fun vs H Q _ => ∃ (L : Addr) (ps : List Addr) (M N : Nat) (l : Nat -> Nat -> Nat), vs = [.ref L] /\ H L = some (.lst (ps.map V.ref)) /\ TabAt H ps M (rowT N l) /\ 1 <= M /\ M <= 2 /\ 1 <= N /\ N + M <= 8 /\ Q .non H
theorem vu_ (T : Txt K mg a) : FnOk P wo K mg base CX0 1 a.f_check_lengths a.d_check_lengths ["weights"] qer_ := by
 refine T.F_check_lengths.ok (k := 0) sc_check_lengths (fun vs H Q E h => ?_) (fun cdv A outer s H vs Q E hr h => ?_)
 ·obtain ⟨L, ps, M, N, l, rfl, _⟩ := h
  rfl
 ·obtain ⟨L, ps, M, N, l, rfl, hL, ht, h1, h2, h3, h4, q⟩ := h
  have el : (ps.map V.ref).length = M := by rw [List.length_map, ht.len]
  have er : ∀ i, (rowV (rowT N l i)).length = N := fun i => by rw [ql_, qu_]
  obtain ⟨p0', e0, hp0⟩ := ht.get (i := 0) (by omega)
  refine ⟨_, (qc_ (qH_ (PW.pt (yt_ (qp_ yN_ (qw_ qt_ rfl T.n_len PySem.boot_len (qa_ (pv 0) qf_)) qj_ (qr_ _)) (ys_ (qp_ ym_ (qw_ qt_ rfl T.n_len PySem.boot_len (qa_ (pv 0) qf_)) (zk_ (v := .int 2) rfl T.v_MOST_SUMS ⟨_, rfl⟩) (qr_ _))))) (qg_ jE_) qB_)
   (qc_ (qm_ (i := 1) sc_check_lengths.nd rfl (Or.inl rfl) (qw_ qt_ rfl T.n_len PySem.boot_len (qa_ (qD_ qz_ (pv 0) qj_ (fun _ _ => rfl)) qf_)))
   (qc_ (qH_ (PW.pt (yt_ (qp_ yN_ (pv 1) qj_ (qr_ _)) (ys_ (qp_ ym_ (qn_ qP_ (pv 1) (qw_ qt_ rfl T.n_len PySem.boot_len (qa_ (pv 0) qf_))) (zk_ (v := .int 8) rfl T.v_MOST_ROLES ⟨_, rfl⟩) (qr_ _))))) (qg_ jE_) qB_)
   (qg_ (qY_ PassesOwn.never rfl (jp_ (pv 0)) (qs_ (i := 2) sc_check_lengths.nd rfl (Or.inl rfl)) (qg_ (qH_ (qp_ zY_ (qw_ qt_ rfl T.n_len PySem.boot_len (qa_ (pv 2) qf_)) (pv 1) (qr_ _)) (qg_ jE_) qB_))))))), ?_⟩
  refine ⟨_, rfl, L, _, rfl, .inl (SqL.of hL), _, _, rfl, rfl, _, rfl, ?_⟩
  refine ite2 (fun y => absurd (of_decide_eq_true y) (by rw [el]; omega)) (fun _ => ?_)
  refine ⟨_, rfl, L, _, rfl, .inl (SqL.of hL), _, _, rfl, rfl, _, rfl, ?_⟩
  refine ite2 (fun y => absurd (of_decide_eq_true y) (by rw [el]; omega)) (fun _ => ?_)
  refine ⟨_, rfl, L, _, _, _, rfl, rfl, SqL.of hL, qy_ (j := 0) (q5_ e0), p0', _, rfl, .inl (SqL.of hp0), ?_⟩
  try dsimp only
  rw [er 0]
  refine ⟨_, rfl, _, _, rfl, rfl, _, rfl, ?_⟩
  refine ite2 (fun y => absurd (of_decide_eq_true y) (by omega)) (fun _ => ?_)
  refine ⟨_, rfl, _, rfl, L, _, rfl, .inl (SqL.of hL), _, _, rfl, rfl, _, _, rfl, rfl, _, rfl, ?_⟩
  refine ite2 (fun y => absurd (of_decide_eq_true y) (by rw [el]; omega)) (fun _ => ?_)
  refine ⟨_, rfl, L, rfl, ⟨_, SqL.of hL⟩, j4_ (K := K) (a := L) (xs := ps.map V.ref) (fun i σ H' => (∃ v2 : Option V, σ = [some (.ref L), some (.int (N : Nat)), v2]) /\ H' = H) ⟨⟨none, rfl⟩, rfl⟩ ?_ ?_ ?_⟩
  ·rintro i σ H' _ ⟨_, rfl⟩
   exact SqL.of hL
  ·rintro i v σ H' hv ⟨⟨v2, rfl⟩, rfl⟩
   have hi : i < M := by rw [<- el]; exact (List.getElem?_eq_some_iff.mp hv).1
   obtain ⟨p, ep, hp⟩ := ht.get hi
   rw [q5_ ep] at hv
   cases Option.some.inj hv
   refine ⟨_, rfl, p, _, rfl, .inl (SqL.of hp), _, rfl, rfl, _, rfl, ?_⟩
   refine ite2 (fun y => absurd y (vS_ (by rw [er]))) (fun _ => ⟨⟨_, rfl⟩, rfl⟩)
  ·rintro σ H' ⟨⟨v2, rfl⟩, rfl⟩
   exact q
def qes_ (a : Adr) : Sp := fun vs H Q _ => ∃ (fp L : Addr) (r w : Nat) (ps : List Addr) (M N : Nat) (l : Nat -> Nat -> Nat), vs = [.ref fp, .ref L] /\ FieldAt a.C_Field H fp r w /\ GF.Good r w /\ H L = some (.lst (ps.map V.ref)) /\ TabAt H ps M (rowT N l) /\ (∀ i k, i < M -> k < N -> l i k < 2 ^ w) /\ 1 <= M /\ M <= 2 /\ 1 <= N /\ N <= 8 /\ (∀ i, i < M -> ∃ k, k < N /\ l i k ≠ 0) /\ (∀ k, k < N -> ∃ i, i < M /\ l i k ≠ 0) /\ ∀ H', Same H H' -> Q .non H'
theorem qcj_ {row : List Nat} {k : Nat} (hk : k < row.length) (h : row.getD k 0 ≠ 0) : ((row.map fun n : Nat => (n : Int)).any fun i => i != 0) = true := by
 rw [List.any_eq_true]
 refine ⟨((row.getD k 0 : Nat) : Int), List.mem_map.mpr ⟨row.getD k 0, ?_, rfl⟩, ?_⟩
 ·rw [List.getD_eq_getElem?_getD, List.getElem?_eq_getElem hk]
  exact List.getElem_mem hk
 ·simp only [bne_iff_ne, ne_eq]
  omega
theorem qet_ (row : List Nat) : rowV row = (row.map fun n : Nat => (n : Int)).map V.int := by
 unfold rowV
 rw [List.map_map]
 rfl
theorem vv_ (T : Txt K mg a) : FnOk P wo K mg base CX0 1 a.f_check_weights a.d_check_weights ["field", "weights"] (qes_ a) := by
 refine T.F_check_weights.ok (k := 0) sc_check_weights (fun vs H Q E h => ?_) (fun cdv A outer s H vs Q E hr h => ?_)
 ·obtain ⟨fp, L, r, w, ps, M, N, l, rfl, _⟩ := h
  rfl
 ·obtain ⟨fp, L, r, w, ps, M, N, l, rfl, hF, g, hL, ht, hlt, h1, h2, h3, h4, hrow, hcol, q⟩ := h
  obtain ⟨dF, hF'⟩ := id hF
  have t16 := g.top16
  have el : (ps.map V.ref).length = M := by rw [List.length_map, ht.len]
  have er : ∀ i, (rowV (rowT N l i)).length = N := fun i => by rw [ql_, qu_]
  obtain ⟨p0', e0, hp0⟩ := ht.get (i := 0) (by omega)
  refine ⟨_, (qc_ (qY_ PassesOwn.never rfl (jp_ (pv 1)) (qs_ (i := 2) sc_check_weights.nd rfl (Or.inl rfl)) (qc_ (qY_ PassesOwn.never rfl (jp_ (pv 2)) (qs_ (i := 3) sc_check_weights.nd rfl (Or.inl rfl)) (qg_ (qH_ (PW.pt (yt_ (qp_ yN_ (pv 3) qj_ (qr_ _)) (ys_ (qp_ ym_ (pv 3) (qA_ (pv 0) rfl) (qr_ _))))) (qg_ jE_) qB_)))
   (qg_ (qH_ (zl_ (j3_ (qw_ (uB_ rfl) rfl T.n_any boot_any (qa_ (pv 2) qf_)))) (qg_ jE_) qB_))))
   (qg_ (qY_ PassesOwn.never rfl (jz_ rfl T.n_range (qa_ (qw_ qt_ rfl T.n_len PySem.boot_len (qa_ (qD_ qz_ (pv 1) qj_ (fun _ _ => rfl)) qf_)) qf_)) (qs_ (i := 4) sc_check_weights.nd rfl (Or.inr rfl)) (qg_ (qH_ (zl_ (j3_ (qw_ (uB_ rfl) rfl T.n_any boot_any (qa_ (jH_ (CompOk.of (cap := [4]) (own := ["some"]) (by kernel_rfl)) rfl (jp_ (pv 1)) (fun _ _ _ _ _ => (qs_ (i := 1) (of_decide_eq_true (by kernel_rfl)) rfl (Or.inl rfl))) (fun _ _ _ _ _ => jG_) (fun _ _ _ _ _ => by exact (qD_ (yF_ (K := K) rfl) (pv 1) (pv 0) (fun _ _ => rfl)))) qf_)))) (qg_ jE_) qB_))))), ?_⟩
  refine ⟨_, rfl, L, rfl, ⟨_, SqL.of hL⟩, j4_ (K := K) (a := L) (xs := ps.map V.ref) (fun i σ H' => (∃ v2 v3 v4 : Option V, σ = [some (.ref fp), some (.ref L), v2, v3, v4]) /\ H' = H) ⟨⟨none, none, none, rfl⟩, rfl⟩ ?_ ?_ ?_⟩
  ·rintro i σ H' _ ⟨_, rfl⟩
   exact SqL.of hL
  ·rintro i v σ H' hv ⟨⟨v2, v3, v4, rfl⟩, rfl⟩
   have hi : i < M := by rw [<- el]; exact (List.getElem?_eq_some_iff.mp hv).1
   obtain ⟨p, ep, hp⟩ := ht.get hi
   rw [q5_ ep] at hv
   cases Option.some.inj hv
   refine ⟨_, rfl, p, rfl, ⟨_, SqL.of hp⟩, j4_ (K := K) (a := p) (xs := rowV (rowT N l i)) (fun j σ H'' => (∃ v3 : Option V, σ = [some (.ref fp), some (.ref L), some (.ref p), v3, v4]) /\ H'' = H') ⟨⟨_, rfl⟩, rfl⟩ ?_ ?_ ?_⟩
   ·rintro j σ H'' _ ⟨_, rfl⟩
    exact SqL.of hp
   ·rintro j u σ H'' hu ⟨⟨v3, rfl⟩, rfl⟩
    obtain ⟨y, ey, rfl⟩ := jq_ hu
    have hy : y < 2 ^ w := y4_ (fun k hk => hlt i k hi hk) y (List.mem_of_getElem? ey)
    refine ⟨_, rfl, _, _, rfl, rfl, _, rfl, ?_⟩
    refine ite2 (fun y => absurd (of_decide_eq_true y) (by omega)) (fun _ => ?_)
    refine ⟨_, rfl, _, rfl, fp, _, _, _, _, rfl, hF', T.cl_Field, T.no_Field_last, yH_ r w, _, _, rfl, rfl, _, rfl, ?_⟩
    refine ite2 (fun z => absurd (of_decide_eq_true z) (by omega)) (fun _ => ⟨⟨_, rfl⟩, rfl⟩)
   ·rintro σ H'' ⟨⟨v3, rfl⟩, rfl⟩
    obtain ⟨k, hk, hz⟩ := hrow i hi
    refine ⟨_, rfl, p, _, rfl, (by rw [<- qet_]; exact SqL.of hp), _, rfl, ?_⟩
    rw [qcj_ (k := k) (by rw [qu_]; exact hk) (by rw [jC_ hk]; exact hz)]
    refine ite2 (fun z => absurd z (by decide)) (fun _ => ⟨⟨_, _, _, rfl⟩, rfl⟩)
  ·rintro σ H' ⟨⟨v2, v3, v4, rfl⟩, rfl⟩
   refine ⟨_, rfl, L, _, _, _, rfl, rfl, SqL.of hL, qy_ (j := 0) (q5_ e0), p0', _, rfl, .inl (SqL.of hp0), _, rfl, by rw [er]; omega, by rw [er]; omega, ?_⟩
   have en : (((rowV (rowT N l 0)).length : Nat) : Int).toNat = N := by rw [er]; omega
   rw [en]
   refine jS_ (lo := 0) (n := N) (fun i σ H'' => (∃ v2 v3 v4 : Option V, σ = [some (.ref fp), some (.ref L), v2, v3, v4]) /\ Same H' H'') ⟨⟨_, _, _, rfl⟩, Same.refl _⟩ ?_ ?_
   ·rintro k σ H'' hk ⟨⟨v2, v3, v4, rfl⟩, s1⟩
    have ek : (0 : Int) + (k : Nat) = ((k : Nat) : Int) := by omega
    rw [ek]
    refine ⟨_, rfl, L, rfl, ⟨_, SqL.of (s1 _ _ hL)⟩, fun D nD => ?_⟩
    refine yd_ (xs := ps.map V.ref) (f := fun i => .int ((l i k : Nat) : Int)) (cs := [some (.int (k : Nat))]) (SqL.of (s1 _ _ hL)) nD rfl (by rw [el]; exact Nat.le_trans h2 (by decide)) (fun i u H2 R2 hu s2 hR => ?_) (fun H2 s2 hD => ?_)
    ·have hi : i < M := by rw [<- el]; exact (List.getElem?_eq_some_iff.mp hu).1
     obtain ⟨p, ep, hp⟩ := ht.get hi
     rw [q5_ ep] at hu
     cases Option.some.inj hu
     have gi := qy_ (j8_ (row := rowT N l i) (i := k) (by rw [qu_]; exact hk))
     rw [jC_ hk] at gi
     exact ⟨_, rfl, _, rfl, p, _, _, _, rfl, rfl, SqL.of ((s1.trans s2) _ _ hp), gi, hR _ (Same.refl _)⟩
    ·rw [el] at hD
     have e : ((List.range M).map fun i => V.int ((l i k : Nat) : Int)) = (((List.range M).map fun i => l i k).map fun n : Nat => (n : Int)).map V.int := by
      rw [List.map_map, List.map_map]
      rfl
     rw [e] at hD
     obtain ⟨i, hi, hz⟩ := hcol k hk
     refine ⟨D, _, rfl, SqL.of hD, _, rfl, ?_⟩
     have gd : ((List.range M).map fun i => l i k).getD i 0 = l i k := by
      rw [List.getD_eq_getElem?_getD, List.getElem?_map, List.getElem?_range hi]
      rfl
     rw [qcj_ (k := i) (by rw [List.length_map, List.length_range]; exact hi) (by rw [gd]; exact hz)]
     refine ite2 (fun z => absurd z (by decide)) (fun _ => ⟨⟨_, _, _, rfl⟩, s1.trans s2⟩)
   ·rintro σ H'' ⟨⟨v2, v3, v4, rfl⟩, s1⟩
    exact q _ s1
def eqn (N : Nat) (l : Nat -> Nat -> Nat) (t k : Nat) : Nat := if k < N then l t k else if k - N = t then 1 else 0
theorem qck_ (N M : Nat) (l : Nat -> Nat -> Nat) (t : Nat) : rowT (N + M) (eqn N l) t = rowT N l t ++ (List.range M).map fun j => if j = t then 1 else 0 := by
 unfold rowT
 rw [List.range_add, List.map_append, List.map_map]
 congr 1
 ·exact List.map_congr_left fun k hk => by
   unfold eqn
   rw [if_pos (List.mem_range.mp hk)]
 ·exact List.map_congr_left fun k hk => by
   show eqn N l t (N + k) = _
   unfold eqn
   rw [if_neg (by omega), Nat.add_sub_cancel_left]
def qa2_ (K : PySem.W.Frag) : Sp := fun vs H Q _ => ∃ (L : Addr) (ps : List Addr) (M N t : Nat) (l : Nat -> Nat -> Nat), vs = [.ref L, .int t] /\ H L = some (.lst (ps.map V.ref)) /\ TabAt H ps M (rowT N l) /\ t < M /\ N + M <= 8 /\ ∀ D H', H D = none -> Same H H' -> H' D = some (.lst (rowV (rowT (N + M) (eqn N l) t))) -> Q (.ref D) H'
theorem uh_ (T : Txt K mg a) : FnOk P wo K mg base CX0 1 a.f_equation_of a.d_equation_of ["weights", "total"] (qa2_ K) := by
 refine T.F_equation_of.ok (k := 0) sc_equation_of (fun vs H Q E h => ?_) (fun cdv A outer s H vs Q E hr h => ?_)
 ·obtain ⟨L, ps, M, N, t, l, rfl, _⟩ := h
  rfl
 ·obtain ⟨L, ps, M, N, t, l, rfl, hL, ht, htM, h8, q⟩ := h
  have el : (ps.map V.ref).length = M := by rw [List.length_map, ht.len]
  obtain ⟨p, ep, hp⟩ := ht.get htM
  refine ⟨_, (qc_ (qm_ (i := 2) sc_equation_of.nd rfl (Or.inl rfl) (yR_ j5_ rfl T.n_list (by decide +kernel) (qa_ (qD_ qz_ (pv 0) (pv 1) (fun _ _ => rfl)) qf_)))
   (qc_ (qY_ PassesOwn.never rfl (jz_ rfl T.n_range (qa_ (qw_ qt_ rfl T.n_len PySem.boot_len (qa_ (pv 0) qf_)) qf_)) (qs_ (i := 3) sc_equation_of.nd rfl (Or.inl rfl)) (qg_ (q4_ (yc_ PySem.F.plainAttrs_list PySem.F.slot_list_append PySem.F.type_list_append jf_ (pv 2) (qa_ (qff_ (qp_ j1_ (pv 3) (pv 1) (qr_ _)) qj_ qj_) qf_)))))
   (qg_ (qq_ (pv 2))))), ?_⟩
  refine ⟨_, rfl, _, rfl, L, _, _, _, rfl, rfl, SqL.of hL, qy_ (q5_ ep), p, _, rfl, .inl (SqL.of hp), fun D nD => ?_⟩
  have sD := Same.new (o := .lst (rowV (rowT N l t))) nD
  have hD : (upd H D (.lst (rowV (rowT N l t)))) D = some (.lst (rowV (rowT N l t))) := qd_
  generalize (upd H D (.lst (rowV (rowT N l t)))) = H1 at sD hD
  refine ⟨_, rfl, L, _, rfl, .inl (SqL.of (sD _ _ hL)), _, rfl, by rw [el]; omega, by rw [el]; omega, ?_⟩
  have en : (((ps.map V.ref).length : Nat) : Int).toNat = M := by rw [el]; omega
  rw [en]
  refine jS_ (lo := 0) (n := M) (fun j σ H' => (∃ v3 : Option V, σ = [some (.ref L), some (.int t), some (.ref D), v3]) /\ Same H H' /\ H' D = some (.lst (rowV (rowT N l t ++ (List.range j).map fun j => if j = t then 1 else 0)))) ⟨⟨none, rfl⟩, sD, by rw [hD]; simp⟩ ?_ ?_
  ·rintro j σ H' hj ⟨⟨v3, rfl⟩, s1, h1⟩
   have ej : (0 : Int) + (j : Nat) = ((j : Nat) : Int) := by omega
   rw [ej]
   have fits : (rowV (rowT N l t ++ (List.range j).map fun j => if j = t then 1 else 0)).length < sizeLine := by
    rw [ql_, List.length_append, qu_, List.length_map, List.length_range]
    exact Nat.lt_trans (by omega : N + j < 9) (by decide)
   have er : rowV (rowT N l t ++ (List.range (j + 1)).map fun j => if j = t then 1 else 0) = rowV (rowT N l t ++ (List.range j).map fun j => if j = t then 1 else 0) ++ [.int ((if j = t then 1 else 0 : Nat) : Int)] := by
    rw [List.range_succ, List.map_append, ← List.append_assoc, ← vg_]
    rfl
   refine ⟨_, rfl, .inl ⟨rfl, _, SqL.of h1⟩, _, rfl, _, rfl, rfl, _, rfl, ?_⟩
   by_cases z : j = t
   ·refine ite2 (fun _ => ?_) (fun y => absurd (decide_eq_true (by rw [z])) y)
    rw [if_pos z] at er
    exact ⟨D, _, _, rfl, rfl, h1, fits, ⟨_, rfl⟩, s1.up nD, by rw [qd_, er]; rfl⟩
   ·refine ite2 (fun y => absurd (V.int.inj (of_decide_eq_true y)) (by omega)) (fun _ => ?_)
    rw [if_neg z] at er
    exact ⟨D, _, _, rfl, rfl, h1, fits, ⟨_, rfl⟩, s1.up nD, by rw [qd_, er]; rfl⟩
  ·rintro σ H' ⟨⟨v3, rfl⟩, s1, h1⟩
   refine ⟨_, rfl, q D H' nD s1 ?_⟩
   rw [h1, qck_]
end
def cf (bp : Addr) (M N : Nat) (Lp : Addr) : List (Str × V) := [("blocks", .ref bp), ("sums", .int M), ("data", .int N), ("roles", .int ((N + M : Nat) : Int)), ("lines", .ref Lp)]
theorem zP_ (bp : Addr) (M N : Nat) (Lp : Addr) : (cf bp M N Lp).lookup ("blocks" : Str) = some (.ref bp) := rfl
theorem zd_ (bp : Addr) (M N : Nat) (Lp : Addr) : (cf bp M N Lp).lookup ("roles" : Str) = some (.int ((N + M : Nat) : Int)) := rfl
theorem qa3_ (bp : Addr) (M N : Nat) (Lp : Addr) : (cf bp M N Lp).lookup ("lines" : Str) = some (.ref Lp) := rfl
structure Wts (w M N : Nat) (l : Nat -> Nat -> Nat) : Prop where
 m1 : 1 <= M
 m2 : M <= 2
 n1 : 1 <= N
 n8 : N + M <= 8
 lt : ∀ i k, i < M -> k < N -> l i k < 2 ^ w
 row : ∀ i, i < M -> ∃ k, k < N /\ l i k ≠ 0
 col : ∀ k, k < N -> ∃ i, i < M /\ l i k ≠ 0
theorem ze_ {w M N : Nat} {l : Nat -> Nat -> Nat} (W : Wts w M N l) (t16 : 16 <= 2 ^ w) : ∀ i k, i < M -> k < N + M -> eqn N l i k < 2 ^ w := fun i k hi hk => by
 unfold eqn
 split
 ·exact W.lt i k hi (by assumption)
 ·split <;> omega
structure CodeAt (a : Adr) (H : Hp) (c bp fp : Addr) (r w n M N : Nat) (l : Nat -> Nat -> Nat) : Prop where
 ins : ∃ dx Lp qs, H c = some (.ins a.C_Code dx (cf bp M N Lp)) /\ H Lp = some (.lst (qs.map V.ref)) /\ TabAt H qs M (rowT (N + M) (eqn N l))
 blk : BlocksAt a H bp fp r w n
theorem CodeAt.same {a : Adr} {H H' : Hp} {c bp fp : Addr} {r w n M N : Nat} {l : Nat -> Nat -> Nat} (h : CodeAt a H c bp fp r w n M N l) (s : Same H H') : CodeAt a H' c bp fp r w n M N l :=
 let ⟨dx, Lp, qs, h1, h2, h3⟩ := h.ins
 ⟨⟨dx, Lp, qs, s _ _ h1, s _ _ h2, h3.same s⟩, h.blk.same s⟩
section
variable {P : Program} {wo : World} {K : PySem.W.Frag} {mg : Str -> Option Value} {base : Heap} {a : Adr}
def qdc_ (a : Adr) : Sp := fun vs H Q _ => ∃ (c dx bp fp L : Addr) (r w n M N : Nat) (ps : List Addr) (l : Nat -> Nat -> Nat), vs = [.ref c, .ref bp, .ref L] /\ H c = some (.ins a.C_Code dx []) /\ BlocksAt a H bp fp r w n /\ GF.Good r w /\ H L = some (.lst (ps.map V.ref)) /\ TabAt H ps M (rowT N l) /\ Wts w M N l ∧
 ∀ H', (∀ b o, b ≠ c -> H b = some o -> H' b = some o) -> CodeAt a H' c bp fp r w n M N l -> Q .non H'
theorem qa4_ (T : Txt K mg a) : FnOk P wo K mg base CX0 2 a.f_Code_init a.d_Code_init ["self", "blocks", "weights"] (qdc_ a) := by
 have G_check_lengths : FnOk P wo K mg base CX0 1 _ _ _ _ := vu_ T
 have G_check_weights : FnOk P wo K mg base CX0 1 _ _ _ _ := vv_ T
 have G_equation_of : FnOk P wo K mg base CX0 1 _ _ _ _ := uh_ T
 refine T.F_Code_init.ok (k := 1) qat_ (fun vs H Q E h => ?_) (fun cdv A outer s H vs Q E hr h => ?_)
 ·obtain ⟨c, dx, bp, fp, L, r, w, n, M, N, ps, l, rfl, _⟩ := h
  rfl
 ·obtain ⟨c, dx, bp, fp, L, r, w, n, M, N, ps, l, rfl, hc, hB, g, hL, ht, W, q⟩ := h
  obtain ⟨dB, hB'⟩ := hB.ins
  have el : (ps.map V.ref).length = M := by rw [List.length_map, ht.len]
  have er : ∀ i, (rowV (rowT N l i)).length = N := fun i => by rw [ql_, qu_]
  obtain ⟨p0', e0, hp0⟩ := ht.get (i := 0) W.m1
  have n8 := W.n8
  refine ⟨_, (qc_ (q4_ (qx_ G_check_lengths (hr.mono (by decide)) rfl T.m_check_lengths T.k_check_lengths T.b_check_lengths .nil qo_ (qa_ (pv 2) qf_)))
   (qc_ (q4_ (qx_ G_check_weights (hr.mono (by decide)) rfl T.m_check_weights T.k_check_weights T.b_check_weights .nil qo_ (qa_ (qA_ (pv 1) rfl) (qa_ (pv 2) qf_))))
   (qc_ (jA_ (pv 0) (pv 1) rfl)
   (qc_ (jA_ (pv 0) (qw_ qt_ rfl T.n_len PySem.boot_len (qa_ (pv 2) qf_)) rfl)
   (qc_ (jA_ (pv 0) (qw_ qt_ rfl T.n_len PySem.boot_len (qa_ (qD_ qz_ (pv 2) qj_ (fun _ _ => rfl)) qf_)) rfl)
   (qc_ (jA_ (pv 0) (qn_ qP_ (qA_ (pv 0) rfl) (qA_ (pv 0) rfl)) rfl)
   (qg_ (jA_ (pv 0) (jH_ (CompOk.of (cap := [2]) (own := ["total"]) (by kernel_rfl)) rfl (jz_ rfl T.n_range (qa_ (qA_ (pv 0) rfl) qf_)) (fun _ _ _ _ _ => (qs_ (i := 1) (of_decide_eq_true (by kernel_rfl)) rfl (Or.inl rfl))) (fun _ _ _ _ _ => jG_) (fun _ _ _ _ _ => by exact (qx_ G_equation_of (hr.mono (by decide)) rfl T.m_equation_of T.k_equation_of T.b_equation_of .nil qo_ (qa_ (pv 0) (qa_ (pv 1) qf_))))) rfl)))))))), ?_⟩
  refine ⟨_, rfl, L, ps, M, N, l, rfl, hL, ht, W.m1, W.m2, W.n1, W.n8, ?_⟩
  refine ⟨_, rfl, bp, _, _, _, _, rfl, hB', T.cl_Blocks, T.no_Blocks_field, yK_ fp w n, _, rfl, fp, L, r, w, ps, M, N, l, rfl, hB.fld, g, hL, ht, W.lt, W.m1, W.m2, W.n1, by omega, W.row, W.col, fun H1 s1 => ?_⟩
  have hc1 := s1 _ _ hc
  have ncB : bp ≠ c := fun z => by
   rw [z, hc] at hB'
   have := (HO.ins.inj (Option.some.inj hB')).2.2
   unfold bf at this
   cases this
  obtain ⟨dF, hF'⟩ := hB.fld
  have ncF : fp ≠ c := fun z => by
   rw [z, hc] at hF'
   have := (HO.ins.inj (Option.some.inj hF')).2.2
   unfold ff at this
   cases this
  have ncL : L ≠ c := fun z => by rw [z, hc] at hL; cases hL
  have ncp : ∀ (i : Nat) p, ps[i]? = some p -> p ≠ c := fun i p e z => by
   have := ht.on i p e
   rw [z, hc] at this
   cases this
  refine ⟨_, rfl, _, rfl, c, a.C_Code, dx, _, rfl, hc1, T.cl_Code, T.no_Code_blocks, (by decide), ?_⟩
  refine ⟨_, rfl, L, _, rfl, .inl (SqL.of (by rw [qe_ ncL]; exact s1 _ _ hL)), _, rfl, c, a.C_Code, dx, _, rfl, qd_, T.cl_Code, T.no_Code_sums, (by show (1 : Nat) < 1000; decide), ?_⟩
  refine ⟨_, rfl, L, _, _, _, rfl, rfl, SqL.of (by rw [qe_ ncL, qe_ ncL]; exact s1 _ _ hL), qy_ (j := 0) (q5_ e0), p0', _, rfl, .inl (SqL.of (by rw [qe_ (ncp 0 _ e0), qe_ (ncp 0 _ e0)]; exact s1 _ _ hp0)), _, rfl, c, a.C_Code, dx, _, rfl, qd_, T.cl_Code, T.no_Code_data, (by show (2 : Nat) < 1000; decide), ?_⟩
  refine ⟨_, rfl, c, _, _, _, _, rfl, qd_, T.cl_Code, T.no_Code_data, rfl, _, rfl, c, _, _, _, _, rfl, qd_, T.cl_Code, T.no_Code_sums, rfl, _, _, rfl, rfl, _, rfl, c, a.C_Code, dx, _, rfl, qd_, T.cl_Code, T.no_Code_roles, (by show (3 : Nat) < 1000; decide), ?_⟩
  dsimp only
  rw [js_, js_, js_, el, er]
  have ef : putF "roles" (.int ((N : Int) + (M : Int))) (putF "data" (.int (N : Int)) (putF "sums" (.int (M : Int)) (putF "blocks" (.ref bp) []))) = [(("blocks" : Str), V.ref bp), (("sums" : Str), V.int M), (("data" : Str), V.int N), (("roles" : Str), V.int ((N + M : Nat) : Int))] := by
   rw [Int.natCast_add]
   rfl
  rw [ef]
  have hc2 : (upd H1 c (.ins a.C_Code dx [(("blocks" : Str), V.ref bp), (("sums" : Str), V.int M), (("data" : Str), V.int N), (("roles" : Str), V.int ((N + M : Nat) : Int))])) c = some (.ins a.C_Code dx [(("blocks" : Str), V.ref bp), (("sums" : Str), V.int M), (("data" : Str), V.int N), (("roles" : Str), V.int ((N + M : Nat) : Int))]) := qd_
  have k2 : ∀ b o, b ≠ c → H b = some o → (upd H1 c (.ins a.C_Code dx [(("blocks" : Str), V.ref bp), (("sums" : Str), V.int M), (("data" : Str), V.int N), (("roles" : Str), V.int ((N + M : Nat) : Int))])) b = some o := fun b o z e => by rw [qe_ z]; exact s1 _ _ e
  generalize (upd H1 c (.ins a.C_Code dx [(("blocks" : Str), V.ref bp), (("sums" : Str), V.int M), (("data" : Str), V.int N), (("roles" : Str), V.int ((N + M : Nat) : Int))])) = H2 at hc2 k2
  have hL2 := k2 _ _ ncL hL
  have ht2 : TabAt H2 ps M (rowT N l) := ⟨ht.len, fun i p e => k2 _ _ (ncp i p e) (ht.on i p e)⟩
  refine ⟨_, rfl, c, _, _, _, _, rfl, hc2, T.cl_Code, T.no_Code_sums, rfl, _, rfl, by omega, by omega, fun D nD => ?_⟩
  rw [Int.toNat_natCast]
  refine qc2_ (n := M) (row := fun i => rowV (rowT (N + M) (eqn N l) i)) (cs := [some (.ref L)]) nD rfl (Nat.le_trans (by omega : M <= 8) (by decide)) (fun i H3 R3 hi s3 hR => ?_) (fun qs H3 s3 hD hrows hf hdd => ?_)
  ·exact ⟨_, rfl, _, rfl, L, ps, M, N, i, l, rfl, s3 _ _ hL2, ht2.same s3, hi, W.n8, fun D4 H4 n4 s4 h4 => hR D4 H4 n4 s4 h4⟩
  ·have nDc : D ≠ c := fun z => by rw [z, hc2] at nD; cases nD
   have nqc : ∀ (i : Nat) p, qs[i]? = some p -> p ≠ c := fun i p e z => by
    have := hf p (List.mem_of_getElem? e)
    rw [z, hc2] at this
    cases this
   refine ⟨_, rfl, c, a.C_Code, dx, _, rfl, s3 _ _ hc2, T.cl_Code, T.no_Code_lines, (by show (4 : Nat) < 1000; decide), ?_⟩
   refine q _ (fun b o z e => ?_) ⟨⟨dx, D, qs, qd_, ?_, ⟨hrows.len, fun i p e => ?_⟩⟩, ⟨⟨dB, ?_⟩, ⟨dF, ?_⟩⟩⟩
   ·rw [qe_ z]
    exact s3 _ _ (k2 b o z e)
   ·rw [qe_ nDc]
    exact hD
   ·rw [qe_ (nqc i p e)]
    exact hrows.on i p e
   ·rw [qe_ ncB]
    exact s3 _ _ (k2 _ _ ncB hB')
   ·rw [qe_ ncF]
    exact s3 _ _ (k2 _ _ ncF hF')
end
def zg_ (r w n M N : Nat) (l : Nat -> Nat -> Nat) (bs : List Nat) : List Nat := bs ++ (List.range M).map fun t => GF.sumB r w n ((rowT N l t).zip bs)
def isMk (r w n M N : Nat) (l : Nat -> Nat -> Nat) (bs : List Nat) : Bool := (List.range M).all fun t => decide (GF.sumB r w n ((rowT (N + M) (eqn N l) t).zip bs) = 0)
def valO : Option Nat -> V
 | some b => .int (b : Nat)
 | none => .non
def rowO (os : List (Option Nat)) : List V := os.map valO
theorem qZ_ (os : List (Option Nat)) : (rowO os).length = os.length := by unfold rowO; rw [List.length_map]
theorem jg_ {os : List (Option Nat)} {k : Nat} {o : Option Nat} (h : os[k]? = some o) : (rowO os)[k]? = some (valO o) := by
 unfold rowO
 rw [List.getElem?_map, h]
 rfl
section
variable {P : Program} {wo : World} {K : PySem.W.Frag} {mg : Str -> Option Value} {base : Heap} {a : Adr}
def qbw_ (a : Adr) : Sp := fun vs H Q _ => ∃ (c bp fp : Addr) (r w n M N k : Nat) (l : Nat -> Nat -> Nat), vs = [.ref c, .int k] /\ CodeAt a H c bp fp r w n M N l /\ k < N + M /\ Q .non H
theorem yU_ (T : Txt K mg a) : FnOk P wo K mg base CX0 1 a.f_Code_check_role a.d_Code_check_role ["self", "role"] (qbw_ a) := by
 refine T.F_Code_check_role.ok (k := 0) zL_ (fun vs H Q E h => ?_) (fun cdv A outer s H vs Q E hr h => ?_)
 ·obtain ⟨c, bp, fp, r, w, n, M, N, k, l, rfl, _⟩ := h
  rfl
 ·obtain ⟨c, bp, fp, r, w, n, M, N, k, l, rfl, hC, hk, q⟩ := h
  obtain ⟨dx, Lp, qs, h1, _, _⟩ := hC.ins
  refine ⟨_, (qg_ (qH_ (PW.pt (yt_ (qp_ yN_ (pv 1) qj_ (qr_ _)) (ys_ (qp_ qgz_ (pv 1) (qA_ (pv 0) rfl) (qr_ _))))) (qg_ jE_) qB_)), ?_⟩
  refine ⟨_, rfl, _, _, rfl, rfl, _, rfl, ?_⟩
  refine ite2 (fun y => absurd (of_decide_eq_true y) (by omega)) (fun _ => ?_)
  refine ⟨_, rfl, _, rfl, c, _, _, _, _, rfl, h1, T.cl_Code, T.no_Code_roles, zd_ bp M N Lp, _, _, rfl, rfl, _, rfl, ?_⟩
  refine ite2 (fun y => absurd (of_decide_eq_true y) (by omega)) (fun _ => q)
def qh1_ (K : PySem.W.Frag) (a : Adr) : Sp := fun vs H Q _ => ∃ (c bp fp kn : Addr) (r w n M N pl : Nat) (l : Nat -> Nat -> Nat) (ks : List Bool), vs = [.ref c, .ref kn, .int pl] /\ CodeAt a H c bp fp r w n M N l /\ GF.Full r w /\ Wts w M N l /\ H kn = some (.lst (knV ks)) /\ ks.length = N + M /\ pl < N + M /\ ks[pl]? = some false ∧
 ∀ D H', Same H H' -> H D = none -> qeq_ H' D r w (N + M) M (eqn N l) ks pl -> (∀ t e, H' D = some (.tup [t, .ref e]) -> H e = none) -> Q (.ref D) H'
theorem zQ_ (T : Txt K mg a) : FnOk P wo K mg base CX0 7 a.f_Code_told a.d_Code_told ["self", "known", "role"] (qh1_ K a) := by
 have G_told_of : FnOk P wo K mg base CX0 6 _ _ _ _ := qdb_ T
 refine T.F_Code_told.ok (k := 6) qau_ (fun vs H Q E h => ?_) (fun cdv A outer s H vs Q E hr h => ?_)
 ·obtain ⟨c, bp, fp, kn, r, w, n, M, N, pl, l, ks, rfl, _⟩ := h
  rfl
 ·obtain ⟨c, bp, fp, kn, r, w, n, M, N, pl, l, ks, rfl, hC, g, W, hkn, hks, hpl, hkp, q⟩ := h
  obtain ⟨dx, Lp, qs, h1, h2, h3⟩ := hC.ins
  obtain ⟨dB, hB⟩ := hC.blk.ins
  have n8 := W.n8
  refine ⟨_, (qg_ (qq_ (qx_ G_told_of (hr.mono (by decide)) rfl T.m_told_of T.k_told_of T.b_told_of .nil qo_ (qa_ (qA_ (qA_ (pv 0) rfl) rfl) (qa_ (qA_ (pv 0) rfl) (qa_ (pv 1) (qa_ (pv 2) qf_))))))), ?_⟩
  refine ⟨_, rfl, c, _, _, _, _, rfl, h1, T.cl_Code, T.no_Code_blocks, zP_ bp M N Lp, bp, _, _, _, _, rfl, hB, T.cl_Blocks, T.no_Blocks_field, yK_ fp w n, _, rfl, c, _, _, _, _, rfl, h1, T.cl_Code, T.no_Code_lines, qa3_ bp M N Lp, _, rfl, _, rfl, ?_⟩
  exact ⟨fp, Lp, kn, r, w, N + M, M, pl, qs, eqn N l, ks, rfl, hC.blk.fld, g, h2, h3, ze_ W g.toGood.top16, hkn, hks, by omega, by have := W.m2; omega, hpl, hkp, q⟩
def byL (r w M N : Nat) (l : Nat -> Nat -> Nat) (by' : List Nat) (k : Nat) : Nat := GF.dot r w M (fun t => eqn N l t k) (fun t => by'.getD t 0)
def tells (r w M N : Nat) (l : Nat -> Nat -> Nat) (by' : List Nat) (os : List (Option Nat)) : List (Nat × Nat) := ((List.range (N + M)).filter fun k => (os.getD k none).isSome).map fun k => (byL r w M N l by' k, (os.getD k none).getD 0)
def qdd_ (K : PySem.W.Frag) (a : Adr) : Sp := fun vs H Q _ => ∃ (c bp fp bl rl : Addr) (r w n M N : Nat) (l : Nat -> Nat -> Nat) (by' : List Nat) (os : List (Option Nat)), vs = [.ref c, .ref bl, .ref rl] /\ CodeAt a H c bp fp r w n M N l /\ GF.Good r w /\ n <= 16 /\ Wts w M N l /\ H bl = some (.lst (rowV by')) /\ by'.length = M /\ H rl = some (.lst (rowO os)) /\ os.length = N + M ∧
 ∀ H', Same H H' -> Q (.int ((GF.sumB r w n (tells r w M N l by' os) : Nat) : Int)) H'
theorem z9_ (T : Txt K mg a) : FnOk P wo K mg base CX0 5 a.f_Code_summed_by a.d_Code_summed_by ["self", "by", "row"] (qdd_ K a) := by
 have G_sum_of_two : FnOk P wo K mg base CX0 4 _ _ _ _ := (zE_ T).mono (by decide)
 have G_scaled_line : FnOk P wo K mg base CX0 4 _ _ _ _ := (zo_ T).mono (by decide)
 have G_Blocks_summed : FnOk P wo K mg base CX0 4 _ _ _ _ := vt_ T
 refine T.F_Code_summed_by.ok (k := 4) sc_Code_summed_by (fun vs H Q E h => ?_) (fun cdv A outer s H vs Q E hr h => ?_)
 ·obtain ⟨c, bp, fp, bl, rl, r, w, n, M, N, l, by', os, rfl, _⟩ := h
  rfl
 ·obtain ⟨c, bp, fp, bl, rl, r, w, n, M, N, l, by', os, rfl, hC, g, hn, W, hbl, hby, hrl, hos, q⟩ := h
  obtain ⟨dx, Lp, qs, h1, h2, h3⟩ := hC.ins
  have n8 := W.n8
  have t16 := g.top16
  have el : (qs.map V.ref).length = M := by rw [List.length_map, h3.len]
  refine ⟨_, (qc_ (qm_ (i := 3) sc_Code_summed_by.nd rfl (Or.inr rfl) (qn_ vF_ (jB_ (qa_ qj_ qf_)) (qA_ (pv 0) rfl)))
   (qc_ (qY_ PassesOwn.never rfl (zI_ rfl T.n_zip (qa_ (pv 1) (qa_ (qA_ (pv 0) rfl) qf_))) (y6_ rfl (qO_ (qs_ (i := 4) sc_Code_summed_by.nd rfl (Or.inl rfl)) (qO_ (qs_ (i := 5) sc_Code_summed_by.nd rfl (Or.inl rfl)) yb_))) (qg_ (qm_ (i := 3) sc_Code_summed_by.nd rfl (Or.inr rfl) (qx_ G_sum_of_two (hr.mono (by decide)) rfl T.m_sum_of_two T.k_sum_of_two T.b_sum_of_two .nil qo_ (qa_ (pv 3) (qa_ (qx_ G_scaled_line (hr.mono (by decide)) rfl T.m_scaled_line T.k_scaled_line T.b_scaled_line .nil qo_ (qa_ (qA_ (qA_ (pv 0) rfl) rfl) (qa_ (pv 4) (qa_ (pv 5) qf_)))) qf_))))))
   (qc_ (v4_ (i := 6) sc_Code_summed_by.nd rfl (Or.inl rfl) (CompOk.of (cap := [2]) (own := ["role"]) (by kernel_rfl)) rfl (jz_ rfl T.n_range (qa_ (qA_ (pv 0) rfl) qf_)) (fun _ _ _ _ _ => (qs_ (i := 1) (of_decide_eq_true (by kernel_rfl)) rfl (Or.inl rfl))) (fun _ _ _ _ _ => (v3_ (qp_ yq_ (qD_ (yF_ (K := K) rfl) (pv 0) (pv 1) (fun _ _ => rfl)) jr_ (qr_ _)))) (fun _ _ _ _ _ => by exact (pv 1)))
   (qg_ (qq_ (qE_ (by exact (qA_ (pv 0) rfl)) T.cl_Blocks T.me_Blocks_summed G_Blocks_summed (hr.mono (by decide)) T.b_Blocks_summed .nil qo_ (qa_ (jH_ (CompOk.of (cap := [3]) (own := ["role"]) (by kernel_rfl)) rfl (jp_ (pv 6)) (fun _ _ _ _ _ => (qs_ (i := 1) (of_decide_eq_true (by kernel_rfl)) rfl (Or.inl rfl))) (fun _ _ _ _ _ => jG_) (fun _ _ _ _ _ => by exact (qD_ (yF_ (K := K) rfl) (pv 0) (pv 1) (fun _ _ => rfl)))) (qa_ (jH_ (CompOk.of (cap := [2]) (own := ["role"]) (by kernel_rfl)) rfl (jp_ (pv 6)) (fun _ _ _ _ _ => (qs_ (i := 1) (of_decide_eq_true (by kernel_rfl)) rfl (Or.inl rfl))) (fun _ _ _ _ _ => jG_) (fun _ _ _ _ _ => by exact (qD_ (yF_ (K := K) rfl) (pv 0) (pv 1) (fun _ _ => rfl)))) qf_)))))))), ?_⟩
  refine ⟨(show 1 <= sizeLine by decide), fun p1 n1 => ⟨_, rfl, c, _, _, _, _, rfl, (Same.new n1) _ _ h1, T.cl_Code, T.no_Code_roles, zd_ bp M N Lp, p1, _, _, rfl, rfl, qd_, by omega, by omega, ?_, fun p2 n2 => ?_⟩⟩
  ·rw [Int.toNat_natCast]
   show 1 * (N + M) <= sizeLine
   exact Nat.le_trans (by omega : 1 * (N + M) <= 30) (by decide)
  have eR : (List.replicate (((N + M : Nat) : Int)).toNat [V.int 0]).flatten = rowV ((List.range (N + M)).map fun k => GF.dot r w 0 (fun t => eqn N l t k) (fun t => by'.getD t 0)) := by
   rw [Int.toNat_natCast]
   have : ((List.range (N + M)).map fun k => GF.dot r w 0 (fun t => eqn N l t k) (fun t => by'.getD t 0)) = List.replicate (N + M) 0 := by
    show ((List.range (N + M)).map fun _ => 0) = _
    rw [List.map_const', List.length_range]
   rw [this]
   exact uf_ (N + M) 0
  rw [eR]
  have s1 := (Same.new (o := .lst [V.int 0]) n1).trans (Same.new (o := .lst (rowV ((List.range (N + M)).map fun k => GF.dot r w 0 (fun t => eqn N l t k) (fun t => by'.getD t 0)))) n2)
  have hp2 : (upd (upd H p1 (.lst [V.int 0])) p2 (.lst (rowV ((List.range (N + M)).map fun k => GF.dot r w 0 (fun t => eqn N l t k) (fun t => by'.getD t 0))))) p2 = some (.lst (rowV ((List.range (N + M)).map fun k => GF.dot r w 0 (fun t => eqn N l t k) (fun t => by'.getD t 0)))) := qd_
  generalize (upd (upd H p1 (.lst [V.int 0])) p2 (.lst (rowV ((List.range (N + M)).map fun k => GF.dot r w 0 (fun t => eqn N l t k) (fun t => by'.getD t 0))))) = H1 at s1 hp2
  refine ⟨_, rfl, _, rfl, c, _, _, _, _, rfl, s1 _ _ h1, T.cl_Code, T.no_Code_lines, qa3_ bp M N Lp, bl, Lp, _, _, rfl, SqL.of (s1 _ _ hbl), SqL.of (s1 _ _ h2), v5_ (K := K) (l1 := bl) (l2 := Lp) (xs := rowV by') (ys := qs.map V.ref) (fun i σ H' => ∃ (La : Addr) (v4 v5 : Option V), σ = [some (.ref c), some (.ref bl), some (.ref rl), some (.ref La), v4, v5, none] /\ Same H H' /\ H' La = some (.lst (rowV ((List.range (N + M)).map fun k => GF.dot r w i (fun t => eqn N l t k) (fun t => by'.getD t 0))))) ⟨p2, none, none, rfl, s1, hp2⟩ ?_ (by rw [ql_, hby, el]) ?_ ?_⟩
  ·rintro i σ H' _ ⟨La, v4, v5, _, sm, _⟩
   exact ⟨SqL.of (sm _ _ hbl), SqL.of (sm _ _ h2)⟩
  ·rintro i u v T' σ H' hi hu hv hT ⟨La, v4, v5, rfl, sm, hLa⟩
   obtain ⟨f, hfi, rfl⟩ := jq_ hu
   have hi' : i < M := by rw [<- el]; exact (List.getElem?_eq_some_iff.mp hv).1
   obtain ⟨p, ep, hp⟩ := h3.get hi'
   rw [q5_ ep] at hv
   cases Option.some.inj hv
   have s2 := sm.trans (Same.new (o := .tup [V.int (f : Nat), V.ref p]) hT)
   have hLa2 := (Same.new (o := .tup [V.int (f : Nat), V.ref p]) hT) _ _ hLa
   refine ⟨T', _, rfl, SqT.of qd_, rfl, _, _, rfl, _, _, rfl, rfl, ?_⟩
   generalize (upd H' T' (.tup [V.int (f : Nat), V.ref p])) = H2 at s2 hLa2
   have hC2 := hC.same s2
   obtain ⟨dB, hB⟩ := hC2.blk.ins
   refine ⟨_, rfl, _, rfl, c, _, _, _, _, rfl, s2 _ _ h1, T.cl_Code, T.no_Code_blocks, zP_ bp M N Lp, bp, _, _, _, _, rfl, hB, T.cl_Blocks, T.no_Blocks_field, yK_ fp w n, _, rfl, _, rfl, ?_⟩
   refine ⟨fp, p, r, w, f, rowT (N + M) (eqn N l) i, rfl, hC2.blk.fld, g, s2 _ _ hp, y4_ fun k hk => ze_ W t16 i k hi' hk, by rw [qu_]; omega, fun D3 H3 n3 s3 h3' => ?_⟩
   refine ⟨La, D3, _, _, rfl, s3 _ _ hLa2, h3', by rw [List.length_map, List.length_range, List.length_map, qu_], by rw [List.length_map, List.length_range]; omega, fun D4 H4 n4 s4 h4 => ?_⟩
   refine ⟨D4, _, _, rfl, s2.trans (s3.trans s4), ?_⟩
   rw [h4]
   refine congrArg (fun l => some (HO.lst (rowV l))) ?_
   have ef : by'.getD i 0 = f := by rw [List.getD_eq_getElem?_getD, hfi]; rfl
   unfold rowT
   apply List.ext_getElem?
   intro k
   rw [List.getElem?_zipWith, List.getElem?_map, List.getElem?_map, List.getElem?_map, List.getElem?_map]
   cases (List.range (N + M))[k]? with
   | none => rfl
   | some x =>
    rw [<- ef]
    rfl
  ·rintro σ H' ⟨La, v4, v5, rfl, sm, hLa⟩
   rw [ql_, hby] at hLa
   have hC' := hC.same sm
   refine ⟨_, rfl, c, _, _, _, _, rfl, sm _ _ h1, T.cl_Code, T.no_Code_roles, zd_ bp M N Lp, _, rfl, by omega, by omega, fun tl ntl => ?_⟩
   rw [Int.toNat_natCast]
   have hat : ∀ k, k < N + M -> os[k]? = some (os.getD k none) := fun k hk => by
    rw [List.getD_eq_getElem?_getD, List.getElem?_eq_getElem (by omega)]
    rfl
   refine ve_ (n := N + M) (f := fun k => .int ((k : Nat) : Int)) (b := fun k => (os.getD k none).isSome) (cs := [some (.ref rl)]) ntl rfl (Nat.le_trans n8 (by decide)) (fun k H2 R2 hk s2 hR => ?_) (fun k H2 R2 hk hb s2 hR => ?_) (fun H2 s2 htl => ?_)
   ·refine ⟨_, rfl, _, rfl, rl, _, _, _, rfl, rfl, SqL.of (s2 _ _ (sm _ _ hrl)), qy_ (jg_ (hat k hk)), rfl, _, rfl, ?_⟩
    have e : (!decide (valO (os.getD k none) = V.non)) = (os.getD k none).isSome := by
     cases os.getD k none with
     | none => rfl
     | some b => exact by rw [decide_eq_false (fun z => by cases z)]; rfl
    rw [e]
    exact hR _ (Same.refl _)
   ·exact ⟨_, rfl, hR _ (Same.refl _)⟩
   have s12 := sm.trans s2
   have hC2 := hC.same s12
   obtain ⟨dB, hB⟩ := hC2.blk.ins
   have hLa2 := s2 _ _ hLa
   generalize hfl : (List.range (N + M)).filter (fun k => (os.getD k none).isSome) = tks at htl
   have htk : ∀ k ∈ tks, k < N + M /\ (os.getD k none).isSome = true := fun k hk => by
    rw [<- hfl] at hk
    have := List.mem_filter.mp hk
    exact ⟨List.mem_range.mp this.1, this.2⟩
   have htl' : H2 tl = some (.lst (rowV tks)) := by
    rw [htl]
    rfl
   have hlen : tks.length <= 8 := by
    rw [<- hfl]
    have := List.length_filter_le (fun k => (os.getD k none).isSome) (List.range (N + M))
    rw [List.length_range] at this
    omega
   refine ⟨_, rfl, c, _, _, _, _, rfl, s12 _ _ h1, T.cl_Code, T.no_Code_blocks, zP_ bp M N Lp, bp, dB, _, rfl, hB, rfl, ?_⟩
   refine ⟨_, rfl, tl, rfl, ⟨_, SqL.of htl'⟩, fun D1 nD1 => ?_⟩
   refine yd_ (xs := rowV tks) (f := fun i => .int ((byL r w M N l by' (tks.getD i 0) : Nat) : Int)) (cs := [some (.ref La)]) (SqL.of htl') nD1 rfl (by rw [ql_]; exact Nat.le_trans hlen (by decide)) (fun i u H3 R3 hu s3 hR => ?_) (fun H3 s3 hD1 => ?_)
   ·obtain ⟨k, ek, rfl⟩ := jq_ hu
    have hk := (htk k (List.mem_of_getElem? ek)).1
    have eg : tks.getD i 0 = k := by rw [List.getD_eq_getElem?_getD, ek]; rfl
    rw [eg] at hR
    have gi := qy_ (j8_ (row := (List.range (N + M)).map fun k => GF.dot r w M (fun t => eqn N l t k) (fun t => by'.getD t 0)) (i := k) (by rw [List.length_map, List.length_range]; exact hk))
    rw [List.getD_eq_getElem?_getD, List.getElem?_map, List.getElem?_range hk] at gi
    exact ⟨_, rfl, _, rfl, La, _, _, _, rfl, rfl, SqL.of (s3 _ _ hLa2), gi, hR _ (Same.refl _)⟩
   refine ⟨_, rfl, tl, rfl, ⟨_, SqL.of (s3 _ _ htl')⟩, fun D2 nD2 => ?_⟩
   refine yd_ (xs := rowV tks) (f := fun i => .int (((os.getD (tks.getD i 0) none).getD 0 : Nat) : Int)) (cs := [some (.ref rl)]) (SqL.of (s3 _ _ htl')) nD2 rfl (by rw [ql_]; exact Nat.le_trans hlen (by decide)) (fun i u H4 R4 hu s4 hR => ?_) (fun H4 s4 hD2 => ?_)
   ·obtain ⟨k, ek, rfl⟩ := jq_ hu
    have hk := htk k (List.mem_of_getElem? ek)
    have eg : tks.getD i 0 = k := by rw [List.getD_eq_getElem?_getD, ek]; rfl
    rw [eg] at hR
    have ev : valO (os.getD k none) = .int (((os.getD k none).getD 0 : Nat) : Int) := by
     cases hz : os.getD k none with
     | none => rw [hz] at hk; exact absurd hk.2 (by decide)
     | some b => rfl
    have gi := qy_ (jg_ (hat k hk.1))
    rw [ev] at gi
    exact ⟨_, rfl, _, rfl, rl, _, _, _, rfl, rfl, SqL.of (s4 _ _ (s3 _ _ (s12 _ _ hrl))), gi, hR _ (Same.refl _)⟩
   rw [ql_] at hD1 hD2
   have e1 : ((List.range tks.length).map fun i => V.int ((byL r w M N l by' (tks.getD i 0) : Nat) : Int)) = rowV (tks.map (byL r w M N l by')) := by
    unfold rowV
    apply List.ext_getElem?
    intro i
    rw [List.getElem?_map, List.getElem?_map, List.getElem?_map]
    by_cases hi : i < tks.length
    ·rw [List.getElem?_range hi, List.getElem?_eq_getElem hi]
     have eg : tks.getD i 0 = tks[i] := by rw [List.getD_eq_getElem?_getD, List.getElem?_eq_getElem hi]; rfl
     dsimp only [Option.map]
     rw [eg]
    ·rw [List.getElem?_eq_none (by rw [List.length_range]; omega), List.getElem?_eq_none (by omega)]
     rfl
   have e2 : ((List.range tks.length).map fun i => V.int (((os.getD (tks.getD i 0) none).getD 0 : Nat) : Int)) = rowV (tks.map fun k => (os.getD k none).getD 0) := by
    unfold rowV
    apply List.ext_getElem?
    intro i
    rw [List.getElem?_map, List.getElem?_map, List.getElem?_map]
    by_cases hi : i < tks.length
    ·rw [List.getElem?_range hi, List.getElem?_eq_getElem hi]
     have eg : tks.getD i 0 = tks[i] := by rw [List.getD_eq_getElem?_getD, List.getElem?_eq_getElem hi]; rfl
     dsimp only [Option.map]
     rw [eg]
    ·rw [List.getElem?_eq_none (by rw [List.length_range]; omega), List.getElem?_eq_none (by omega)]
     rfl
   rw [e1] at hD1
   rw [e2] at hD2
   have s14 := s12.trans (s3.trans s4)
   refine ⟨bp, fp, D1, D2, r, w, n, tks.map (byL r w M N l by'), tks.map (fun k => (os.getD k none).getD 0), rfl, (hC.same s14).blk, g, hn, SqL.of (s4 _ _ hD1), SqL.of hD2, by rw [List.length_map, List.length_map], fun f hf => ?_, fun H5 s5 => ?_⟩
   ·obtain ⟨k, hk, rfl⟩ := List.mem_map.mp hf
    exact GF.dot_lt g.rule M fun t ht => ze_ W t16 t k ht (htk k hk).1
   ·have ez : (tks.map (byL r w M N l by')).zip (tks.map fun k => (os.getD k none).getD 0) = tells r w M N l by' os := by
     unfold tells
     rw [hfl, List.zip_map', ]
    rw [ez]
    exact q _ (s14.trans s5)
def knO (os : List (Option Nat)) : List Bool := os.map Option.isSome
def qde_ (K : PySem.W.Frag) (a : Adr) : Sp := fun vs H Q _ => ∃ (c bp fp rl : Addr) (r w n M N k : Nat) (l : Nat -> Nat -> Nat) (os : List (Option Nat)), vs = [.ref c, .ref rl, .int k] /\ CodeAt a H c bp fp r w n M N l /\ GF.Full r w /\ n <= 16 /\ Wts w M N l /\ H rl = some (.lst (rowO os)) /\ os.length = N + M /\ k < N + M ∧
 (∀ b, os.getD k none = some b -> Q (.int (b : Nat)) H) /\ (os.getD k none = none -> ∀ H', Same H H' -> (∀ by', Reck r w (N + M) M (eqn N l) (knO os) k by' -> Q (.int ((GF.sumB r w n (tells r w M N l by' os) : Nat) : Int)) H') /\ ∀ mk, Free r w (N + M) M (eqn N l) (knO os) k mk -> Q .non H')
theorem vw_ (T : Txt K mg a) : FnOk P wo K mg base CX0 8 a.f_Code_reckoned a.d_Code_reckoned ["self", "row", "role"] (qde_ K a) := by
 have G_Code_check_role : FnOk P wo K mg base CX0 7 _ _ _ _ := (yU_ T).mono (by decide)
 have G_Code_told : FnOk P wo K mg base CX0 7 _ _ _ _ := zQ_ T
 have G_Code_summed_by : FnOk P wo K mg base CX0 7 _ _ _ _ := (z9_ T).mono (by decide)
 refine T.F_Code_reckoned.ok (k := 7) sc_Code_reckoned (fun vs H Q E h => ?_) (fun cdv A outer s H vs Q E hr h => ?_)
 ·obtain ⟨c, bp, fp, rl, r, w, n, M, N, k, l, os, rfl, _⟩ := h
  rfl
 ·obtain ⟨c, bp, fp, rl, r, w, n, M, N, k, l, os, rfl, hC, g, hn, W, hrl, hos, hk, q1, q2⟩ := h
  obtain ⟨dx, Lp, qs, h1, h2, h3⟩ := id hC.ins
  have n8 := W.n8
  have hat : os[k]? = some (os.getD k none) := by
   rw [List.getD_eq_getElem?_getD, List.getElem?_eq_getElem (by omega)]
   rfl
  refine ⟨_, (qc_ (q4_ (qE_ (pv 0) T.cl_Code T.me_Code_check_role G_Code_check_role (hr.mono (by decide)) T.b_Code_check_role .nil qo_ (qa_ (pv 2) qf_)))
   (qc_ (qH_ (qp_ yq_ (qD_ qz_ (pv 1) (pv 2) (fun _ _ => rfl)) jr_ (qr_ _)) (qg_ (qq_ (qD_ qz_ (pv 1) (pv 2) (fun _ _ => rfl)))) qB_)
   (qc_ (qm_ (i := 3) sc_Code_reckoned.nd rfl (Or.inl rfl) (qE_ (pv 0) T.cl_Code T.me_Code_told G_Code_told (hr.mono (by decide)) T.b_Code_told .nil qo_ (qa_ (jH_ (CompOk.of (cap := []) (own := ["block"]) (by kernel_rfl)) rfl (jp_ (pv 1)) (fun _ _ _ _ _ => (qs_ (i := 0) (of_decide_eq_true (by kernel_rfl)) rfl (Or.inl rfl))) (fun _ _ _ _ _ => jG_) (fun _ _ _ _ _ => by exact (y3_ yq_ (pv 0) jr_ (qr_ _)))) (qa_ (pv 2) qf_))))
   (qc_ (qH_ (qp_ j1_ (qD_ qab_ (pv 3) qj_ (fun _ _ => rfl)) vz_ (qr_ _)) (qg_ (qq_ jr_)) qB_)
   (qg_ (qq_ (qE_ (pv 0) T.cl_Code T.me_Code_summed_by G_Code_summed_by (hr.mono (by decide)) T.b_Code_summed_by .nil qo_ (qa_ (qD_ qab_ (pv 3) qj_ (fun _ _ => rfl)) (qa_ (pv 1) qf_))))))))), ?_⟩
  refine ⟨_, rfl, c, dx, _, rfl, h1, rfl, _, rfl, c, bp, fp, r, w, n, M, N, k, l, rfl, hC, hk, ?_⟩
  refine ⟨_, rfl, _, rfl, rl, _, _, _, rfl, rfl, SqL.of hrl, qy_ (jg_ hat), rfl, _, rfl, ?_⟩
  cases hz : os.getD k none with
  | some b =>
   refine ite2 (fun _ => ?_) (fun y => absurd (by rw [decide_eq_false (fun z => by cases z)]; rfl) y)
   rw [hz] at hat
   exact ⟨_, rfl, _, rfl, rl, _, _, _, rfl, rfl, SqL.of hrl, qy_ (jg_ hat), q1 b hz⟩
  | none =>
   refine iteF ?_
   have q2 := q2 hz
   refine ⟨_, rfl, c, dx, _, rfl, h1, rfl, _, rfl, rl, rfl, ⟨_, SqL.of hrl⟩, fun kn nkn => ?_⟩
   refine yd_ (xs := rowO os) (f := fun i => .bl (os.getD i none).isSome) (cs := []) (SqL.of hrl) nkn rfl (by rw [qZ_]; exact Nat.le_trans (by omega : os.length <= 8) (by decide)) (fun i u H2 R2 hu s2 hR => ?_) (fun H2 s2 hkn => ?_)
   ·have hi : i < os.length := by rw [<- qZ_]; exact (List.getElem?_eq_some_iff.mp hu).1
    have hai : os[i]? = some (os.getD i none) := by
     rw [List.getD_eq_getElem?_getD, List.getElem?_eq_getElem hi]
     rfl
    rw [jg_ hai] at hu
    cases Option.some.inj hu
    refine ⟨_, rfl, rfl, ?_⟩
    have e : (!decide (valO (os.getD i none) = V.non)) = (os.getD i none).isSome := by
     cases os.getD i none with
     | none => rfl
     | some b => exact by rw [decide_eq_false (fun z => by cases z)]; rfl
    rw [e]
    exact hR _ (Same.refl _)
   rw [qZ_] at hkn
   have ek : ((List.range os.length).map fun i => V.bl (os.getD i none).isSome) = knV (knO os) := by
    unfold knV knO
    apply List.ext_getElem?
    intro i
    rw [List.getElem?_map, List.getElem?_map, List.getElem?_map]
    by_cases hi : i < os.length
    ·rw [List.getElem?_range hi, List.getElem?_eq_getElem hi]
     have eg : os.getD i none = os[i] := by rw [List.getD_eq_getElem?_getD, List.getElem?_eq_getElem hi]; rfl
     dsimp only [Option.map]
     rw [eg]
    ·rw [List.getElem?_eq_none (by rw [List.length_range]; omega), List.getElem?_eq_none (by omega)]
     rfl
   rw [ek] at hkn
   have hkl : (knO os).length = N + M := by unfold knO; rw [List.length_map, hos]
   have hkk : (knO os)[k]? = some false := by
    unfold knO
    rw [List.getElem?_map, hat, hz]
    rfl
   refine ⟨_, rfl, c, bp, fp, kn, r, w, n, M, N, k, l, knO os, rfl, hC.same s2, g, W, hkn, hkl, hk, hkk, fun D H3 s3 nD told _ => ?_⟩
   have s13 := s2.trans s3
   have q3 := fun H' (s' : Same H3 H') => q2 H' (s13.trans s')
   rcases told with ⟨e, by', hD, he, hr'⟩ | ⟨e, mk, hD, he, hr'⟩
   ·refine ⟨_, rfl, D, _, _, _, rfl, rfl, SqT.of hD, rfl, rfl, _, rfl, ?_⟩
    refine ite2 (fun z => absurd (V.str.inj (of_decide_eq_true z)) (by decide)) (fun _ => ?_)
    obtain ⟨dx3, Lp3, qs3, h13, _, _⟩ := (hC.same s13).ins
    refine ⟨_, rfl, c, dx3, _, rfl, h13, rfl, _, rfl, D, _, _, _, rfl, rfl, SqT.of hD, rfl, _, rfl, ?_⟩
    exact ⟨c, bp, fp, e, rl, r, w, n, M, N, l, by', os, rfl, hC.same s13, g.toGood, hn, W, he, hr'.len, s13 _ _ hrl, hos, fun H4 s4 => (q3 H4 s4).1 by' hr'⟩
   ·refine ⟨_, rfl, D, _, _, _, rfl, rfl, SqT.of hD, rfl, rfl, _, rfl, ?_⟩
    refine ite2 (fun _ => ?_) (fun z => absurd (decide_eq_true rfl) z)
    exact (q3 H3 (Same.refl _)).2 mk hr'
end
def tot (r w N : Nat) (l : Nat -> Nat -> Nat) (o k : Nat) : Nat := GF.tm r w (eqn N l 0 k) (eqn N l 1 o) ^^^ GF.tm r w (eqn N l 1 k) (eqn N l 0 o)
def jN_ (R : Nat) (ks : List Bool) (pl : Nat) : List Nat := (List.range R).filter fun k => !(ks.getD k false) && !decide (k = pl)
def fixB (r w M N : Nat) (l : Nat -> Nat -> Nat) (ks : List Bool) (pl : Nat) : Bool :=
 match jN_ (N + M) ks pl with
 | [] => true
 | o :: os => if M = 1 then false else (o :: os ++ [pl]).all fun k => decide ((tot r w N l o k ≠ 0) = (k = pl))
theorem y2_ {R : Nat} {ks : List Bool} {pl k : Nat} (h : k ∈ jN_ R ks pl) : k < R /\ ks.getD k false = false /\ k ≠ pl := by
 unfold jN_ at h
 have := List.mem_filter.mp h
 have h2 := this.2
 rw [Bool.and_eq_true, Bool.not_eq_true', Bool.not_eq_true'] at h2
 exact ⟨List.mem_range.mp this.1, h2.1, of_decide_eq_false h2.2⟩
theorem u5_ {ks : List Bool} {k : Nat} {b : Bool} (hk : k < ks.length) (h : ks.getD k false = b) : ks[k]? = some b := by
 rw [List.getElem?_eq_getElem hk]
 rw [List.getD_eq_getElem?_getD, List.getElem?_eq_getElem hk] at h
 exact congrArg some h
theorem qh2_ {r w : Nat} (a x : Nat -> Nat) : GF.dot r w 2 a x = GF.tm r w (a 0) (x 0) ^^^ GF.tm r w (a 1) (x 1) := by
 show (0 ^^^ _) ^^^ _ = _
 rw [Nat.zero_xor]
theorem ui_ {N M : Nat} {l : Nat -> Nat -> Nat} {w : Nat} (W : Wts w M N l) {k : Nat} (hk : k < N + M) : ∃ t, t < M /\ eqn N l t k ≠ 0 := by
 by_cases hjN : k < N
 ·obtain ⟨t, ht, hz⟩ := W.col k hjN
  refine ⟨t, ht, ?_⟩
  unfold eqn
  rw [if_pos hjN]
  exact hz
 ·refine ⟨k - N, by omega, ?_⟩
  unfold eqn
  rw [if_neg hjN, if_pos rfl]
  decide
theorem qeu_ {a b : Nat} (h : a ^^^ b = 0) : a = b := by
 have := congrArg (fun z => z ^^^ b) h
 simp only [Nat.xor_assoc, Nat.xor_self, Nat.xor_zero, Nat.zero_xor] at this
 exact this
theorem qgd_ {r w N : Nat} {l : Nat -> Nat -> Nat} {ks : List Bool} {pl : Nat} {by' : List Nat} (g : GF.Full r w) (W : Wts w 2 N l) (hks : ks.length = N + 2) (hpl : pl < N + 2) (hkp : ks.getD pl false = false) (f : Reck r w (N + 2) 2 (eqn N l) ks pl by') {o : Nat} (ho : o < N + 2) (hko : ks.getD o false = false) (hop : o ≠ pl) :
  ∀ k, k < N + 2 -> ks.getD k false = false -> (tot r w N l o k ≠ 0 ↔ k = pl) := by
 have t16 := g.toGood.top16
 have R := g.toGood.rule
 have w1 := g.toGood.w1
 have elt : ∀ t k, t < 2 -> k < N + 2 -> eqn N l t k < 2 ^ w := ze_ W t16
 have b0 : by'.getD 0 0 < 2 ^ w := y5_ f.lt (by rw [f.len]; decide)
 have b1 : by'.getD 1 0 < 2 ^ w := y5_ f.lt (by rw [f.len]; decide)
 have hk : ∀ k, k < N + 2 -> ks.getD k false = false -> GF.tm r w (eqn N l 0 k) (by'.getD 0 0) ^^^ GF.tm r w (eqn N l 1 k) (by'.getD 1 0) = if k = pl then 1 else 0 := fun k h1 h2 => by
  have := f.ok k h1 (u5_ (by omega) h2)
  rw [qh2_] at this
  exact this
 have e0 := hk o ho hko
 rw [if_neg hop] at e0
 have e0 := qeu_ e0
 generalize by'.getD 0 0 = y0 at b0 hk e0
 generalize by'.getD 1 0 = y1 at b1 hk e0
 have a0 := elt 0 o (by decide) ho
 have a1 := elt 1 o (by decide) ho
 have prop : ∃ m, m < 2 ^ w /\ m ≠ 0 /\ y0 = GF.tm r w m (eqn N l 1 o) /\ y1 = GF.tm r w m (eqn N l 0 o) := by
  have hne : ¬ (y0 = 0 /\ y1 = 0) := fun z => by
   have := hk pl hpl hkp
   rw [if_pos rfl, z.1, z.2, GF.tm_zero, GF.tm_zero] at this
   exact absurd this (by decide)
  obtain ⟨t, ht, hz⟩ := ui_ W ho
  have cancel : ∀ {x y z : Nat}, x < 2 ^ w -> y < 2 ^ w -> z < 2 ^ w -> z ≠ 0 -> GF.tm r w x z = GF.tm r w y z -> x = y := fun {x y z} hx hy hz' z0 e => by
   rw [GF.tm_comm R w1 hx hz', GF.tm_comm R w1 hy hz'] at e
   exact GF.tm_inj g z0 hz' hx hy e
  by_cases z1 : eqn N l 1 o = 0
  ·have z0 : eqn N l 0 o ≠ 0 := by
    have h2 : t = 0 \/ t = 1 := by omega
    rcases h2 with rfl | rfl
    ·exact hz
    ·exact absurd z1 hz
   have hy0 : y0 = 0 := by
    rw [z1, GF.zero_tm] at e0
    rcases (GF.tm_eq_zero g a0 b0).mp e0 with z | z
    ·exact absurd z z0
    ·exact z
   have inv := GF.pw_back g (Nat.pos_of_ne_zero z0) a0
   have il := GF.pw_lt g.toGood a0 (2 ^ w - 1 - 1)
   generalize GF.pw r w (eqn N l 0 o) (2 ^ w - 1 - 1) = v at inv il
   refine ⟨GF.tm r w y1 v, GF.tm_lt R b1, fun z => ?_, ?_, ?_⟩
   ·rcases (GF.tm_eq_zero g b1 il).mp z with z | z
    ·exact hne ⟨hy0, z⟩
    ·rw [z, GF.tm_zero] at inv
     exact absurd inv (by decide)
   ·rw [z1, GF.tm_zero, hy0]
   ·rw [GF.tm_assoc R w1 b1 il, GF.tm_comm R w1 il a0, inv, GF.tm_one]
  ·have inv := GF.pw_back g (Nat.pos_of_ne_zero z1) a1
   have il := GF.pw_lt g.toGood a1 (2 ^ w - 1 - 1)
   generalize GF.pw r w (eqn N l 1 o) (2 ^ w - 1 - 1) = v at inv il
   have hy0 : y0 = GF.tm r w (GF.tm r w y0 v) (eqn N l 1 o) := by rw [GF.tm_assoc R w1 b0 il, GF.tm_comm R w1 il a1, inv, GF.tm_one]
   have hy1 : y1 = GF.tm r w (GF.tm r w y0 v) (eqn N l 0 o) := by
    refine cancel b1 (GF.tm_lt R (GF.tm_lt R b0)) a1 z1 ?_
    rw [GF.tm_comm R w1 b1 a1, ← e0, GF.tm_assoc R w1 (GF.tm_lt R b0) a0, GF.tm_comm R w1 a0 a1, ← GF.tm_assoc R w1 (GF.tm_lt R b0) a1, ← hy0, GF.tm_comm R w1 a0 b0]
   refine ⟨GF.tm r w y0 v, GF.tm_lt R b0, fun z => ?_, hy0, hy1⟩
   rw [z, GF.zero_tm] at hy0 hy1
   exact hne ⟨hy0, hy1⟩
 obtain ⟨m, ml, m0, rfl, rfl⟩ := prop
 intro k h1 h2
 have ek := hk k h1 h2
 have c0 := elt 0 k (by decide) h1
 have c1 := elt 1 k (by decide) h1
 have et : GF.tm r w m (tot r w N l o k) = if k = pl then 1 else 0 := by
  rw [<- ek]
  unfold tot
  rw [GF.tm_xor_right, ← GF.tm_assoc R w1 ml c0, GF.tm_comm R w1 ml c0, GF.tm_assoc R w1 c0 ml, ← GF.tm_assoc R w1 ml c1, GF.tm_comm R w1 ml c1, GF.tm_assoc R w1 c1 ml]
 have tl : tot r w N l o k < 2 ^ w := Nat.xor_lt_two_pow (GF.tm_lt R c0) (GF.tm_lt R c1)
 constructor
 ·intro z
  by_cases y : k = pl
  ·exact y
  ·rw [if_neg y] at et
   rcases (GF.tm_eq_zero g ml tl).mp et with x | x
   ·exact absurd x m0
   ·exact absurd x z
 ·intro y z
  rw [if_pos y, z, GF.tm_zero] at et
  exact absurd et (by decide)
theorem vT_ {r w R pl : Nat} {a x : Nat -> Nat} (hpl : pl < R) (h : ∀ k, k < R -> k ≠ pl -> GF.tm r w (a k) (x k) = 0) : GF.dot r w R a x = GF.tm r w (a pl) (x pl) := by
 have key : ∀ n, n <= R -> GF.dot r w n a x = if pl < n then GF.tm r w (a pl) (x pl) else 0 := by
  intro n
  induction n with
  | zero => intro _; rw [if_neg (Nat.not_lt_zero _)]; rfl
  | succ n ih =>
   intro hn
   rw [GF.dot, ih (by omega)]
   by_cases z : n = pl
   ·subst z
    rw [if_neg (Nat.lt_irrefl _), if_pos (Nat.lt_succ_self _), Nat.zero_xor]
   ·rw [h n (by omega) z, Nat.xor_zero]
    by_cases y : pl < n
    ·rw [if_pos y, if_pos (by omega)]
    ·rw [if_neg y, if_neg (by omega)]
 rw [key R (Nat.le_refl _), if_pos hpl]
theorem uC_ {r w M N : Nat} {l : Nat -> Nat -> Nat} {ks : List Bool} {pl : Nat} {by' : List Nat} (g : GF.Full r w) (W : Wts w M N l) (hks : ks.length = N + M) (hpl : pl < N + M) (hkp : ks.getD pl false = false) (f : Reck r w (N + M) M (eqn N l) ks pl by') : fixB r w M N l ks pl = true := by
 unfold fixB
 have t16 := g.toGood.top16
 split
 ·rfl
 ·rename_i o os he
  have ho := y2_ (R := N + M) (ks := ks) (pl := pl) (k := o) (by rw [he]; exact List.mem_cons_self)
  by_cases hM : M = 1
  ·subst hM
   have b0 : by'.getD 0 0 < 2 ^ w := y5_ f.lt (by rw [f.len]; decide)
   have e1 := f.ok o ho.1 (u5_ (by omega) ho.2.1)
   have e2 := f.ok pl hpl (u5_ (by omega) hkp)
   rw [if_neg ho.2.2] at e1
   rw [if_pos rfl] at e2
   have d1 : ∀ a x : Nat -> Nat, GF.dot r w 1 a x = GF.tm r w (a 0) (x 0) := fun a x => Nat.zero_xor _
   rw [d1] at e1 e2
   obtain ⟨t, ht, hz⟩ := ui_ W ho.1
   have t0 : t = 0 := by omega
   subst t0
   rcases (GF.tm_eq_zero g (ze_ W t16 0 o (by decide) ho.1) b0).mp e1 with z | z
   ·exact absurd z hz
   ·rw [z, GF.tm_zero] at e2
    exact absurd e2 (by decide)
  ·have hM2 : M = 2 := by have := W.m1; have := W.m2; omega
   subst hM2
   rw [if_neg hM, List.all_eq_true]
   have key := qgd_ g W hks hpl hkp f ho.1 ho.2.1 ho.2.2
   intro k hk
   apply decide_eq_true
   rcases List.mem_append.mp hk with y | y
   ·have := y2_ (R := N + 2) (ks := ks) (pl := pl) (k := k) (by rw [he]; exact y)
    exact propext (key k this.1 this.2.1)
   ·rw [List.mem_singleton.mp y]
    exact propext (key pl hpl hkp)
theorem uD_ {r w M N : Nat} {l : Nat -> Nat -> Nat} {ks : List Bool} {pl : Nat} {mk : List Nat} (g : GF.Full r w) (W : Wts w M N l) (hks : ks.length = N + M) (hpl : pl < N + M) (hkp : ks.getD pl false = false) (f : Free r w (N + M) M (eqn N l) ks pl mk) : fixB r w M N l ks pl = false := by
 unfold fixB
 have t16 := g.toGood.top16
 have R := g.toGood.rule
 have w1 := g.toGood.w1
 have mlt : ∀ k, k < N + M -> mk.getD k 0 < 2 ^ w := fun k hk => y5_ f.lt (by rw [f.len]; exact hk)
 have none_of : ∀ k, k < N + M -> k ≠ pl -> k ∉ jN_ (N + M) ks pl -> mk.getD k 0 = 0 := fun k hk hne hno => by
  refine f.zero k hk (u5_ (by omega) ?_)
  cases hb : ks.getD k false with
  | true => rfl
  | false =>
   refine absurd ?_ hno
   unfold jN_
   refine List.mem_filter.mpr ⟨List.mem_range.mpr hk, ?_⟩
   rw [hb, decide_eq_false hne]
   rfl
 split
 ·rename_i he
  obtain ⟨t, ht, hz⟩ := ui_ W hpl
  have e := f.ok t ht
  rw [vT_ hpl fun k hk hne => by rw [none_of k hk hne (by rw [he]; simp), GF.tm_zero], f.one, GF.tm_one] at e
  exact absurd e hz
 ·rename_i o os he
  have ho := y2_ (R := N + M) (ks := ks) (pl := pl) (k := o) (by rw [he]; exact List.mem_cons_self)
  by_cases hM : M = 1
  ·rw [if_pos hM]
  ·have hM2 : M = 2 := by have := W.m1; have := W.m2; omega
   subst hM2
   rw [if_neg hM, List.all_eq_false]
   have elt : ∀ t k, t < 2 -> k < N + 2 -> eqn N l t k < 2 ^ w := ze_ W t16
   refine Classical.byContradiction fun hall => ?_
   have hall' : ∀ k ∈ (o :: os ++ [pl]), (tot r w N l o k ≠ 0) = (k = pl) := fun k hk => Classical.byContradiction fun z => hall ⟨k, hk, fun y => z (of_decide_eq_true y)⟩
   have h0 : GF.dot r w (N + 2) (tot r w N l o) (fun k => mk.getD k 0) = 0 := by
    show GF.dot r w (N + 2) (fun k => GF.tm r w (eqn N l 0 k) (eqn N l 1 o) ^^^ GF.tm r w (eqn N l 1 k) (eqn N l 0 o)) (fun k => mk.getD k 0) = 0
    rw [GF.dot_add R (N + 2) fun k hk => ⟨GF.tm_lt R (elt 0 k (by decide) hk), GF.tm_lt R (elt 1 k (by decide) hk)⟩]
    rw [GF.dot_scale R w1 (elt 1 o (by decide) ho.1) (N + 2) fun k hk => ⟨elt 0 k (by decide) hk, mlt k hk⟩, GF.dot_scale R w1 (elt 0 o (by decide) ho.1) (N + 2) fun k hk => ⟨elt 1 k (by decide) hk, mlt k hk⟩]
    have e0 := f.ok 0 (by decide)
    have e1 := f.ok 1 (by decide)
    rw [e0, e1, GF.zero_tm, GF.zero_tm]
    rfl
   rw [vT_ hpl fun k hk hne => by
    by_cases hm : k ∈ jN_ (N + 2) ks pl
    ·have := hall' k (List.mem_append_left _ (by rw [<- he]; exact hm))
     have z : tot r w N l o k = 0 := Classical.byContradiction fun y => hne (this.mp y)
     rw [z, GF.zero_tm]
    ·rw [none_of k hk hne hm, GF.tm_zero], f.one, GF.tm_one] at h0
   have := hall' pl (List.mem_append_right _ (List.mem_singleton.mpr rfl))
   exact absurd h0 (this.mpr rfl)
theorem qjh_ {r w n M N : Nat} {l : Nat -> Nat -> Nat} {X : List Nat} (hX : X.length = N + M) : isMk r w n M N l X = true ↔ ∀ t, t < M -> GF.xsum (N + M) (fun j => GF.sc r w n (eqn N l t j) (X.getD j 0)) = 0 := by
 have e : ∀ t, GF.sumB r w n ((rowT (N + M) (eqn N l) t).zip X) = GF.xsum (N + M) (fun j => GF.sc r w n (eqn N l t j) (X.getD j 0)) := fun t => by
  have h := GF.sumB_range (r := r) (w := w) (n := n) (eqn N l t) (fun j => X.getD j 0) (N + M)
  have hx := GF.list_range X
  rw [hX] at hx
  rw [<- hx] at h
  exact h
 unfold isMk
 rw [List.all_eq_true]
 constructor
 ·intro h t ht
  rw [<- e]
  exact of_decide_eq_true (h t (List.mem_range.mpr ht))
 ·intro h t ht
  apply decide_eq_true
  rw [e]
  exact h t (List.mem_range.mp ht)
def j2_ (R : Nat) (os : List (Option Nat)) (X : List Nat) : Prop := ∀ j, j < R -> ∀ b, os.getD j none = some b -> X.getD j 0 = b
theorem zx_ {os : List (Option Nat)} {j : Nat} (hj : j < os.length) (h : os.getD j none = none) : (knO os)[j]? = some false := by
 unfold knO
 rw [List.getElem?_map, List.getElem?_eq_getElem hj]
 rw [List.getD_eq_getElem?_getD, List.getElem?_eq_getElem hj] at h
 have h : os[j] = none := h
 rw [h]
 rfl
theorem qa5_ {os : List (Option Nat)} {j b : Nat} (hj : j < os.length) (h : os.getD j none = some b) : (knO os)[j]? = some true := by
 unfold knO
 rw [List.getElem?_map, List.getElem?_eq_getElem hj]
 rw [List.getD_eq_getElem?_getD, List.getElem?_eq_getElem hj] at h
 have h : os[j] = some b := h
 rw [h]
 rfl
theorem tells_make {r w n M N k : Nat} {l : Nat -> Nat -> Nat} {os : List (Option Nat)} {X by' : List Nat} (g : GF.Good r w) (W : Wts w M N l) (hos : os.length = N + M) (hX : X.length = N + M) (hlt : ∀ b ∈ X, b < (2 ^ w) ^ n) (hk : k < N + M) (hz : os.getD k none = none) (hm : isMk r w n M N l X = true) (ha : j2_ (N + M) os X) (f : Reck r w (N + M) M (eqn N l) (knO os) k by') :
  GF.sumB r w n (tells r w M N l by' os) = X.getD k 0 := by
 have t16 := g.top16
 have hm := (qjh_ hX).mp hm
 have h0 := GF.lines_zero g.rule g.w1 (n := n) (m := N + M) (e := eqn N l) (x := fun j => X.getD j 0) (y := fun t => by'.getD t 0) M (fun t j ht hj => ze_ W t16 t j ht hj) (fun t ht => y5_ f.lt (by rw [f.len]; exact ht)) hm
 unfold tells
 rw [GF.sumB_filter (fun k => (os.getD k none).isSome) (byL r w M N l by') (fun k => (os.getD k none).getD 0)]
 have h1 := GF.xsum_xor (fun j => if (os.getD j none).isSome = true then GF.sc r w n (byL r w M N l by' j) ((os.getD j none).getD 0) else 0) (fun j => GF.sc r w n (GF.dot r w M (fun t => eqn N l t j) (fun t => by'.getD t 0)) (X.getD j 0)) (N + M)
 rw [h0, Nat.xor_zero] at h1
 rw [<- h1, GF.xsum_single hk fun j hj hne => ?_]
 ·have e := f.ok k hk (zx_ (by omega) hz)
  rw [if_pos rfl] at e
  rw [hz, e, GF.sc_one g.rule g.w1 (y5_ hlt (by rw [hX]; exact hk))]
  have : (if (none : Option Nat).isSome = true then GF.sc r w n (byL r w M N l by' k) ((none : Option Nat).getD 0) else 0) = 0 := if_neg (by decide)
  rw [this]
  exact Nat.zero_xor _
 ·cases hb : os.getD j none with
  | none =>
   have e := f.ok j hj (zx_ (by omega) hb)
   rw [if_neg hne] at e
   rw [e, GF.sc_zero, Nat.xor_zero]
   exact if_neg (by decide)
  | some b =>
   have := ha j hj b hb
   show GF.sc r w n (byL r w M N l by' j) b ^^^ GF.sc r w n (GF.dot r w M (fun t => eqn N l t j) (fun t => by'.getD t 0)) (X.getD j 0) = 0
   rw [this]
   exact Nat.xor_self _
def qln_ (r w n R : Nat) (X mk : List Nat) (c : Nat) : List Nat := (List.range R).map fun j => X.getD j 0 ^^^ GF.sc r w n (mk.getD j 0) c
def plainL (i k : Nat) : Nat := if i = 0 then 1 else k + 1
theorem qev_ {w M N : Nat} (t16 : 16 <= 2 ^ w) (h1 : 1 <= M) (h2 : M <= 2) (h3 : 1 <= N) (h8 : N + M <= 8) : Wts w M N plainL where
 m1 := h1
 m2 := h2
 n1 := h3
 n8 := h8
 lt i k hi hk := by
  unfold plainL
  split <;> omega
 row i hi := ⟨0, h3, by unfold plainL; split <;> decide⟩
 col k hk := ⟨0, h1, by unfold plainL; rw [if_pos rfl]; decide⟩
def jQ_ (ks : List Bool) : Nat := ks.countP fun b => !b
theorem vx_ (N k : Nat) : eqn N plainL 0 k = if k <= N then 1 else 0 := by
 unfold eqn plainL
 by_cases h : k < N
 ·rw [if_pos h, if_pos rfl, if_pos (by omega)]
 ·rw [if_neg h]
  by_cases y : k = N
  ·rw [if_pos (by omega), if_pos (by omega)]
  ·rw [if_neg (by omega), if_neg (by omega)]
theorem zy_ (N k : Nat) : eqn N plainL 1 k = if k < N then k + 1 else if k = N + 1 then 1 else 0 := by
 unfold eqn plainL
 by_cases h : k < N
 ·rw [if_pos h, if_neg (by decide), if_pos h]
 ·rw [if_neg h, if_neg h]
  by_cases y : k = N + 1
  ·rw [if_pos (by omega), if_pos y]
  ·rw [if_neg (by omega), if_neg y]
theorem qke_ {w N j : Nat} (t16 : 16 <= 2 ^ w) (h8 : N + 2 <= 8) (hj : j < N + 2) : (if j < N then j + 1 else if j = N + 1 then 1 else 0) < 2 ^ w := by
 split
 ·omega
 ·split <;> omega
theorem uE_ {r w N o k : Nat} (g : GF.Good r w) (h8 : N + 2 <= 8) (ho : o < N + 2) (hk : k < N + 2) (hne : o ≠ k) : tot r w N plainL o k ≠ 0 := by
 have t16 := g.top16
 have R := g.rule
 have w1 := g.w1
 have l1 : ∀ j, j < N + 2 -> eqn N plainL 1 j < 2 ^ w := fun j hj => by
  rw [zy_]
  split
  ·omega
  ·split <;> omega
 have e : tot r w N plainL o k = (if k <= N then eqn N plainL 1 o else 0) ^^^ (if o <= N then eqn N plainL 1 k else 0) := by
  unfold tot
  rw [vx_, vx_]
  congr 1
  ·by_cases y : k <= N
   ·rw [if_pos y, if_pos y, GF.one_tm R w1 (l1 o ho)]
   ·rw [if_neg y, if_neg y, GF.zero_tm]
  ·by_cases y : o <= N
   ·rw [if_pos y, if_pos y, GF.tm_one]
   ·rw [if_neg y, if_neg y, GF.tm_zero]
 rw [e]
 intro z
 have z := qeu_ z
 rw [zy_, zy_] at z
 by_cases y1 : k <= N
 ·by_cases y2 : o <= N
  ·rw [if_pos y1, if_pos y2] at z
   by_cases c1 : o < N
   ·rw [if_pos c1] at z
    by_cases c2 : k < N
    ·rw [if_pos c2] at z; omega
    ·rw [if_neg c2, if_neg (by omega)] at z; omega
   ·rw [if_neg c1, if_neg (by omega)] at z
    by_cases c2 : k < N
    ·rw [if_pos c2] at z; omega
    ·omega
  ·rw [if_pos y1, if_neg y2, if_neg (by omega), if_pos (by omega)] at z
   omega
 ·by_cases y2 : o <= N
  ·rw [if_neg y1, if_pos y2, if_neg (by omega), if_pos (by omega)] at z
   omega
  ·omega
theorem zR_ (f : Nat -> Bool) (pl : Nat) : ∀ R, (List.range R).countP f = ((List.range R).filter fun k => f k && !decide (k = pl)).length + if pl < R /\ f pl = true then 1 else 0
 | 0 => rfl
 | R + 1 => by
  have ih := zR_ f pl R
  rw [List.range_succ, List.countP_append, List.filter_append, List.length_append, ih, List.countP_singleton]
  by_cases y : R = pl
  ·subst y
   have e : ([R].filter fun k => f k && !decide (k = R)) = [] := by simp
   rw [e, if_neg (fun z => absurd z.1 (Nat.lt_irrefl _))]
   cases hf : f R with
   | true => rw [if_pos rfl, if_pos ⟨Nat.lt_succ_self _, rfl⟩]; rfl
   | false => rw [if_neg (by decide), if_neg (fun z => by cases z.2)]; rfl
  ·have e : ([R].filter fun k => f k && !decide (k = pl)).length = if f R = true then 1 else 0 := by
    cases hf : f R <;> simp [hf, y]
   rw [e]
   have e2 : (if pl < R + 1 /\ f pl = true then 1 else 0) = (if pl < R /\ f pl = true then 1 else 0 : Nat) := by
    by_cases z : f pl = true
    ·by_cases x : pl < R
     ·rw [if_pos ⟨by omega, z⟩, if_pos ⟨x, z⟩]
     ·rw [if_neg (fun q => by omega), if_neg (fun q => x q.1)]
    ·rw [if_neg (fun q => z q.2), if_neg (fun q => z q.2)]
   rw [e2]
   omega
theorem vh_ {ks : List Bool} : jQ_ ks = (List.range ks.length).countP fun k => !(ks.getD k false) := by
 have e : ks = (List.range ks.length).map fun k => ks.getD k false := by
  apply List.ext_getElem?
  intro k
  rw [List.getElem?_map]
  by_cases hk : k < ks.length
  ·rw [List.getElem?_range hk, List.getElem?_eq_getElem hk, Option.map, List.getD_eq_getElem?_getD, List.getElem?_eq_getElem hk]
   rfl
  ·rw [List.getElem?_eq_none (by omega), List.getElem?_eq_none (by rw [List.length_range]; omega)]
   rfl
 unfold jQ_
 conv => lhs; rw [e]
 rw [List.countP_map]
 rfl
theorem qbx_ {R pl : Nat} {ks : List Bool} (hks : ks.length = R) (hpl : pl < R) (hkp : ks.getD pl false = false) : jQ_ ks = (jN_ R ks pl).length + 1 := by
 rw [vh_, hks, zR_ _ pl, if_pos ⟨hpl, by rw [hkp]; rfl⟩]
 rfl
theorem uF_ {r w M N pl : Nat} {ks : List Bool} (g : GF.Good r w) (m1 : 1 <= M) (m2 : M <= 2) (h8 : N + M <= 8) (hks : ks.length = N + M) (hpl : pl < N + M) (hkp : ks.getD pl false = false) : fixB r w M N plainL ks pl = decide (jQ_ ks <= M) := by
 have hg := qbx_ hks hpl hkp
 have hmem := fun k (h : k ∈ jN_ (N + M) ks pl) => y2_ h
 have hnd : (jN_ (N + M) ks pl).Nodup := List.Pairwise.filter _ List.nodup_range
 unfold fixB
 generalize jN_ (N + M) ks pl = os at hg hmem hnd
 cases os with
 | nil => rw [decide_eq_true (by rw [hg]; exact m1)]
 | cons o os =>
  show (if M = 1 then false else _) = _
  by_cases hM : M = 1
  ·rw [if_pos hM, decide_eq_false (by rw [hg, List.length_cons]; omega)]
  ·rw [if_neg hM]
   have hM2 : M = 2 := by omega
   subst hM2
   have ho := hmem o List.mem_cons_self
   cases os with
   | nil =>
    rw [decide_eq_true (by rw [hg]; exact Nat.le_refl 2)]
    have e1 : tot r w N plainL o o = 0 := by
     unfold tot
     have l0 : eqn N plainL 0 o < 2 ^ w := by rw [vx_]; have := g.top16; split <;> omega
     have l1 : eqn N plainL 1 o < 2 ^ w := by rw [zy_]; exact qke_ g.top16 h8 ho.1
     rw [GF.tm_comm g.rule g.w1 l0 l1, Nat.xor_self]
    have e2 := uE_ g h8 ho.1 hpl ho.2.2
    show (List.all [o, pl] _) = true
    rw [List.all_cons, List.all_cons, List.all_nil, Bool.and_true, Bool.and_eq_true]
    refine ⟨decide_eq_true ?_, decide_eq_true ?_⟩
    ·exact propext ⟨fun z => absurd e1 z, fun z => absurd z ho.2.2⟩
    ·exact propext ⟨fun _ => rfl, fun _ => e2⟩
   | cons o2 os =>
    rw [decide_eq_false (by rw [hg, List.length_cons, List.length_cons]; omega)]
    have ho2 := hmem o2 (List.mem_cons_of_mem _ List.mem_cons_self)
    have ne : o ≠ o2 := fun z => (List.nodup_cons.mp hnd).1 (by rw [z]; exact List.mem_cons_self)
    have e2 := uE_ g h8 ho.1 ho2.1 ne
    cases hz : (o :: o2 :: os ++ [pl]).all (fun k => decide ((tot r w N plainL o k ≠ 0) = (k = pl))) with
    | false => rfl
    | true =>
     have := List.all_eq_true.mp hz o2 (List.mem_append_left _ (List.mem_cons_of_mem _ List.mem_cons_self))
     have := of_decide_eq_true this
     exact absurd (this.mp e2) ho2.2.2
theorem qkf_ {F : Nat -> Prop} {G : Prop} (Pz : Nat -> Prop) (h : (∀ z, Pz z -> F z) -> G) (key : ∀ z, Pz z -> F z) : G := h key
theorem iteR {c : Bool} {A B : Prop} (hf : ¬ c = true -> B) (ht : c = true -> A) : if c = true then A else B := by
 by_cases h : c = true
 ·rw [if_pos h]; exact ht h
 ·rw [if_neg h]; exact hf h
theorem qh3_ {x w : Nat} (h : x < 2 ^ w) : Builtin.Int.intBits (x : Int) <= w := by
 by_cases z : x = 0
 ·subst z
  exact Nat.zero_le _
 ·have h1 : 2 ^ x.log2 <= x := (Nat.le_log2 z).mp (Nat.le_refl _)
  have h2 : x < 2 ^ (x.log2 + 1) := (Nat.log2_lt z).mp (Nat.lt_succ_self _)
  rw [jZ_ h1 h2]
  exact (Nat.log2_lt z).mpr h
theorem uG_ {r w d : Nat} (R : GF.Rule r w) (hd : d < 2 ^ w) : V.int ((Builtin.Int.intBits ((2 : Int) * (d : Int)) : Nat) : Int) = V.int ((Builtin.Int.intBits (r : Int) : Nat) : Int) ↔ 2 ^ w <= 2 * d := by
 have e : (2 : Int) * (d : Int) = ((2 * d : Nat) : Int) := by omega
 rw [jZ_ R.lo R.hi, e]
 constructor
 ·intro h
  have h := V.int.inj h
  by_cases z : 2 ^ w <= 2 * d
  ·exact z
  ·have := qh3_ (x := 2 * d) (w := w) (by omega)
   omega
 ·intro h
  rw [jZ_ h (by rw [Nat.pow_succ]; omega)]
section
variable {P : Program} {wo : World} {K : PySem.W.Frag} {mg : Str -> Option Value} {base : Heap} {a : Adr}
def qge_ : Sp := fun vs H Q _ => ∃ x y r w : Nat, vs = [.int x, .int y, .int r] /\ GF.Rule r w /\ w <= 8 /\ x < 2 ^ w /\ Q (.int (GF.tm r w x y : Nat)) H
theorem qgf_ (T : Txt K mg a) : FnOk P wo K mg base CX0 1 a.f_times a.d_times ["_law_one", "_law_other", "_law_rule_here"] qge_ := by
 refine T.F_times.ok (k := 0) sc_times (fun vs H Q E h => ?_) (fun cdv A outer s H vs Q E hr h => ?_)
 ·obtain ⟨x, y, r, w, rfl, _⟩ := h
  rfl
 ·obtain ⟨x, y, r, w, rfl, R, hw8, hx, q⟩ := h
  refine ⟨_, (qc_ (qm_ (i := 3) sc_times.nd rfl (Or.inl rfl) qj_)
   (qc_ (yo_ PassesOwn.never (qp_ ym_ (pv 1) qj_ (qr_ _)) (qc_ (qH_ (qp_ j1_ (qn_ q6_ (pv 1) qj_) qj_ (qr_ _)) (qg_ (qm_ (i := 3) sc_times.nd rfl (Or.inl rfl) (qn_ y9_ (pv 3) (pv 0)))) qB_)
   (qc_ (qm_ (i := 0) sc_times.nd rfl (Or.inl rfl) (qn_ yk_ qj_ (pv 0)))
   (qc_ (qH_ (qp_ j1_ (zG_ PySem.F.plainAttrs_int PyProof.Rows.slot_int_bit_length PyProof.Rows.type_int_bit_length yS_ (pv 0)) (zG_ PySem.F.plainAttrs_int PyProof.Rows.slot_int_bit_length PyProof.Rows.type_int_bit_length yS_ (pv 2)) (qr_ _)) (qg_ (qm_ (i := 0) sc_times.nd rfl (Or.inl rfl) (qn_ y9_ (pv 0) (pv 2)))) qB_)
   (qg_ (qm_ (i := 1) sc_times.nd rfl (Or.inl rfl) (qn_ jY_ (pv 1) qj_)))))))
   (qg_ (qq_ (pv 3))))), ?_⟩
  refine ⟨fun m σ H' => ∃ f d g : Nat, g = m /\ σ = [some (.int d), some (.int g), some (.int r), some (.int f)] /\ H' = H /\ d < 2 ^ w /\ f ^^^ GF.tm r w d g = GF.tm r w x y,
   ⟨_, 0, x, y, rfl, rfl, rfl, hx, Nat.zero_xor _⟩, ?_⟩
  rintro m σ H' ⟨f, d, g, rfl, rfl, rfl, hd, inv⟩
  have hd256 : d < 256 := Nat.lt_of_lt_of_le hd (Nat.pow_le_pow_right (by decide) hw8)
  refine ⟨_, rfl, _, _, rfl, rfl, _, rfl, ?_⟩
  refine ite2 (fun h => ⟨_, fun _ _ z => z, ?_⟩) (fun h => ?_)
  ·have hg : 0 < g := by
    have := of_decide_eq_true h
    omega
   have hdv : ((g : Int) / 2) = ((g / 2 : Nat) : Int) := by omega
   have step := GF.tm_step (r := r) (w := w) d g
   refine ⟨_, rfl, _, _, rfl, rfl, p0 (by decide), rfl, _, rfl, ?_⟩
   refine qkf_ (fun f' => f' ^^^ GF.tm r w (GF.dbl r w d) (g / 2) = GF.tm r w x y) (fun key => by
    refine ite2 (fun h1 => ?_) (fun h1 => ?_)
    ·have h1' : g % 2 = 1 := by
      have := V.int.inj (of_decide_eq_true h1)
      omega
     have inv' : f ^^^ d ^^^ GF.tm r w (GF.dbl r w d) (g / 2) = GF.tm r w x y := by rw [<- inv, step, if_pos h1', Nat.xor_assoc]
     refine ⟨_, rfl, _, rfl, _, _, rfl, rfl, ?_⟩
     try dsimp only
     rw [jV_]
     generalize f ^^^ d = f' at inv' ⊢
     exact key f' inv'
    ·have h1' : ¬ g % 2 = 1 := fun z => h1 (decide_eq_true (by
      show V.int ((g : Int) % 2) = V.int 1
      congr 1
      omega))
     have inv' : f ^^^ GF.tm r w (GF.dbl r w d) (g / 2) = GF.tm r w x y := by rw [<- inv, step, if_neg h1', Nat.zero_xor]
     exact key f inv') ?_
   intro f' inv'
   refine ⟨_, rfl, _, _, rfl, rfl, .inl ⟨by decide, by decide⟩, ?_⟩
   refine ⟨_, rfl, rfl, _, rfl, rfl, _, rfl, rfl, _, rfl, rfl, rfl, _, rfl, ?_⟩
   try dsimp only
   refine ite2 (fun h2 => ?_) (fun h2 => ?_)
   ·have h2' := (uG_ R hd).mp (of_decide_eq_true h2)
    refine ⟨_, rfl, _, rfl, _, _, rfl, rfl, ?_⟩
    refine ⟨_, rfl, _, _, rfl, rfl, ⟨by decide, by decide⟩, ?_⟩
    have e2 : Builtin.bitXor ((2 : Int) * (d : Int)) (r : Int) = ((GF.dbl r w d : Nat) : Int) := by
     rw [Int.mul_comm]
     exact qhw_ (by omega)
    try dsimp only
    rw [e2, hdv]
    exact ⟨g / 2, Nat.div_lt_self hg (by decide), f', GF.dbl r w d, g / 2, rfl, rfl, rfl, GF.dbl_lt R hd, inv'⟩
   ·have h2' : ¬ 2 ^ w <= 2 * d := fun z => h2 (decide_eq_true ((uG_ R hd).mpr z))
    refine ⟨_, rfl, _, _, rfl, rfl, ⟨by decide, by decide⟩, ?_⟩
    have e2 : (2 : Int) * (d : Int) = ((GF.dbl r w d : Nat) : Int) := by
     rw [Int.mul_comm]
     exact qhx_ (r := r) (by omega)
    try dsimp only
    rw [e2, hdv]
    exact ⟨g / 2, Nat.div_lt_self hg (by decide), f', GF.dbl r w d, g / 2, rfl, rfl, rfl, GF.dbl_lt R hd, inv'⟩
  ·have hg : g = 0 := by
    have : ¬ ((0 : Int) < g) := fun z => h (decide_eq_true z)
    omega
   subst hg
   rw [GF.tm_zero, Nat.xor_zero] at inv
   refine ⟨_, rfl, ?_⟩
   show Q (.int (f : Nat)) H'
   rw [inv]
   exact q
end
theorem qcl_ (r w f b i : Nat) : GF.sc r w (i + 1) f b = GF.sc r w i f b + GF.tm r w f (b / (2 ^ w) ^ i % 2 ^ w) * (2 ^ w) ^ i := by
 unfold GF.sc
 rw [GF.syms_range, GF.syms_range, List.range_succ, List.map_append, List.map_append, List.map_cons, List.map_nil, List.map_cons, List.map_nil, GF.join_snoc, List.length_map, List.length_map, List.length_range]
theorem qcm_ {r w f b i : Nat} (h : b / (2 ^ w) ^ i = 0) : ∀ j, GF.sc r w (i + j) f b = GF.sc r w i f b
 | 0 => rfl
 | j + 1 => by
  have e : b / (2 ^ w) ^ (i + j) = 0 := by
   rw [Nat.pow_add, ← Nat.div_div_eq_div_mul, h, Nat.zero_div]
  rw [<- Nat.add_assoc, qcl_, e, Nat.zero_mod, GF.tm_zero, Nat.zero_mul, Nat.add_zero]
  exact qcm_ h j
section
variable {P : Program} {wo : World} {K : PySem.W.Frag} {mg : Str -> Option Value} {base : Heap} {a : Adr}
def qew_ : Sp := fun vs H Q _ => ∃ f b r w n : Nat, vs = [.int f, .int b, .int r] /\ GF.Good r w /\ f < 2 ^ w /\ b < (2 ^ w) ^ n /\ Q (.int (GF.sc r w n f b : Nat)) H
theorem qex_ (T : Txt K mg a) : FnOk P wo K mg base CX0 2 a.f_scaled a.d_scaled ["_law_factor", "_law_block", "_law_rule_here"] qew_ := by
 have G_times : FnOk P wo K mg base CX0 1 _ _ _ _ := qgf_ T
 refine T.F_scaled.ok (k := 1) sc_scaled (fun vs H Q E h => ?_) (fun cdv A outer s H vs Q E hr h => ?_)
 ·obtain ⟨f, b, r, w, n, rfl, _⟩ := h
  rfl
 ·obtain ⟨f, b, r, w, n, rfl, R, hf, hb, q⟩ := h
  have hw8 := R.w8
  have t256 := R.top256
  have t16 := R.top16
  refine ⟨_, (qc_ (qm_ (i := 3) sc_scaled.nd rfl (Or.inl rfl) (qn_ u8_ qj_ (qn_ y8_ (zG_ PySem.F.plainAttrs_int PyProof.Rows.slot_int_bit_length PyProof.Rows.type_int_bit_length yS_ (pv 2)) qj_)))
   (qc_ (qm_ (i := 4) sc_scaled.nd rfl (Or.inl rfl) qj_)
   (qc_ (qm_ (i := 5) sc_scaled.nd rfl (Or.inl rfl) qj_)
   (qc_ (yo_ PassesOwn.never (qp_ ym_ (pv 1) qj_ (qr_ _)) (qc_ (qm_ (i := 4) sc_scaled.nd rfl (Or.inl rfl) (qn_ qP_ (pv 4) (qn_ yk_ (qx_ G_times (hr.mono (by decide)) rfl T.m_times T.k_times T.b_times .nil qo_ (qa_ (pv 0) (qa_ (qn_ q6_ (pv 1) (pv 3)) (qa_ (pv 2) qf_)))) (pv 5))))
   (qc_ (qm_ (i := 1) sc_scaled.nd rfl (Or.inl rfl) (qn_ jY_ (pv 1) (pv 3)))
   (qg_ (qm_ (i := 5) sc_scaled.nd rfl (Or.inl rfl) (qn_ yk_ (pv 5) (pv 3)))))))
   (qg_ (qq_ (pv 4))))))), ?_⟩
  have ew : ((Builtin.Int.intBits (r : Int) : Nat) : Int) - 1 = (w : Int) := by
   rw [jZ_ R.rule.lo R.rule.hi]
   omega
  refine ⟨_, rfl, rfl, _, rfl, rfl, _, _, rfl, rfl, ?_⟩
  try dsimp only
  rw [ew]
  refine ⟨_, _, rfl, rfl, ⟨by omega, by omega, by decide⟩, ?_⟩
  try dsimp only
  rw [qav_]
  refine ⟨fun m σ H' => ∃ i : Nat, i <= n /\ m = n - i /\ σ = [some (.int f), some (.int ((b / (2 ^ w) ^ i : Nat) : Int)), some (.int r), some (.int ((2 ^ w : Nat) : Int)), some (.int ((GF.sc r w i f b : Nat) : Int)), some (.int (((2 ^ w) ^ i : Nat) : Int))] /\ H' = H,
   ⟨_, 0, Nat.zero_le _, rfl, by rw [Nat.pow_zero, Nat.div_one]; rfl, rfl⟩, ?_⟩
  rintro m σ H' ⟨i, hi, rfl, rfl, rfl⟩
  refine ⟨_, rfl, _, _, rfl, rfl, _, rfl, ?_⟩
  refine ite2 (fun h => ⟨_, fun _ _ z => z, ?_⟩) (fun h => ?_)
  ·have hpos : 0 < b / (2 ^ w) ^ i := by
    have := of_decide_eq_true h
    omega
   have hin : i < n := by
    by_cases z : i < n
    ·exact z
    ·obtain rfl : i = n := by omega
     rw [Nat.div_eq_of_lt hb] at hpos
     omega
   have e1 : ((b / (2 ^ w) ^ i : Nat) : Int) % ((2 ^ w : Nat) : Int) = ((b / (2 ^ w) ^ i % 2 ^ w : Nat) : Int) := by rw [Int.natCast_emod]
   have e2 : ((b / (2 ^ w) ^ i : Nat) : Int) / ((2 ^ w : Nat) : Int) = ((b / (2 ^ w) ^ (i + 1) : Nat) : Int) := by rw [Nat.pow_succ, ← Nat.div_div_eq_div_mul]; exact (Int.natCast_ediv _ _).symm
   have tl := GF.tm_lt R.rule hf (b := b / (2 ^ w) ^ i % 2 ^ w)
   refine ⟨_, rfl, _, rfl, _, rfl, _, rfl, _, _, rfl, rfl, (by omega), ?_⟩
   try dsimp only
   rw [e1]
   refine ⟨_, rfl, f, _, r, w, rfl, R.rule, hw8, hf, _, rfl, _, _, rfl, rfl, .inl ⟨by omega, by omega⟩, _, _, rfl, rfl, ?_⟩
   refine ⟨_, rfl, _, rfl, _, _, rfl, rfl, ⟨by omega, by omega⟩, ?_⟩
   refine ⟨_, rfl, _, rfl, _, _, rfl, rfl, .inr ⟨by omega, by omega⟩, ?_⟩
   try dsimp only
   rw [e2]
   refine ⟨n - (i + 1), by omega, i + 1, hin, rfl, ?_, rfl⟩
   rw [qcl_, Nat.pow_succ, Int.natCast_add, Int.natCast_mul, Int.natCast_mul]
   rfl
  ·have hz : b / (2 ^ w) ^ i = 0 := by
    exact Nat.eq_zero_of_not_pos fun z => h (decide_eq_true (Int.ofNat_lt.mpr z))
   have := qcm_ (r := r) (f := f) hz (n - i)
   rw [Nat.add_sub_cancel' hi] at this
   refine ⟨_, rfl, ?_⟩
   rw [<- this]
   exact q
end
def qkg_ (i j : Int) : Prop := i.natAbs < 2 ^ 1024 /\ j.natAbs < 2 ^ 1024
theorem qcn_ {X : Cx} : OpR X (binaryOp .Mult) (rI qkg_ fun i j => .int (i * j)) := opI fun i j _ _ _ _ _ hc q => mul_int q (IntMulOk.of_le (intBits_le_iff.mpr hc.1) (intBits_le_iff.mpr hc.2) (by decide))
theorem uZ_ {α β : Type} {xs : List α} {ys : List β} {j : Nat} {x : α} {y : β} (hx : xs[j]? = some x) (hy : ys[j]? = some y) : (xs.zip ys).take (j + 1) = (xs.zip ys).take j ++ [(x, y)] := by
 have h : (xs.zip ys)[j]? = some (x, y) := List.getElem?_zip_eq_some (z := (x, y)).mpr ⟨hx, hy⟩
 rw [List.take_add_one, h]
 rfl
section
variable {P : Program} {wo : World} {K : PySem.W.Frag} {mg : Str -> Option Value} {base : Heap} {a : Adr}
def qh4_ (K : PySem.W.Frag) : Sp := fun vs H Q _ => ∃ (sl wl : Addr) (ps : List Addr) (r w n M N : Nat) (l : Nat -> Nat -> Nat) (xs : List Nat), vs = [.ref sl, .ref wl, .int r] /\ GF.Good r w /\ H sl = some (.lst (rowV xs)) /\ xs.length = N /\ N <= 8 /\ M <= 2 /\ (∀ x ∈ xs, x < (2 ^ w) ^ n) /\ H wl = some (.lst (ps.map V.ref)) /\ TabAt H ps M (rowT N l) /\ (∀ i k, i < M -> k < N -> l i k < 2 ^ w) ∧
 ∀ D H', Same H H' -> H D = none -> H' D = some (.lst (rowV (zg_ r w n M N l xs))) -> Q (.ref D) H'
theorem qh5_ (T : Txt K mg a) : FnOk P wo K mg base CX0 3 a.f_make a.d_make ["_law_some_here", "_law_weights", "_law_rule_here"] (qh4_ K) := by
 have G_scaled : FnOk P wo K mg base CX0 2 _ _ _ _ := qex_ T
 refine T.F_make.ok (k := 2) sc_make (fun vs H Q E h => ?_) (fun cdv A outer s H vs Q E hr h => ?_)
 ·obtain ⟨sl, wl, ps, r, w, n, M, N, l, xs, rfl, _⟩ := h
  rfl
 ·obtain ⟨sl, wl, ps, r, w, n, M, N, l, xs, rfl, R, hsl, hN, hN8, hM2, hlt, hwl, ht, hl, q⟩ := h
  refine ⟨_, (qc_ (qm_ (i := 3) sc_make.nd rfl (Or.inl rfl) (yR_ j5_ rfl T.n_list (by decide +kernel) (qa_ (pv 0) qf_)))
   (qc_ (qY_ PassesOwn.never rfl (jp_ (pv 1)) (qs_ (i := 4) sc_make.nd rfl (Or.inl rfl)) (qc_ (qm_ (i := 5) sc_make.nd rfl (Or.inl rfl) qj_)
   (qc_ (qY_ PassesOwn.never rfl (zI_ rfl T.n_zip (qa_ (pv 4) (qa_ (pv 0) qf_))) (y6_ rfl (qO_ (qs_ (i := 6) sc_make.nd rfl (Or.inl rfl)) (qO_ (qs_ (i := 7) sc_make.nd rfl (Or.inl rfl)) yb_))) (qg_ (qm_ (i := 5) sc_make.nd rfl (Or.inl rfl) (qn_ y9_ (pv 5) (qx_ G_scaled (hr.mono (by decide)) rfl T.m_scaled T.k_scaled T.b_scaled .nil qo_ (qa_ (pv 6) (qa_ (pv 7) (qa_ (pv 2) qf_))))))))
   (qg_ (q4_ (yc_ PySem.F.plainAttrs_list PySem.F.slot_list_append PySem.F.type_list_append jf_ (pv 3) (qa_ (pv 5) qf_)))))))
   (qg_ (qq_ (pv 3))))), ?_⟩
  have el : (ps.map V.ref).length = M := by rw [List.length_map, ht.len]
  refine ⟨_, rfl, sl, _, rfl, .inl (SqL.of hsl), fun D nD => ?_⟩
  have sD := Same.new (o := .lst (rowV xs)) nD
  have hD : (upd H D (.lst (rowV xs))) D = some (.lst (rowV xs)) := qd_
  generalize (upd H D (.lst (rowV xs))) = H1 at sD hD
  refine ⟨_, rfl, wl, rfl, ⟨_, SqL.of (sD _ _ hwl)⟩, ?_⟩
  refine j4_ (xs := ps.map V.ref) (fun i σ H' => (∃ v4 v5 v6 v7 : Option V, σ = [some (.ref sl), some (.ref wl), some (.int r), some (.ref D), v4, v5, v6, v7]) /\ Same H H' /\ H' D = some (.lst (rowV (xs ++ (List.range i).map fun t => GF.sumB r w n ((rowT N l t).zip xs))))) ⟨⟨none, none, none, none, rfl⟩, sD, by rw [hD]; simp⟩ ?_ ?_ ?_
  ·rintro i σ H' _ ⟨_, sm, _⟩
   exact SqL.of (sm _ _ hwl)
  ·rintro i x σ H' hx ⟨⟨v4, v5, v6, v7, rfl⟩, sm, h1⟩
   have hi : i < M := by rw [<- el]; exact (List.getElem?_eq_some_iff.mp hx).1
   obtain ⟨p, ep, hp⟩ := ht.get hi
   rw [q5_ ep] at hx
   cases Option.some.inj hx
   refine ⟨_, rfl, _, rfl, p, sl, _, _, rfl, SqL.of (sm _ _ hp), SqL.of (sm _ _ hsl), v5_ (K := K) (l1 := p) (l2 := sl) (xs := rowV (rowT N l i)) (ys := rowV xs) (fun j σ H' => (∃ v6 v7 : Option V, σ = [some (.ref sl), some (.ref wl), some (.int r), some (.ref D), some (.ref p), some (.int ((GF.sumB r w n (((rowT N l i).zip xs).take j) : Nat) : Int)), v6, v7]) /\ Same H H' /\ H' D = some (.lst (rowV (xs ++ (List.range i).map fun t => GF.sumB r w n ((rowT N l t).zip xs))))) ⟨⟨_, _, rfl⟩, sm, h1⟩ ?_ (by rw [ql_, ql_, qu_, hN]) ?_ ?_⟩
   ·rintro j σ H2 _ ⟨_, s2, _⟩
    exact ⟨SqL.of (s2 _ _ hp), SqL.of (s2 _ _ hsl)⟩
   ·rintro j u v T' σ H2 hj hu hv hT ⟨⟨v6, v7, rfl⟩, s2, h2⟩
    obtain ⟨f, hf, rfl⟩ := jq_ hu
    obtain ⟨b, hb, rfl⟩ := jq_ hv
    have s3 := s2.trans (Same.new (o := .tup [V.int (f : Nat), V.int (b : Nat)]) hT)
    have h3 := (Same.new (o := .tup [V.int (f : Nat), V.int (b : Nat)]) hT) _ _ h2
    refine ⟨T', _, rfl, SqT.of qd_, rfl, _, _, rfl, _, _, rfl, rfl, ?_⟩
    generalize (upd H2 T' (.tup [V.int (f : Nat), V.int (b : Nat)])) = H3 at s3 h3
    have hf' : f < 2 ^ w := by
     have hjN : j < N := by
      have := (List.getElem?_eq_some_iff.mp hf).1
      rw [qu_] at this
      exact this
     unfold rowT at hf
     rw [List.getElem?_map, List.getElem?_range hjN] at hf
     cases hf
     exact hl i j hi hjN
    refine ⟨_, rfl, _, rfl, _, rfl, _, rfl, f, b, r, w, n, rfl, R, hf', hlt b (List.mem_of_getElem? hb), _, _, rfl, rfl, ?_⟩
    try dsimp only
    rw [jV_]
    refine ⟨⟨some (.int (f : Nat)), some (.int (b : Nat)), ?_⟩, s3, h3⟩
    rw [uZ_ hf hb, GF.sumB_snoc]
    rfl
   ·rintro σ H2 ⟨⟨v6, v7, rfl⟩, s2, h2⟩
    have fits : (rowV (xs ++ (List.range i).map fun t => GF.sumB r w n ((rowT N l t).zip xs))).length < sizeLine := by
     rw [ql_, List.length_append, List.length_map, List.length_range]
     exact Nat.lt_trans (by omega : xs.length + i < 11) (by decide)
    refine ⟨_, rfl, .inl ⟨rfl, _, SqL.of h2⟩, _, rfl, D, _, _, rfl, rfl, h2, fits, ⟨_, _, _, _, rfl⟩, s2.up nD, ?_⟩
    have ez : ((rowT N l i).zip xs).take (rowV (rowT N l i)).length = (rowT N l i).zip xs := List.take_of_length_le (by rw [ql_, List.length_zip]; omega)
    rw [qd_, ez, List.range_succ, List.map_append, ← List.append_assoc, jU_]
    rfl
  ·rintro σ H' ⟨⟨v4, v5, v6, v7, rfl⟩, sm, h1⟩
   rw [el] at h1
   exact ⟨_, rfl, q D H' sm nD h1⟩
def qh6_ (K : PySem.W.Frag) : Sp := fun vs H Q _ => ∃ (s : Addr) (ns : List Int) (st N L : Nat), vs = [.ref s, .int st, .int N, .int L] /\ SqL K H s (ns.map V.int) /\ ns.length <= 63 /\ st + N <= 99 /\ N <= 8 /\ 0 < L /\ L <= 2 ^ 128 ∧
 ∀ D H' xs, Same H H' -> H D = none -> H' D = some (.lst (rowV xs)) -> xs.length = N -> (∀ x ∈ xs, x < L) -> Q (.ref D) H'
theorem qh7_ (T : Txt K mg a) : FnOk P wo K mg base CX0 2 a.f_some a.d_some ["_law_script", "_law_start", "_law_many", "_law_limit"] (qh6_ K) := by
 have G_cell : FnOk P wo K mg base CX0 1 _ _ _ _ := qch_ T
 refine T.F_some.ok (k := 1) sc_some (fun vs H Q E h => ?_) (fun cdv A outer s H vs Q E hr h => ?_)
 ·obtain ⟨sa, ns, st, N, L, rfl, _⟩ := h
  rfl
 ·obtain ⟨sa, ns, st, N, L, rfl, hS, hn, hst, hN8, hL0, hL, q⟩ := h
  refine ⟨_, (qc_ (qm_ (i := 4) sc_some.nd rfl (Or.inl rfl) (jB_ qf_))
   (qc_ (qY_ PassesOwn.never rfl (jz_ rfl T.n_range (qa_ (pv 2) qf_)) (qs_ (i := 5) sc_some.nd rfl (Or.inl rfl)) (qc_ (qm_ (i := 6) sc_some.nd rfl (Or.inl rfl) (qn_ q6_ (qx_ G_cell (hr.mono (by decide)) rfl T.m_cell T.k_cell T.b_cell .nil qo_ (qa_ (pv 0) (qa_ (qn_ qP_ (pv 1) (pv 5)) qf_))) (pv 3)))
   (qg_ (q4_ (yc_ PySem.F.plainAttrs_list PySem.F.slot_list_append PySem.F.type_list_append jf_ (pv 4) (qa_ (qn_ q6_ (qn_ qcn_ (pv 6) (qn_ qP_ (qn_ qP_ (qn_ qi0_ qj_ qj_) qj_) (qn_ qcn_ qj_ (pv 5)))) (pv 3)) qf_))))))
   (qg_ (qq_ (pv 4))))), ?_⟩
  refine ⟨Nat.zero_le _, fun D nD => ?_⟩
  have sD := Same.new (o := .lst []) nD
  have hD : (upd H D (.lst [])) D = some (.lst []) := qd_
  generalize (upd H D (.lst [])) = H1 at sD hD
  have hLp : (0 : Int) < (L : Int) := by omega
  refine ⟨_, rfl, _, rfl, by omega, by omega, ?_⟩
  rw [Int.toNat_natCast]
  refine jS_ (lo := 0) (n := N) (fun i σ H' => (∃ v5 v6 : Option V, σ = [some (.ref sa), some (.int st), some (.int N), some (.int L), some (.ref D), v5, v6]) /\ Same H H' /\ ∃ xs : List Nat, H' D = some (.lst (rowV xs)) /\ xs.length = i /\ ∀ x ∈ xs, x < L) ⟨⟨none, none, rfl⟩, sD, [], hD, rfl, fun x hx => absurd hx List.not_mem_nil⟩ ?_ ?_
  ·rintro i σ H' hi ⟨⟨v5, v6, rfl⟩, sm, xs, h1, hxl, hx⟩
   have ei : (0 : Int) + (i : Nat) = ((i : Nat) : Int) := by omega
   rw [ei]
   refine ⟨_, rfl, _, rfl, _, rfl, _, _, rfl, rfl, ?_⟩
   try dsimp only
   rw [show (st : Int) + (i : Int) = ((st + i : Nat) : Int) by omega]
   refine ⟨sa, ns, st + i, rfl, sm.seq hS, by omega, hn, fun c => ?_⟩
   obtain ⟨y, hy, ey⟩ := modN c hL0
   refine ⟨_, rfl, _, _, rfl, rfl, p0 hLp, ?_⟩
   try dsimp only
   rw [ey]
   have big : ∀ z : Nat, z <= 2 ^ 128 -> (z : Int).natAbs < 2 ^ 1024 := fun z h => by
    rw [Int.natAbs_natCast]
    exact Nat.lt_of_le_of_lt h (by decide +kernel)
   have hi8 : i < 8 := by omega
   refine ⟨_, rfl, .inl ⟨rfl, _, SqL.of h1⟩, _, rfl, _, _, rfl, rfl, ⟨by decide, by decide, by decide⟩, _, _, rfl, rfl, _, rfl, _, _, rfl, rfl, ⟨by decide +kernel, big i (Nat.le_trans (Nat.le_of_lt hi8) (by decide))⟩, _, _, rfl, rfl, _, _, rfl, rfl, ⟨big y (by omega), ?_⟩, ?_⟩
   ·have e : (10 : Int) ^ (39 : Int).toNat + 7 + 2 * (i : Int) = ((10 ^ 39 + 7 + 2 * i : Nat) : Int) := by
     rw [Int.natCast_add, Int.natCast_mul]
     rfl
    rw [e, Int.natAbs_natCast]
    exact Nat.lt_of_le_of_lt (show 10 ^ 39 + 7 + 2 * i <= 10 ^ 39 + 7 + 2 * 8 by omega) (by decide +kernel)
   obtain ⟨z, hz, ez⟩ := modN ((y : Int) * ((10 : Int) ^ (39 : Int).toNat + 7 + 2 * (i : Int))) hL0
   refine ⟨_, rfl, _, _, rfl, rfl, p0 hLp, ?_⟩
   try dsimp only
   rw [ez]
   have fits : (rowV xs).length < sizeLine := by
    rw [ql_]
    exact Nat.lt_trans (by omega : xs.length < 9) (by decide)
   refine ⟨D, _, _, rfl, rfl, h1, fits, ⟨_, _, rfl⟩, sm.up nD, xs ++ [z], by rw [qd_, ← jU_], by rw [List.length_append, hxl]; rfl, fun x hx' => ?_⟩
   rcases List.mem_append.mp hx' with y | y
   ·exact hx x y
   ·rw [List.mem_singleton.mp y]; exact hz
  ·rintro σ H' ⟨⟨v5, v6, rfl⟩, sm, xs, h1, hxl, hx⟩
   exact ⟨_, rfl, q D H' xs sm nD h1 hxl hx⟩
def qgg_ : Sp := fun vs H Q _ => ∃ c : Int, vs = [.int c] /\ ∀ (t : Addr) (H' : Hp) (N M : Nat), 1 <= M -> M <= 2 -> 1 <= N -> N + M <= 8 -> H t = none -> Same H H' -> H' t = some (.tup [.int (N : Nat), .int (M : Nat)]) -> Q (.ref t) H'
theorem qgh_ (T : Txt K mg a) : FnOk P wo K mg base CX0 1 a.f_sizes a.d_sizes ["_law_cell_here"] qgg_ := by
 refine T.F_sizes.ok (k := 0) sc_sizes (fun vs H Q E h => ?_) (fun cdv A outer s H vs Q E hr h => ?_)
 ·obtain ⟨c, rfl, _⟩ := h
  rfl
 ·obtain ⟨c, rfl, q⟩ := h
  refine ⟨_, (qc_ (qm_ (i := 1) sc_sizes.nd rfl (Or.inl rfl) (qn_ qP_ qj_ (qn_ q6_ (pv 0) qj_)))
   (qg_ (qq_ (vE_ (qa_ (qn_ qP_ qj_ (qn_ q6_ (qn_ jY_ (pv 0) qj_) (qn_ y8_ qj_ (pv 1)))) (qa_ (pv 1) qf_)))))), ?_⟩
  obtain ⟨m0, hm0, em0⟩ := modN c (n := 2) (by decide)
  have em0 : c % 2 = (m0 : Int) := em0
  refine ⟨_, rfl, _, _, rfl, rfl, p0 (by decide), _, _, rfl, rfl, ?_⟩
  try dsimp only
  rw [em0, show (1 : Int) + (m0 : Int) = ((1 + m0 : Nat) : Int) by omega]
  obtain ⟨n0, hn0, en0⟩ := modN (c / 2) (n := 8 - (1 + m0)) (by omega)
  have e8 : (8 : Int) - ((1 + m0 : Nat) : Int) = ((8 - (1 + m0) : Nat) : Int) := by omega
  refine ⟨_, rfl, _, _, rfl, rfl, ⟨by decide, by decide⟩, _, rfl, _, _, rfl, rfl, _, _, rfl, rfl, (by rw [e8]; omega), _, _, rfl, rfl, _, rfl, (by show 2 <= sizeLine; decide), fun t nt => ?_⟩
  refine q t _ (1 + n0) (1 + m0) (by omega) (by omega) (by omega) (by omega) nt (Same.new nt) ?_
  rw [qd_]
  try dsimp only
  rw [e8, en0]
  rfl
def qgi_ : Sp := fun vs H Q _ => ∃ (c : Int) (R : Nat), vs = [.int c, .int R] /\ R <= 8 /\ ∀ D H' (cs : List Nat), Same H H' -> H D = none -> H' D = some (.lst (rowV cs)) -> cs.length = R -> (∀ x ∈ cs, 1 <= x /\ x <= 9) -> Q (.ref D) H'
theorem qgj_ (T : Txt K mg a) : FnOk P wo K mg base CX0 1 a.f_costs a.d_costs ["_law_cell_here", "_law_roles"] qgi_ := by
 refine T.F_costs.ok (k := 0) sc_costs (fun vs H Q E h => ?_) (fun cdv A outer s H vs Q E hr h => ?_)
 ·obtain ⟨c, R, rfl, _⟩ := h
  rfl
 ·obtain ⟨c, R, rfl, hR, q⟩ := h
  refine ⟨_, (qc_ (qm_ (i := 2) sc_costs.nd rfl (Or.inl rfl) (qn_ q6_ (pv 0) qj_))
   (qc_ (qm_ (i := 3) sc_costs.nd rfl (Or.inl rfl) (jB_ qf_))
   (qc_ (qY_ PassesOwn.never rfl (jz_ rfl T.n_range (qa_ (pv 1) qf_)) (qs_ (i := 4) sc_costs.nd rfl (Or.inl rfl)) (qc_ (q4_ (yc_ PySem.F.plainAttrs_list PySem.F.slot_list_append PySem.F.type_list_append jf_ (pv 3) (qa_ (qn_ qP_ qj_ (qn_ q6_ (pv 2) qj_)) qf_)))
   (qg_ (qm_ (i := 2) sc_costs.nd rfl (Or.inl rfl) (qn_ jY_ (pv 2) qj_)))))
   (qg_ (qq_ (pv 3)))))), ?_⟩
  obtain ⟨z0, _, ez0⟩ := modN c (n := 43046721) (by decide)
  refine ⟨_, rfl, _, _, rfl, rfl, p0 (by decide), ?_⟩
  try dsimp only
  rw [show c % 43046721 = (z0 : Int) from ez0]
  refine ⟨Nat.zero_le _, fun D nD => ?_⟩
  have sD := Same.new (o := .lst []) nD
  have hD : (upd H D (.lst [])) D = some (.lst []) := qd_
  generalize (upd H D (.lst [])) = H1 at sD hD
  refine ⟨_, rfl, _, rfl, by omega, by omega, ?_⟩
  rw [Int.toNat_natCast]
  refine jS_ (lo := 0) (n := R) (fun i σ H' => (∃ (v4 : Option V) (z : Nat), σ = [some (.int c), some (.int R), some (.int z), some (.ref D), v4]) /\ Same H H' /\ ∃ cs : List Nat, H' D = some (.lst (rowV cs)) /\ cs.length = i /\ ∀ x ∈ cs, 1 <= x /\ x <= 9) ⟨⟨none, z0, rfl⟩, sD, [], hD, rfl, fun x hx => absurd hx List.not_mem_nil⟩ ?_ ?_
  ·rintro i σ H' hi ⟨⟨v4, z, rfl⟩, sm, cs, h1, hcl, hx⟩
   have fits : (rowV cs).length < sizeLine := by
    rw [ql_]
    exact Nat.lt_trans (by omega : cs.length < 9) (by decide)
   refine ⟨_, rfl, .inl ⟨rfl, _, SqL.of h1⟩, _, rfl, _, _, rfl, rfl, p0 (by decide), _, _, rfl, rfl, D, _, _, rfl, rfl, h1, fits, ?_⟩
   refine ⟨_, rfl, _, _, rfl, rfl, ⟨by decide, by decide⟩, ?_⟩
   try dsimp only
   rw [show (z : Int) / 9 = ((z / 9 : Nat) : Int) by omega, show (1 : Int) + (z : Int) % 9 = ((1 + z % 9 : Nat) : Int) by omega]
   refine ⟨⟨_, _, rfl⟩, sm.up nD, cs ++ [1 + z % 9], by rw [qd_, ← jU_], by rw [List.length_append, hcl]; rfl, fun x hx' => ?_⟩
   rcases List.mem_append.mp hx' with y | y
   ·exact hx x y
   ·rw [List.mem_singleton.mp y]; omega
  ·rintro σ H' ⟨⟨v4, z, rfl⟩, sm, cs, h1, hcl, hx⟩
   exact ⟨_, rfl, q D H' cs sm nD h1 hcl hx⟩
end
def fx (r w M N : Nat) (l : Nat -> Nat -> Nat) (ks : List Bool) (k : Nat) : Bool := ks.getD k false || fixB r w M N l ks k
theorem qji_ {ks : List Bool} {k : Nat} (h : k < ks.length) : ks[k]? = some (ks.getD k false) := by
 rw [List.getD_eq_getElem?_getD, List.getElem?_eq_getElem h]
 rfl
section
variable {P : Program} {wo : World} {K : PySem.W.Frag} {mg : Str -> Option Value} {base : Heap} {a : Adr}
def qh8_ (K : PySem.W.Frag) (a : Adr) : Sp := fun vs H Q _ => ∃ (c bp fp kn : Addr) (r w n M N k : Nat) (l : Nat -> Nat -> Nat) (ks : List Bool), vs = [.ref c, .ref kn, .int k] /\ CodeAt a H c bp fp r w n M N l /\ GF.Full r w /\ Wts w M N l /\ H kn = some (.lst (knV ks)) /\ ks.length = N + M /\ k < N + M /\ ∀ H', Same H H' -> Q (.bl (fx r w M N l ks k)) H'
theorem u0_ (T : Txt K mg a) : FnOk P wo K mg base CX0 8 a.f_Code_fixes a.d_Code_fixes ["self", "known", "role"] (qh8_ K a) := by
 have G_Code_check_role : FnOk P wo K mg base CX0 7 _ _ _ _ := (yU_ T).mono (by decide)
 have G_Code_told : FnOk P wo K mg base CX0 7 _ _ _ _ := zQ_ T
 refine T.F_Code_fixes.ok (k := 7) uU_ (fun vs H Q E h => ?_) (fun cdv A outer s H vs Q E hr h => ?_)
 ·obtain ⟨c, bp, fp, kn, r, w, n, M, N, k, l, ks, rfl, _⟩ := h
  rfl
 ·obtain ⟨c, bp, fp, kn, r, w, n, M, N, k, l, ks, rfl, hC, g, W, hkn, hks, hk, q⟩ := h
  obtain ⟨dx, Lp, qs, h1, h2, h3⟩ := id hC.ins
  refine ⟨_, (qc_ (q4_ (qE_ (pv 0) T.cl_Code T.me_Code_check_role G_Code_check_role (hr.mono (by decide)) T.b_Code_check_role .nil qo_ (qa_ (pv 2) qf_)))
   (qg_ (qq_ (qju_ (qD_ qz_ (pv 1) (pv 2) (fun _ _ => rfl)) (qdm_ (y3_ j1_ (qD_ qab_ (qE_ (pv 0) T.cl_Code T.me_Code_told G_Code_told (hr.mono (by decide)) T.b_Code_told .nil qo_ (qa_ (pv 1) (qa_ (pv 2) qf_))) qj_ (fun _ _ => rfl)) vz_ (qr_ _))))))), ?_⟩
  refine ⟨_, rfl, c, dx, _, rfl, h1, rfl, _, rfl, c, bp, fp, r, w, n, M, N, k, l, rfl, hC, hk, ?_⟩
  have hb := qji_ (ks := ks) (k := k) (by omega)
  have hka : (knV ks)[k]? = some (.bl (ks.getD k false)) := by unfold knV; rw [List.getElem?_map, hb]; rfl
  refine ⟨_, rfl, _, rfl, kn, _, _, _, rfl, rfl, SqL.of hkn, qy_ hka, _, rfl, ?_⟩
  unfold fx at q
  cases hz : ks.getD k false with
  | true =>
   rw [hz] at q
   refine ite2 (fun _ => ?_) (fun z => absurd rfl z)
   exact q H (Same.refl _)
  | false =>
   rw [hz] at q hb
   refine ite2 (fun z => absurd z (by decide)) (fun _ => ?_)
   refine ⟨_, rfl, c, dx, _, rfl, h1, rfl, _, rfl, _, rfl, c, bp, fp, kn, r, w, n, M, N, k, l, ks, rfl, hC, g, W, hkn, hks, hk, hb, fun D H1 s1 nD told fr => ?_⟩
   rcases told with ⟨e, by', hD, he, hr'⟩ | ⟨e, mk, hD, he, hr'⟩
   ·refine ⟨D, _, _, _, rfl, rfl, SqT.of hD, rfl, rfl, ?_⟩
    try dsimp only
    rw [decide_eq_true rfl]
    have := q H1 s1
    rw [uC_ g W hks hk hz hr'] at this
    exact this
   ·refine ⟨D, _, _, _, rfl, rfl, SqT.of hD, rfl, rfl, ?_⟩
    try dsimp only
    rw [decide_eq_false (fun z => absurd (V.str.inj z) (by decide))]
    have := q H1 s1
    rw [uD_ g W hks hk hz hr'] at this
    exact this
def qdf_ (K : PySem.W.Frag) (a : Adr) : Sp := fun vs H Q _ => ∃ (c bp fp kn so : Addr) (r w n M N : Nat) (l : Nat -> Nat -> Nat) (ks : List Bool) (rs : List Nat), vs = [.ref c, .ref kn, .ref so] /\ CodeAt a H c bp fp r w n M N l /\ GF.Full r w /\ Wts w M N l /\ H kn = some (.lst (knV ks)) /\ ks.length = N + M /\ SqL K H so (rowV rs) /\ (∀ k ∈ rs, k < N + M) /\ ∀ H', Same H H' -> Q (.bl (rs.all (fx r w M N l ks))) H'
theorem zS_ (T : Txt K mg a) : FnOk P wo K mg base CX0 9 a.f_fixes_all a.d_fixes_all ["code", "known", "some"] (qdf_ K a) := by
 have G_Code_fixes : FnOk P wo K mg base CX0 8 _ _ _ _ := u0_ T
 refine T.F_fixes_all.ok (k := 8) sc_fixes_all (fun vs H Q E h => ?_) (fun cdv A outer s H vs Q E hr h => ?_)
 ·obtain ⟨c, bp, fp, kn, so, r, w, n, M, N, l, ks, rs, rfl, _⟩ := h
  rfl
 ·obtain ⟨c, bp, fp, kn, so, r, w, n, M, N, l, ks, rs, rfl, hC, g, W, hkn, hks, hso, hrs, q⟩ := h
  refine ⟨_, (qc_ (qY_ PassesOwn.never rfl (jp_ (pv 2)) (qs_ (i := 3) sc_fixes_all.nd rfl (Or.inl rfl)) (qg_ (qH_ (zl_ (j3_ (qE_ (pv 0) T.cl_Code T.me_Code_fixes G_Code_fixes (hr.mono (by decide)) T.b_Code_fixes .nil qo_ (qa_ (pv 1) (qa_ (pv 3) qf_))))) (qg_ (qq_ zr_)) qB_)))
   (qg_ (qq_ zr_))), ?_⟩
  refine ⟨_, rfl, so, rfl, ⟨_, hso⟩, ?_⟩
  refine j4_ (xs := rowV rs) (fun i σ H' => (∃ v3 : Option V, σ = [some (.ref c), some (.ref kn), some (.ref so), v3]) /\ Same H H' /\ (rs.take i).all (fx r w M N l ks) = true) ⟨⟨none, rfl⟩, Same.refl _, rfl⟩ ?_ ?_ ?_
  ·rintro i σ H' _ ⟨_, sm, _⟩
   exact sm.seq hso
  ·rintro i x σ H' hx ⟨⟨v3, rfl⟩, sm, hal⟩
   obtain ⟨k, ek, rfl⟩ := jq_ hx
   have hk := hrs k (List.mem_of_getElem? ek)
   have hC' := hC.same sm
   obtain ⟨dx, Lp, qs, h1, _, _⟩ := id hC'.ins
   refine ⟨_, rfl, c, dx, _, rfl, h1, rfl, _, rfl, _, rfl, c, bp, fp, kn, r, w, n, M, N, k, l, ks, rfl, hC', g, W, sm _ _ hkn, hks, hk, fun H2 s2 => ?_⟩
   refine ⟨_, rfl, ?_⟩
   cases hz : fx r w M N l ks k with
   | true =>
    refine ite2 (fun z => absurd z (by decide)) (fun _ => ⟨⟨_, rfl⟩, sm.trans s2, ?_⟩)
    rw [List.take_add_one, ek, List.all_append, hal]
    show (true && ([k].all (fx r w M N l ks))) = true
    rw [List.all_cons, hz]
    rfl
   | false =>
    refine ite2 (fun _ => ?_) (fun z => absurd rfl z)
    have : rs.all (fx r w M N l ks) = false := by
     rw [Bool.eq_false_iff]
     intro z
     have := List.all_eq_true.mp z k (List.mem_of_getElem? ek)
     rw [hz] at this
     cases this
    rw [this] at q
    exact q H2 (sm.trans s2)
  ·rintro σ H' ⟨⟨v3, rfl⟩, sm, hal⟩
   rw [ql_, List.take_length] at hal
   rw [hal] at q
   exact q H' sm
def af (c f cl rl sl : Addr) : List (Str × V) := [("code", .ref c), ("ask", .ref f), ("costs", .ref cl), ("row", .ref rl), ("asked", .ref sl)]
theorem z7_ (c f cl rl sl : Addr) : (af c f cl rl sl).lookup ("code" : Str) = some (.ref c) := rfl
theorem qjj_ (c f cl rl sl : Addr) : (af c f cl rl sl).lookup ("ask" : Str) = some (.ref f) := rfl
theorem zz_ (c f cl rl sl : Addr) : (af c f cl rl sl).lookup ("costs" : Str) = some (.ref cl) := rfl
theorem zT_ (c f cl rl sl : Addr) : (af c f cl rl sl).lookup ("row" : Str) = some (.ref rl) := rfl
theorem qa6_ (c f cl rl sl : Addr) : (af c f cl rl sl).lookup ("asked" : Str) = some (.ref sl) := rfl
def qey_ (K : PySem.W.Frag) (a : Adr) : Sp := fun vs H Q _ => ∃ (x dx c bp fp f cl0 : Addr) (r w n M N : Nat) (l : Nat -> Nat -> Nat) (cs : List (Option Nat)), vs = [.ref x, .ref c, .ref f, .ref cl0] /\ H x = some (.ins a.C_Asking dx []) /\ CodeAt a H c bp fp r w n M N l /\ Wts w M N l /\ SqL K H cl0 (rowO cs) /\ cs.length <= 8 ∧
 ∀ H' cl rl sl, (∀ b o, b ≠ x -> H b = some o -> H' b = some o) -> H' x = some (.ins a.C_Asking dx (af c f cl rl sl)) -> H cl = none -> H rl = none -> H sl = none -> cl ≠ rl -> cl ≠ sl -> rl ≠ sl -> H' cl = some (.lst (rowO cs)) -> H' rl = some (.lst (rowO (List.replicate (N + M) none))) -> H' sl = some (.lst (rowV [])) -> Q .non H'
theorem uj_ (T : Txt K mg a) : FnOk P wo K mg base CX0 1 a.f_Asking_init a.d_Asking_init ["self", "code", "ask", "costs"] (qey_ K a) := by
 refine T.F_Asking_init.ok (k := 0) uc_ (fun vs H Q E h => ?_) (fun cdv A outer s H vs Q E hr h => ?_)
 ·obtain ⟨x, dx, c, bp, fp, f, cl0, r, w, n, M, N, l, cs, rfl, _⟩ := h
  rfl
 ·obtain ⟨x, dx, c, bp, fp, f, cl0, r, w, n, M, N, l, cs, rfl, hx, hC, W, hcl0, hcs, q⟩ := h
  obtain ⟨dc, Lp, qs, h1, _, _⟩ := id hC.ins
  have n8 := W.n8
  have hcx : c ≠ x := fun z => by
   rw [z, hx] at h1
   have := (HO.ins.inj (Option.some.inj h1)).2.2
   unfold cf at this
   cases this
  refine ⟨_, (qc_ (jA_ (pv 0) (pv 1) rfl)
   (qc_ (jA_ (pv 0) (pv 2) rfl)
   (qc_ (jA_ (pv 0) (yR_ j5_ rfl T.n_list (by decide +kernel) (qa_ (pv 3) qf_)) rfl)
   (qc_ (jA_ (pv 0) (qn_ vF_ (jB_ (qa_ jr_ qf_)) (qA_ (pv 1) rfl)) rfl)
   (qg_ (jA_ (pv 0) (jB_ qf_) rfl)))))), ?_⟩
  refine ⟨_, rfl, _, rfl, x, a.C_Asking, dx, _, rfl, hx, T.cl_Asking, T.no_Asking_code, (by decide), ?_⟩
  refine ⟨_, rfl, _, rfl, x, a.C_Asking, dx, _, rfl, qd_, T.cl_Asking, T.no_Asking_ask, (by show (1 : Nat) < 1000; decide), ?_⟩
  dsimp only
  rw [js_]
  have ef2 : putF "ask" (.ref f) (putF "code" (.ref c) []) = [(("code" : Str), V.ref c), (("ask" : Str), .ref f)] := rfl
  rw [ef2]
  have fr : ∀ {fs : List (Str × V)} {b : Addr}, (upd H x (.ins a.C_Asking dx fs)) b = none -> H b = none := fun {fs b} z => by
   by_cases e : b = x
   ·rw [e, qd_] at z; cases z
   ·rwa [qe_ e] at z
  have hcl1 : SqL K (upd H x (.ins a.C_Asking dx [(("code" : Str), V.ref c), (("ask" : Str), .ref f)])) cl0 (rowO cs) := by
   rcases hcl0 with (z | ⟨o, z⟩) | z
   ·exact .inl (.inl (by rw [qe_ (yL_ z hx (fun y => by cases y))]; exact z))
   ·exact .inl (.inr ⟨o, by rw [qe_ (yL_ z hx (fun y => by cases y))]; exact z⟩)
   ·exact .inr z
  refine ⟨_, rfl, cl0, _, rfl, .inl hcl1, fun cl ncl => ?_⟩
  have ncl0 := fr ncl
  have nclx : x ≠ cl := fun z => by rw [<- z, qd_] at ncl; cases ncl
  refine ⟨_, rfl, x, a.C_Asking, dx, _, rfl, (by rw [qe_ nclx]; exact qd_), T.cl_Asking, T.no_Asking_costs, (by show (2 : Nat) < 1000; decide), ?_⟩
  refine ⟨(show 1 <= sizeLine by decide), fun p1 n1 => ?_⟩
  have n1x : x ≠ p1 := fun z => by rw [<- z, qd_] at n1; cases n1
  have n1c : p1 ≠ cl := fun z => by rw [z, qe_ (Ne.symm nclx), qd_] at n1; cases n1
  have hcA : (upd (upd (upd (upd H x (.ins a.C_Asking dx [(("code" : Str), V.ref c), (("ask" : Str), .ref f)])) cl (.lst (rowO cs))) x (.ins a.C_Asking dx (putF "costs" (.ref cl) [(("code" : Str), V.ref c), (("ask" : Str), .ref f)]))) p1 (.lst [V.non])) c = some (.ins a.C_Code dc (cf bp M N Lp)) := by
   have n2 : c ≠ p1 := fun z => by
    rw [<- z, qe_ hcx, qe_ (fun y => by rw [y, ncl0] at h1; cases h1), qe_ hcx, h1] at n1
    cases n1
   rw [qe_ n2, qe_ hcx, qe_ (fun y => by rw [y, ncl0] at h1; cases h1), qe_ hcx]
   exact h1
  refine ⟨_, rfl, c, _, _, _, _, rfl, hcA, T.cl_Code, T.no_Code_roles, zd_ bp M N Lp, p1, _, _, rfl, rfl, qd_, by omega, by omega, ?_, fun rl nrl => ?_⟩
  ·rw [Int.toNat_natCast]
   show 1 * (N + M) <= sizeLine
   exact Nat.le_trans (by omega : 1 * (N + M) <= 30) (by decide)
  have nrx : x ≠ rl := fun z => by rw [<- z, qe_ n1x, qd_] at nrl; cases nrl
  have nrp : rl ≠ p1 := fun z => by rw [z, qd_] at nrl; cases nrl
  have nrc : rl ≠ cl := fun z => by rw [z, qe_ (Ne.symm n1c), qe_ (Ne.symm nclx), qd_] at nrl; cases nrl
  have nrl0 : H rl = none := by
   rw [qe_ nrp, qe_ (Ne.symm nrx), qe_ nrc, qe_ (Ne.symm nrx)] at nrl
   exact nrl
  refine ⟨_, rfl, x, a.C_Asking, dx, _, rfl, (by rw [qe_ nrx, qe_ n1x]; exact qd_), T.cl_Asking, T.no_Asking_row, (by show (3 : Nat) < 1000; decide), ?_⟩
  refine ⟨Nat.zero_le _, fun sl nsl => ?_⟩
  have nsx : x ≠ sl := fun z => by rw [<- z, qd_] at nsl; cases nsl
  have nsr : sl ≠ rl := fun z => by rw [z, qe_ (Ne.symm nrx), qd_] at nsl; cases nsl
  have nsp : sl ≠ p1 := fun z => by rw [z, qe_ (Ne.symm n1x), qe_ (Ne.symm nrp), qd_] at nsl; cases nsl
  have nsc : sl ≠ cl := fun z => by rw [z, qe_ (Ne.symm nclx), qe_ (Ne.symm nrc), qe_ (Ne.symm n1c), qe_ (Ne.symm nclx), qd_] at nsl; cases nsl
  have nsl0 : H sl = none := by
   rw [qe_ (Ne.symm nsx), qe_ nsr, qe_ nsp, qe_ (Ne.symm nsx), qe_ nsc, qe_ (Ne.symm nsx)] at nsl
   exact nsl
  have n1H : H p1 = none := by
   rw [qe_ (Ne.symm n1x), qe_ n1c, qe_ (Ne.symm n1x)] at n1
   exact n1
  refine ⟨_, rfl, x, a.C_Asking, dx, _, rfl, (by rw [qe_ nsx]; exact qd_), T.cl_Asking, T.no_Asking_asked, (by show (4 : Nat) < 1000; decide), ?_⟩
  refine q _ cl rl sl (fun b o hb hz => ?_) qd_ ncl0 nrl0 nsl0 (Ne.symm nrc) (Ne.symm nsc) (Ne.symm nsr) ?_ ?_ ?_
  ·have f1 : ∀ y, H y = none -> b ≠ y := fun y ny e => by rw [e, ny] at hz; cases hz
   rw [qe_ hb, qe_ (f1 sl nsl0), qe_ hb, qe_ (f1 rl nrl0), qe_ (f1 p1 n1H), qe_ hb, qe_ (f1 cl ncl0), qe_ hb]
   exact hz
  ·rw [qe_ (Ne.symm nclx), qe_ (Ne.symm nsc), qe_ (Ne.symm nclx), qe_ (Ne.symm nrc), qe_ (Ne.symm n1c), qe_ (Ne.symm nclx), qd_]
  ·rw [qe_ (Ne.symm nrx), qe_ (Ne.symm nsr), qe_ (Ne.symm nrx), qd_]
   have : (List.replicate (((N + M : Nat) : Int)).toNat [V.non]).flatten = rowO (List.replicate (N + M) none) := by
    rw [Int.toNat_natCast]
    unfold rowO
    rw [List.map_replicate]
    generalize N + M = R
    induction R with
    | zero => rfl
    | succ R ih => rw [List.replicate_succ, List.flatten_cons, ih]; rfl
   rw [this]
  ·rw [qe_ (Ne.symm nsx), qd_]
   rfl
end
theorem okC2 {P : Program} {w : World} {K : PySem.W.Frag} {mg : Str -> Option Value} {base : Heap} {x qual : Str} {st : Stmt} {f : Addr} {N ps : List Str} {k : Nat} {sp : Sp} {oc : Value} {od an : Option Addr} {osl : Array (Option Value)} {kV doc pm cdv ct : Value} (lk : K.lookup f = some ⟨oc, od, .func (PySem.W.fnOf x qual (qi_ st) (qh_ st) (qb_ st) .none kV doc pm an cdv ct), osl⟩) (hcd : PySem.W.codeIn K cdv qual = true) (S : FnScope N ps (qb_ st)) (len : ∀ vs H Q E, sp vs H Q E -> vs.length = ps.length)
  (hbody : ∀ (A : Around) (outer : List Env) (s : Shared) (H : Hp) (vs : List V) (Q : VK) (E : XK), Room k (A.deeper (envOfC qual (qb_ st) s.heap.objs.size f cdv)) -> sp vs H Q E →
   ∃ t, PSR (cxOf CX0 P w K mg base N qual (qb_ st) f cdv A outer s H E).nox (qh_ st) t /\ t (fun v σ H' => ∃ cvs, qed_ N (qb_ st) (cellsFrom (s.heap.objs.size + 1) (qb_ st).names []) σ cvs /\ ((∀ c v, cvs.lookup c = some v -> H' c = none /\ H c = none) -> Q v (trC cvs H'))) (start N vs) H) : FnOk P w K mg base CX0 (k + 1) f (PySem.W.fnOf x qual (qi_ st) (qh_ st) (qb_ st) .none kV doc pm an cdv ct) ps sp := by
 refine ⟨len, fun A outer s H args us vs Q E hr e0 hb r hsp => ?_⟩
 have hl := len _ _ _ _ hsp
 have KX : K.In s.heap := e0.mod.kin.keeps fun b o e => (e0.bs b o e).1
 have lim : s.heap.NoLimit := e0.mod.nolimit.keeps fun b o e => (e0.bs b o e).1
 have hkind : ∀ y ∈ ps.zip us, (qb_ st).names.lookup y.1 = some .local \/ ((qb_ st).names.lookup y.1 = some .cell /\ ((cellsFrom (s.heap.objs.size + 1) (qb_ st).names []).lookup y.1).isSome = true) := fun ⟨n, v⟩ hy => by
  rcases S.par n (List.of_mem_zip hy).1 with q | q
  ·exact .inl q
  ·exact .inr ⟨q, PySem.W.cellsFrom_some _ _ _ (.inl q)⟩
 refine codeAny_call_function hr.depth (KX _ _ lk) rfl S.co S.gen rfl (PySem.W.codeRec_of KX hcd) (hb _ _ _ _ ?_)
 refine wpAny_newFunctionEnv_cells S.kind hkind fun env he s1 y => ?_
 subst he
 refine ⟨lim.keeps y.toInCall.keep, codeAny_func ?_⟩
 obtain ⟨t, ht, hq⟩ := hbody A outer s H vs Q E (hr.deeper _) hsp
 have I : Inv (cxOf CX0 P w K mg base N qual (qb_ st) f cdv A outer s H E) [] (start N vs) H s1 := ur_ S hr.hd e0 hl r y
 refine wpAny_mono (ht [] s1 (start N vs) H _ (I.wish _) hq) (fun fl s' hs => ?_) fun e s' hs => False.elim hs
 obtain ⟨v, σ', H', u, rfl, J0, rv, cvs, hcs, hQ⟩ := hs
 have J := J0.unwish
 have B : Un (frs outer) [] H H' s.heap s'.heap := J.base
 have cell : ∀ c v, cvs.lookup c = some v -> H' c = none /\ s.heap.objs.size <= c /\ ∃ u, RelV v u /\ s'.heap.IsCell c (some u) := fun c v e => by
  obtain ⟨i, y, h1, h2, h3, h4⟩ := hcs c v e
  obtain ⟨m, hn, hl⟩ := J.loc
  obtain ⟨u, ru, l⟩ := hl i y v h1 h2 (.inr (.inl h4))
  refine ⟨J.freeC y c h3, J.ok.cab y c rfl h3, u, ru, ?_⟩
  rcases l with ⟨l, _⟩ | ⟨_, c', e', z⟩
  ·have l : (qb_ st).names.lookup y = some .local := l
   rw [h4] at l
   cases l
  ·have e' : (cellsFrom (s.heap.objs.size + 1) (qb_ st).names []).lookup y = some c' := e'
   rw [h3] at e'
   cases e'
   exact z
 have outE : ∀ b o, s.heap.get? b = some o -> cvs.lookup b = none := fun b o e => by
  cases z : cvs.lookup b with
  | none => rfl
  | some v => exact absurd (Heap.lt_size e) (Nat.not_lt.mpr (cell b v z).2.1)
 have outH : ∀ b x, H' b = some x -> cvs.lookup b = none := fun b x e => by
  cases z : cvs.lookup b with
  | none => rfl
  | some v => rw [(cell b v z).1] at e; cases e
 refine ⟨v, trC cvs H', J.os, J.bare, ⟨B.keep, B.slot, fun b o e n hx => (jD_ (outE b o e)).trans (B.free b o e n hx), B.there, fun b xs e => ?_, fun b o x e => ?_, fun b ps e => ?_⟩, qcc_ J.hok (fun c v e => (cell c v e).1) (fun c v e => (cell c v e).2.2), rv, hQ fun c v e => ⟨(cell c v e).1, e0.hok.fresh (cell c v e).2.1⟩⟩
 ·have z := B.tups b xs e
  exact (jD_ (outH b _ z)).trans z
 ·have z := B.frzs b o x e
  exact (jD_ (outH b _ z)).trans z
 ·obtain ⟨more, z⟩ := B.tbls b ps e
  exact ⟨more, (jD_ (outH b _ z)).trans z⟩
theorem qez_ {P : Program} {w : World} {K : PySem.W.Frag} {mg : Str -> Option Value} {base : Heap} {x qual : Str} {st : Stmt} {f c t : Addr} {fd : FuncData} {N ps : List Str} {k : Nat} {sp : Sp} (F : FunT K x qual st f fd c t) (S : FnScope N ps (qb_ st)) (len : ∀ vs H Q E, sp vs H Q E -> vs.length = ps.length)
  (hbody : ∀ (A : Around) (outer : List Env) (s : Shared) (H : Hp) (vs : List V) (Q : VK) (E : XK), Room k (A.deeper (envOfC qual (qb_ st) s.heap.objs.size f (.ref c))) -> sp vs H Q E →
   ∃ t, PSR (cxOf CX0 P w K mg base N qual (qb_ st) f (.ref c) A outer s H E).nox (qh_ st) t /\ t (fun v σ H' => ∃ cvs, qed_ N (qb_ st) (cellsFrom (s.heap.objs.size + 1) (qb_ st).names []) σ cvs /\ ((∀ c v, cvs.lookup c = some v -> H' c = none /\ H c = none) -> Q v (trC cvs H'))) (start N vs) H) : FnOk P w K mg base CX0 (k + 1) f fd ps sp := by
 obtain ⟨oc, od, kV, doc, pm, an, ct, osl, rfl, lk, hcd⟩ := F.ex
 exact okC2 lk hcd S len hbody
def TabS (H : Hp) (t : Addr) (p : Pos) (q : Str) : Prop := ∃ ps, H t = some (.tbl ps) /\ (ps = #[] \/ ∃ c', ps = #[rawInt p.line, rawInt p.col, .ref c'] /\ H c' = some (yn_ q c'))
theorem TabS.keep {H H' : Hp} {t : Addr} {p : Pos} {q : Str} (h : TabS H t p q) (k : Same H H') : TabS H' t p q := by
 obtain ⟨ps, h1, h2⟩ := h
 refine ⟨ps, k _ _ h1, ?_⟩
 rcases h2 with h2 | ⟨c', e, h2⟩
 ·exact .inl h2
 ·exact .inr ⟨c', e, k _ _ h2⟩
theorem qe0_ {P : Addr} {pos : Pos} {q : Str} {mk : Value -> Value -> Value -> Value -> FuncData} {σ : L2.St} {H : Hp} {Q : VK} (ht : TabS H P pos q)
  (h : ∀ (H1 : Hp) (c' fa : Addr) (doc pm ctv : Value), (∀ b o, b ≠ P -> H b = some o -> H1 b = some o) -> TabS H1 P pos q -> H fa = none -> H1 fa = some (FunO fa (mk doc pm (.ref c') ctv)) -> H1 c' = some (yn_ q c') -> (∀ b, H1 b = none -> H b = none) -> Q (.ref fa) H1) : tFn P pos q mk σ H Q := by
 obtain ⟨ps, hP, h2⟩ := ht
 rcases h2 with rfl | ⟨c0, rfl, hc0⟩
 ·refine ⟨#[], hP, trivial, .inl ⟨rfl, fun c' fa doc pm ctv n1 n2 ne => h _ c' fa doc pm ctv (fun b o hb e => ?_) ⟨_, ?_, .inr ⟨c', rfl, ?_⟩⟩ n2 qd_ ?_ fun b e => ?_⟩⟩
  ·rw [qe_ (qk_ e n2), qe_ (qk_ e n1), qe_ hb]; exact e
  ·rw [qe_ (qk_ hP n2), qe_ (qk_ hP n1)]; exact qd_
  ·rw [qe_ ne.symm]; exact qd_
  ·rw [qe_ ne.symm]; exact qd_
  ·by_cases z1 : b = fa
   ·rw [z1]; exact n2
   rw [qe_ z1] at e
   by_cases z2 : b = c'
   ·rw [z2]; exact n1
   rw [qe_ z2] at e
   by_cases z3 : b = P
   ·rw [z3, qd_] at e; cases e
   rwa [qe_ z3] at e
 ·refine ⟨_, hP, ⟨⟩, .inr ⟨c0, ?_, hc0, fun fa doc pm ctv n => h _ c0 fa doc pm ctv (fun b o _ e => ?_) ⟨_, ?_, .inr ⟨c0, rfl, ?_⟩⟩ n qd_ ?_ fun b e => ?_⟩⟩
  ·show codeAmong pos [rawInt pos.line, rawInt pos.col, .ref c0] = some (.ref c0)
   simp [codeAmong, rawInt]
  ·rw [qe_ (qk_ e n)]; exact e
  ·rw [qe_ (qk_ hP n)]; exact hP
  ·rw [qe_ (qk_ hc0 n)]; exact hc0
  ·rw [qe_ (qk_ hc0 n)]; exact hc0
  ·by_cases z1 : b = fa
   ·rw [z1]; exact n
   rwa [qe_ z1] at e
def inA : Stmt := (qh_ j0_).getD 0 (.Pass ⟨0, 0, 0, 0⟩)
def posD : Stmt -> Pos
 | .FunctionDef _ _ _ _ _ _ _ _ _ p => p
 | _ => ⟨0, 0, 0, 0⟩
def qA : Str := "_law_asker" ++ Str.ofString ".<locals>." ++ Str.ofString "_law_ask"
def clA (c1 c2 : Addr) : List (Str × Addr) := [("_law_seen", c2), ("_law_row", c1)]
structure AskerAt (H : Hp) (f rw z : Addr) : Prop where
 ex : ∃ (c' c1 c2 : Addr) (doc pm ctv : Value), H f = some (FunO f (PySem.W.fnX "_law_ask" qA (qi_ inA) (qh_ inA) (qb_ inA) (clA c1 c2) .none .none doc pm none (.ref c') ctv)) ∧ H c' = some (yn_ qA c') ∧ H c1 = some (CelO c1 (.ref rw)) ∧ H c2 = some (CelO c2 (.ref z)) ∧ c1 ≠ c2
theorem AskerAt.same {H H' : Hp} {f rw z : Addr} (h : AskerAt H f rw z) (s : Same H H') : AskerAt H' f rw z := by
 obtain ⟨c', c1, c2, doc, pm, ctv, h1, h2, h3, h4, h5⟩ := h.ex
 exact ⟨c', c1, c2, doc, pm, ctv, s _ _ h1, s _ _ h2, s _ _ h3, s _ _ h4, h5⟩
section
variable {P : Program} {wo : World} {K : PySem.W.Frag} {mg : Str -> Option Value} {base : Heap} {a : Adr}
def qh9_ (a : Adr) : Sp := fun vs H Q _ => ∃ (rw z : Addr), vs = [.ref rw, .ref z] /\ TabS H a.t_asker (posD inA) qA ∧
 ∀ (H' : Hp) (f : Addr), (∀ b o, b ≠ a.t_asker -> H b = some o -> H' b = some o) -> TabS H' a.t_asker (posD inA) qA -> H f = none -> AskerAt H' f rw z -> (∀ b, H' b = none -> H b = none) -> Q (.ref f) H'
theorem qgk_ (T : Txt K mg a) (B : Tb base mg a) : FnOk P wo K mg base CX0 1 a.f_asker a.d_asker ["_law_row", "_law_seen"] (qh9_ a) := by
 refine qez_ T.F_asker (k := 0) sc_asker (fun vs H Q E h => ?_) (fun A outer s H vs Q E hr h => ?_)
 ·obtain ⟨rw, sl, rfl, _⟩ := h
  rfl
 ·obtain ⟨rw, z, rfl, ht, q⟩ := h
  refine ⟨_, (qfy_ (qi9_ (i := 2) (T.F_asker.tab B.b_asker B.n_asker) rfl sc_asker.nd rfl (Or.inl rfl))
   (qhm_ (pv 2))), ?_⟩
  unfold tRC tRR tAsg
  refine qe0_ (q := qA) (pos := posD inA) ht fun H1 c' fa doc pm ctv k1 t1 n1 hf hc fr => ?_
  refine ⟨_, rfl, [(s.heap.objs.size + 1, .ref rw), (s.heap.objs.size + 1 + 1, .ref z)], ?_, fun hcv => ?_⟩
  ·intro c v e
   rw [List.lookup_cons] at e
   split at e
   ·rename_i h
    cases e
    cases eq_of_beq h
    exact ⟨0, _, rfl, rfl, rfl, rfl⟩
   ·rw [List.lookup_cons] at e
    split at e
    ·rename_i h
     cases e
     cases eq_of_beq h
     exact ⟨1, _, rfl, rfl, rfl, rfl⟩
    ·cases e
  ·have ne : s.heap.objs.size + 1 ≠ s.heap.objs.size + 1 + 1 := by omega
   have l1 : [(s.heap.objs.size + 1, V.ref rw), (s.heap.objs.size + 1 + 1, .ref z)].lookup (s.heap.objs.size + 1) = some (.ref rw) := by rw [List.lookup_cons]; simp
   have l2 : [(s.heap.objs.size + 1, V.ref rw), (s.heap.objs.size + 1 + 1, .ref z)].lookup (s.heap.objs.size + 1 + 1) = some (.ref z) := by rw [List.lookup_cons, beq_eq_false_iff_ne.mpr (Ne.symm ne)]; simp
   have out : ∀ {b : Addr} {o : HO}, H1 b = some o -> [(s.heap.objs.size + 1, V.ref rw), (s.heap.objs.size + 1 + 1, .ref z)].lookup b = none := fun {b o} e => by
    cases y : [(s.heap.objs.size + 1, V.ref rw), (s.heap.objs.size + 1 + 1, .ref z)].lookup b with
    | none => rfl
    | some v => rw [(hcv b v y).1] at e; cases e
   have sm : Same H1 (trC [(s.heap.objs.size + 1, V.ref rw), (s.heap.objs.size + 1 + 1, .ref z)] H1) := fun b o e => (jD_ (out e)).trans e
   refine q _ fa (fun b o hb e => sm b o (k1 b o hb e)) (t1.keep sm) n1 ⟨c', s.heap.objs.size + 1, s.heap.objs.size + 1 + 1, doc, pm, ctv, sm _ _ hf, sm _ _ hc, zK_ l1, zK_ l2, ne⟩ fun b e => ?_
   cases y : [(s.heap.objs.size + 1, V.ref rw), (s.heap.objs.size + 1 + 1, .ref z)].lookup b with
   | none => exact fr b ((jD_ y).symm.trans e)
   | some v => rw [zK_ y] at e; cases e
def qe1_ : SpV := fun f vs H Q => ∃ (fa rw z : Addr) (k : Nat) (srow : List (Option Nat)) (as : List Nat), f = .ref fa /\ vs = [.int k] /\ AskerAt H fa rw z /\ H rw = some (.lst (rowO srow)) /\ H z = some (.lst (rowV as)) /\ k < srow.length /\ as.length < 900 /\ rw ≠ z /\ Q (valO (srow.getD k none)) (upd H z (.lst (rowV (as ++ [k]))))
theorem qjk_ (T : Txt K mg a) : vO_ P wo K mg base 1 qe1_ := by
 intro A outer s H f us vs Q hr e0 r h
 obtain ⟨fa, rw, z, k, srow, as, rfl, rfl, hA, hrow, hz, hk, has, hne, q⟩ := h
 obtain ⟨c', c1, c2, doc, pm, ctv, h1, h2, h3, h4, h5⟩ := hA.ex
 refine ⟨fa, _, rfl, h1, ?_⟩
 have l1 : [(c1, V.ref rw), (c2, .ref z)].lookup c1 = some (.ref rw) := by rw [List.lookup_cons]; simp
 have l2 : [(c1, V.ref rw), (c2, .ref z)].lookup c2 = some (.ref z) := by
  rw [List.lookup_cons, beq_eq_false_iff_ne.mpr (Ne.symm h5)]
  simp
 have L : ∀ c v, [(c1, V.ref rw), (c2, .ref z)].lookup c = some v -> (c = c1 /\ v = .ref rw) \/ (c = c2 /\ v = .ref z) := fun c v e => by
  rw [List.lookup_cons] at e
  split at e
  ·rename_i h
   cases e
   exact .inl ⟨eq_of_beq h, rfl⟩
  ·rw [List.lookup_cons] at e
   split at e
   ·rename_i h
    cases e
    exact .inr ⟨eq_of_beq h, rfl⟩
   ·cases e
 have at_ : ∀ c v, [(c1, V.ref rw), (c2, .ref z)].lookup c = some v -> H c = some (CelO c v) := fun c v e => by
  rcases L c v e with ⟨rfl, rfl⟩ | ⟨rfl, rfl⟩
  ·exact h3
  ·exact h4
 refine qhl_ (k := 0) (cvs := [(c1, V.ref rw), (c2, .ref z)]) (vs := [.int ((k : Nat) : Int)]) (N := ["_law_role", "_law_seen", "_law_row"]) (ps := ["_law_role"]) (σ0 := [some (.int ((k : Nat) : Int)), some (.ref z), some (.ref rw)]) ⟨rfl, rfl, rfl, by decide +kernel, rfl, by decide +kernel, by decide +kernel⟩ hr e0 r h1 h2 ?_ ?_ ?_ (qc_ (q4_ (yc_ PySem.F.plainAttrs_list PySem.F.slot_list_append PySem.F.type_list_append jf_ (pv 1) (qa_ (pv 0) qf_)))
   (qg_ (qq_ (qD_ qz_ (pv 2) (pv 0) (fun _ _ => rfl))))) ?_
 ·obtain ⟨u, rfl, _⟩ := yY_ r
  rfl
 ·have J : ∀ x c, (clA c1 c2).lookup x = some c → (x = "_law_seen" ∧ c = c2) ∨ (x = "_law_row" ∧ c = c1) := fun x c e => by
   unfold clA at e
   rw [List.lookup_cons] at e
   split at e
   ·rename_i h
    cases e
    exact .inl ⟨eq_of_beq h, rfl⟩
   ·rw [List.lookup_cons] at e
    split at e
    ·rename_i h
     cases e
     exact .inr ⟨eq_of_beq h, rfl⟩
    ·cases e
  refine ⟨fun x y c e1 e2 => ?_, fun x hx => ?_, fun x c e => ?_, at_⟩
  ·rcases J x c e1 with ⟨rfl, rfl⟩ | ⟨rfl, rfl⟩
   ·rcases J y c e2 with ⟨rfl, _⟩ | ⟨_, z⟩
    ·rfl
    ·exact absurd z.symm h5
   ·rcases J y c e2 with ⟨_, z⟩ | ⟨rfl, _⟩
    ·exact absurd z h5
    ·rfl
  ·have d : ∀ q ∈ (qb_ inA).names, q.2 = .free → q.1 = "_law_seen" ∨ q.1 = "_law_row" := by decide +kernel
   have d := d (x, .free) (PySem.mem_of_lookup hx) rfl
   rcases d with d | d
   ·have d : x = _ := d
    subst d
    exact ⟨c2, rfl⟩
   ·have d : x = _ := d
    subst d
    exact ⟨c1, rfl⟩
  ·rcases J x c e with ⟨_, rfl⟩ | ⟨_, rfl⟩
   ·exact ⟨_, l2⟩
   ·exact ⟨_, l1⟩
 ·refine ⟨rfl, fun i x v e1 e2 => ?_⟩
  match i, e1, e2 with
  | 0, e1, e2 => exact .inl ⟨e1, by cases e2; rfl⟩
  | 1, e1, e2 =>
   cases e1
   cases e2
   exact .inr ⟨rfl, c2, rfl, l2⟩
  | 2, e1, e2 =>
   cases e1
   cases e2
   exact .inr ⟨rfl, c1, rfl, l1⟩
 ·have no : ∀ {b : Addr} {xs : List V}, H b = some (.lst xs) -> [(c1, V.ref rw), (c2, .ref z)].lookup b = none := fun {b xs} e => by
   cases y : [(c1, V.ref rw), (c2, .ref z)].lookup b with
   | none => rfl
   | some v => rw [at_ b v y] at e; cases e
  have hz' := (je_ (no hz)).trans hz
  have fits : (rowV as).length < sizeLine := by
   rw [ql_]
   exact Nat.lt_trans has (by decide)
  have hrow' : (upd (untr [(c1, V.ref rw), (c2, .ref z)] H) z (.lst (rowV (as ++ [k])))) rw = some (.lst (rowO srow)) := by
   rw [qe_ hne, je_ (no hrow)]
   exact hrow
  refine ⟨_, rfl, .inl ⟨rfl, _, SqL.of hz'⟩, _, rfl, z, _, _, rfl, rfl, hz', fits, ?_⟩
  rw [jU_]
  refine ⟨_, rfl, _, rfl, rw, _, _, _, rfl, rfl, SqL.of hrow', qy_ (jg_ (o := srow.getD k none) (by rw [List.getD_eq_getElem?_getD, List.getElem?_eq_getElem hk]; rfl)), ?_⟩
  have e : trC [(c1, V.ref rw), (c2, .ref z)] (upd (untr [(c1, V.ref rw), (c2, .ref z)] H) z (.lst (rowV (as ++ [k])))) = upd H z (.lst (rowV (as ++ [k]))) := by
   funext b
   cases y : [(c1, V.ref rw), (c2, .ref z)].lookup b with
   | some v =>
    have nz : b ≠ z := fun e => by rw [e, no hz] at y; cases y
    rw [zK_ y, qe_ nz, at_ b v y]
   | none =>
    rw [jD_ y]
    by_cases nz : b = z
    ·rw [nz, qd_, qd_]
    ·rw [qe_ nz, qe_ nz, je_ y]
  show Q (valO (srow.getD k none)) (trC _ _)
  rw [e]
  exact q
end
def posL : Pos := ⟨61, 32, 61, 69⟩
def qL : Str := "Asking.order" ++ Str.ofString ".<locals>." ++ Str.ofString "<lambda>"
structure AskR where
 A : Addr
 c : Addr
 bp : Addr
 fp : Addr
 f : Addr
 cl : Addr
 rl : Addr
 sl : Addr
 rw : Addr
 z : Addr
structure AskI (a : Adr) (H0 : Hp) (R : AskR) (r w n M N : Nat) (l : Nat -> Nat -> Nat) (cs srow : List (Option Nat)) : Prop where
 code : CodeAt a H0 R.c R.bp R.fp r w n M N l
 full : GF.Full r w
 n16 : n <= 16
 W : Wts w M N l
 obj : ∃ dx, H0 R.A = some (.ins a.C_Asking dx (af R.c R.f R.cl R.rl R.sl))
 cost : H0 R.cl = some (.lst (rowO cs))
 csl : cs.length = N + M
 asker : AskerAt H0 R.f R.rw R.z
 row : H0 R.rw = some (.lst (rowO srow))
 srl : srow.length = N + M
 nrl : H0 R.rl = none
 nsl : H0 R.sl = none
 nz : H0 R.z = none
 nt : H0 a.t_Asking_order = none
 d1 : R.rl ≠ R.sl
 d2 : R.rl ≠ R.z
 d3 : R.sl ≠ R.z
structure AskM (a : Adr) (H0 H : Hp) (R : AskR) (n : Nat) (os : List (Option Nat)) (as : List Nat) : Prop where
 sm : Same H0 H
 hr : H R.rl = some (.lst (rowO os))
 hs : H R.sl = some (.lst (rowV as))
 hz : H R.z = some (.lst (rowV as))
 tab : TabS H a.t_Asking_order posL qL
 osl : os.length = n
 nd : as.Nodup
 lt : ∀ k ∈ as, k < n
theorem zU_ : ∀ (n : Nat) (as : List Nat), as.Nodup -> (∀ k ∈ as, k < n) -> as.length <= n
 | 0, [], _, _ => Nat.le_refl _
 | 0, k :: _, _, h => absurd (h k (.head _)) (Nat.not_lt_zero k)
 | n + 1, as, nd, h => by
  by_cases z : n ∈ as
  ·have e := List.length_erase_of_mem z
   have ih := zU_ n (as.erase n) (nd.erase n) fun k hk => by
    have h1 := h k (List.mem_of_mem_erase hk)
    have h2 : k ≠ n := fun e => by
     subst e
     exact (List.Nodup.mem_erase_iff nd).mp hk |>.1 rfl
    omega
   omega
  ·exact Nat.le_succ_of_le (zU_ n as nd fun k hk => by
    have h1 := h k hk
    have h2 : k ≠ n := fun e => z (e ▸ hk)
    omega)
theorem AskM.asl {a : Adr} {H0 H : Hp} {R : AskR} {n : Nat} {os : List (Option Nat)} {as : List Nat} (h : AskM a H0 H R n os as) : as.length <= n := zU_ n as h.nd h.lt
def mayB (cs : List (Option Nat)) (as : List Nat) (k : Nat) : Bool := (cs.getD k none).isSome && !as.contains k
theorem qe2_ (k : Nat) : ∀ as : List Nat, inV (.int (k : Nat)) (rowV as) = as.contains k
 | [] => rfl
 | x :: as => by
  have ih := qe2_ k as
  unfold inV rowV at ih ⊢
  rw [List.map_cons, List.any_cons, ih, List.contains_cons]
  congr 1
  show eqV (.int (x : Nat)) (.int (k : Nat)) = (k == x)
  show (((x : Nat) : Int) == ((k : Nat) : Int)) = (k == x)
  by_cases z : x = k
  ·subst z; simp
  ·have h1 : ((x : Nat) : Int) ≠ ((k : Nat) : Int) := by omega
   rw [beq_eq_false_iff_ne.mpr h1, beq_eq_false_iff_ne.mpr (Ne.symm z)]
theorem qgl_ (as : List Nat) : (rowV as).all yu_ = true := by
 unfold rowV
 rw [List.all_map]
 exact List.all_eq_true.mpr fun _ _ => rfl
theorem j9_ {os : List (Option Nat)} {k : Nat} (h : k < os.length) : os[k]? = some (os.getD k none) := by
 rw [List.getD_eq_getElem?_getD, List.getElem?_eq_getElem h]
 rfl
theorem qco_ (o : Option Nat) : (!decide (valO o = V.non)) = o.isSome := by
 cases o with
 | none => rfl
 | some b => rw [decide_eq_false (fun z => by cases z)]; rfl
section
variable {P : Program} {wo : World} {K : PySem.W.Frag} {mg : Str -> Option Value} {base : Heap} {a : Adr}
def qkh_ (a : Adr) : Sp := fun vs H Q _ => ∃ (H0 : Hp) (R : AskR) (r w n M N k : Nat) (l : Nat -> Nat -> Nat) (cs srow os : List (Option Nat)) (as : List Nat), vs = [.ref R.A, .int k] /\ AskI a H0 R r w n M N l cs srow /\ AskM a H0 H R (N + M) os as /\ k < N + M /\ Q (.bl (mayB cs as k)) H
theorem yV_ (T : Txt K mg a) : FnOk P wo K mg base CX0 1 a.f_Asking_may a.d_Asking_may ["self", "role"] (qkh_ a) := by
 refine T.F_Asking_may.ok (k := 0) uV_ (fun vs H Q E h => ?_) (fun cdv A outer s H vs Q E hr h => ?_)
 ·obtain ⟨H0, R, r, w, n, M, N, k, l, cs, srow, os, as, rfl, _⟩ := h
  rfl
 ·obtain ⟨H0, R, r, w, n, M, N, k, l, cs, srow, os, as, rfl, I, J, hk, q⟩ := h
  obtain ⟨dx, hA⟩ := I.obj
  have hA := J.sm _ _ hA
  refine ⟨_, (qg_ (qq_ (qiu_ (y3_ yq_ (qD_ qz_ (qA_ (pv 0) rfl) (pv 1) (fun _ _ => rfl)) jr_ (qr_ _)) (qdm_ (y3_ qad_ (pv 1) (qA_ (pv 0) rfl) rfl))))), ?_⟩
  refine ⟨_, rfl, R.A, _, _, _, _, rfl, hA, T.cl_Asking, T.no_Asking_costs, zz_ _ _ _ _ _, _, rfl, R.cl, _, _, _, rfl, rfl, SqL.of (J.sm _ _ I.cost), qy_ (jg_ (j9_ (by rw [I.csl]; exact hk))), rfl, _, rfl, ?_⟩
  rw [qco_]
  unfold mayB at q
  cases hz : (cs.getD k none).isSome with
  | false =>
   rw [hz] at q
   exact q
  | true =>
   rw [hz] at q
   refine ⟨_, rfl, _, rfl, R.A, _, _, _, _, rfl, hA, T.cl_Asking, T.no_Asking_asked, qa6_ _ _ _ _ _, R.sl, _, rfl, .inl (SqL.of J.hs), rfl, qgl_ as, ?_⟩
   rw [qe2_]
   exact q
end
theorem TabS.up {H : Hp} {t x : Addr} {p : Pos} {q : Str} {xs : List V} {o : HO} (h : TabS H t p q) (hx : H x = some (.lst xs)) : TabS (upd H x o) t p q := by
 obtain ⟨ps, h1, h2⟩ := h
 refine ⟨ps, by rw [qe_ (yL_ h1 hx (fun y => by cases y))]; exact h1, ?_⟩
 rcases h2 with h2 | ⟨c', e, h2⟩
 ·exact .inl h2
 ·exact .inr ⟨c', e, by rw [qe_ (yL_ h2 hx (fun y => by cases y))]; exact h2⟩
theorem AskM.same {a : Adr} {H0 H H' : Hp} {R : AskR} {n : Nat} {os : List (Option Nat)} {as : List Nat} (h : AskM a H0 H R n os as) (s : Same H H') : AskM a H0 H' R n os as :=
 ⟨h.sm.trans s, s _ _ h.hr, s _ _ h.hs, s _ _ h.hz, h.tab.keep s, h.osl, h.nd, h.lt⟩
def tk (cs srow os : List (Option Nat)) (as : List Nat) (k : Nat) : List (Option Nat) × List Nat := if mayB cs as k = true then (os.set k (srow.getD k none), as ++ [k]) else (os, as)
theorem qa7_ (os : List (Option Nat)) (k : Nat) (o : Option Nat) : (rowO os).set k (valO o) = rowO (os.set k o) := by
 unfold rowO
 rw [List.map_set]
theorem qia_ {cs : List (Option Nat)} {as : List Nat} {k : Nat} (h : mayB cs as k = true) : k ∉ as := fun z => by
 unfold mayB at h
 rw [List.contains_iff_mem.mpr z, Bool.not_true, Bool.and_false] at h
 cases h
theorem qdg_ {as : List Nat} {k : Nat} (h : as.Nodup) (n : k ∉ as) : (as ++ [k]).Nodup := List.nodup_append.mpr ⟨h, List.pairwise_singleton _ k, fun x hx y hy e => by
 rw [List.mem_singleton.mp hy] at e
 exact n (e ▸ hx)⟩
section
variable {P : Program} {wo : World} {K : PySem.W.Frag} {mg : Str -> Option Value} {base : Heap} {a : Adr}
def qjl_ (a : Adr) : Sp := fun vs H Q _ => ∃ (H0 : Hp) (R : AskR) (r w n M N k : Nat) (l : Nat -> Nat -> Nat) (cs srow os : List (Option Nat)) (as : List Nat), vs = [.ref R.A, .int k] /\ AskI a H0 R r w n M N l cs srow /\ AskM a H0 H R (N + M) os as /\ k < N + M /\ ∀ H', AskM a H0 H' R (N + M) (tk cs srow os as k).1 (tk cs srow os as k).2 -> Q (valO ((tk cs srow os as k).1.getD k none)) H'
theorem zp_ (T : Txt K mg a) : FnOk P wo K mg base CX0 2 a.f_Asking_take a.d_Asking_take ["self", "role"] (qjl_ a) := by
 have G_Asking_may : FnOk P wo K mg base CX0 1 _ _ _ _ := yV_ T
 have CK : vO_ P wo K mg base 1 qe1_ := qjk_ T
 refine T.F_Asking_take.ok (k := 1) ud_ (fun vs H Q E h => ?_) (fun cdv A outer s H vs Q E hr h => ?_)
 ·obtain ⟨H0, R, r, w, n, M, N, k, l, cs, srow, os, as, rfl, _⟩ := h
  rfl
 ·obtain ⟨H0, R, r, w, n, M, N, k, l, cs, srow, os, as, rfl, I, J, hk, q⟩ := h
  obtain ⟨dx, hA⟩ := I.obj
  have n8 := I.W.n8
  have hasl := J.asl
  refine ⟨_, (qc_ (qH_ (j3_ (qE_ (pv 0) T.cl_Asking T.me_Asking_may G_Asking_may (hr.mono (by decide)) T.b_Asking_may .nil qo_ (qa_ (pv 1) qf_))) (qc_ (q4_ (yc_ PySem.F.plainAttrs_list PySem.F.slot_list_append PySem.F.type_list_append jf_ (qA_ (pv 0) rfl) (qa_ (pv 1) qf_)))
   (qg_ (yQ_ (qfz_ CK (hr.mono (by decide)) (pv 0) (qa_ (pv 1) qf_)) (y7_ (qA_ (pv 0) rfl) (pv 1) yp_)))) qB_)
   (qg_ (qq_ (qD_ qz_ (qA_ (pv 0) rfl) (pv 1) (fun _ _ => rfl))))), ?_⟩
  refine ⟨_, rfl, R.A, dx, _, rfl, J.sm _ _ hA, rfl, _, rfl, H0, R, r, w, n, M, N, k, l, cs, srow, os, as, rfl, I, J, hk, ?_⟩
  cases hz : mayB cs as k with
  | true =>
   refine ⟨_, rfl, ite2 (fun _ => ?_) (fun y => absurd rfl y)⟩
   have fits : (rowV as).length < sizeLine := by
    rw [ql_]
    exact Nat.lt_of_le_of_lt hasl (Nat.lt_of_le_of_lt n8 (by decide))
   have hsm1 := J.sm.up (o := .lst (rowV (as ++ [k]))) I.nsl
   refine ⟨_, rfl, R.A, _, _, _, _, rfl, J.sm _ _ hA, T.cl_Asking, T.no_Asking_asked, qa6_ _ _ _ _ _, .inl ⟨rfl, _, SqL.of J.hs⟩, _, rfl, R.sl, _, _, rfl, rfl, J.hs, fits, ?_⟩
   rw [jU_]
   have hfd := (I.asker.ex)
   obtain ⟨c', c1, c2, doc, pm, ctv, hf, hc, h3, h4, h5⟩ := hfd
   refine ⟨_, rfl, R.A, _, _, _, R.f, _, rfl, hsm1 _ _ hA, T.cl_Asking, T.no_Asking_ask, qjj_ _ _ _ _ _, hsm1 _ _ hf, _, rfl, hsm1 _ _ hf, R.f, R.rw, R.z, k, srow, as, rfl, rfl, I.asker.same hsm1, hsm1 _ _ I.row, (by rw [qe_ (Ne.symm I.d3)]; exact J.hz), by rw [I.srl]; exact hk, by omega, (fun y => by have := I.row; rw [y, I.nz] at this; cases this), ?_⟩
   have hsm2 := hsm1.up (o := .lst (rowV (as ++ [k]))) I.nz
   have hrl : (upd (upd H R.sl (.lst (rowV (as ++ [k])))) R.z (.lst (rowV (as ++ [k])))) R.rl = some (.lst (rowO os)) := by
    rw [qe_ I.d2, qe_ I.d1]
    exact J.hr
   refine ⟨_, rfl, R.A, _, _, _, _, rfl, hsm2 _ _ hA, T.cl_Asking, T.no_Asking_row, zT_ _ _ _ _ _, _, rfl, R.rl, _, _, k, rfl, rfl, hrl, yJ_ (by rw [qZ_, J.osl]; exact hk), ?_⟩
   rw [qa7_]
   have hsm3 := hsm2.up (o := .lst (rowO (os.set k (srow.getD k none)))) I.nrl
   have J3 : AskM a H0 (upd (upd (upd H R.sl (.lst (rowV (as ++ [k])))) R.z (.lst (rowV (as ++ [k])))) R.rl (.lst (rowO (os.set k (srow.getD k none))))) R (N + M) (os.set k (srow.getD k none)) (as ++ [k]) := by
    refine ⟨hsm3, qd_, ?_, ?_, ((J.tab.up J.hs).up (x := R.z) (xs := rowV as) ?_).up hrl, by rw [List.length_set, J.osl], qdg_ J.nd (qia_ hz), fun x hx => ?_⟩
    ·rw [qe_ (Ne.symm I.d1), qe_ I.d3]; exact qd_
    ·rw [qe_ (Ne.symm I.d2)]; exact qd_
    ·rw [qe_ (Ne.symm I.d3)]; exact J.hz
    ·rcases List.mem_append.mp hx with y | y
     ·exact J.lt x y
     ·rw [List.mem_singleton.mp y]; exact hk
   have e : tk cs srow os as k = (os.set k (srow.getD k none), as ++ [k]) := by unfold tk; rw [if_pos hz]
   rw [e] at q
   exact ⟨_, rfl, R.A, _, _, _, _, rfl, hsm3 _ _ hA, T.cl_Asking, T.no_Asking_row, zT_ _ _ _ _ _, _, rfl, R.rl, _, _, _, rfl, rfl, SqL.of qd_, qy_ (jg_ (j9_ (by rw [List.length_set, J.osl]; exact hk))), q _ J3⟩
  | false =>
   refine ⟨_, rfl, ite2 (fun y => by cases y) (fun _ => ?_)⟩
   have e : tk cs srow os as k = (os, as) := by unfold tk; rw [if_neg (by rw [hz]; decide)]
   rw [e] at q
   exact ⟨_, rfl, R.A, _, _, _, _, rfl, J.sm _ _ hA, T.cl_Asking, T.no_Asking_row, zT_ _ _ _ _ _, _, rfl, R.rl, _, _, _, rfl, rfl, SqL.of J.hr, qy_ (jg_ (j9_ (by rw [J.osl]; exact hk))), q _ J⟩
end
theorem qe3_ (ns : List Int) : preSum (fun i => ns.getD i 0) ns.length = ns.sum := by
 have h : ∀ (f : Nat -> Int) (j : Nat), preSum f j = ((List.range j).map f).sum := fun f j => by
  induction j with
  | zero => rfl
  | succ j ih =>
   have e : preSum f (j + 1) = preSum f j + f j := rfl
   rw [e, ih, List.range_succ, List.map_append, List.sum_append]
   simp
 rw [h]
 congr 1
 apply List.ext_getElem?
 intro i
 rw [List.getElem?_map]
 by_cases hi : i < ns.length
 ·rw [List.getElem?_range hi, List.getElem?_eq_getElem hi, Option.map_some, List.getD_eq_getElem?_getD, List.getElem?_eq_getElem hi]
  rfl
 ·rw [List.getElem?_eq_none (by rw [List.length_range]; omega), List.getElem?_eq_none (by omega)]
  rfl
theorem uH_ {X : Cx} (hc : X.calm = true) : yM_ X (.builtin "sum") (fun xs H Q => ∃ (p : Addr) (ns : List Int), xs = [.ref p] ∧ SqL X.K H p (ns.map V.int) ∧ ns.length ≤ 1000 ∧ (∀ y ∈ ns, 0 ≤ y ∧ y ≤ 1000000) ∧ Q (.int ns.sum) H) := by
 intro pins s σ H xs us Q I r h
 obtain ⟨p, ns, rfl, hq, hn, hb, q⟩ := h
 obtain ⟨u, rfl, rx⟩ := yY_ r
 cases rx
 obtain ⟨its, rv, ⟨o, nn, e1, e2, e3, e4⟩, hz⟩ := I.list hq
 have hne : p ≠ s.heap.objs.size := Nat.ne_of_lt (Heap.lt_size e1)
 have hl : its.toArray.size = ns.length := by
  have := rv.length
  rw [List.length_map] at this
  simp [this]
 have hv : ∀ j, 0 <= ns.getD j 0 /\ ns.getD j 0 <= 1000000 := fun j => by
  by_cases hj : j < ns.length
  ·rw [List.getD_eq_getElem?_getD, List.getElem?_eq_getElem hj]
   exact hb _ (List.getElem_mem hj)
  ·rw [List.getD_eq_getElem?_getD, List.getElem?_eq_none (by omega)]
   exact ⟨by decide, by decide⟩
 have hs : ∀ j, 0 <= preSum (fun i => ns.getD i 0) j /\ preSum (fun i => ns.getD i 0) j <= 1000000 * (j : Int) /\ ∀ i, i < j -> ns.getD i 0 <= preSum (fun i => ns.getD i 0) j := fun j => by
  induction j with
  | zero => exact ⟨Int.le_refl _, Int.le_refl _, fun i h => absurd h (Nat.not_lt_zero _)⟩
  | succ j ih =>
   have e : preSum (fun i => ns.getD i 0) (j + 1) = preSum (fun i => ns.getD i 0) j + ns.getD j 0 := rfl
   have := hv j
   rw [e]
   refine ⟨by omega, by omega, fun i h => ?_⟩
   by_cases y : i = j
   ·subst y; omega
   ·have := ih.2.2 i (by omega)
    omega
 refine call_sum_walk (wpAny_pyIter_list ⟨o, e1, e2, nn, e4⟩ ?_)
 refine ⟨_, _, _, _, _, _, fun i => ns.getD i 0, rfl, Walks.list (A := X.A.in1) (show X.A.in1.handled = none from I.ok.hd hc) s.heap.objs.size p hne its.toArray, ⟨⟨_, Heap.get?_push_size _ rfl, rfl, rfl⟩, ⟨o, Heap.get?_push_of_some _ e1, e2, nn, e4⟩⟩, fun b hb => ?_, fun i v hv => qaq_ rv hv, fun j hj => ?_, fun h' tk t' kp => ?_⟩
 ·show b < (s.heap.push _).objs.size
  rw [Heap.size_push]
  rcases List.mem_cons.mp hb with z | z
  ·rw [z]; exact Nat.lt_succ_self _
  ·rw [List.mem_singleton.mp z]; exact Nat.lt_succ_of_lt (Heap.lt_size e1)
 ·have h1 := hv j
  have h2 := hs (j + 1)
  rw [hl] at hj
  have h3 := h2.2.1
  have h4 := h2.1
  show InLong (ns.getD j 0) /\ InLong (preSum (fun i => ns.getD i 0) (j + 1))
  generalize preSum (fun i => ns.getD i 0) (j + 1) = pp at h3 h4
  unfold InLong
  omega
 ·rw [hl]
  rw [<- qe3_] at q
  exact ⟨.int _, H, I.kept (t' := tk) fun b o e => kp b o (fun z => by rw [List.mem_singleton.mp z] at e; exact absurd (Heap.lt_size e) (Nat.lt_irrefl _)) (Heap.get?_push_of_some _ e), ⟨_, rfl⟩, q⟩
section
variable {P : Program} {wo : World} {K : PySem.W.Frag} {mg : Str -> Option Value} {base : Heap} {a : Adr}
theorem qjm_ (os : List (Option Nat)) : ((List.range os.length).map fun i => V.bl (os.getD i none).isSome) = knV (knO os) := by
 unfold knV knO
 apply List.ext_getElem?
 intro i
 rw [List.getElem?_map, List.getElem?_map, List.getElem?_map]
 by_cases hi : i < os.length
 ·rw [List.getElem?_range hi, List.getElem?_eq_getElem hi]
  have eg : os.getD i none = os[i] := by rw [List.getD_eq_getElem?_getD, List.getElem?_eq_getElem hi]; rfl
  dsimp only [Option.map]
  rw [eg]
 ·rw [List.getElem?_eq_none (by rw [List.length_range]; omega), List.getElem?_eq_none (by omega)]
  rfl
theorem jL_ (os : List (Option Nat)) : (knO os).length = os.length := by unfold knO; rw [List.length_map]
def qib_ (a : Adr) : Sp := fun vs H Q _ => ∃ (H0 : Hp) (R : AskR) (r w n M N : Nat) (l : Nat -> Nat -> Nat) (cs srow os : List (Option Nat)) (as : List Nat), vs = [.ref R.A] /\ AskI a H0 R r w n M N l cs srow /\ AskM a H0 H R (N + M) os as /\ ∀ D H', Same H H' -> H D = none -> H' D = some (.lst (knV (knO os))) -> Q (.ref D) H'
theorem zh_ (T : Txt K mg a) : FnOk P wo K mg base CX0 1 a.f_Asking_known a.d_Asking_known ["self"] (qib_ a) := by
 refine T.F_Asking_known.ok (k := 0) vQ_ (fun vs H Q E h => ?_) (fun cdv A outer s H vs Q E hr h => ?_)
 ·obtain ⟨H0, R, r, w, n, M, N, l, cs, srow, os, as, rfl, _⟩ := h
  rfl
 ·obtain ⟨H0, R, r, w, n, M, N, l, cs, srow, os, as, rfl, I, J, q⟩ := h
  obtain ⟨dx, hA⟩ := I.obj
  have n8 := I.W.n8
  have hosl := J.osl
  refine ⟨_, (qg_ (qq_ (jH_ (CompOk.of (cap := []) (own := ["block"]) (by kernel_rfl)) rfl (jp_ (qA_ (pv 0) rfl)) (fun _ _ _ _ _ => (qs_ (i := 0) (of_decide_eq_true (by kernel_rfl)) rfl (Or.inl rfl))) (fun _ _ _ _ _ => jG_) (fun _ _ _ _ _ => by exact (y3_ yq_ (pv 0) jr_ (qr_ _)))))), ?_⟩
  refine ⟨_, rfl, R.A, _, _, _, _, rfl, J.sm _ _ hA, T.cl_Asking, T.no_Asking_row, zT_ _ _ _ _ _, R.rl, rfl, ⟨_, SqL.of J.hr⟩, fun kn nkn => ?_⟩
  refine yd_ (xs := rowO os) (f := fun i => .bl (os.getD i none).isSome) (cs := []) (SqL.of J.hr) nkn rfl (by rw [qZ_]; exact Nat.le_trans (by omega : os.length <= 8) (by decide)) (fun i u H2 R2 hu s2 hR => ?_) (fun H2 s2 hkn => ?_)
  ·have hi : i < os.length := by rw [<- qZ_]; exact (List.getElem?_eq_some_iff.mp hu).1
   rw [jg_ (j9_ hi)] at hu
   cases Option.some.inj hu
   refine ⟨_, rfl, rfl, ?_⟩
   rw [qco_]
   exact hR _ (Same.refl _)
  rw [qZ_, qjm_] at hkn
  exact q kn H2 s2 nkn hkn
def qgm_ (K : PySem.W.Frag) (a : Adr) : Sp := fun vs H Q _ => ∃ (H0 : Hp) (R : AskR) (so : Addr) (r w n M N : Nat) (l : Nat -> Nat -> Nat) (cs srow os : List (Option Nat)) (as rs : List Nat), vs = [.ref R.A, .ref so] /\ AskI a H0 R r w n M N l cs srow /\ AskM a H0 H R (N + M) os as /\ SqL K H so (rowV rs) /\ (∀ k ∈ rs, k < N + M) /\ ∀ H', Same H H' -> Q (.bl (rs.all (fx r w M N l (knO os)))) H'
theorem vU_ (T : Txt K mg a) : FnOk P wo K mg base CX0 10 a.f_Asking_fixes a.d_Asking_fixes ["self", "some"] (qgm_ K a) := by
 have G_Asking_known : FnOk P wo K mg base CX0 9 _ _ _ _ := (zh_ T).mono (by decide)
 have G_fixes_all : FnOk P wo K mg base CX0 9 _ _ _ _ := zS_ T
 refine T.F_Asking_fixes.ok (k := 9) vR_ (fun vs H Q E h => ?_) (fun cdv A outer s H vs Q E hr h => ?_)
 ·obtain ⟨H0, R, so, r, w, n, M, N, l, cs, srow, os, as, rs, rfl, _⟩ := h
  rfl
 ·obtain ⟨H0, R, so, r, w, n, M, N, l, cs, srow, os, as, rs, rfl, I, J, hso, hrs, q⟩ := h
  obtain ⟨dx, hA⟩ := I.obj
  refine ⟨_, (qg_ (qq_ (qx_ G_fixes_all (hr.mono (by decide)) rfl T.m_fixes_all T.k_fixes_all T.b_fixes_all .nil qo_ (qa_ (qA_ (pv 0) rfl) (qa_ (zs_ (pv 0) T.cl_Asking T.me_Asking_known G_Asking_known (hr.mono (by decide)) T.b_Asking_known .nil qo_) (qa_ (pv 1) qf_)))))), ?_⟩
  refine ⟨_, rfl, R.A, _, _, _, _, rfl, J.sm _ _ hA, T.cl_Asking, T.no_Asking_code, z7_ _ _ _ _ _, _, rfl, R.A, dx, _, rfl, J.sm _ _ hA, rfl, H0, R, r, w, n, M, N, l, cs, srow, os, as, rfl, I, J, fun D H1 s1 nD hD => ?_⟩
  exact ⟨_, rfl, R.c, R.bp, R.fp, D, so, r, w, n, M, N, l, knO os, rs, rfl, I.code.same (J.sm.trans s1), I.full, I.W, hD, by rw [jL_, J.osl], s1.seq hso, hrs, fun H' s' => q H' (s1.trans s')⟩
def qe4_ (K : PySem.W.Frag) (a : Adr) : Sp := fun vs H Q _ => ∃ (H0 : Hp) (R : AskR) (so : Addr) (r w n M N : Nat) (l : Nat -> Nat -> Nat) (cs srow os : List (Option Nat)) (as rs : List Nat), vs = [.ref R.A, .ref so] /\ AskI a H0 R r w n M N l cs srow /\ AskM a H0 H R (N + M) os as /\ SqL K H so (rowV rs) /\ rs.length <= 8 /\ (∀ k ∈ rs, k < N + M /\ (cs.getD k none).isSome = true /\ (cs.getD k none).getD 0 <= 1000000) /\ ∀ H', Same H H' -> Q (.int (((rs.map fun k => (((cs.getD k none).getD 0 : Nat) : Int)).sum : Int))) H'
theorem zV_ (T : Txt K mg a) : FnOk P wo K mg base CX0 1 a.f_Asking_cost_sum a.d_Asking_cost_sum ["self", "some"] (qe4_ K a) := by
 refine T.F_Asking_cost_sum.ok (k := 0) zM_ (fun vs H Q E h => ?_) (fun cdv A outer s H vs Q E hr h => ?_)
 ·obtain ⟨H0, R, so, r, w, n, M, N, l, cs, srow, os, as, rs, rfl, _⟩ := h
  rfl
 ·obtain ⟨H0, R, so, r, w, n, M, N, l, cs, srow, os, as, rs, rfl, I, J, hso, hrl, hrs, q⟩ := h
  obtain ⟨dx, hA⟩ := I.obj
  refine ⟨_, (qg_ (qq_ (qw_ (uH_ rfl) rfl T.n_sum PyProof.Rows.Boot.sum (qa_ (jH_ (CompOk.of (cap := [0]) (own := ["role"]) (by kernel_rfl)) rfl (jp_ (pv 1)) (fun _ _ _ _ _ => (qs_ (i := 1) (of_decide_eq_true (by kernel_rfl)) rfl (Or.inl rfl))) (fun _ _ _ _ _ => jG_) (fun _ _ _ _ _ => by exact (qD_ (yF_ (K := K) rfl) (v6_ (K := K) rfl (pv 0) rfl) (pv 1) (fun _ _ => rfl)))) qf_)))), ?_⟩
  refine ⟨_, rfl, so, rfl, ⟨_, hso⟩, fun D nD => ?_⟩
  refine yd_ (xs := rowV rs) (f := fun i => .int (((cs.getD (rs.getD i 0) none).getD 0 : Nat) : Int)) (cs := [some (.ref R.A)]) hso nD rfl (by rw [ql_]; exact Nat.le_trans hrl (by decide)) (fun i u H2 R2 hu s2 hR => ?_) (fun H2 s2 hD => ?_)
  ·obtain ⟨k, ek, rfl⟩ := jq_ hu
   obtain ⟨h1, h2, h3⟩ := hrs k (List.mem_of_getElem? ek)
   have eg : rs.getD i 0 = k := by rw [List.getD_eq_getElem?_getD, ek]; rfl
   rw [eg] at hR
   have ev : valO (cs.getD k none) = .int (((cs.getD k none).getD 0 : Nat) : Int) := by
    cases hz : cs.getD k none with
    | none => rw [hz] at h2; cases h2
    | some b => rfl
   have gi := qy_ (jg_ (j9_ (os := cs) (k := k) (by rw [I.csl]; exact h1)))
   rw [ev] at gi
   exact ⟨_, rfl, R.A, _, _, _, _, rfl, s2 _ _ (J.sm _ _ hA), T.cl_Asking, T.no_Asking_costs, zz_ _ _ _ _ _, _, rfl, R.cl, _, _, _, rfl, rfl, SqL.of (s2 _ _ (J.sm _ _ I.cost)), gi, hR _ (Same.refl _)⟩
  rw [ql_] at hD
  have ex : ((List.range rs.length).map fun i => V.int (((cs.getD (rs.getD i 0) none).getD 0 : Nat) : Int)) = (rs.map fun k => (((cs.getD k none).getD 0 : Nat) : Int)).map V.int := by
   rw [List.map_map]
   apply List.ext_getElem?
   intro i
   rw [List.getElem?_map, List.getElem?_map]
   by_cases hi : i < rs.length
   ·rw [List.getElem?_range hi, List.getElem?_eq_getElem hi]
    have eg : rs.getD i 0 = rs[i] := by rw [List.getD_eq_getElem?_getD, List.getElem?_eq_getElem hi]; rfl
    dsimp only [Option.map]
    rw [eg]
    rfl
   ·rw [List.getElem?_eq_none (by rw [List.length_range]; omega), List.getElem?_eq_none (by omega)]
    rfl
  rw [ex] at hD
  refine ⟨D, _, rfl, SqL.of hD, by rw [List.length_map]; omega, fun y hy => ?_, q H2 s2⟩
  obtain ⟨k, hk, rfl⟩ := List.mem_map.mp hy
  have := (hrs k hk).2.2
  omega
def qe5_ (a : Adr) : Sp := fun vs H Q _ => ∃ (H0 : Hp) (R : AskR) (r w n M N k : Nat) (l : Nat -> Nat -> Nat) (cs srow os : List (Option Nat)) (as X : List Nat), vs = [.ref R.A, .int k] /\ AskI a H0 R r w n M N l cs srow /\ AskM a H0 H R (N + M) os as /\ k < N + M /\ X.length = N + M /\ (∀ b ∈ X, b < (2 ^ w) ^ n) /\ isMk r w n M N l X = true /\ j2_ (N + M) os X /\ ∀ H', Same H H' -> Q (if fx r w M N l (knO os) k = true then .int ((X.getD k 0 : Nat) : Int) else .non) H'
theorem zW_ (T : Txt K mg a) : FnOk P wo K mg base CX0 9 a.f_Asking_block_of a.d_Asking_block_of ["self", "role"] (qe5_ a) := by
 have G_Code_reckoned : FnOk P wo K mg base CX0 8 _ _ _ _ := vw_ T
 refine T.F_Asking_block_of.ok (k := 8) zN_ (fun vs H Q E h => ?_) (fun cdv A outer s H vs Q E hr h => ?_)
 ·obtain ⟨H0, R, r, w, n, M, N, k, l, cs, srow, os, as, X, rfl, _⟩ := h
  rfl
 ·obtain ⟨H0, R, r, w, n, M, N, k, l, cs, srow, os, as, X, rfl, I, J, hk, hX, hlt, hm, hag, q⟩ := h
  obtain ⟨dx, hA⟩ := I.obj
  have hC := I.code.same J.sm
  obtain ⟨dc, Lp, qs, hc, _, _⟩ := id hC.ins
  refine ⟨_, (qg_ (qq_ (qE_ (by exact (qA_ (pv 0) rfl)) T.cl_Code T.me_Code_reckoned G_Code_reckoned (hr.mono (by decide)) T.b_Code_reckoned .nil qo_ (qa_ (qA_ (pv 0) rfl) (qa_ (pv 1) qf_))))), ?_⟩
  refine ⟨_, rfl, R.A, _, _, _, _, rfl, J.sm _ _ hA, T.cl_Asking, T.no_Asking_code, z7_ _ _ _ _ _, R.c, dc, _, rfl, hc, rfl, _, rfl, R.A, _, _, _, _, rfl, J.sm _ _ hA, T.cl_Asking, T.no_Asking_row, zT_ _ _ _ _ _, _, rfl, ?_⟩
  refine ⟨R.c, R.bp, R.fp, R.rl, r, w, n, M, N, k, l, os, rfl, hC, I.full, I.n16, I.W, J.hr, J.osl, hk, fun b hb => ?_, fun hz H' s' => ⟨fun by' hr' => ?_, fun mk hf => ?_⟩⟩
  ·have e : fx r w M N l (knO os) k = true := by
    unfold fx
    rw [List.getD_eq_getElem?_getD, qa5_ (by rw [J.osl]; exact hk) hb]
    rfl
   have := q H (Same.refl _)
   rw [e, if_pos rfl, hag k hk b hb] at this
   exact this
  ·have kz := zx_ (by rw [J.osl]; exact hk) hz
   have kg : (knO os).getD k false = false := by rw [List.getD_eq_getElem?_getD, kz]; rfl
   have e : fx r w M N l (knO os) k = true := by
    unfold fx
    rw [uC_ I.full I.W (by rw [jL_, J.osl]) hk kg hr', Bool.or_true]
   have := q H' s'
   rw [e, if_pos rfl, ← tells_make I.full.toGood I.W J.osl hX hlt hk hz hm hag hr'] at this
   exact this
  ·have kz := zx_ (by rw [J.osl]; exact hk) hz
   have kg : (knO os).getD k false = false := by rw [List.getD_eq_getElem?_getD, kz]; rfl
   have e : fx r w M N l (knO os) k = false := by
    unfold fx
    rw [uD_ I.full I.W (by rw [jL_, J.osl]) hk kg hf, kg]
    rfl
   have := q H' s'
   rw [e, if_neg (by decide)] at this
   exact this
def jo_ (cs srow : List (Option Nat)) : List Nat -> List (Option Nat) -> List Nat -> List (Option Nat) × List Nat
 | [], os, as => (os, as)
 | k :: ks, os, as => if ((tk cs srow os as k).1.getD k none).isSome = true then jo_ cs srow ks (tk cs srow os as k).1 (tk cs srow os as k).2 else tk cs srow os as k
def qic_ (K : PySem.W.Frag) (a : Adr) : Sp := fun vs H Q _ => ∃ (H0 : Hp) (R : AskR) (so : Addr) (r w n M N : Nat) (l : Nat -> Nat -> Nat) (cs srow os : List (Option Nat)) (as rs : List Nat), vs = [.ref R.A, .ref so] /\ AskI a H0 R r w n M N l cs srow /\ AskM a H0 H R (N + M) os as /\ SqL K H0 so (rowV rs) /\ (∀ k ∈ rs, k < N + M) /\ ∀ H', AskM a H0 H' R (N + M) (jo_ cs srow rs os as).1 (jo_ cs srow rs os as).2 -> Q .non H'
theorem zA_ (T : Txt K mg a) : FnOk P wo K mg base CX0 3 a.f_Asking_take_along a.d_Asking_take_along ["self", "some"] (qic_ K a) := by
 have G_Asking_take : FnOk P wo K mg base CX0 2 _ _ _ _ := zp_ T
 refine T.F_Asking_take_along.ok (k := 2) sc_Asking_take_along (fun vs H Q E h => ?_) (fun cdv A outer s H vs Q E hr h => ?_)
 ·obtain ⟨H0, R, so, r, w, n, M, N, l, cs, srow, os, as, rs, rfl, _⟩ := h
  rfl
 ·obtain ⟨H0, R, so, r, w, n, M, N, l, cs, srow, os, as, rs, rfl, I, J, hso, hrs, q⟩ := h
  obtain ⟨dx, hA⟩ := I.obj
  refine ⟨_, (qg_ (qY_ PassesOwn.never rfl (jp_ (pv 1)) (qs_ (i := 2) sc_Asking_take_along.nd rfl (Or.inl rfl)) (qg_ (qH_ (qp_ vA_ (qE_ (pv 0) T.cl_Asking T.me_Asking_take G_Asking_take (hr.mono (by decide)) T.b_Asking_take .nil qo_ (qa_ (pv 2) qf_)) jr_ (qr_ _)) (qg_ qfg_) qB_)))), ?_⟩
  refine ⟨_, rfl, so, rfl, ⟨_, J.sm.seq hso⟩, ?_⟩
  refine j4_ (xs := rowV rs) (fun i σ H' => (∃ v2 : Option V, σ = [some (.ref R.A), some (.ref so), v2]) /\ ∃ os' as', AskM a H0 H' R (N + M) os' as' /\ jo_ cs srow rs os as = jo_ cs srow (rs.drop i) os' as') ⟨⟨none, rfl⟩, os, as, J, rfl⟩ ?_ ?_ ?_
  ·rintro i σ H' _ ⟨_, _, _, J', _⟩
   exact J'.sm.seq hso
  ·rintro i x σ H' hx ⟨⟨v2, rfl⟩, os', as', J', e'⟩
   obtain ⟨k, ek, rfl⟩ := jq_ hx
   have hk := hrs k (List.mem_of_getElem? ek)
   have hi := (List.getElem?_eq_some_iff.mp ek).1
   have ed : rs.drop i = k :: rs.drop (i + 1) := by
    rw [List.drop_eq_getElem_cons hi, (List.getElem?_eq_some_iff.mp ek).2]
   refine ⟨_, rfl, R.A, dx, _, rfl, J'.sm _ _ hA, rfl, _, rfl, H0, R, r, w, n, M, N, k, l, cs, srow, os', as', rfl, I, J', hk, fun H2 J2 => ?_⟩
   refine ⟨rfl, _, rfl, ?_⟩
   rw [ed] at e'
   have e2 : jo_ cs srow (k :: rs.drop (i + 1)) os' as' = if ((tk cs srow os' as' k).1.getD k none).isSome = true then jo_ cs srow (rs.drop (i + 1)) (tk cs srow os' as' k).1 (tk cs srow os' as' k).2 else tk cs srow os' as' k := rfl
   rw [e2] at e'
   cases hz : (tk cs srow os' as' k).1.getD k none with
   | none =>
    refine ite2 (fun _ => ?_) (fun y => absurd rfl y)
    rw [hz, if_neg (by decide)] at e'
    rw [e'] at q
    exact q H2 J2
   | some b =>
    refine ite2 (fun y => absurd (of_decide_eq_true y) (fun z => by cases z)) (fun _ => ?_)
    rw [hz, if_pos (show (some b).isSome = true from rfl)] at e'
    exact ⟨⟨_, rfl⟩, _, _, J2, e'⟩
  ·rintro σ H' ⟨⟨v2, rfl⟩, os', as', J', e'⟩
   rw [ql_, List.drop_length] at e'
   rw [e'] at q
   exact q H' J'
end
def ckO (cs : List (Option Nat)) (k : Nat) : Int := (((cs.getD k none).getD 0 : Nat) : Int)
section
variable {P : Program} {wo : World} {K : PySem.W.Frag} {mg : Str -> Option Value} {base : Heap} {a : Adr}
def qid_ (a : Adr) : Sp := fun vs H Q _ => ∃ (H0 : Hp) (R : AskR) (r w n M N : Nat) (l : Nat -> Nat -> Nat) (cs srow os : List (Option Nat)) (as : List Nat), vs = [.ref R.A] /\ AskI a H0 R r w n M N l cs srow /\ AskM a H0 H R (N + M) os as ∧
 ∀ D H' ms, AskM a H0 H' R (N + M) os as -> (∀ b o, b ≠ a.t_Asking_order -> H b = some o -> H' b = some o) -> H D = none -> H' D = some (.lst (rowV ms)) -> ms.Perm ((List.range (N + M)).filter (mayB cs as)) -> ms.Pairwise (klt (ckO cs)) -> Q (.ref D) H'
theorem vV_ (T : Txt K mg a) (B : Tb base mg a) : FnOk P wo K mg base CX0 5 a.f_Asking_order a.d_Asking_order ["self"] (qid_ a) := by
 have G_Asking_may : FnOk P wo K mg base CX0 4 _ _ _ _ := (yV_ T).mono (by decide)
 refine T.F_Asking_order.ok (k := 4) sc_Asking_order (fun vs H Q E h => ?_) (fun A outer s H vs Q E hr h => ?_)
 ·obtain ⟨H0, R, r, w, n, M, N, l, cs, srow, os, as, rfl, _⟩ := h
  rfl
 ·obtain ⟨H0, R, r, w, n, M, N, l, cs, srow, os, as, rfl, I, J, q⟩ := h
  obtain ⟨dx, hA⟩ := I.obj
  have n8 := I.W.n8
  have hC := I.code.same J.sm
  obtain ⟨dc, Lp, qs, hc, _, _⟩ := id hC.ins
  refine ⟨_, (qc_ (v4_ (i := 1) sc_Asking_order.nd rfl (Or.inl rfl) (CompOk.of (cap := [0]) (own := ["role"]) (by kernel_rfl)) rfl (jz_ rfl T.n_range (qa_ (qA_ (qA_ (pv 0) rfl) rfl) qf_)) (fun _ _ _ _ _ => (qs_ (i := 1) (of_decide_eq_true (by kernel_rfl)) rfl (Or.inl rfl))) (fun _ _ _ _ _ => (v3_ (j3_ (qE_ (pv 0) T.cl_Asking T.me_Asking_may G_Asking_may (hr.mono (by decide)) T.b_Asking_may .nil qo_ (qa_ (pv 1) qf_))))) (fun _ _ _ _ _ => by exact (pv 1)))
   (qg_ (qq_ (qf5_ (k := 0) (p := "role") (y := "self") (j := 0) (T.F_Asking_order.tab B.b_Asking_order B.n_Asking_order) rfl (hr.mono (by decide)) rfl T.n_sorted (pv 1) ⟨rfl, rfl, rfl, by decide +kernel, rfl, by decide +kernel, by decide +kernel⟩ rfl (by decide +kernel) rfl rfl rfl rfl (fun _ _ _ _ => rfl) (fun _ _ _ _ _ _ hr => (vE_ (qa_ (qD_ (yF_ (K := K) rfl) (v6_ (K := K) rfl (pv 1) rfl) (pv 0) (fun _ _ => rfl)) (qa_ (pv 0) qf_)))))))), ?_⟩
  refine ⟨_, rfl, R.A, _, _, _, _, rfl, J.sm _ _ hA, T.cl_Asking, T.no_Asking_code, z7_ _ _ _ _ _, R.c, _, _, _, _, rfl, hc, T.cl_Code, T.no_Code_roles, zd_ R.bp M N Lp, _, rfl, by omega, by omega, fun fl nfl => ?_⟩
  rw [Int.toNat_natCast]
  refine ve_ (n := N + M) (f := fun k => .int ((k : Nat) : Int)) (b := mayB cs as) (cs := [some (.ref R.A)]) nfl rfl (Nat.le_trans n8 (by decide)) (fun k H2 R2 hk s2 hR => ?_) (fun k H2 R2 hk hb s2 hR => ?_) (fun H2 s2 hfl => ?_)
  ·refine ⟨_, rfl, R.A, dx, _, rfl, s2 _ _ (J.sm _ _ hA), rfl, _, rfl, H0, R, r, w, n, M, N, k, l, cs, srow, os, as, rfl, I, J.same s2, hk, ?_⟩
   exact ⟨_, rfl, hR _ (Same.refl _)⟩
  ·exact ⟨_, rfl, hR _ (Same.refl _)⟩
  have J2 := J.same s2
  have hfl' : H2 fl = some (.lst (rowV ((List.range (N + M)).filter (mayB cs as)))) := hfl
  refine ⟨_, rfl, ?_⟩
  refine qe0_ (q := qL) (pos := posL) J2.tab fun H3 c' fa doc pm ctv k3 t3 n3 hf3 hc3 fr3 => ?_
  have ht : ∀ {b : Addr} {xs : List V}, H2 b = some (.lst xs) -> b ≠ a.t_Asking_order := fun {b xs} e => by
   obtain ⟨ps, hp, _⟩ := J2.tab
   exact yL_ e hp (fun y => by cases y)
  have h0 : ∀ {b : Addr} {o : HO}, H0 b = some o -> b ≠ a.t_Asking_order := fun {b o} e => qk_ e I.nt
  have J3 : AskM a H0 H3 R (N + M) os as := ⟨fun b o e => k3 b o (h0 e) (J2.sm b o e), k3 _ _ (ht J2.hr) J2.hr, k3 _ _ (ht J2.hs) J2.hs, k3 _ _ (ht J2.hz) J2.hz, t3, J2.osl, J2.nd, J2.lt⟩
  refine ⟨fl, (List.range (N + M)).filter (mayB cs as), ckO cs, 8, .ref R.A, rfl, SqL.of (k3 _ _ (ht hfl') hfl'), List.Pairwise.filter _ List.nodup_range, fun k hk => ?_, ?_, rfl, fun k H' hk sm => ?_, fun D H' ms n1 n2 sm pm pw => ?_⟩
  ·have := List.mem_range.mp (List.mem_filter.mp hk).1
   omega
  ·have := List.length_filter_le (mayB cs as) (List.range (N + M))
   rw [List.length_range] at this
   omega
  ·have hk1 := List.mem_range.mp (List.mem_filter.mp hk).1
   have hk2 := (List.mem_filter.mp hk).2
   have J' := J3.same sm
   have ev : valO (cs.getD k none) = .int (ckO cs k) := by
    unfold mayB at hk2
    unfold ckO
    cases hz : cs.getD k none with
    | none => rw [hz] at hk2; cases hk2
    | some b => rfl
   have gi := qy_ (jg_ (j9_ (os := cs) (k := k) (by rw [I.csl]; exact hk1)))
   rw [ev] at gi
   exact ⟨_, rfl, R.A, _, _, _, _, rfl, J'.sm _ _ hA, T.cl_Asking, T.no_Asking_costs, zz_ _ _ _ _ _, _, rfl, R.cl, _, _, _, rfl, rfl, SqL.of (J'.sm _ _ I.cost), gi, _, rfl, (by show 2 <= sizeLine; decide), fun p np => ⟨p, rfl, qd_, Same.new np⟩⟩
  ·have s4 : Same H3 (upd H' D (.lst (jW_ ms))) := sm.up n1
   refine q D _ ms (J3.same s4) (fun b o hb e => s4 b o (k3 b o hb (s2 b o e))) ?_ qd_ pm pw
   exact s2.free (fr3 D n1)
end
def knW (ks : List Bool) : List Nat -> List Bool
 | [] => ks
 | k :: way => knW (ks.set k true) way
theorem qgn_ (ks : List Bool) (k : Nat) : ∀ way, knW ks (way ++ [k]) = (knW ks way).set k true := fun way => by
 induction way generalizing ks with
 | nil => rfl
 | cons x way ih => exact ih _
theorem yD_ (ks : List Bool) : ∀ way, (knW ks way).length = ks.length := fun way => by
 induction way generalizing ks with
 | nil => rfl
 | cons x way ih =>
  show (knW (ks.set x true) way).length = _
  rw [ih, List.length_set]
theorem qie_ (ks : List Bool) (k : Nat) : (knV ks).set k (.bl true) = knV (ks.set k true) := by
 unfold knV
 rw [List.map_set]
theorem zX_ {ms : List Nat} {j k : Nat} (h : ms[j]? = some k) : ms.take (j + 1) = ms.take j ++ [k] := by
 rw [List.take_add_one, h]
 rfl
def zB_ (r w M N : Nat) (l : Nat -> Nat -> Nat) (ks : List Bool) (rs ms : List Nat) (j : Nat) : Prop :=
 j <= ms.length /\ rs.all (fx r w M N l (knW ks (ms.take j))) = true /\ ∀ i, i < j -> rs.all (fx r w M N l (knW ks (ms.take i))) = false
def qa8_ (r w M N : Nat) (l : Nat -> Nat -> Nat) (ks : List Bool) (rs ms : List Nat) : Prop := ∀ i, i <= ms.length -> rs.all (fx r w M N l (knW ks (ms.take i))) = false
section
variable {P : Program} {wo : World} {K : PySem.W.Frag} {mg : Str -> Option Value} {base : Heap} {a : Adr}
def qgo_ (a : Adr) : Sp := fun vs H Q _ => ∃ (H0 : Hp) (R : AskR) (so : Addr) (r w n M N : Nat) (l : Nat -> Nat -> Nat) (cs srow os : List (Option Nat)) (as rs : List Nat), vs = [.ref R.A, .ref so] /\ AskI a H0 R r w n M N l cs srow /\ AskM a H0 H R (N + M) os as /\ H so = some (.lst (rowV rs)) /\ (∀ k ∈ rs, k < N + M) ∧
 ∀ H' ms, AskM a H0 H' R (N + M) os as -> (∀ b o, b ≠ a.t_Asking_order -> H b = some o -> H' b = some o) -> ms.Perm ((List.range (N + M)).filter (mayB cs as)) -> ms.Pairwise (klt (ckO cs)) →
  (∀ D j, zB_ r w M N l (knO os) rs ms j -> H D = none -> H' D = some (.lst (rowV (ms.take j))) -> Q (.ref D) H') /\ (qa8_ r w M N l (knO os) rs ms -> Q .non H')
theorem vy_ (T : Txt K mg a) (B : Tb base mg a) : FnOk P wo K mg base CX0 10 a.f_Asking_detour a.d_Asking_detour ["self", "some"] (qgo_ a) := by
 have G_Asking_order : FnOk P wo K mg base CX0 9 _ _ _ _ := (vV_ T B).mono (by decide)
 have G_Asking_known : FnOk P wo K mg base CX0 9 _ _ _ _ := (zh_ T).mono (by decide)
 have G_fixes_all : FnOk P wo K mg base CX0 9 _ _ _ _ := zS_ T
 refine T.F_Asking_detour.ok (k := 9) sc_Asking_detour (fun vs H Q E h => ?_) (fun cdv A outer s H vs Q E hr h => ?_)
 ·obtain ⟨H0, R, so, r, w, n, M, N, l, cs, srow, os, as, rs, rfl, _⟩ := h
  rfl
 ·obtain ⟨H0, R, so, r, w, n, M, N, l, cs, srow, os, as, rs, rfl, I, J, hso, hrs, q⟩ := h
  obtain ⟨dx, hA⟩ := I.obj
  have n8 := I.W.n8
  have hst : so ≠ a.t_Asking_order := by
   obtain ⟨ps, hp, _⟩ := J.tab
   exact yL_ hso hp (fun y => by cases y)
  refine ⟨_, (qc_ (qm_ (i := 2) sc_Asking_detour.nd rfl (Or.inl rfl) (zs_ (pv 0) T.cl_Asking T.me_Asking_order G_Asking_order (hr.mono (by decide)) T.b_Asking_order .nil qo_))
   (qc_ (qm_ (i := 3) sc_Asking_detour.nd rfl (Or.inl rfl) (zs_ (pv 0) T.cl_Asking T.me_Asking_known G_Asking_known (hr.mono (by decide)) T.b_Asking_known .nil qo_))
   (qc_ (qm_ (i := 4) sc_Asking_detour.nd rfl (Or.inl rfl) (jB_ qf_))
   (qc_ (yo_ PassesOwn.never (zl_ (j3_ (qx_ G_fixes_all (hr.mono (by decide)) rfl T.m_fixes_all T.k_fixes_all T.b_fixes_all .nil qo_ (qa_ (qA_ (pv 0) rfl) (qa_ (pv 3) (qa_ (pv 1) qf_)))))) (qc_ (qH_ (qp_ j1_ (qw_ qt_ rfl T.n_len PySem.boot_len (qa_ (pv 4) qf_)) (qw_ qt_ rfl T.n_len PySem.boot_len (qa_ (pv 2) qf_)) (qr_ _)) (qg_ (qq_ jr_)) qB_)
   (qc_ (qm_ (i := 5) sc_Asking_detour.nd rfl (Or.inl rfl) (qD_ qz_ (pv 2) (qw_ qt_ rfl T.n_len PySem.boot_len (qa_ (pv 4) qf_)) (fun _ _ => rfl)))
   (qc_ (yQ_ zr_ (y7_ (pv 3) (pv 5) yp_))
   (qg_ (q4_ (yc_ PySem.F.plainAttrs_list PySem.F.slot_list_append PySem.F.type_list_append jf_ (pv 4) (qa_ (pv 5) qf_))))))))
   (qg_ (qq_ (pv 4))))))), ?_⟩
  refine ⟨_, rfl, R.A, dx, _, rfl, J.sm _ _ hA, rfl, H0, R, r, w, n, M, N, l, cs, srow, os, as, rfl, I, J, fun D1 H1 ms J1 k1 nD1 hD1 pm pw => ?_⟩
  have q := fun H' (s : Same H1 H') => q H' ms (J1.same s) (fun b o hb e => s b o (k1 b o hb e)) pm pw
  have hso1 := k1 _ _ hst hso
  have ml : ms.length <= 8 := by
   rw [pm.length_eq]
   have := List.length_filter_le (mayB cs as) (List.range (N + M))
   rw [List.length_range] at this
   omega
  have mlt : ∀ k ∈ ms, k < N + M := fun k hk => List.mem_range.mp (List.mem_filter.mp (pm.mem_iff.mp hk)).1
  refine ⟨_, rfl, R.A, dx, _, rfl, J1.sm _ _ hA, rfl, H0, R, r, w, n, M, N, l, cs, srow, os, as, rfl, I, J1, fun D2 H2 s2 nD2 hD2 => ?_⟩
  refine ⟨Nat.zero_le _, fun D3 nD3 => ?_⟩
  have d23 : D2 ≠ D3 := qk_ hD2 nD3
  have nD3' : H1 D3 = none := s2.free nD3
  have frD : ∀ D, H1 D = none -> H D = none := fun D e => by
   cases z : H D with
   | none => rfl
   | some o =>
    by_cases y : D = a.t_Asking_order
    ·obtain ⟨ps, hp, _⟩ := J1.tab
     rw [y, hp] at e; cases e
    ·rw [k1 D o y z] at e; cases e
  have hD3 : (upd H2 D3 (.lst [])) D3 = some (.lst (rowV (ms.take 0))) := qd_
  have hD2' : (upd H2 D3 (.lst [])) D2 = some (.lst (knV (knW (knO os) (ms.take 0)))) := by rw [qe_ d23]; exact hD2
  have s3 : Same H1 (upd H2 D3 (.lst [])) := s2.up nD3'
  generalize (upd H2 D3 (.lst [])) = H3 at hD3 hD2' s3
  refine ⟨fun m σ H' => ∃ (j : Nat) (v5 : Option V), m = ms.length - j /\ j <= ms.length /\ σ = [some (.ref R.A), some (.ref so), some (.ref D1), some (.ref D2), some (.ref D3), v5] /\ Same H1 H' /\ H' D2 = some (.lst (knV (knW (knO os) (ms.take j)))) /\ H' D3 = some (.lst (rowV (ms.take j))) /\ ∀ i, i < j -> rs.all (fx r w M N l (knW (knO os) (ms.take i))) = false,
   ⟨_, 0, none, rfl, Nat.zero_le _, rfl, s3, hD2', hD3, fun i hi => absurd hi (Nat.not_lt_zero i)⟩, ?_⟩
  rintro m σ H' ⟨j, v5, rfl, hj, rfl, sm, h2, h3, hno⟩
  have J' := J1.same sm
  refine ⟨_, rfl, R.A, _, _, _, _, rfl, J'.sm _ _ hA, T.cl_Asking, T.no_Asking_code, z7_ _ _ _ _ _, _, rfl, _, rfl, ?_⟩
  refine ⟨R.c, R.bp, R.fp, D2, so, r, w, n, M, N, l, knW (knO os) (ms.take j), rs, rfl, I.code.same J'.sm, I.full, I.W, h2, by rw [yD_, jL_, J.osl], SqL.of (sm _ _ hso1), hrs, fun H4 s4 => ?_⟩
  refine ⟨_, rfl, ?_⟩
  have sm4 := sm.trans s4
  cases hz : rs.all (fx r w M N l (knW (knO os) (ms.take j))) with
  | true =>
   refine ite2 (fun y => absurd y (by decide)) (fun _ => ?_)
   exact ⟨_, rfl, (q H4 sm4).1 D3 j ⟨hj, hz, hno⟩ (frD D3 nD3') (s4 _ _ h3)⟩
  | false =>
   refine ite2 (fun _ => ⟨_, fun _ _ z => z, ?_⟩) (fun y => absurd rfl y)
   refine ⟨_, rfl, D3, _, rfl, .inl (SqL.of (s4 _ _ h3)), _, rfl, D1, _, rfl, .inl (SqL.of (sm4 _ _ hD1)), rfl, _, rfl, ?_⟩
   have e1 : (rowV (ms.take j)).length = j := by rw [ql_, List.length_take]; omega
   rw [e1, ql_]
   by_cases hjm : j = ms.length
   ·refine ite2 (fun _ => ?_) (fun y => absurd (decide_eq_true (by rw [hjm])) y)
    refine (q H4 sm4).2 fun i hi => ?_
    by_cases y : i = j
    ·rw [y]; exact hz
    ·exact hno i (by omega)
   ·refine ite2 (fun y => absurd (V.int.inj (of_decide_eq_true y)) (by omega)) (fun _ => ?_)
    have hjl : j < ms.length := by omega
    have gk : ms[j]? = some ms[j] := List.getElem?_eq_getElem hjl
    have hk := mlt _ (List.getElem_mem hjl)
    have ek : (rowV ms)[j]? = some (.int (ms[j] : Nat)) := qaw_ hjl
    refine ⟨_, rfl, _, rfl, D3, _, rfl, .inl (SqL.of (s4 _ _ h3)), ?_⟩
    rw [e1]
    refine ⟨D1, _, _, _, rfl, rfl, SqL.of (sm4 _ _ hD1), qy_ ek, ?_⟩
    refine ⟨_, rfl, _, rfl, D2, _, _, ms[j], rfl, rfl, s4 _ _ h2, yJ_ (by unfold knV; rw [List.length_map, yD_, jL_, J.osl]; exact hk), ?_⟩
    rw [qie_, ← qgn_, ← zX_ gk]
    have h3' : (upd H4 D2 (.lst (knV (knW (knO os) (ms.take (j + 1)))))) D3 = some (.lst (rowV (ms.take j))) := by
     rw [qe_ (Ne.symm d23)]
     exact s4 _ _ h3
    have fits : (rowV (ms.take j)).length < sizeLine := by
     rw [e1]
     exact Nat.lt_of_lt_of_le (by omega : j < 8) (by decide)
    refine ⟨_, rfl, .inl ⟨rfl, _, SqL.of h3'⟩, _, rfl, D3, _, _, rfl, rfl, h3', fits, ?_⟩
    rw [jU_, ← zX_ gk]
    refine ⟨ms.length - (j + 1), by omega, j + 1, _, rfl, hjl, rfl, (sm4.up nD2).up nD3', ?_, qd_, fun i hi => ?_⟩
    ·rw [qe_ d23]; exact qd_
    ·by_cases y : i = j
     ·rw [y]; exact hz
     ·exact hno i (by omega)
end
theorem AskI.ext {a : Adr} {H0 : Hp} {R : AskR} {r w n M N : Nat} {l : Nat -> Nat -> Nat} {cs srow : List (Option Nat)} {D : Addr} {o : HO} (I : AskI a H0 R r w n M N l cs srow) (nD : H0 D = none) (h1 : R.rl ≠ D) (h2 : R.sl ≠ D) (h3 : R.z ≠ D) (h4 : a.t_Asking_order ≠ D) : AskI a (upd H0 D o) R r w n M N l cs srow := by
 have s := Same.new (o := o) nD
 obtain ⟨dx, hA⟩ := I.obj
 exact ⟨I.code.same s, I.full, I.n16, I.W, ⟨dx, s _ _ hA⟩, s _ _ I.cost, I.csl, I.asker.same s, s _ _ I.row, I.srl, by rw [qe_ h1]; exact I.nrl, by rw [qe_ h2]; exact I.nsl, by rw [qe_ h3]; exact I.nz, by rw [qe_ h4]; exact I.nt, I.d1, I.d2, I.d3⟩
theorem AskM.ext {a : Adr} {H0 H : Hp} {R : AskR} {n : Nat} {os : List (Option Nat)} {as : List Nat} {D : Addr} {o : HO} (J : AskM a H0 H R n os as) (hD : H D = some o) : AskM a (upd H0 D o) H R n os as :=
 ⟨fun b u e => by
  by_cases z : b = D
  ·rw [z, qd_] at e
   cases e
   rw [z]; exact hD
  ·rw [qe_ z] at e
   exact J.sm b u e, J.hr, J.hs, J.hz, J.tab, J.osl, J.nd, J.lt⟩
theorem AskM.base {a : Adr} {H0 H0' H : Hp} {R : AskR} {n : Nat} {os : List (Option Nat)} {as : List Nat} (J : AskM a H0' H R n os as) (s : Same H0 H0') : AskM a H0 H R n os as := ⟨s.trans J.sm, J.hr, J.hs, J.hz, J.tab, J.osl, J.nd, J.lt⟩
theorem AskM.away {a : Adr} {H0 H : Hp} {R : AskR} {n : Nat} {os : List (Option Nat)} {as : List Nat} {D : Addr} (J : AskM a H0 H R n os as) (nD : H D = none) : R.rl ≠ D /\ R.sl ≠ D /\ R.z ≠ D /\ a.t_Asking_order ≠ D := by
 obtain ⟨ps, hp, _⟩ := J.tab
 exact ⟨qk_ J.hr nD, qk_ J.hs nD, qk_ J.hz nD, qk_ hp nD⟩
section
variable (r w M N : Nat) (l : Nat -> Nat -> Nat) (cs srow : List (Option Nat)) (k : Nat)
def sumC (cs : List (Option Nat)) (rs : List Nat) : Int := (rs.map fun k => ckO cs k).sum
inductive RdS : List (Option Nat) -> List Nat -> List (Option Nat) -> List Nat -> Bool -> Prop
 | fixed {os as} : fx r w M N l (knO os) k = true -> RdS os as os as true
 | none {os as ms} : fx r w M N l (knO os) k = false -> ms.Perm ((List.range (N + M)).filter (mayB cs as)) -> ms.Pairwise (klt (ckO cs)) -> qa8_ r w M N l (knO os) [k] ms -> RdS os as os as false
 | own {os as ms j os' as' b} : fx r w M N l (knO os) k = false -> ms.Perm ((List.range (N + M)).filter (mayB cs as)) -> ms.Pairwise (klt (ckO cs)) -> zB_ r w M N l (knO os) [k] ms j -> mayB cs as k = true -> ckO cs k <= sumC cs (ms.take j) -> RdS (tk cs srow os as k).1 (tk cs srow os as k).2 os' as' b -> RdS os as os' as' b
 | way {os as ms j os' as' b} : fx r w M N l (knO os) k = false -> ms.Perm ((List.range (N + M)).filter (mayB cs as)) -> ms.Pairwise (klt (ckO cs)) -> zB_ r w M N l (knO os) [k] ms j -> ¬ (mayB cs as k = true /\ ckO cs k <= sumC cs (ms.take j)) -> RdS (jo_ cs srow (ms.take j) os as).1 (jo_ cs srow (ms.take j) os as).2 os' as' b -> RdS os as os' as' b
end
theorem qa9_ {R : Nat} {cs srow os : List (Option Nat)} {as X : List Nat} {k : Nat} (hl : os.length = R) (hs : j2_ R srow X) (ho : j2_ R os X) (hk : k < R) : j2_ R (tk cs srow os as k).1 X := by
 unfold tk
 split
 ·intro j hj b hb
  by_cases z : j = k
  ·subst z
   rw [List.getD_eq_getElem?_getD, List.getElem?_set_self (by omega)] at hb
   exact hs j hj b hb
  ·rw [List.getD_eq_getElem?_getD, List.getElem?_set_ne (Ne.symm z), ← List.getD_eq_getElem?_getD] at hb
   exact ho j hj b hb
 ·exact ho
theorem qjn_ {cs srow os : List (Option Nat)} {as : List Nat} {k : Nat} : (tk cs srow os as k).1.length = os.length := by
 unfold tk
 split
 ·exact List.length_set
 ·rfl
theorem uk_ {cs srow os : List (Option Nat)} {as : List Nat} {k : Nat} (h : mayB cs as k = true) : (tk cs srow os as k).2.length = as.length + 1 := by
 unfold tk
 rw [if_pos h]
 exact List.length_append
theorem qg3_ {cs srow os : List (Option Nat)} {as : List Nat} {k : Nat} : as.length <= (tk cs srow os as k).2.length := by
 unfold tk
 split
 ·rw [List.length_append]; exact Nat.le_add_right _ _
 ·exact Nat.le_refl _
theorem vi_ {R : Nat} {cs srow : List (Option Nat)} {X : List Nat} (hs : j2_ R srow X) : ∀ (ks : List Nat) (os : List (Option Nat)) (as : List Nat), os.length = R -> (∀ k ∈ ks, k < R) -> j2_ R os X -> j2_ R (jo_ cs srow ks os as).1 X
 | [], _, _, _, _, h => h
 | k :: ks, os, as, hl, hk, h => by
  have h1 := qa9_ (cs := cs) (as := as) hl hs h (hk k (.head _))
  unfold jo_
  split
  ·exact vi_ hs ks _ _ (by rw [qjn_, hl]) (fun j hj => hk j (.tail _ hj)) h1
  ·exact h1
theorem qba_ {cs srow : List (Option Nat)} : ∀ (ks : List Nat) (os : List (Option Nat)) (as : List Nat), as.length <= (jo_ cs srow ks os as).2.length
 | [], _, _ => Nat.le_refl _
 | k :: ks, os, as => by
  unfold jo_
  split
  ·exact Nat.le_trans qg3_ (qba_ ks _ _)
  ·exact qg3_
theorem qdh_ {cs srow : List (Option Nat)} {k : Nat} {ks : List Nat} {os : List (Option Nat)} {as : List Nat} (h : mayB cs as k = true) : as.length + 1 <= (jo_ cs srow (k :: ks) os as).2.length := by
 unfold jo_
 split
 ·rw [<- uk_ (srow := srow) (os := os) h]
  exact qba_ ks _ _
 ·rw [uk_ h]
  exact Nat.le_refl _
theorem qjo_ {F : Hp -> Prop} {G : Prop} (Pz : Hp -> Prop) (h : (∀ z, Pz z -> F z) -> G) (key : ∀ z, Pz z -> F z) : G := h key
section
variable {P : Program} {wo : World} {K : PySem.W.Frag} {mg : Str -> Option Value} {base : Heap} {a : Adr}
def qjp_ (a : Adr) : Sp := fun vs H Q _ => ∃ (H0 : Hp) (R : AskR) (r w n M N k : Nat) (l : Nat -> Nat -> Nat) (cs srow os : List (Option Nat)) (as X : List Nat), vs = [.ref R.A, .int k] /\ AskI a H0 R r w n M N l cs srow /\ AskM a H0 H R (N + M) os as /\ k < N + M /\ (∀ j, (cs.getD j none).getD 0 <= 1000000) /\ X.length = N + M /\ (∀ b ∈ X, b < (2 ^ w) ^ n) /\ isMk r w n M N l X = true /\ j2_ (N + M) srow X /\ j2_ (N + M) os X ∧
 ∀ H' os' as' b, RdS r w M N l cs srow k os as os' as' b -> j2_ (N + M) os' X -> AskM a H0 H' R (N + M) os' as' -> Q (if b = true then .int ((X.getD k 0 : Nat) : Int) else .non) H'
theorem qbb_ (T : Txt K mg a) (B : Tb base mg a) : FnOk P wo K mg base CX0 11 a.f_read_role a.d_read_role ["asking", "role"] (qjp_ a) := by
 have G_Asking_fixes : FnOk P wo K mg base CX0 10 _ _ _ _ := vU_ T
 have G_Asking_detour : FnOk P wo K mg base CX0 10 _ _ _ _ := vy_ T B
 have G_Asking_may : FnOk P wo K mg base CX0 10 _ _ _ _ := (yV_ T).mono (by decide)
 have G_Asking_cost_sum : FnOk P wo K mg base CX0 10 _ _ _ _ := (zV_ T).mono (by decide)
 have G_Asking_take : FnOk P wo K mg base CX0 10 _ _ _ _ := (zp_ T).mono (by decide)
 have G_Asking_take_along : FnOk P wo K mg base CX0 10 _ _ _ _ := (zA_ T).mono (by decide)
 have G_Asking_block_of : FnOk P wo K mg base CX0 10 _ _ _ _ := (zW_ T).mono (by decide)
 refine T.F_read_role.ok (k := 10) sc_read_role (fun vs H Q E h => ?_) (fun cdv A outer s H vs Q E hr h => ?_)
 ·obtain ⟨H0, R, r, w, n, M, N, k, l, cs, srow, os, as, X, rfl, _⟩ := h
  rfl
 ·obtain ⟨H0, R, r, w, n, M, N, k, l, cs, srow, os, as, X, rfl, I, J, hk, hc6, hX, hlt, hm, hsX, hoX, q⟩ := h
  obtain ⟨dx, hA⟩ := I.obj
  have n8 := I.W.n8
  refine ⟨_, (qc_ (yo_ PassesOwn.never (zl_ (j3_ (qE_ (pv 0) T.cl_Asking T.me_Asking_fixes G_Asking_fixes (hr.mono (by decide)) T.b_Asking_fixes .nil qo_ (qa_ (jB_ (qa_ (pv 1) qf_)) qf_)))) (qc_ (qm_ (i := 2) sc_read_role.nd rfl (Or.inl rfl) (qE_ (pv 0) T.cl_Asking T.me_Asking_detour G_Asking_detour (hr.mono (by decide)) T.b_Asking_detour .nil qo_ (qa_ (jB_ (qa_ (pv 1) qf_)) qf_)))
   (qc_ (qH_ (qp_ vA_ (pv 2) jr_ (qr_ _)) (qg_ (qq_ jr_)) qB_)
   (qg_ (qH_ (PW.pt (u6_ (j3_ (qE_ (pv 0) T.cl_Asking T.me_Asking_may G_Asking_may (hr.mono (by decide)) T.b_Asking_may .nil qo_ (qa_ (pv 1) qf_))) (v0_ (qp_ qj1_ (qD_ qz_ (qA_ (pv 0) rfl) (pv 1) (fun _ _ => rfl)) (qE_ (pv 0) T.cl_Asking T.me_Asking_cost_sum G_Asking_cost_sum (hr.mono (by decide)) T.b_Asking_cost_sum .nil qo_ (qa_ (pv 2) qf_)) (qr_ _))))) (qg_ (q4_ (qE_ (pv 0) T.cl_Asking T.me_Asking_take G_Asking_take (hr.mono (by decide)) T.b_Asking_take .nil qo_ (qa_ (pv 1) qf_)))) (qg_ (q4_ (qE_ (pv 0) T.cl_Asking T.me_Asking_take_along G_Asking_take_along (hr.mono (by decide)) T.b_Asking_take_along .nil qo_ (qa_ (pv 2) qf_)))))))))
   (qg_ (qq_ (qE_ (pv 0) T.cl_Asking T.me_Asking_block_of G_Asking_block_of (hr.mono (by decide)) T.b_Asking_block_of .nil qo_ (qa_ (pv 1) qf_))))), ?_⟩
  refine ⟨fun m σ H' => ∃ (os1 : List (Option Nat)) (as1 : List Nat) (v2 : Option V), m = (N + M) - as1.length /\ σ = [some (.ref R.A), some (.int (k : Nat)), v2] /\ AskM a H0 H' R (N + M) os1 as1 /\ j2_ (N + M) os1 X /\ ∀ os' as' b, RdS r w M N l cs srow k os1 as1 os' as' b -> RdS r w M N l cs srow k os as os' as' b,
   ⟨_, os, as, none, rfl, rfl, J, hoX, fun _ _ _ h => h⟩, ?_⟩
  rintro m σ H1 ⟨os1, as1, v2, rfl, rfl, J1, hoX1, hrd⟩
  refine ⟨_, rfl, R.A, dx, _, rfl, J1.sm _ _ hA, rfl, _, rfl, (by show 1 <= sizeLine; decide), fun p1 n1 => ?_⟩
  have J2 := J1.same (Same.new (o := .lst [V.int (k : Nat)]) n1)
  have hp1 : (upd H1 p1 (.lst [V.int (k : Nat)])) p1 = some (.lst (rowV [k])) := qd_
  generalize (upd H1 p1 (.lst [V.int (k : Nat)])) = H2 at J2 hp1
  have hk1 : ∀ j ∈ [k], j < N + M := fun j hj => by rw [List.mem_singleton.mp hj]; exact hk
  refine ⟨H0, R, p1, r, w, n, M, N, l, cs, srow, os1, as1, [k], rfl, I, J2, SqL.of hp1, hk1, fun H3 s3 => ?_⟩
  have J3 := J2.same s3
  refine ⟨_, rfl, ?_⟩
  have efx : [k].all (fx r w M N l (knO os1)) = fx r w M N l (knO os1) k := by
   rw [List.all_cons, List.all_nil, Bool.and_true]
  rw [efx]
  cases hz : fx r w M N l (knO os1) k with
  | true =>
   refine ite2 (fun y => absurd y (by decide)) (fun _ => ?_)
   refine ⟨_, rfl, R.A, dx, _, rfl, J3.sm _ _ hA, rfl, _, rfl, H0, R, r, w, n, M, N, k, l, cs, srow, os1, as1, X, rfl, I, J3, hk, hX, hlt, hm, hoX1, fun H4 s4 => ?_⟩
   rw [hz]
   exact q H4 os1 as1 true (hrd _ _ _ (.fixed hz)) hoX1 (J3.same s4)
  | false =>
   refine ite2 (fun _ => ⟨_, fun _ _ z => z, ?_⟩) (fun y => absurd rfl y)
   refine ⟨_, rfl, R.A, dx, _, rfl, J3.sm _ _ hA, rfl, _, rfl, (by show 1 <= sizeLine; decide), fun p2 n2 => ?_⟩
   have J4 := J3.same (Same.new (o := .lst [V.int (k : Nat)]) n2)
   have hp2 : (upd H3 p2 (.lst [V.int (k : Nat)])) p2 = some (.lst (rowV [k])) := qd_
   generalize (upd H3 p2 (.lst [V.int (k : Nat)])) = H4 at J4 hp2
   refine ⟨H0, R, p2, r, w, n, M, N, l, cs, srow, os1, as1, [k], rfl, I, J4, hp2, hk1, fun H5 ms J5 k5 pm pw => ⟨fun D j hd nD hD => ?_, fun hd => ?_⟩⟩
   ·have nD0 : H0 D = none := J4.sm.free nD
    obtain ⟨a1, a2, a3, a4⟩ := J4.away nD
    have mlt : ∀ x ∈ ms.take j, x < N + M /\ mayB cs as1 x = true := fun x hx => by
     have := List.mem_filter.mp (pm.mem_iff.mp (List.mem_of_mem_take hx))
     exact ⟨List.mem_range.mp this.1, this.2⟩
    have hj8 : (ms.take j).length <= 8 := by
     have h1 := List.length_filter_le (mayB cs as1) (List.range (N + M))
     rw [List.length_range, ← pm.length_eq] at h1
     rw [List.length_take]
     omega
    have hcs : ∀ x ∈ ms.take j, x < N + M /\ (cs.getD x none).isSome = true /\ (cs.getD x none).getD 0 <= 1000000 := fun x hx => by
     obtain ⟨h1, h2⟩ := mlt x hx
     unfold mayB at h2
     exact ⟨h1, (Bool.and_eq_true _ _ ▸ h2).1, hc6 x⟩
    refine ⟨_, rfl, rfl, _, rfl, ?_⟩
    refine ite2 (fun y => absurd (of_decide_eq_true y) (fun z => by cases z)) (fun _ => ?_)
    refine ⟨_, rfl, R.A, dx, _, rfl, J5.sm _ _ hA, rfl, _, rfl, H0, R, r, w, n, M, N, k, l, cs, srow, os1, as1, rfl, I, J5, hk, ?_⟩
    have hasl := J5.asl
    refine qjo_ (fun H6 => Same H5 H6 /\ ¬ (mayB cs as1 k = true /\ ckO cs k <= sumC cs (ms.take j))) (fun key => by
     cases hy : mayB cs as1 k with
     | true =>
      refine ⟨_, rfl, ite2 (fun _ => ?_) (fun y => absurd rfl y)⟩
      have ev : valO (cs.getD k none) = .int (ckO cs k) := by
       unfold mayB at hy
       unfold ckO
       cases hv : cs.getD k none with
       | none => rw [hv] at hy; cases hy
       | some b => rfl
      have gi := qy_ (jg_ (j9_ (os := cs) (k := k) (by rw [I.csl]; exact hk)))
      rw [ev] at gi
      refine ⟨_, rfl, R.A, _, _, _, _, rfl, J5.sm _ _ hA, T.cl_Asking, T.no_Asking_costs, zz_ _ _ _ _ _, _, rfl, R.cl, _, _, _, rfl, rfl, SqL.of (J5.sm _ _ I.cost), gi, _, rfl, R.A, dx, _, rfl, J5.sm _ _ hA, rfl, _, rfl, H0, R, D, r, w, n, M, N, l, cs, srow, os1, as1, ms.take j, rfl, I, J5, SqL.of hD, hj8, hcs, fun H6 s6 => ?_⟩
      refine ⟨_, _, rfl, rfl, _, rfl, ?_⟩
      refine iteR (fun hc => ?_) (fun hc => ?_)
      ·exact key H6 ⟨s6, fun z => hc (decide_eq_true z.2)⟩
      ·have J6 := J5.same s6
       refine ⟨_, rfl, R.A, dx, _, rfl, J6.sm _ _ hA, rfl, _, rfl, H0, R, r, w, n, M, N, k, l, cs, srow, os1, as1, rfl, I, J6, hk, fun H7 J7 => ?_⟩
       refine ⟨(N + M) - (tk cs srow os1 as1 k).2.length, ?_, _, _, _, rfl, rfl, J7, qa9_ J1.osl hsX hoX1 hk, fun os' as' b h => hrd _ _ _ (.own hz pm pw hd hy (of_decide_eq_true hc) h)⟩
       have := J7.asl
       rw [uk_ hy] at this ⊢
       omega
     | false =>
      refine ⟨_, rfl, ite2 (fun y => absurd y (by decide)) (fun _ => ?_)⟩
      refine ite2 (fun y => absurd y (by decide)) (fun _ => ?_)
      exact key H5 ⟨Same.refl _, fun z => absurd z.1 (by rw [hy]; decide)⟩) ?_
    rintro H6 ⟨s6, hnot⟩
    have J6 := J5.same s6
    refine ⟨_, rfl, R.A, dx, _, rfl, J6.sm _ _ hA, rfl, _, rfl, ?_⟩
    refine ⟨upd H0 D (.lst (rowV (ms.take j))), R, D, r, w, n, M, N, l, cs, srow, os1, as1, ms.take j, rfl, I.ext nD0 a1 a2 a3 a4, J6.ext (s6 _ _ hD), SqL.of qd_, fun x hx => (mlt x hx).1, fun H7 J7 => ?_⟩
    have J8 := J7.base (Same.new nD0)
    refine ⟨(N + M) - (jo_ cs srow (ms.take j) os1 as1).2.length, ?_, _, _, _, rfl, rfl, J8, vi_ hsX _ _ _ J1.osl (fun x hx => (mlt x hx).1) hoX1, fun os' as' b h => hrd _ _ _ (.way hz pm pw hd hnot h)⟩
    have hj0 : ∃ m0 rest, ms.take j = m0 :: rest := by
     cases e : ms.take j with
     | nil =>
      have := hd.2.1
      rw [e] at this
      have h2 : [k].all (fx r w M N l (knO os1)) = true := this
      rw [efx, hz] at h2
      cases h2
     | cons m0 rest => exact ⟨m0, rest, rfl⟩
    obtain ⟨m0, rest, e0⟩ := hj0
    have h1 := qdh_ (srow := srow) (ks := rest) (os := os1) (mlt m0 (by rw [e0]; exact .head _)).2
    have h2 := J8.asl
    rw [e0] at h2 ⊢
    omega
   ·refine ⟨_, rfl, rfl, _, rfl, ?_⟩
    refine ite2 (fun _ => ?_) (fun y => absurd rfl y)
    have := q H5 os1 as1 false (hrd _ _ _ (.none hz pm pw hd)) hoX1 J5
    rw [if_neg (by decide)] at this
    exact this
end
structure OkA (R : Nat) (cs srow os : List (Option Nat)) (as : List Nat) : Prop where
 osl : os.length = R
 there : ∀ k ∈ as, (cs.getD k none).isSome = true
 is : ∀ k, k < R -> os.getD k none = if k ∈ as then srow.getD k none else none
theorem qe6_ {R : Nat} {cs srow os : List (Option Nat)} {as : List Nat} {k : Nat} (h : OkA R cs srow os as) (hk : k < R) : OkA R cs srow (tk cs srow os as k).1 (tk cs srow os as k).2 := by
 unfold tk
 by_cases hm : mayB cs as k = true
 ·rw [if_pos hm]
  refine ⟨by rw [List.length_set, h.osl], fun j hj => ?_, fun j hj => ?_⟩
  ·rcases List.mem_append.mp hj with z | z
   ·exact h.there j z
   ·rw [List.mem_singleton.mp z]
    unfold mayB at hm
    exact (Bool.and_eq_true _ _ ▸ hm).1
  ·by_cases z : j = k
   ·subst z
    rw [List.getD_eq_getElem?_getD, List.getElem?_set_self (by rw [h.osl]; exact hj), if_pos (List.mem_append_right _ (.head _))]
    rfl
   ·rw [List.getD_eq_getElem?_getD, List.getElem?_set_ne (Ne.symm z), ← List.getD_eq_getElem?_getD, h.is j hj]
    by_cases y : j ∈ as
    ·rw [if_pos y, if_pos (List.mem_append_left _ y)]
    ·rw [if_neg y, if_neg (fun e => by
      rcases List.mem_append.mp e with e | e
      ·exact y e
      ·exact z (List.mem_singleton.mp e))]
 ·rw [if_neg hm]
  exact h
theorem uI_ {R : Nat} {cs srow : List (Option Nat)} : ∀ (ks : List Nat) (os : List (Option Nat)) (as : List Nat), (∀ k ∈ ks, k < R) -> OkA R cs srow os as -> OkA R cs srow (jo_ cs srow ks os as).1 (jo_ cs srow ks os as).2
 | [], _, _, _, h => h
 | k :: ks, os, as, hk, h => by
  have h1 := qe6_ h (hk k (.head _))
  unfold jo_
  split
  ·exact uI_ ks _ _ (fun j hj => hk j (.tail _ hj)) h1
  ·exact h1
theorem qif_ {R j : Nat} {ms : List Nat} {f : Nat -> Bool} (pm : ms.Perm ((List.range R).filter f)) : ∀ x ∈ ms.take j, x < R := fun x hx => List.mem_range.mp (List.mem_filter.mp (pm.mem_iff.mp (List.mem_of_mem_take hx))).1
theorem uJ_ {r w M N k : Nat} {l : Nat -> Nat -> Nat} {cs srow os os' : List (Option Nat)} {as as' : List Nat} {b : Bool} (h : RdS r w M N l cs srow k os as os' as' b) (hf : fx r w M N l (knO os) k = true) : os' = os /\ as' = as /\ b = true := by
 cases h with
 | fixed _ => exact ⟨rfl, rfl, rfl⟩
 | none z _ _ _ => rw [hf] at z; cases z
 | own z _ _ _ _ _ _ => rw [hf] at z; cases z
 | way z _ _ _ _ _ => rw [hf] at z; cases z
theorem uK_ {k : Nat} : ∀ as : List Nat, as.Nodup -> (rowV as).countP (fun z => eqV z (.int (k : Nat))) <= 1
 | [], _ => Nat.zero_le _
 | x :: as, nd => by
  have nd' := List.nodup_cons.mp nd
  have ih := uK_ (k := k) as nd'.2
  unfold rowV at ih ⊢
  rw [List.map_cons, List.countP_cons]
  by_cases z : x = k
  ·subst z
   have : (List.map (fun n : Nat => V.int (n : Int)) as).countP (fun z => eqV z (.int (x : Nat))) = 0 := by
    rw [List.countP_eq_zero]
    intro v hv
    obtain ⟨y, hy, rfl⟩ := List.mem_map.mp hv
    have ne : ((y : Nat) : Int) ≠ ((x : Nat) : Int) := fun e => nd'.1 (by have e2 : y = x := (by omega); rw [<- e2]; exact hy)
    show ¬ (((y : Nat) : Int) == ((x : Nat) : Int)) = true
    rw [beq_eq_false_iff_ne.mpr ne]
    decide
   rw [this]
   split <;> omega
  ·have ne : ((x : Nat) : Int) ≠ ((k : Nat) : Int) := by omega
   have : (eqV (V.int (x : Nat)) (.int (k : Nat))) = false := by
    show (((x : Nat) : Int) == ((k : Nat) : Int)) = false
    exact beq_eq_false_iff_ne.mpr ne
   rw [if_neg (by rw [this]; decide)]
   exact ih
def dueO (R : Nat) (srow : List (Option Nat)) (as : List Nat) : List (Option Nat) := (List.range R).map fun k => if k ∈ as then srow.getD k none else none
section
variable {P : Program} {wo : World} {K : PySem.W.Frag} {mg : Str -> Option Value} {base : Heap} {a : Adr}
end
def qX_ (xs : List Addr) (H : Hp) : Hp := fun b => if b ∈ xs then none else H b
theorem zC_ (xs : List Addr) (H : Hp) : Same (qX_ xs H) H := fun b o e => by
 unfold qX_ at e
 split at e
 ·cases e
 ·exact e
theorem jM_ {xs : List Addr} {H : Hp} {b : Addr} (h : b ∈ xs) : qX_ xs H b = none := by unfold qX_; rw [if_pos h]
theorem jO_ {xs : List Addr} {H : Hp} {b : Addr} (h : b ∉ xs) : qX_ xs H b = H b := by unfold qX_; rw [if_neg h]
theorem vW_ {G H : Hp} {xs : List Addr} (s : Same G H) (h : ∀ x ∈ xs, G x = none) : Same G (qX_ xs H) := fun b o e => by
 rw [jO_ (fun z => by rw [h b z] at e; cases e)]
 exact s b o e
def gapP (cs srow : List (Option Nat)) (k : Nat) : Bool := (cs.getD k none).isNone || (srow.getD k none).isNone
theorem qbc_ (ks : List Bool) (k : Nat) (hk : k < ks.length) : ∀ way : List Nat, (knW ks way).getD k false = (ks.getD k false || way.contains k) := fun way => by
 induction way generalizing ks with
 | nil => show ks.getD k false = _; simp
 | cons x way ih =>
  show (knW (ks.set x true) way).getD k false = _
  rw [ih (ks.set x true) (by rw [List.length_set]; exact hk), List.contains_cons]
  by_cases z : x = k
  ·subst z
   rw [List.getD_eq_getElem?_getD, List.getElem?_set_self hk]
   simp
  ·rw [List.getD_eq_getElem?_getD, List.getElem?_set_ne z, ← List.getD_eq_getElem?_getD, beq_eq_false_iff_ne.mpr (Ne.symm z), Bool.false_or]
theorem qgp_ {R : Nat} {cs srow os : List (Option Nat)} {as ms : List Nat} (ok : OkA R cs srow os as) (hm : ∀ k, k < R -> mayB cs as k = true -> k ∈ ms) : jQ_ (knW (knO os) ms) <= (List.range R).countP (gapP cs srow) := by
 have hl : (knW (knO os) ms).length = R := by rw [yD_, jL_, ok.osl]
 rw [vh_, hl]
 refine List.countP_mono_left fun k hk h => ?_
 have hk := List.mem_range.mp hk
 have hko : k < (knO os).length := by rw [jL_, ok.osl]; exact hk
 rw [qbc_ _ _ hko] at h
 unfold gapP
 cases h1 : cs.getD k none with
 | none => rfl
 | some c =>
  cases h2 : srow.getD k none with
  | none => rfl
  | some b =>
   exfalso
   by_cases z : k ∈ as
   ·have := ok.is k hk
    rw [if_pos z, h2] at this
    rw [List.getD_eq_getElem?_getD, qa5_ (by rw [ok.osl]; exact hk) this] at h
    simp at h
   ·have hmk : mayB cs as k = true := by
     unfold mayB
     rw [h1]
     simp [z]
    have := hm k hk hmk
    rw [List.contains_iff_mem.mpr this, Bool.or_true] at h
    cases h
theorem qjq_ {r w M N k : Nat} {ks : List Bool} (g : GF.Good r w) (W : Wts w M N plainL) (hks : ks.length = N + M) (hk : k < N + M) (h : jQ_ ks <= M) : fx r w M N plainL ks k = true := by
 unfold fx
 cases z : ks.getD k false with
 | true => rfl
 | false => rw [uF_ g W.m1 W.m2 W.n8 hks hk z, decide_eq_true h]; rfl
theorem qgq_ {r w M N k : Nat} {cs srow os os' : List (Option Nat)} {as as' : List Nat} {b : Bool} (g : GF.Good r w) (W : Wts w M N plainL) (hk : k < N + M) (hg : (List.range (N + M)).countP (gapP cs srow) <= M) (h : RdS r w M N plainL cs srow k os as os' as' b) : OkA (N + M) cs srow os as -> b = true := by
 induction h with
 | fixed _ => exact fun _ => rfl
 | none hz pm _ hd =>
  intro ok
  have hm : ∀ j, j < N + M -> mayB cs _ j = true -> j ∈ _ := fun j hj hy => pm.mem_iff.mpr (List.mem_filter.mpr ⟨List.mem_range.mpr hj, hy⟩)
  have h1 := qgp_ ok hm
  have h2 := hd _ (Nat.le_refl _)
  rw [List.take_length, List.all_cons, List.all_nil, Bool.and_true, qjq_ g W (by rw [yD_, jL_, ok.osl]) hk (Nat.le_trans h1 hg)] at h2
  cases h2
 | own _ _ _ _ _ _ _ ih => exact fun z => ih (qe6_ z hk)
 | way _ pm _ _ _ _ ih => exact fun z => ih (uI_ _ _ _ (qif_ pm) z)
theorem qgr_ {a : Adr} (ys : List Addr) {G H3 H5 : Hp} {x dx c bp fp f cl rl sl rw z : Addr} {r w n M N : Nat} {l : Nat -> Nat -> Nat} {cs srow : List (Option Nat)} (sG : Same G H3) (code : CodeAt a G c bp fp r w n M N l) (full : GF.Full r w) (n16 : n <= 16) (W : Wts w M N l) (row : G rw = some (.lst (rowO srow))) (srl : srow.length = N + M) (nzG : G z = none) (ntG : G a.t_Asking_order = none) (ask : AskerAt H3 f rw z) (hz : H3 z = some (.lst (rowV []))) (tab : TabS H3 a.t_Asking_order posL qL) (csl : cs.length = N + M)
  (nx : H3 x = none) (ndx : H3 dx = none) (k5 : ∀ b o, b ≠ x -> (upd (upd H3 dx (.own x)) x (.ins a.C_Asking dx [])) b = some o -> H5 b = some o) (hx5 : H5 x = some (.ins a.C_Asking dx (af c f cl rl sl))) (ncl : (upd (upd H3 dx (.own x)) x (.ins a.C_Asking dx [])) cl = none) (nrl : (upd (upd H3 dx (.own x)) x (.ins a.C_Asking dx [])) rl = none) (nsl : (upd (upd H3 dx (.own x)) x (.ins a.C_Asking dx [])) sl = none) (d1 : cl ≠ rl) (d2 : cl ≠ sl) (d3 : rl ≠ sl) (hcl : H5 cl = some (.lst (rowO cs))) (hrl : H5 rl = some (.lst (rowO (List.replicate (N + M) none)))) (hsl : H5 sl = some (.lst (rowV []))) (hys : ∀ y ∈ ys, G y = none /\ ∃ xs, H3 y = some (.lst xs)) :
  AskI a (qX_ (z :: rl :: sl :: a.t_Asking_order :: ys) H5) ⟨x, c, bp, fp, f, cl, rl, sl, rw, z⟩ r w n M N l cs srow /\ AskM a (qX_ (z :: rl :: sl :: a.t_Asking_order :: ys) H5) H5 ⟨x, c, bp, fp, f, cl, rl, sl, rw, z⟩ (N + M) (List.replicate (N + M) none) [] /\ Same G (qX_ (z :: rl :: sl :: a.t_Asking_order :: ys) H5) /\ Same H3 H5 := by
 have fr : ∀ {b : Addr}, (upd (upd H3 dx (.own x)) x (.ins a.C_Asking dx [])) b = none -> H3 b = none := fun {b} e => by
  by_cases z1 : b = x
  ·rw [z1]; exact nx
  rw [qe_ z1] at e
  by_cases z2 : b = dx
  ·rw [z2]; exact ndx
  rwa [qe_ z2] at e
 have s35 : Same H3 H5 := fun b o e => k5 b o (qk_ e nx) (by rw [qe_ (qk_ e nx), qe_ (qk_ e ndx)]; exact e)
 have ncl3 := fr ncl
 have nrl3 := fr nrl
 have nsl3 := fr nsl
 obtain ⟨ps, hp, _⟩ := id tab
 have ht5 := s35 _ _ hp
 have hz5 := s35 _ _ hz
 have hid : ∀ {b : Addr} {o : HO}, H3 b = some o -> (∀ xs, o ≠ .lst xs) -> (∀ xs, o ≠ .tbl xs) -> b ∉ (z :: rl :: sl :: a.t_Asking_order :: ys) := fun {b o} e n1 n2 hb => by
  rcases List.mem_cons.mp hb with y | hb
  ·rw [y, hz] at e; exact n1 _ (Option.some.inj e).symm
  rcases List.mem_cons.mp hb with y | hb
  ·rw [y, nrl3] at e; cases e
  rcases List.mem_cons.mp hb with y | hb
  ·rw [y, nsl3] at e; cases e
  rcases List.mem_cons.mp hb with y | hb
  ·rw [y, hp] at e; exact n2 _ (Option.some.inj e).symm
  ·obtain ⟨_, xs, hy⟩ := hys b hb
   rw [hy] at e; exact n1 _ (Option.some.inj e).symm
 have sGh : Same G (qX_ (z :: rl :: sl :: a.t_Asking_order :: ys) H5) := vW_ (sG.trans s35) fun b hb => by
  rcases List.mem_cons.mp hb with y | hb
  ·rw [y]; exact nzG
  rcases List.mem_cons.mp hb with y | hb
  ·rw [y]; exact sG.free nrl3
  rcases List.mem_cons.mp hb with y | hb
  ·rw [y]; exact sG.free nsl3
  rcases List.mem_cons.mp hb with y | hb
  ·rw [y]; exact ntG
  ·exact (hys b hb).1
 have hx : x ∉ (z :: rl :: sl :: a.t_Asking_order :: ys) := fun hb => by
  rcases List.mem_cons.mp hb with y | hb
  ·rw [y, hz5] at hx5; cases hx5
  rcases List.mem_cons.mp hb with y | hb
  ·rw [y, hrl] at hx5; cases hx5
  rcases List.mem_cons.mp hb with y | hb
  ·rw [y, hsl] at hx5; cases hx5
  rcases List.mem_cons.mp hb with y | hb
  ·rw [y, ht5] at hx5; cases hx5
  ·obtain ⟨_, xs, hy⟩ := hys x hb
   rw [nx] at hy; cases hy
 have hc : cl ∉ (z :: rl :: sl :: a.t_Asking_order :: ys) := fun hb => by
  rcases List.mem_cons.mp hb with y | hb
  ·rw [y, hz] at ncl3; cases ncl3
  rcases List.mem_cons.mp hb with y | hb
  ·exact d1 y
  rcases List.mem_cons.mp hb with y | hb
  ·exact d2 y
  rcases List.mem_cons.mp hb with y | hb
  ·rw [y, ht5] at hcl; cases hcl
  ·obtain ⟨_, xs, hy⟩ := hys cl hb
   rw [ncl3] at hy; cases hy
 obtain ⟨c', c1, c2, doc, pm, ctv, a1, a2, a3, a4, a5⟩ := ask.ex
 have ex : ∀ {b : Addr} {φ : Heap -> Prop}, H3 b = some (.ext φ) -> qX_ (z :: rl :: sl :: a.t_Asking_order :: ys) H5 b = some (.ext φ) := fun {b φ} e => by
  rw [jO_ (hid e (fun _ y => by cases y) (fun _ y => by cases y))]
  exact s35 _ _ e
 refine ⟨⟨code.same sGh, full, n16, W, ⟨dx, ?_⟩, ?_, csl, ⟨c', c1, c2, doc, pm, ctv, ex a1, ex a2, ex a3, ex a4, a5⟩, sGh _ _ row, srl, jM_ (by simp), jM_ (by simp), jM_ (by simp), jM_ (by simp), d3, qk_ hz nrl3 |>.symm, qk_ hz nsl3 |>.symm⟩, ⟨zC_ _ _, hrl, hsl, hz5, tab.keep s35, List.length_replicate, List.nodup_nil, fun k hk => absurd hk List.not_mem_nil⟩, sGh, s35⟩
 ·rw [jO_ hx]; exact hx5
 ·rw [jO_ hc]; exact hcl
theorem qbd_ (R k : Nat) : (List.replicate R (none : Option Nat)).getD k none = none := by
 rw [List.getD_eq_getElem?_getD, List.getElem?_replicate]
 split <;> rfl
theorem qig_ (R : Nat) (cs srow : List (Option Nat)) : OkA R cs srow (List.replicate R none) [] := ⟨List.length_replicate, fun k hk => absurd hk List.not_mem_nil, fun k _ => by
 rw [qbd_, if_neg List.not_mem_nil]⟩
theorem qe7_ (R : Nat) (X : List Nat) : j2_ R (List.replicate R none) X := fun j _ b hb => by
 rw [qbd_] at hb
 cases hb
theorem TabS.kp {H H' : Hp} {t t' : Addr} {p : Pos} {q : Str} {ps : Array Value} (h : TabS H t p q) (ne : t ≠ t') (ht : H t' = some (.tbl ps)) (k : ∀ b o, b ≠ t' -> H b = some o -> H' b = some o) : TabS H' t p q := by
 obtain ⟨ps', h1, h2⟩ := h
 refine ⟨ps', k _ _ ne h1, ?_⟩
 rcases h2 with h2 | ⟨c', e, h2⟩
 ·exact .inl h2
 ·exact .inr ⟨c', e, k _ _ (yL_ h2 ht (fun y => by cases y)) h2⟩
theorem TabS.hide {H : Hp} {t : Addr} {p : Pos} {q : Str} {xs : List Addr} (h : TabS H t p q) (ht : t ∉ xs) (hx : ∀ x ∈ xs, (∃ ys, H x = some (.lst ys)) \/ ∃ ps, H x = some (.tbl ps)) : TabS (qX_ xs H) t p q := by
 obtain ⟨ps, h1, h2⟩ := h
 refine ⟨ps, by rw [jO_ ht]; exact h1, ?_⟩
 rcases h2 with h2 | ⟨c', e, h2⟩
 ·exact .inl h2
 ·refine .inr ⟨c', e, ?_⟩
  rw [jO_ fun z => ?_]
  ·exact h2
  ·rcases hx c' z with ⟨ys, y⟩ | ⟨ys, y⟩
   ·rw [h2] at y; cases y
   ·rw [h2] at y; cases y
theorem qih_ (r w n M N : Nat) (l : Nat -> Nat -> Nat) (bs : List Nat) (g : GF.Good r w) (W : Wts w M N l) (hb : bs.length = N) : isMk r w n M N l (zg_ r w n M N l bs) = true := by
 unfold isMk zg_
 rw [List.all_eq_true]
 intro t ht
 have ht := List.mem_range.mp ht
 apply decide_eq_true
 rw [qck_, List.zip_append (by rw [qu_, hb]), GF.sumB_append]
 have h1 := GF.sumB_unit g.rule g.w1 (n := n) (t := t) M 0 ((List.range M).map fun t => GF.sumB r w n ((rowT N l t).zip bs)) (by rw [List.length_map, List.length_range]) fun b hb => by
  obtain ⟨j, hj, rfl⟩ := List.mem_map.mp hb
  exact GF.sumB_lt g.rule (y4_ fun k hk => W.lt j k (List.mem_range.mp hj) hk)
 simp only [Nat.add_zero] at h1
 rw [h1, if_pos (by omega), Nat.sub_zero, List.getD_eq_getElem?_getD, List.getElem?_map, List.getElem?_range ht]
 exact Nat.xor_self _
theorem qgs_ (r w n M N : Nat) (l : Nat -> Nat -> Nat) (bs : List Nat) (hb : bs.length = N) : (zg_ r w n M N l bs).length = N + M := by
 unfold zg_
 rw [List.length_append, List.length_map, List.length_range, hb]
theorem qii_ {r w n M N : Nat} {l : Nat -> Nat -> Nat} {bs : List Nat} (g : GF.Good r w) (W : Wts w M N l) (hlt : ∀ b ∈ bs, b < (2 ^ w) ^ n) : ∀ b ∈ zg_ r w n M N l bs, b < (2 ^ w) ^ n := fun b hb => by
 unfold zg_ at hb
 rcases List.mem_append.mp hb with h | h
 ·exact hlt b h
 ·obtain ⟨j, hj, rfl⟩ := List.mem_map.mp h
  exact GF.sumB_lt g.rule (y4_ fun k hk => W.lt j k (List.mem_range.mp hj) hk)
theorem uL_ : ∀ {ks : List Bool} {x : Nat}, x < ks.length -> ks.getD x false = false -> jQ_ (ks.set x true) + 1 = jQ_ ks
 | [], x, h, _ => absurd h (Nat.not_lt_zero x)
 | b :: ks, 0, _, h => by
  have h : b = false := h
  subst h
  unfold jQ_
  rw [List.set_cons_zero, List.countP_cons, List.countP_cons]
  rfl
 | b :: ks, x + 1, hx, h => by
  have ih := uL_ (ks := ks) (x := x) (by simpa using hx) h
  unfold jQ_ at ih ⊢
  rw [List.set_cons_succ, List.countP_cons, List.countP_cons]
  omega
theorem uM_ : ∀ (rs : List Nat) (ks : List Bool), rs.Nodup -> (∀ x ∈ rs, x < ks.length /\ ks.getD x false = false) -> jQ_ (knW ks rs) + rs.length = jQ_ ks
 | [], _, _, _ => rfl
 | x :: rs, ks, nd, h => by
  have nd' := List.nodup_cons.mp nd
  have h1 := h x (.head _)
  have ih := uM_ rs (ks.set x true) nd'.2 fun y hy => by
   have h2 := h y (.tail _ hy)
   have ne : x ≠ y := fun e => nd'.1 (e ▸ hy)
   refine ⟨by rw [List.length_set]; exact h2.1, ?_⟩
   rw [List.getD_eq_getElem?_getD, List.getElem?_set_ne ne, ← List.getD_eq_getElem?_getD]
   exact h2.2
  have e := uL_ h1.1 h1.2
  show jQ_ (knW (ks.set x true) rs) + (rs.length + 1) = jQ_ ks
  omega
theorem uN_ (R k : Nat) : (List.replicate R false).getD k false = false := by
 rw [List.getD_eq_getElem?_getD, List.getElem?_replicate]
 split <;> rfl
theorem qe8_ (R : Nat) : jQ_ (List.replicate R false) = R := by
 unfold jQ_
 rw [List.countP_replicate]
 rfl
theorem qcp_ (R : Nat) : knO (List.replicate R none) = List.replicate R false := by
 unfold knO
 rw [List.map_replicate]
 rfl
theorem qe9_ {r w M N k : Nat} {rs : List Nat} (g : GF.Good r w) (W : Wts w M N plainL) (hk : k < N + M) (nd : rs.Nodup) (hrs : ∀ x ∈ rs, x < N + M) : fx r w M N plainL (knW (List.replicate (N + M) false) rs) k = (rs.contains k || decide (N <= rs.length)) := by
 have hl : (knW (List.replicate (N + M) false) rs).length = N + M := by rw [yD_, List.length_replicate]
 have hg := qbc_ (List.replicate (N + M) false) k (by rw [List.length_replicate]; exact hk) rs
 rw [uN_, Bool.false_or] at hg
 unfold fx
 rw [hg]
 cases z : rs.contains k with
 | true => rfl
 | false =>
  rw [Bool.false_or, Bool.false_or, uF_ g W.m1 W.m2 W.n8 hl hk (by rw [hg, z])]
  have := uM_ rs (List.replicate (N + M) false) nd fun x hx => ⟨by rw [List.length_replicate]; exact hrs x hx, uN_ _ _⟩
  rw [qe8_] at this
  rw [decide_eq_decide]
  omega
theorem qfa_ {cs : List (Option Nat)} {as : List Nat} {x y : Nat} (h : mayB cs as y = true) (ne : y ≠ x) : mayB cs (as ++ [x]) y = true := by
 unfold mayB at h ⊢
 rw [Bool.and_eq_true] at h ⊢
 refine ⟨h.1, ?_⟩
 have h2 := h.2
 rw [Bool.not_eq_true'] at h2 ⊢
 rw [<- Bool.not_eq_true, List.contains_iff_mem] at h2 ⊢
 intro z
 rcases List.mem_append.mp z with z | z
 ·exact h2 z
 ·exact ne (List.mem_singleton.mp z)
theorem uO_ {cs srow : List (Option Nat)} : ∀ (rs : List Nat) (os : List (Option Nat)) (as : List Nat), rs.Nodup -> (∀ x ∈ rs, mayB cs as x = true /\ x < os.length /\ (srow.getD x none).isSome = true) -> (jo_ cs srow rs os as).2 = as ++ rs /\ knO (jo_ cs srow rs os as).1 = knW (knO os) rs
 | [], os, as, _, _ => ⟨(List.append_nil as).symm, rfl⟩
 | x :: rs, os, as, nd, h => by
  have nd' := List.nodup_cons.mp nd
  obtain ⟨h1, h2, h3⟩ := h x (.head _)
  have et : tk cs srow os as x = (os.set x (srow.getD x none), as ++ [x]) := by unfold tk; rw [if_pos h1]
  have eg : (os.set x (srow.getD x none)).getD x none = srow.getD x none := by
   rw [List.getD_eq_getElem?_getD, List.getElem?_set_self h2]
   rfl
  have ih := uO_ rs (os.set x (srow.getD x none)) (as ++ [x]) nd'.2 fun y hy => by
   obtain ⟨k1, k2, k3⟩ := h y (.tail _ hy)
   exact ⟨qfa_ k1 (fun e => nd'.1 (e ▸ hy)), by rw [List.length_set]; exact k2, k3⟩
  have ek : knO (os.set x (srow.getD x none)) = (knO os).set x true := by
   unfold knO
   rw [List.map_set, h3]
  unfold jo_
  rw [et]
  dsimp only
  rw [eg, if_pos h3]
  refine ⟨by rw [ih.1, List.append_assoc]; rfl, ?_⟩
  rw [ih.2, ek]
  rfl
theorem qby_ (cs : List (Option Nat)) (a b : List Nat) : sumC cs (a ++ b) = sumC cs a + sumC cs b := by
 unfold sumC
 rw [List.map_append, List.sum_append]
theorem vX_ (cs : List (Option Nat)) (k : Nat) : 0 <= ckO cs k := by unfold ckO; omega
theorem zi_ (cs : List (Option Nat)) (x : Nat) (rs : List Nat) : sumC cs (x :: rs) = ckO cs x + sumC cs rs := by
 unfold sumC
 rw [List.map_cons, List.sum_cons]
theorem yP_ (cs : List (Option Nat)) : ∀ rs : List Nat, 0 <= sumC cs rs
 | [] => Int.le_refl _
 | x :: rs => by
  rw [zi_]
  have := yP_ cs rs
  have := vX_ cs x
  omega
theorem qbe_ {cs : List (Option Nat)} {x : Nat} : ∀ {rs : List Nat}, x ∈ rs -> ckO cs x <= sumC cs rs
 | [], h => absurd h List.not_mem_nil
 | y :: rs, h => by
  rw [zi_]
  have h1 := yP_ cs rs
  have h2 := vX_ cs y
  rcases List.mem_cons.mp h with e | e
  ·subst e; omega
  ·have := qbe_ (cs := cs) e
   omega
theorem jR_ {k : Nat} : ∀ {rs : List Nat}, k ∉ rs -> rs.filter (· != k) = rs
 | [], _ => rfl
 | x :: rs, h => by
  have h1 : x ≠ k := fun e => h (e ▸ .head _)
  rw [List.filter_cons, if_pos (by simpa using h1), jR_ fun e => h (.tail _ e)]
theorem qki_ {r w M N k : Nat} {cs os' : List (Option Nat)} {as' X : List Nat} {b : Bool} (g : GF.Good r w) (W : Wts w M N plainL) (hk : k < N + M) (hX : X.length = N + M) (hg : (List.range (N + M)).countP (gapP cs (X.map some)) <= M)
  (h : RdS r w M N plainL cs (X.map some) k (List.replicate (N + M) none) [] os' as' b) :
  b = true /\ ∃ ms : List Nat, ms.Perm ((List.range (N + M)).filter (mayB cs [])) /\ ms.Pairwise (klt (ckO cs)) ∧
   ((as' = [k] /\ mayB cs [] k = true /\ (N <= (ms.filter (· != k)).length -> ckO cs k <= sumC cs ((ms.filter (· != k)).take N))) ∨
   (as' = ms.take N /\ N <= ms.length /\ k ∉ ms.take N /\ ¬ (mayB cs [] k = true /\ ckO cs k <= sumC cs (ms.take N)))) := by
 have hb := qgq_ g W hk hg h (qig_ _ _ _)
 refine ⟨hb, ?_⟩
 have hsome : ∀ x, x < N + M -> ((X.map some).getD x none).isSome = true := fun x hx => by
  rw [List.getD_eq_getElem?_getD, List.getElem?_map, List.getElem?_eq_getElem (by rw [hX]; exact hx)]
  rfl
 have dt : ∀ {ms : List Nat} {j : Nat}, ms.Perm ((List.range (N + M)).filter (mayB cs [])) -> zB_ r w M N plainL (knO (List.replicate (N + M) none)) [k] ms j -> j <= ms.length /\ (k ∈ ms.take j \/ N <= j) /\ ∀ i, i < j -> k ∉ ms.take i /\ ¬ N <= i := fun {ms j} pm hd => by
  have nd : ms.Nodup := pm.nodup_iff.mpr (List.Pairwise.filter _ List.nodup_range)
  have lt : ∀ x ∈ ms, x < N + M := fun x hx => List.mem_range.mp (List.mem_filter.mp (pm.mem_iff.mp hx)).1
  have fxi : ∀ i, i <= ms.length -> [k].all (fx r w M N plainL (knW (knO (List.replicate (N + M) none)) (ms.take i))) = ((ms.take i).contains k || decide (N <= i)) := fun i hi => by
   rw [List.all_cons, List.all_nil, Bool.and_true, qcp_, qe9_ g W hk (nd.sublist (List.take_sublist i ms)) fun x hx => lt x (List.mem_of_mem_take hx), List.length_take, Nat.min_eq_left hi]
  obtain ⟨h1, h2, h3⟩ := hd
  rw [fxi j h1, Bool.or_eq_true, List.contains_iff_mem, decide_eq_true_iff] at h2
  refine ⟨h1, h2, fun i hi => ?_⟩
  have := h3 i hi
  rw [fxi i (by omega), Bool.or_eq_false_iff, ← Bool.not_eq_true, List.contains_iff_mem, decide_eq_false_iff_not] at this
  exact this
 have jN : ∀ {ms : List Nat} {j : Nat}, (k ∈ ms.take j \/ N <= j) -> (∀ i, i < j -> k ∉ ms.take i /\ ¬ N <= i) -> k ∉ ms.take j -> j = N := fun {ms j} h2 h3 hn => by
  rcases h2 with h2 | h2
  ·exact absurd h2 hn
  ·by_cases e : j = N
   ·exact e
   ·exact absurd (Nat.le_refl N) (h3 N (by omega)).2
 cases h with
 | fixed hz =>
  rw [qcp_] at hz
  have := qe9_ (rs := []) g W hk List.nodup_nil (fun x hx => absurd hx List.not_mem_nil)
  have e : knW (List.replicate (N + M) false) [] = List.replicate (N + M) false := rfl
  rw [e, hz] at this
  have n1 := W.n1
  have e2 : (([] : List Nat).contains k || decide (N <= ([] : List Nat).length)) = false := by
   rw [decide_eq_false (by show ¬ N <= 0; omega)]
   rfl
  rw [e2] at this
  cases this
 | none _ _ _ _ => cases hb
 | own hz pm pw hd hm hc hrest =>
  rename_i ms j
  have nd : ms.Nodup := pm.nodup_iff.mpr (List.Pairwise.filter _ List.nodup_range)
  obtain ⟨h1, h2, h3⟩ := dt pm hd
  have et : tk cs (X.map some) (List.replicate (N + M) none) [] k = ((List.replicate (N + M) none).set k ((X.map some).getD k none), [k]) := by
   unfold tk
   rw [if_pos hm]
   rfl
  rw [et] at hrest
  have hf : fx r w M N plainL (knO ((List.replicate (N + M) none).set k ((X.map some).getD k none))) k = true := by
   unfold fx
   have : (knO ((List.replicate (N + M) none).set k ((X.map some).getD k none))).getD k false = true := by
    unfold knO
    rw [List.getD_eq_getElem?_getD, List.getElem?_map, List.getElem?_set_self (by rw [List.length_replicate]; exact hk), Option.map_some, hsome k hk]
    rfl
   rw [this]
   rfl
  obtain ⟨_, e2, _⟩ := uJ_ hrest hf
  refine ⟨ms, pm, pw, .inl ⟨e2, hm, fun hN => ?_⟩⟩
  have hkm : k ∈ ms := pm.mem_iff.mpr (List.mem_filter.mpr ⟨List.mem_range.mpr hk, hm⟩)
  by_cases hin : k ∈ ms.take j
  ·obtain ⟨s, t, e⟩ := List.append_of_mem hkm
   rw [e] at nd
   have nds := List.nodup_append.mp nd
   have hks : k ∉ s := fun z => nds.2.2 k z k (.head _) rfl
   have hkt : k ∉ t := (List.nodup_cons.mp nds.2.1).1
   have hsj : s.length < j := by
    by_cases y : s.length < j
    ·exact y
    ·rw [e, List.take_append_of_le_length (by omega)] at hin
     exact absurd (List.mem_of_mem_take hin) hks
   have hjN : j <= N := by
    by_cases y : j <= N
    ·exact y
    ·exact absurd (by omega : N <= j - 1) (h3 (j - 1) (by omega)).2
   have ef : ms.filter (· != k) = s ++ t := by
    rw [e, List.filter_append, List.filter_cons, if_neg (by simp), jR_ hks, jR_ hkt]
   rw [ef] at hN ⊢
   rw [List.take_append, List.take_of_length_le (by omega), qby_]
   rw [List.length_append] at hN
   have hpt : ∀ y ∈ t, ckO cs k <= ckO cs y := fun y hy => by
    rw [e] at pw
    have := (List.pairwise_cons.mp (List.pairwise_append.mp pw).2.1).1 y hy
    unfold klt at this
    omega
   have h0 := yP_ cs s
   match t, hN, hpt with
   | [], hN, _ =>
    simp only [List.length_nil] at hN
    omega
   | y :: t', hN, hpt =>
    have em : N - s.length = (N - s.length - 1) + 1 := by omega
    rw [em, List.take_succ_cons, zi_]
    have q1 := hpt y (.head _)
    have q2 := yP_ cs (t'.take (N - s.length - 1))
    omega
  ·have ej := jN h2 h3 hin
   rw [ej] at hin hc
   have ef : (ms.filter (· != k)).take N = ms.take N := by
    have e : ms = ms.take N ++ ms.drop N := (List.take_append_drop N ms).symm
    have e2 : ms.filter (· != k) = ms.take N ++ (ms.drop N).filter (· != k) := by
     rw (occs := .pos [1]) [e]
     rw [List.filter_append, jR_ hin]
    rw [e2, List.take_append_of_le_length (by rw [List.length_take]; omega), List.take_take, Nat.min_self]
   rw [ef]
   exact hc
 | way hz pm pw hd hnot hrest =>
  rename_i ms j
  have nd : ms.Nodup := pm.nodup_iff.mpr (List.Pairwise.filter _ List.nodup_range)
  obtain ⟨h1, h2, h3⟩ := dt pm hd
  have mem : ∀ x ∈ ms.take j, x < N + M /\ mayB cs [] x = true := fun x hx => by
   have := List.mem_filter.mp (pm.mem_iff.mp (List.mem_of_mem_take hx))
   exact ⟨List.mem_range.mp this.1, this.2⟩
  obtain ⟨e1, e2⟩ := uO_ (cs := cs) (srow := X.map some) (ms.take j) (List.replicate (N + M) none) [] (nd.sublist (List.take_sublist j ms)) fun x hx => ⟨(mem x hx).2, by rw [List.length_replicate]; exact (mem x hx).1, hsome x (mem x hx).1⟩
  have hf : fx r w M N plainL (knO (jo_ cs (X.map some) (ms.take j) (List.replicate (N + M) none) []).1) k = true := by
   rw [e2]
   have := hd.2.1
   rw [List.all_cons, List.all_nil, Bool.and_true] at this
   exact this
  obtain ⟨_, e3, _⟩ := uJ_ hrest hf
  have hin : k ∉ ms.take j := fun z => hnot ⟨(mem k z).2, qbe_ z⟩
  have ej := jN h2 h3 hin
  subst ej
  exact ⟨ms, pm, pw, .inr ⟨by rw [e3, e1]; rfl, h1, hin, hnot⟩⟩
def Itp (lo : Int) (n : Nat) : It := ⟨fun i _ => i < n, fun i H x H' => H' = H /\ x = .int (lo + i * 2), fun i _ => n <= i⟩
theorem qbz_ {P : Program} {w : World} {K : PySem.W.Frag} {tg : Expr} (it : Addr) (lo : Int) (n : Nat) : Turn P w K tg (Itp lo n) [it] it (fun i h => IsRangeIter h it (lo + (i : Nat) * 2) ((n : Int) - (i : Nat)) 2) where
 mem := by simp
 obj := fun i h st b hb => by
  have e : b = it := by simpa using hb
  subst e
  exact ⟨_, st, fun v z => by
   have z' : Data.fields _ = Data.cell v := z
   cases z'⟩
 keep := fun i h h' st k => k it (by simp) _ st
 item := by
  intro X hP hw hK hc i pins s σ H E I hf st hg
  subst hP hw hK
  obtain ⟨f0, f1, f2, f3, f4, f5⟩ := hf it (by simp)
  have W := Walks.range (prog := X.prog) (w := X.w) (I.ok.hd hc) it lo 2 n
  refine W.item i s _ _ hg st fun v h' tk hv st' kk => ?_
  obtain ⟨t, rfl⟩ := hv
  have I1 : Inv X pins σ H { s with heap := h', toks := tk } := I.turned (fun b o hb e => kk b o (by simpa using hb) e) f0 f1 f3 f4 f5
  exact ⟨_, rfl, u1_ (s := { s with heap := h', toks := tk }) (n := "range_iterator") st' rfl rfl (by decide) ⟨.int (lo + i * 2), H, I1, ⟨t, rfl⟩, ⟨rfl, rfl⟩, st', fun b hb => (hf b hb).1⟩⟩
 done := by
  intro X hP hw hK hc i pins s σ H E I hf st hg
  subst hP hw hK
  obtain ⟨f0, f1, f2, f3, f4, f5⟩ := hf it (by simp)
  exact wpAny_pyNext_range_end (I.ok.hd hc) st (by have : n <= i := hg; omega) fun h' eb => ⟨rfl, I.turned (t' := s.toks) (fun b o hb e => eb b o hb e) f0 f1 f3 f4 f5⟩
 self := fun _ _ _ _ _ st h => wpAny_pyIter_rangeiter st h
def qkj_ (ta : TA) : TI := fun σ H R => ta σ H fun vs H1 => ∃ i j : Int, vs = [.int i, .int j, .int 2] /\ (0 <= i /\ i < 1000 /\ i < j /\ j < 1000) /\ R (Itp i ((j - i + 1) / 2).toNat) H1
theorem qfb_ {X : Cx} {tg : Expr} {a b c : Expr} {ta : TA} {p pos : Pos} (hg : Gl X "range") (hm : X.mg "range" = none) (ha : PA X [a, b, c] ta) (hs : starEach [a, b, c] X.env = [(false, eval a X.env), (false, eval b X.env), (false, eval c X.env)] := by rfl) (hs2 : starEach [b, c] X.env = [(false, eval b X.env), (false, eval c X.env)] := by rfl) :
  PI X tg (.Call (.Name "range" p) [a, b, c] [] pos) (qkj_ ta) := by
 intro pins s σ H R I h
 refine Call_ (yr_ I hg hm boot_range (PyProof.Rows.callWith_type1 (thn (ha pos pins s σ H _ I h) fun us s1 ⟨vs, H1, I1, r1, q1⟩ => ?_) (by rw [hs, hs2]) (by rw [hs2]; rfl)))
 obtain ⟨i, j, e, ⟨q1, q2, q3, q4⟩, q⟩ := q1
 subst e
 cases r1 with
 | cons r rr =>
  cases rr with
  | cons r' rr =>
   cases rr with
   | cons r2 rr =>
    cases rr
    obtain ⟨t, rfl⟩ := r
    obtain ⟨t', rfl⟩ := r'
    obtain ⟨t2, rfl⟩ := r2
    have hd : Builtin.divisionGoesByPylong (j - i) 2 = false := by
     unfold Builtin.divisionGoesByPylong
     have : (decide ((if ((2 : Int) == 0) = true then 0 else Nat.log2 (Int.natAbs 2) / 30 + 1) > 300)) = false := by decide
     dsimp only
     rw [this, Bool.false_and]
    have rs : Builtin.Range.rangeSize i j 2 = (j - i - 1) / 2 + 1 := by
     unfold Builtin.Range.rangeSize
     rw [if_pos (by decide), if_pos q3]
    have fl : ∀ z : Int, -10000 < z -> z < 10000 -> Builtin.Range.rangeFitsLong z = true := fun z h1 h2 => by
     unfold Builtin.Range.rangeFitsLong
     rw [Bool.and_eq_true]
     exact ⟨decide_eq_true (by omega), decide_eq_true (by omega)⟩
    have sm : Builtin.Range.small i j 2 = true := by
     unfold Builtin.Range.small
     rw [rs, fl i (by omega) (by omega), fl j (by omega) (by omega), fl 2 (by decide) (by decide), fl ((j - i - 1) / 2 + 1) (by omega) (by omega), if_pos (by decide), fl (j + (2 - 1)) (by omega) (by omega), Bool.or_true]
     rfl
    refine call_range_3 (by decide) ?_ (.inl hd)
    refine wpAny_pyIter_range (IsRange.new ..) sm ?_
    have I2 : Inv X pins σ H1 { s1 with heap := s1.heap.push { cls := .type "range", data := .fields #[.int i t, .int j t', .int 2 t2] } } := I1.kept (t' := s1.toks) fun b o e => Heap.get?_push_of_some _ e
    refine ⟨(s1.heap.push { cls := .type "range", data := .fields #[.int i t, .int j t', .int 2 t2] }).objs.size, [(s1.heap.push { cls := .type "range", data := .fields #[.int i t, .int j t', .int 2 t2] }).objs.size], _, _, H1, rfl,
     I2.kept (t' := s1.toks) fun b o e => Heap.get?_push_of_some _ e, qbz_ _ i ((j - i + 1) / 2).toNat, ?_, fun b hb => ?_, q⟩
    ·have e1 : i + ((0 : Nat) : Int) * 2 = i := by simp
     have e2 : ((((j - i + 1) / 2).toNat : Nat) : Int) - ((0 : Nat) : Int) = Builtin.Range.rangeSize i j 2 := by rw [rs]; omega
     show IsRangeIter _ _ (i + ((0 : Nat) : Int) * 2) (((((j - i + 1) / 2).toNat : Nat) : Int) - ((0 : Nat) : Int)) 2
     rw [e1, e2]
     exact Heap.get?_push_size _ rfl
    ·have e : b = (s1.heap.push { cls := .type "range", data := .fields #[.int i t, .int j t', .int 2 t2] }).objs.size := by simpa using hb
     subst e
     exact I2.fpOk (Nat.le_refl _) (I2.hok.fresh (Nat.le_refl _))
theorem qdi_ {lo : Int} {n : Nat} {g : TG} {tb : TS} {D : Ends} {σ : L2.St} {H : Hp} (Pv : Nat -> L2.St -> Hp -> Prop) (h0 : Pv 0 σ H)
  (hs : ∀ i σ H, i < n -> Pv i σ H -> g (.int (lo + i * 2)) σ H fun σ2 H2 => tb { D with nx := Pv (i + 1), ct := Pv (i + 1), bk := D.nx } σ2 H2) (hd : ∀ σ H, Pv n σ H -> D.nx σ H) :
  ∃ W : Nat -> Nat -> L2.St -> Hp -> Prop, (∃ m, W 0 m σ H) /\ ∀ i m σ H, W i m σ H →
   ((Itp lo n).stop i H /\ D.nx σ H) \/ ((Itp lo n).go i H /\ ∃ N : L2.St -> Hp -> Prop, (∀ σ' H', N σ' H' -> ∃ m', m' < m /\ W (i + 1) m' σ' H') /\ ∀ x H', (Itp lo n).yld i H x H' -> g x σ H' fun σ2 H2 => tb { D with nx := N, ct := N, bk := D.nx } σ2 H2) := by
 refine ⟨fun i m σ H => m = n - i /\ i <= n /\ Pv i σ H, ⟨n, by simp, Nat.zero_le _, h0⟩, ?_⟩
 rintro i m σ H ⟨rfl, hi, p⟩
 by_cases hlt : i < n
 ·refine .inr ⟨hlt, Pv (i + 1), fun σ' H' p' => ⟨n - (i + 1), by omega, rfl, hlt, p'⟩, fun x H' y => ?_⟩
  obtain ⟨e, rfl⟩ := y
  subst e
  exact hs i σ _ hlt p
 ·have e : i = n := by omega
  exact .inl ⟨by show n <= i; omega, hd σ H (e ▸ p)⟩
theorem qdj_ {K : PySem.W.Frag} {l : Addr} {xs : List V} {f : Nat -> V} {b : Nat -> Bool} {k : Nat} {tt : TT} {te : TE} {cs : L2.St} {H1 : Hp} {D : Addr} {Q : Hp -> Prop} (h1 : SqL K H1 l xs) (hD : H1 D = none) (hk : k = cs.length) (hn : xs.length <= sizeLine)
  (ht : ∀ i u H (R : Bool -> Hp -> Prop), xs[i]? = some u -> Same H1 H -> (∀ H4, Same H H4 -> R (b i) H4) -> tt (cs ++ [some (.int (i : Nat)), some u]) H R)
  (he : ∀ i u H (R : V -> Hp -> Prop), xs[i]? = some u -> b i = true -> Same H1 H -> (∀ H4, Same H H4 -> R (f i) H4) -> te (cs ++ [some (.int (i : Nat)), some u]) H R)
  (hQ : ∀ H, Same H1 H -> H D = some (.lst (((List.range xs.length).filter b).map f)) -> Q H) : jF_ (Ite K l xs) (gTup K 2 (yW_ (jh_ k) (yW_ (jh_ (k + 1)) gNil))) tt te (cs ++ [none, none]) H1 D Q := by
 refine ⟨fun i m ys σ H => m = xs.length - i /\ i <= xs.length /\ Same H1 H /\ ys = ((List.range i).filter b).map f /\ H D = some (.lst ys) /\ ∃ o1 o2, σ = cs ++ [o1, o2], ⟨xs.length, rfl, Nat.zero_le _, (Same.refl _).up hD, rfl, qd_, none, none, rfl⟩, ?_⟩
 rintro i m ys σ H ⟨rfl, hi, sm, rfl, hd, o1, o2, rfl⟩
 refine ⟨hd, ?_⟩
 by_cases hlt : i < xs.length
 ·refine .inr ⟨⟨sm.seq h1, hlt⟩, fun x H' y => ?_⟩
  obtain ⟨T, u, hT, rfl, hu, rfl⟩ := y
  refine ua_ hk hT fun H2 s2 => ?_
  refine ht i u H2 _ hu (sm.trans s2) fun H4 s4 => ?_
  have s24 := s2.trans s4
  have er : (List.range (i + 1)).filter b = (List.range i).filter b ++ (if b i = true then [i] else []) := by
   rw [List.range_succ, List.filter_append]
   congr 1
   by_cases z : b i = true
   ·rw [if_pos z, List.filter_cons_of_pos z, List.filter_nil]
   ·rw [if_neg z, List.filter_cons_of_neg z, List.filter_nil]
  by_cases z : b i = true
  ·rw [if_pos z]
   refine he i u H4 _ hu z (sm.trans s24) fun H5 s5 => ⟨s5 _ _ (s24 _ _ hd), ?_, xs.length - (i + 1), by omega, rfl, hlt, ((sm.trans s24).trans s5).up hD, ?_, qd_, _, _, rfl⟩
   ·rw [List.length_map]
    have := List.length_filter_le b (List.range i)
    rw [List.length_range] at this
    omega
   ·rw [er, if_pos z, List.map_append]
    rfl
  ·rw [if_neg z]
   refine ⟨xs.length - (i + 1), by omega, rfl, hlt, sm.trans s24, ?_, s24 _ _ hd, _, _, rfl⟩
   rw [er, if_neg z, List.append_nil]
 ·have e : i = xs.length := by omega
  subst e
  exact .inl ⟨⟨sm.seq h1, Nat.le_refl _⟩, hQ H sm hd⟩
theorem ul_ {xs : List V} {k : Nat} : cutV xs none (some (k : Int)) = xs.take k := by
 unfold cutV
 rw [HT.sIx_none, HT.sIx_nat, List.drop_zero, Nat.sub_zero]
 rw [List.take_eq_take_iff]
 omega
theorem zD_ (cs : List (Option Nat)) (k : Nat) : mayB cs [] k = (cs.getD k none).isSome := by
 unfold mayB
 simp
def otB (cs : List (Option Nat)) (k i : Nat) : Bool := i != k && (cs.getD i none).isSome
theorem qfc_ {cs : List (Option Nat)} {R k : Nat} {ms : List Nat} {ns : List Int} (pm : ms.Perm ((List.range R).filter (mayB cs []))) (pw : ms.Pairwise (klt (ckO cs))) (pn : ns.Perm (((List.range R).filter (otB cs k)).map (ckO cs))) (sn : ns.Pairwise (· <= ·)) : ns = (ms.filter (· != k)).map (ckO cs) := by
 have p1 : (ms.filter (· != k)).Perm ((List.range R).filter (otB cs k)) := by
  have e : (List.range R).filter (otB cs k) = ((List.range R).filter (mayB cs [])).filter (· != k) := by
   rw [List.filter_filter]
   refine List.filter_congr fun x _ => ?_
   unfold otB
   rw [zD_]
  rw [e]
  exact pm.filter _
 refine List.Perm.eq_of_pairwise (le := fun x y : Int => x <= y) (fun x y _ _ h1 h2 => by omega) sn ?_ (pn.trans (p1.map _).symm)
 refine List.pairwise_map.mpr ((pw.filter _).imp fun h => ?_)
 unfold klt at h
 omega
def ya_ (cs : List (Option Nat)) (k N : Nat) (ns : List Int) : V := if ns.length < N then valO (cs.getD k none) else if (cs.getD k none).isSome = true /\ ckO cs k < (ns.take N).sum then .int (ckO cs k) else .int (ns.take N).sum
theorem zj_ {cs : List (Option Nat)} {k : Nat} (h : (cs.getD k none).isSome = true) : valO (cs.getD k none) = .int (ckO cs k) := by
 unfold ckO
 cases e : cs.getD k none with
 | none => rw [e] at h; cases h
 | some x => rfl
theorem qdk_ {cs : List (Option Nat)} {R k N : Nat} {ms as : List Nat} {ns : List Int} (pm : ms.Perm ((List.range R).filter (mayB cs []))) (pw : ms.Pairwise (klt (ckO cs))) (pn : ns.Perm (((List.range R).filter (otB cs k)).map (ckO cs))) (sn : ns.Pairwise (· <= ·))
  (h : (as = [k] /\ mayB cs [] k = true /\ (N <= (ms.filter fun x => x != k).length -> ckO cs k <= sumC cs ((ms.filter fun x => x != k).take N))) \/ as = ms.take N /\ N <= ms.length /\ ¬ k ∈ ms.take N /\ ¬ (mayB cs [] k = true /\ ckO cs k <= sumC cs (ms.take N))) : ya_ cs k N ns = .int (sumC cs as) := by
 have e := qfc_ pm pw pn sn
 have es : (ns.take N).sum = sumC cs ((ms.filter fun x => x != k).take N) := by
  rw [e, ← List.map_take]
  rfl
 have el : ns.length = (ms.filter fun x => x != k).length := by rw [e, List.length_map]
 unfold ya_
 rw [es, el]
 rcases h with ⟨rfl, hm, hc⟩ | ⟨rfl, hN, hin, hno⟩
 ·rw [zD_] at hm
  have e1 : sumC cs [k] = ckO cs k := by
   rw [zi_]
   show ckO cs k + 0 = _
   omega
  rw [e1]
  by_cases z : (ms.filter fun x => x != k).length < N
  ·rw [if_pos z, zj_ hm]
  ·rw [if_neg z]
   have := hc (by omega)
   split
   ·rfl
   ·rename_i y
    congr 1
    have : ¬ ckO cs k < sumC cs ((ms.filter fun x => x != k).take N) := fun q => y ⟨hm, q⟩
    omega
 ·have ef : (ms.filter fun x => x != k) = ms.take N ++ (ms.drop N).filter (fun x => x != k) := by
   conv => lhs; rw [<- List.take_append_drop N ms]
   rw [List.filter_append, jR_ hin]
  have el2 : ¬ (ms.filter fun x => x != k).length < N := by
   rw [ef, List.length_append, List.length_take]
   omega
  have et : (ms.filter fun x => x != k).take N = ms.take N := by
   rw [ef, List.take_append_of_le_length (by rw [List.length_take]; omega), List.take_take, Nat.min_self]
  rw [if_neg el2, et, if_neg fun ⟨y1, y2⟩ => hno ⟨by rw [zD_]; exact y1, by omega⟩]
theorem qbf_ (X : List Nat) : rowV X = rowO (X.map some) := by
 unfold rowV rowO
 rw [List.map_map]
 rfl
def noN (cs : List (Option Nat)) (R : Nat) : Nat := (List.range R).countP fun j => (cs.getD j none).isNone
theorem qij_ {cs : List (Option Nat)} {R : Nat} {X : List Nat} (hX : X.length = R) : (List.range R).countP (gapP cs (X.map some)) = noN cs R := by
 refine List.countP_congr fun k hk => ?_
 have hk := List.mem_range.mp hk
 unfold gapP
 have : ((X.map some).getD k none).isNone = false := by
  rw [List.getD_eq_getElem?_getD, List.getElem?_map, List.getElem?_eq_getElem (by omega)]
  rfl
 rw [this, Bool.or_false]
theorem qik_ {cs : List (Option Nat)} {R k : Nat} : noN (cs.set k none) R <= noN cs R + 1 := by
 unfold noN
 induction R with
 | zero => simp
 | succ R ih =>
  rw [List.range_succ, List.countP_append, List.countP_append, List.countP_singleton, List.countP_singleton]
  by_cases z : k = R
  ·subst z
   have e : (List.range k).countP (fun j => ((cs.set k none).getD j none).isNone) = (List.range k).countP (fun j => (cs.getD j none).isNone) := by
    refine List.countP_congr fun x hx => ?_
    have hx := List.mem_range.mp hx
    rw [List.getD_eq_getElem?_getD, List.getElem?_set_ne (by omega), ← List.getD_eq_getElem?_getD]
   rw [e]
   split <;> split <;> omega
  ·have e : ((cs.set k none).getD R none) = cs.getD R none := by
    rw [List.getD_eq_getElem?_getD, List.getElem?_set_ne z, ← List.getD_eq_getElem?_getD]
   rw [e]
   omega
theorem qgt_ (cs : List Nat) : noN (cs.map some) cs.length = 0 := by
 unfold noN
 rw [List.countP_eq_zero]
 intro k hk
 have hk := List.mem_range.mp hk
 rw [List.getD_eq_getElem?_getD, List.getElem?_map, List.getElem?_eq_getElem hk]
 exact fun y => by cases y
section
variable {P : Program} {wo : World} {K : PySem.W.Frag} {mg : Str -> Option Value} {base : Heap} {a : Adr}
def qil_ : Sp := fun vs H Q _ => ∃ (N M : Nat), vs = [.int N, .int M] /\ 1 <= M /\ M <= 2 /\ N <= 8 /\ ∀ D H' ps, Same H H' -> H' D = some (.lst (List.map V.ref ps)) -> TabAt H' ps M (rowT N plainL) -> Q (.ref D) H'
theorem qgu_ (T : Txt K mg a) : FnOk P wo K mg base CX0 1 a.f_plain a.d_plain ["_law_data", "_law_sums"] qil_ := by
 refine T.F_plain.ok (k := 0) sc_plain (fun vs H Q E h => ?_) (fun cdv A outer s H vs Q E hr h => ?_)
 ·obtain ⟨N, M, rfl, _⟩ := h
  rfl
 ·obtain ⟨N, M, rfl, m1, m2, n8, q⟩ := h
  refine ⟨_, (qc_ (qm_ (i := 2) sc_plain.nd rfl (Or.inl rfl) (jB_ (qa_ (qn_ vF_ (jB_ (qa_ qj_ qf_)) (pv 0)) (qa_ (jH_ (CompOk.of (cap := []) (own := ["_law_role"]) (by kernel_rfl)) rfl (jz_ rfl T.n_range (qa_ (pv 0) qf_)) (fun _ _ _ _ _ => (qs_ (i := 0) (of_decide_eq_true (by kernel_rfl)) rfl (Or.inl rfl))) (fun _ _ _ _ _ => jG_) (fun _ _ _ _ _ => by exact (qn_ qP_ (pv 0) qj_))) qf_))))
   (qg_ (qq_ (zt_ z4_ (pv 2) z2_ (z3_ (pv 1)))))), ?_⟩
  refine ⟨(show 1 <= sizeLine by decide), fun p1 n1 => ⟨_, rfl, p1, _, _, rfl, rfl, qd_, by omega, by omega, ?_, fun p2 n2 => ?_⟩⟩
  ·rw [Int.toNat_natCast]
   show 1 * N <= sizeLine
   exact Nat.le_trans (by omega : 1 * N <= 30) (by decide)
  have e0 : rowT N plainL 0 = List.replicate N 1 := by
   unfold rowT
   show ((List.range N).map fun _ => 1) = _
   rw [List.map_const', List.length_range]
  have eR : (List.replicate ((N : Int)).toNat [V.int 1]).flatten = rowV (rowT N plainL 0) := by
   rw [Int.toNat_natCast, e0]
   exact uf_ N 1
  rw [eR]
  have sP := (Same.new (o := .lst [V.int 1]) n1).trans (Same.new (o := .lst (rowV (rowT N plainL 0))) n2)
  have hp2 : (upd (upd H p1 (.lst [V.int 1])) p2 (.lst (rowV (rowT N plainL 0)))) p2 = some (.lst (rowV (rowT N plainL 0))) := qd_
  generalize (upd (upd H p1 (.lst [V.int 1])) p2 (.lst (rowV (rowT N plainL 0)))) = Hp at sP hp2
  refine ⟨_, rfl, _, rfl, by omega, by omega, fun cp ncp => ?_⟩
  rw [Int.toNat_natCast]
  refine qbp_ (n := N) (f := fun i => .int ((plainL 1 i : Nat) : Int)) (cs := []) ncp rfl (Nat.le_trans n8 (by decide)) (fun i Hx Rx hi sx hR => ?_) (fun Hq sQ hcp => ?_)
  ·refine ⟨_, rfl, _, _, rfl, rfl, ?_⟩
   have e : (i : Int) + 1 = ((plainL 1 i : Nat) : Int) := by
    unfold plainL
    rw [if_neg (by decide)]
    omega
   try dsimp only
   rw [e]
   exact hR _ (Same.refl _)
  have ecp : ((List.range N).map fun i => V.int ((plainL 1 i : Nat) : Int)) = rowV (rowT N plainL 1) := by
   unfold rowV rowT
   rw [List.map_map]
   rfl
  rw [ecp] at hcp
  refine ⟨(show 2 <= sizeLine by decide), fun LL nLL => ?_⟩
  have sL := Same.new (o := .lst [V.ref p2, V.ref cp]) nLL
  have hLL : (upd Hq LL (.lst [V.ref p2, V.ref cp])) LL = some (.lst (List.map V.ref [p2, cp])) := qd_
  have sAL := sP.trans (sQ.trans sL)
  have h2 := sL _ _ (sQ _ _ hp2)
  have h3 := sL _ _ hcp
  generalize (upd Hq LL (.lst [V.ref p2, V.ref cp])) = Hl at sAL hLL h2 h3
  refine ⟨_, rfl, _, rfl, _, rfl, LL, _, rfl, SqL.of hLL, fun sl nsl => ?_⟩
  rw [ul_, ← List.map_take]
  have sS := Same.new (o := .lst (([p2, cp].take M).map V.ref)) nsl
  have hsl : (upd Hl sl (.lst (([p2, cp].take M).map V.ref))) sl = some (.lst (([p2, cp].take M).map V.ref)) := qd_
  have htS : TabAt (upd Hl sl (.lst (([p2, cp].take M).map V.ref))) ([p2, cp].take M) M (rowT N plainL) := ⟨by rw [List.length_take]; show min M 2 = M; omega, fun i p e => by
   rw [List.getElem?_take] at e
   split at e
   ·match i, e with
    | 0, e => cases Option.some.inj e; exact sS _ _ h2
    | 1, e => cases Option.some.inj e; exact sS _ _ h3
   ·cases e⟩
  exact q sl _ _ (sAL.trans sS) hsl htS
def qjr_ : Sp := fun vs H Q _ => ∃ (c : Int) (R M : Nat) (ch : Addr) (cs : List Nat), vs = [.int c, .int R, .int M, .ref ch] /\ 2 <= R /\ R <= 8 /\ M <= 2 /\ H ch = some (.lst (rowV cs)) /\ cs.length = R /\ (∀ x ∈ cs, x <= 9) ∧
 ∀ H' (cs' : List (Option Nat)), (∀ b o, b ≠ ch -> H b = some o -> H' b = some o) -> H' ch = some (.lst (rowO cs')) -> cs'.length = R -> (∀ j, (cs'.getD j none).getD 0 <= 9) -> noN cs' R <= M -> Q (.ref ch) H'
theorem qim_ (T : Txt K mg a) : FnOk P wo K mg base CX0 1 a.f_lost a.d_lost ["_law_cell_here", "_law_roles", "_law_sums", "_law_costs_here"] qjr_ := by
 refine T.F_lost.ok (k := 0) sc_lost (fun vs H Q E h => ?_) (fun cdv A outer s H vs Q E hr h => ?_)
 ·obtain ⟨c, R, M, ch, cs, rfl, _⟩ := h
  rfl
 ·obtain ⟨c, R, M, ch, cs, rfl, r2, r8, m2, hch, hl, h9, q⟩ := h
  refine ⟨_, (qc_ (qm_ (i := 4) sc_lost.nd rfl (Or.inl rfl) (qn_ jY_ (pv 0) (qn_ qP_ (pv 2) qj_)))
   (qc_ (qm_ (i := 5) sc_lost.nd rfl (Or.inl rfl) (qn_ q6_ (pv 4) (pv 1)))
   (qc_ (qm_ (i := 6) sc_lost.nd rfl (Or.inl rfl) (qn_ q6_ (qn_ qP_ (qn_ qP_ (pv 5) qj_) (qn_ q6_ (qn_ jY_ (pv 4) (pv 1)) (qn_ y8_ (pv 1) qj_))) (pv 1)))
   (qc_ (qY_ PassesOwn.never rfl (jp_ (zt_ z4_ (jB_ (qa_ (pv 5) (qa_ (pv 6) qf_))) z2_ (z3_ (qn_ q6_ (pv 0) (qn_ qP_ (pv 2) qj_))))) (qs_ (i := 7) sc_lost.nd rfl (Or.inl rfl)) (qg_ (yQ_ jr_ (y7_ (pv 3) (pv 7) yp_))))
   (qg_ (qq_ (pv 3))))))), ?_⟩
  have hM : (0 : Int) < (M : Int) + 1 := by omega
  have hR : (0 : Int) < (R : Int) := by omega
  obtain ⟨o, eo, ho⟩ : ∃ o : Nat, (c / ((M : Int) + 1)) % (R : Int) = (o : Int) /\ o < R := by
   have h1 := Int.emod_nonneg (c / ((M : Int) + 1)) (Int.ne_of_gt hR)
   have h2 := Int.emod_lt_of_pos (c / ((M : Int) + 1)) hR
   exact ⟨_, (Int.toNat_of_nonneg h1).symm, by omega⟩
  obtain ⟨t, et, ht⟩ : ∃ t : Nat, ((o : Int) + 1 + (c / ((M : Int) + 1)) / (R : Int) % ((R : Int) - 1)) % (R : Int) = (t : Int) /\ t < R := by
   have h1 := Int.emod_nonneg ((o : Int) + 1 + (c / ((M : Int) + 1)) / (R : Int) % ((R : Int) - 1)) (Int.ne_of_gt hR)
   have h2 := Int.emod_lt_of_pos ((o : Int) + 1 + (c / ((M : Int) + 1)) / (R : Int) % ((R : Int) - 1)) hR
   exact ⟨_, (Int.toNat_of_nonneg h1).symm, by omega⟩
  obtain ⟨m, em, hm⟩ : ∃ m : Nat, c % ((M : Int) + 1) = (m : Int) /\ m <= M := by
   have h1 := Int.emod_nonneg c (Int.ne_of_gt hM)
   have h2 := Int.emod_lt_of_pos c hM
   exact ⟨_, (Int.toNat_of_nonneg h1).symm, by omega⟩
  refine ⟨_, rfl, _, rfl, _, _, rfl, rfl, _, _, rfl, rfl, ⟨by omega, by omega⟩, ?_⟩
  refine ⟨_, rfl, _, rfl, _, _, rfl, rfl, hR, ?_⟩
  try dsimp only [L2.start, List.set, List.map, List.append, List.replicate, HAppend.hAppend, Append.append, List.length, Nat.reduceAdd, Nat.reduceSub]
  rw [eo]
  refine ⟨_, rfl, _, _, rfl, rfl, _, rfl, _, rfl, _, _, rfl, rfl, ⟨by omega, by omega⟩, _, rfl, _, _, rfl, rfl, _, _, rfl, rfl, by omega, _, _, rfl, rfl, _, rfl, _, _, rfl, rfl, hR, ?_⟩
  try dsimp only [L2.start, List.set, List.map, List.append, List.replicate, HAppend.hAppend, Append.append, List.length, Nat.reduceAdd, Nat.reduceSub]
  rw [et]
  refine ⟨_, rfl, _, rfl, (show 2 <= sizeLine by decide), fun LL nLL => ⟨_, rfl, _, rfl, _, _, rfl, rfl, _, _, rfl, rfl, hM, _, rfl, LL, _, rfl, SqL.of qd_, fun sl nsl => ?_⟩⟩
  rw [em, ul_]
  have s1 := (Same.new (o := .lst [V.int (o : Nat), V.int (t : Nat)]) nLL).trans (Same.new (o := .lst ([V.int (o : Nat), V.int (t : Nat)].take m)) nsl)
  have hsl : (upd (upd H LL (.lst [V.int (o : Nat), V.int (t : Nat)])) sl (.lst ([V.int (o : Nat), V.int (t : Nat)].take m))) sl = some (.lst ([V.int (o : Nat), V.int (t : Nat)].take m)) := qd_
  have hne : sl ≠ ch := fun y => by
   have := (Same.new (o := .lst [V.int (o : Nat), V.int (t : Nat)]) nLL) _ _ hch
   rw [<- y, nsl] at this
   cases this
  generalize (upd (upd H LL (.lst [V.int (o : Nat), V.int (t : Nat)])) sl (.lst ([V.int (o : Nat), V.int (t : Nat)].take m))) = H1 at s1 hsl
  refine ⟨sl, rfl, ⟨_, SqL.of hsl⟩, ?_⟩
  refine j4_ (xs := [V.int (o : Nat), V.int (t : Nat)].take m) (fun i σ H' => (∃ v7 : Option V, σ = [some (.int c), some (.int (R : Nat)), some (.int (M : Nat)), some (.ref ch), some (.int (c / ((M : Int) + 1))), some (.int (o : Nat)), some (.int (t : Nat)), v7]) /\ (∀ b o, b ≠ ch -> H1 b = some o -> H' b = some o) /\ ∃ cs' : List (Option Nat), H' ch = some (.lst (rowO cs')) /\ cs'.length = R /\ (∀ j, (cs'.getD j none).getD 0 <= 9) /\ noN cs' R <= i) ⟨⟨none, rfl⟩, fun b o _ e => e, cs.map some, ?_, by rw [List.length_map, hl], fun j => ?_, by rw [<- hl, qgt_]; exact Nat.le_refl _⟩ ?_ ?_ ?_
  ·rw [s1 _ _ hch, qbf_]
  ·rw [List.getD_eq_getElem?_getD, List.getElem?_map]
   cases e : cs[j]? with
   | none => exact Nat.zero_le _
   | some x => exact h9 x (List.mem_of_getElem? e)
  ·rintro i σ H' _ ⟨_, k1, _⟩
   exact SqL.of (k1 _ _ hne hsl)
  ·rintro i x σ H' hx ⟨⟨v7, rfl⟩, k1, cs', h1, h2, h3, h4⟩
   obtain ⟨k, rfl, hk⟩ : ∃ k : Nat, x = .int (k : Nat) /\ k < R := by
    have hx := List.mem_of_mem_take (List.mem_of_getElem? hx)
    rcases List.mem_cons.mp hx with y | y
    ·exact ⟨o, y, ho⟩
    ·exact ⟨t, List.mem_singleton.mp y, ht⟩
   refine ⟨_, rfl, _, rfl, ch, _, _, k, rfl, rfl, h1, yJ_ (by rw [qZ_, h2]; exact hk), ?_⟩
   refine ⟨⟨_, rfl⟩, fun b o n e => by rw [qe_ n]; exact k1 b o n e, cs'.set k none, ?_, by rw [List.length_set, h2], fun j => ?_, Nat.le_trans qik_ (by omega)⟩
   ·rw [qd_, show V.non = valO none from rfl, qa7_]
   ·rw [List.getD_eq_getElem?_getD, List.getElem?_set]
    split
    ·split <;> exact Nat.zero_le _
    ·rw [<- List.getD_eq_getElem?_getD]; exact h3 j
  ·rintro σ H' ⟨⟨v7, rfl⟩, k1, cs', h1, h2, h3, h4⟩
   refine ⟨_, rfl, q H' cs' (fun b o n e => k1 b o n (s1 b o e)) h1 h2 h3 (Nat.le_trans h4 (Nat.le_trans (List.length_take_le ..) hm))⟩
def qin_ (K : PySem.W.Frag) : Sp := fun vs H Q _ => ∃ (ch : Addr) (k N : Nat) (cs : List (Option Nat)), vs = [.ref ch, .int k, .int N] /\ H ch = some (.lst (rowO cs)) /\ cs.length <= 8 /\ k < cs.length /\ (∀ j, (cs.getD j none).getD 0 <= 1000000) ∧
 ∀ H' ns, Same H H' -> ns.Perm (((List.range cs.length).filter (otB cs k)).map (ckO cs)) -> ns.Pairwise (· <= ·) -> Q (ya_ cs k N ns) H'
theorem qgv_ (T : Txt K mg a) : FnOk P wo K mg base CX0 1 a.f_least a.d_least ["_law_costs_here", "_law_role", "_law_data"] (qin_ K) := by
 refine T.F_least.ok (k := 0) sc_least (fun vs H Q E h => ?_) (fun cdv A outer s H vs Q E hr h => ?_)
 ·obtain ⟨ch, k, N, cs, rfl, _⟩ := h
  rfl
 ·obtain ⟨ch, k, N, cs, rfl, hch, h8, hk, h6, q⟩ := h
  refine ⟨_, (qc_ (qm_ (i := 3) sc_least.nd rfl (Or.inl rfl) (qw_ qbq_ rfl T.n_sorted PyProof.Rows.Boot.sorted (qa_ (jH_ (CompOk.of (cap := [1]) (own := ["_law_at", "_law_cost"]) (by kernel_rfl)) rfl (v8_ rfl T.n_enumerate (qa_ (pv 0) qf_)) (fun _ _ _ _ _ => (v9_ (n := 2) (K := K) rfl rfl (qO_ (qs_ (i := 1) (of_decide_eq_true (by kernel_rfl)) rfl (Or.inl rfl)) (qO_ (qs_ (i := 2) (of_decide_eq_true (by kernel_rfl)) rfl (Or.inl rfl)) yb_)))) (fun _ _ _ _ _ => (v3_ (PW.pt (u6_ (qp_ zY_ (pv 1) (pv 0) (qr_ _)) (v0_ (qp_ yq_ (pv 2) jr_ (qr_ _))))))) (fun _ _ _ _ _ => by exact (pv 2))) qf_)))
   (qc_ (qH_ (qp_ yN_ (qw_ qt_ rfl T.n_len PySem.boot_len (qa_ (pv 3) qf_)) (pv 2) (qr_ _)) (qg_ (qq_ (qD_ qz_ (pv 0) (pv 1) (fun _ _ => rfl)))) qB_)
   (qc_ (qm_ (i := 4) sc_least.nd rfl (Or.inl rfl) (qw_ (uH_ rfl) rfl T.n_sum PyProof.Rows.Boot.sum (qa_ (zt_ z4_ (pv 3) z2_ (z3_ (pv 2))) qf_)))
   (qc_ (qH_ (PW.pt (u6_ (qp_ yq_ (qD_ qz_ (pv 0) (pv 1) (fun _ _ => rfl)) jr_ (qr_ _)) (v0_ (qp_ yN_ (qD_ qz_ (pv 0) (pv 1) (fun _ _ => rfl)) (pv 4) (qr_ _))))) (qg_ (qq_ (qD_ qz_ (pv 0) (pv 1) (fun _ _ => rfl)))) qB_)
   (qg_ (qq_ (pv 4))))))), ?_⟩
  refine ⟨_, rfl, ch, _, rfl, SqL.of hch, fun D nD => ?_⟩
  refine qdj_ (xs := rowO cs) (f := fun i => .int (ckO cs i)) (b := otB cs k) (cs := [some (.int (k : Nat))]) (SqL.of hch) nD rfl (by rw [qZ_]; exact Nat.le_trans h8 (by decide)) (fun i u Hx Rx hu sx hR => ?_) (fun i u Hx Rx hu hb sx hR => ?_) (fun Hq sQ hD => ?_)
  ·have hi : i < cs.length := by
    have := (List.getElem?_eq_some_iff.mp hu).1
    rwa [qZ_] at this
   have eu : u = valO (cs.getD i none) := Option.some.inj (hu.symm.trans (jg_ (j9_ hi)))
   refine ⟨_, rfl, _, rfl, rfl, _, rfl, ?_⟩
   by_cases z : i = k
   ·refine ite2 (fun y => absurd y (vS_ (by rw [z]))) (fun _ => ?_)
    have : otB cs k i = false := by unfold otB; rw [z]; simp
    rw [<- this]
    exact hR _ (Same.refl _)
   ·refine ite2 (fun _ => ?_) (fun y => absurd (by rw [decide_eq_false (fun e => z (by have := V.int.inj e; omega))]; rfl) y)
    refine ⟨_, rfl, rfl, _, rfl, ?_⟩
    have : (!decide (u = V.non)) = otB cs k i := by
     rw [eu]
     unfold otB
     rw [show (i != k) = true by simpa using z, Bool.true_and]
     cases cs.getD i none <;> rfl
    try dsimp only
    rw [this]
    exact hR _ (Same.refl _)
  ·have hi : i < cs.length := by
    have := (List.getElem?_eq_some_iff.mp hu).1
    rwa [qZ_] at this
   have eu : u = valO (cs.getD i none) := Option.some.inj (hu.symm.trans (jg_ (j9_ hi)))
   unfold otB at hb
   rw [Bool.and_eq_true] at hb
   rw [eu, zj_ hb.2]
   exact ⟨_, rfl, hR _ (Same.refl _)⟩
  rw [qZ_] at hD
  have hD' : Hq D = some (.lst ((((List.range cs.length).filter (otB cs k)).map (ckO cs)).map V.int)) := by
   rw [hD, List.map_map]
   rfl
  have hlen : (((List.range cs.length).filter (otB cs k)).map (ckO cs)).length <= 8 := by
   rw [List.length_map]
   have := List.length_filter_le (otB cs k) (List.range cs.length)
   rw [List.length_range] at this
   omega
  refine ⟨D, _, rfl, SqL.of hD', by omega, fun l ns nl pn sn => ?_⟩
  have hpl := pn.length_eq
  have sL := sQ.trans (Same.new (o := .lst (ns.map V.int)) nl)
  have hL : (upd Hq l (.lst (ns.map V.int))) l = some (.lst (ns.map V.int)) := qd_
  generalize (upd Hq l (.lst (ns.map V.int))) = H2 at sL hL
  have hch2 := sL _ _ hch
  have hix := qy_ (jg_ (j9_ hk))
  refine ⟨_, rfl, l, _, rfl, .inl (SqL.of hL), _, rfl, _, _, rfl, rfl, _, rfl, ?_⟩
  rw [List.length_map]
  refine ite2 (fun z => ?_) (fun z => ?_)
  ·have z := of_decide_eq_true z
   have e : ya_ cs k N ns = valO (cs.getD k none) := by
    unfold ya_
    rw [if_pos (by omega)]
   refine ⟨_, rfl, _, rfl, ch, _, _, _, rfl, rfl, SqL.of hch2, hix, ?_⟩
   rw [<- e]
   exact q H2 ns sL pn sn
  have z : ¬ ns.length < N := fun y => z (decide_eq_true (by omega))
  refine ⟨_, rfl, _, rfl, _, rfl, l, _, rfl, SqL.of hL, fun sl nsl => ?_⟩
  rw [ul_, ← List.map_take]
  have sS := sL.trans (Same.new (o := .lst ((ns.take N).map V.int)) nsl)
  have hS : (upd H2 sl (.lst ((ns.take N).map V.int))) sl = some (.lst ((ns.take N).map V.int)) := qd_
  generalize (upd H2 sl (.lst ((ns.take N).map V.int))) = H3 at sS hS
  refine ⟨sl, _, rfl, SqL.of hS, by have := List.length_take_le N ns; omega, fun y hy => ?_, ?_⟩
  ·have hy := pn.mem_iff.mp (List.mem_of_mem_take hy)
   obtain ⟨j, _, rfl⟩ := List.mem_map.mp hy
   have := h6 j
   unfold ckO
   omega
  have hch3 := sS _ _ hch
  refine ⟨_, rfl, _, rfl, ch, _, _, _, rfl, rfl, SqL.of hch3, hix, rfl, _, rfl, ?_⟩
  cases hs : (cs.getD k none).isSome with
  | false =>
   have en : valO (cs.getD k none) = V.non := by
    cases e : cs.getD k none with
    | none => rfl
    | some x => rw [e] at hs; cases hs
   refine ite2 (fun y => absurd y (vS_ en)) (fun _ => ?_)
   refine iteF ?_
   have e : ya_ cs k N ns = .int (ns.take N).sum := by
    unfold ya_
    rw [if_neg z, if_neg fun y => by rw [hs] at y; cases y.1]
   refine ⟨_, rfl, ?_⟩
   rw [<- e]
   exact q H3 ns sS pn sn
  | true =>
   have ev := zj_ hs
   refine ite2 (fun _ => ?_) (fun y => absurd (by rw [ev]; rfl) y)
   refine ⟨_, rfl, _, rfl, ch, _, _, _, rfl, rfl, SqL.of hch3, hix, _, rfl, _, _, ev, rfl, _, rfl, ?_⟩
   refine ite2 (fun y => ?_) (fun y => ?_)
   ·have y := of_decide_eq_true y
    have e : ya_ cs k N ns = valO (cs.getD k none) := by
     unfold ya_
     rw [if_neg z, if_pos ⟨hs, y⟩, ev]
    refine ⟨_, rfl, _, rfl, ch, _, _, _, rfl, rfl, SqL.of hch3, hix, ?_⟩
    rw [<- e]
    exact q H3 ns sS pn sn
   ·have e : ya_ cs k N ns = .int (ns.take N).sum := by
     unfold ya_
     rw [if_neg z, if_neg fun w => y (decide_eq_true w.2)]
    refine ⟨_, rfl, ?_⟩
    rw [<- e]
    exact q H3 ns sS pn sn
end
theorem CodeAt.hide {a : Adr} {H : Hp} {c bp fp : Addr} {r w n M N : Nat} {l : Nat -> Nat -> Nat} {xs : List Addr} (h : CodeAt a H c bp fp r w n M N l) (hx : ∀ x ∈ xs, ∃ ps, H x = some (.tbl ps)) : CodeAt a (qX_ xs H) c bp fp r w n M N l := by
 have k : ∀ {b : Addr} {o : HO}, H b = some o -> (∀ ps, o ≠ .tbl ps) -> qX_ xs H b = some o := fun {b o} e n => by
  rw [jO_ fun z => ?_]
  ·exact e
  ·obtain ⟨ps, y⟩ := hx b z
   rw [y] at e
   exact n ps (Option.some.inj e).symm
 obtain ⟨dx, Lp, qs, h1, h2, h3⟩ := h.ins
 obtain ⟨⟨db, hb⟩, ⟨dF, hF⟩⟩ := h.blk
 exact ⟨⟨dx, Lp, qs, k h1 (fun _ y => by cases y), k h2 (fun _ y => by cases y), ⟨h3.len, fun i p e => k (h3.on i p e) (fun _ y => by cases y)⟩⟩, ⟨⟨db, k hb (fun _ y => by cases y)⟩, ⟨dF, k hF (fun _ y => by cases y)⟩⟩⟩
section
variable {P : Program} {wo : World} {K : PySem.W.Frag} {mg : Str -> Option Value} {base : Heap} {a : Adr}
structure RdH (a : Adr) (G H : Hp) (c bp fp mk ch : Addr) (r w n M N : Nat) (cs : List (Option Nat)) (X : List Nat) : Prop where
 sm : Same G H
 code : CodeAt a G c bp fp r w n M N plainL
 full : GF.Full r w
 n16 : n <= 16
 W : Wts w M N plainL
 make : G mk = some (.lst (rowV X))
 cost : G ch = some (.lst (rowO cs))
 csl : cs.length = N + M
 c6 : ∀ j, (cs.getD j none).getD 0 <= 1000000
 few : noN cs (N + M) <= M
 X1 : X.length = N + M
 Xlt : ∀ b ∈ X, b < (2 ^ w) ^ n
 Xmk : isMk r w n M N plainL X = true
 nt1 : G a.t_Asking_order = none
 nt2 : G a.t_asker = none
 t1 : TabS H a.t_Asking_order posL qL
 t2 : TabS H a.t_asker (posD inA) qA
theorem qfd_ {R : Nat} {X : List Nat} (h : X.length = R) : j2_ R (X.map some) X := fun j hj b hb => by
 rw [List.getD_eq_getElem?_getD, List.getElem?_map, List.getElem?_eq_getElem (by rw [h]; exact hj)] at hb
 cases hb
 rw [List.getD_eq_getElem?_getD, List.getElem?_eq_getElem (by rw [h]; exact hj)]
 rfl
def qio_ (a : Adr) : Sp := fun vs H Q _ => ∃ (G : Hp) (c bp fp mk ch : Addr) (r w n M N k : Nat) (cs : List (Option Nat)) (X : List Nat), vs = [.ref c, .ref mk, .ref ch, .int k, .int N] /\ RdH a G H c bp fp mk ch r w n M N cs X /\ k < N + M ∧
 ∀ H', RdH a G H' c bp fp mk ch r w n M N cs X -> Q (.bl true) H'
theorem qgw_ (T : Txt K mg a) (B : Tb base mg a) : FnOk P wo K mg base CX0 12 a.f_scene a.d_scene ["_law_code", "_law_make_here", "_law_costs_here", "_law_role", "_law_data"] (qio_ a) := by
 have G_asker : FnOk P wo K mg base CX0 11 _ _ _ _ := (qgk_ T B).mono (by decide)
 have G_Asking_init : FnOk P wo K mg base CX0 10 _ _ _ _ := (uj_ T).mono (by decide)
 have G_read_role : FnOk P wo K mg base CX0 11 _ _ _ _ := qbb_ T B
 have G_least : FnOk P wo K mg base CX0 11 _ _ _ _ := (qgv_ T).mono (by decide)
 refine T.F_scene.ok (k := 11) sc_scene (fun vs H Q E h => ?_) (fun cdv A outer s H vs Q E hr h => ?_)
 ·obtain ⟨G, c, bp, fp, mk, ch, r, w, n, M, N, k, cs, X, rfl, _⟩ := h
  rfl
 ·obtain ⟨G, c, bp, fp, mk, ch, r, w, n, M, N, k, cs, X, rfl, D, hk, q⟩ := h
  have n8 := D.W.n8
  refine ⟨_, (qc_ (qm_ (i := 5) sc_scene.nd rfl (Or.inl rfl) (jB_ qf_))
   (qc_ (qm_ (i := 6) sc_scene.nd rfl (Or.inl rfl) (z1_ T.mk_Asking G_Asking_init (hr.mono (by decide)) rfl T.m_Asking T.b_Asking_init .nil qo_ (qa_ (pv 0) (qa_ (qx_ G_asker (hr.mono (by decide)) rfl T.m_asker T.k_asker T.b_asker .nil qo_ (qa_ (pv 1) (qa_ (pv 5) qf_))) (qa_ (yR_ j5_ rfl T.n_list (by decide +kernel) (qa_ (pv 2) qf_)) qf_)))))
   (qc_ (qH_ (qp_ zY_ (qx_ G_read_role (hr.mono (by decide)) rfl T.m_read_role T.k_read_role T.b_read_role .nil qo_ (qa_ (pv 6) (qa_ (pv 3) qf_))) (qD_ qz_ (pv 1) (pv 3) (fun _ _ => rfl)) (qr_ _)) (qg_ (qq_ zr_)) qB_)
   (qc_ (qm_ (i := 7) sc_scene.nd rfl (Or.inl rfl) qj_)
   (qc_ (qY_ PassesOwn.never rfl (jp_ (pv 5)) (qs_ (i := 8) sc_scene.nd rfl (Or.inl rfl)) (qc_ (qH_ (PW.pt (yt_ (qp_ vA_ (qD_ qz_ (pv 2) (pv 8) (fun _ _ => rfl)) jr_ (qr_ _)) (ys_ (qp_ ym_ (yc_ PySem.F.plainAttrs_list PySem.F.slot_list_count PySem.F.type_list_count qfs_ (pv 5) (qa_ (pv 8) qf_)) qj_ (qr_ _))))) (qg_ (qq_ zr_)) qB_)
   (qg_ (qm_ (i := 7) sc_scene.nd rfl (Or.inl rfl) (qn_ qP_ (pv 7) (qD_ qz_ (pv 2) (pv 8) (fun _ _ => rfl)))))))
   (qg_ (qq_ (y3_ j1_ (pv 7) (qx_ G_least (hr.mono (by decide)) rfl T.m_least T.k_least T.b_least .nil qo_ (qa_ (pv 2) (qa_ (pv 3) (qa_ (pv 4) qf_)))) (qr_ _))))))))), ?_⟩
  refine ⟨Nat.zero_le _, fun z nz => ?_⟩
  have s1 := D.sm.trans (Same.new (o := .lst []) nz)
  have nzG : G z = none := D.sm.free nz
  have hz : (upd H z (.lst [])) z = some (.lst (rowV [])) := qd_
  have t1 := D.t1.keep (Same.new (o := .lst []) nz)
  have t2 := D.t2.keep (Same.new (o := .lst []) nz)
  generalize (upd H z (.lst [])) = H1 at s1 hz t1 t2
  refine ⟨_, rfl, _, rfl, _, rfl, mk, z, rfl, t2, fun H2 f k2 t2' nf hf fr2 => ?_⟩
  obtain ⟨ps2, hp2, _⟩ := id t2
  have t1 := t1.kp B.d_Asking_order_asker hp2 k2
  have s2 : Same G H2 := fun b o e => k2 b o (fun y => by rw [y, D.nt2] at e; cases e) (s1 b o e)
  have hz2 := k2 _ _ (yL_ hz hp2 (fun y => by cases y)) hz
  refine ⟨_, rfl, ch, _, rfl, .inl (SqL.of (s2 _ _ D.cost)), fun hd nhd => ?_⟩
  have s23 := Same.new (o := .lst (rowO cs)) nhd
  have s3 := s2.trans s23
  have hz3 := s23 _ _ hz2
  have hh3 : (upd H2 hd (.lst (rowO cs))) hd = some (.lst (rowO cs)) := qd_
  have t1' := t1.keep s23
  have t2' := t2'.keep s23
  have hf := hf.same s23
  generalize (upd H2 hd (.lst (rowO cs))) = H3 at s23 s3 hz3 hh3 t1' t2' hf
  refine fun x dx nx ndx nex => ?_
  have hh4 : (upd (upd H3 dx (.own x)) x (.ins a.C_Asking dx [])) hd = some (.lst (rowO cs)) := by
   rw [qe_ (qk_ hh3 nx), qe_ (qk_ hh3 ndx)]
   exact hh3
  have sG4 : Same G (upd (upd H3 dx (.own x)) x (.ins a.C_Asking dx [])) := fun b o e => by
   have e3 := s3 b o e
   rw [qe_ (qk_ e3 nx), qe_ (qk_ e3 ndx)]
   exact e3
  have hmk : G mk = some (.lst (rowO (X.map some))) := by rw [<- qbf_]; exact D.make
  have hml : (X.map some).length = N + M := by rw [List.length_map, D.X1]
  refine ⟨x, dx, c, bp, fp, f, hd, r, w, n, M, N, plainL, cs, rfl, qd_, D.code.same sG4, D.W, SqL.of hh4, by rw [D.csl]; exact n8, fun H5 cl rl sl k5 hx5 ncl nrl nsl d1 d2 d3 hcl hrl hsl => ?_⟩
  obtain ⟨I, J, sGh, s35⟩ := qgr_ [] s3 D.code D.full D.n16 D.W hmk hml nzG D.nt1 hf hz3 t1' D.csl nx ndx k5 hx5 ncl nrl nsl d1 d2 d3 hcl hrl hsl (fun y hy => absurd hy List.not_mem_nil)
  have hz5 := s35 _ _ hz3
  obtain ⟨ps1, hp1, _⟩ := id t1'
  have ht5 := s35 _ _ hp1
  have t2h : TabS (qX_ [z, rl, sl, a.t_Asking_order] H5) a.t_asker (posD inA) qA := by
   obtain ⟨ps3, hp3, _⟩ := id t2'
   have hp5 := s35 _ _ hp3
   refine (t2'.keep s35).hide (fun hb => ?_) fun b hb => ?_
   ·rcases List.mem_cons.mp hb with y | hb
    ·rw [y, hz5] at hp5; cases hp5
    rcases List.mem_cons.mp hb with y | hb
    ·rw [y, hrl] at hp5; cases hp5
    rcases List.mem_cons.mp hb with y | hb
    ·rw [y, hsl] at hp5; cases hp5
    ·exact B.d_Asking_order_asker (List.mem_singleton.mp hb).symm
   ·rcases List.mem_cons.mp hb with y | hb
    ·rw [y]; exact .inl ⟨_, hz5⟩
    rcases List.mem_cons.mp hb with y | hb
    ·rw [y]; exact .inl ⟨_, hrl⟩
    rcases List.mem_cons.mp hb with y | hb
    ·rw [y]; exact .inl ⟨_, hsl⟩
    ·rw [List.mem_singleton.mp hb]; exact .inr ⟨_, ht5⟩
  refine ⟨rfl, ?_⟩
  refine ⟨_, rfl, _, rfl, _, _, r, w, n, M, N, k, plainL, cs, X.map some, _, [], X, rfl, I, J, hk, D.c6, D.X1, D.Xlt, D.Xmk, qfd_ D.X1, qe7_ _ _, fun H6 os' as' b hRd hag J6 => ?_⟩
  obtain ⟨hb, ms, pm, pw, hcase⟩ := qki_ D.full.toGood D.W hk D.X1 (by rw [qij_ D.X1]; exact D.few) hRd
  subst hb
  rw [if_pos rfl]
  have eX : (rowV X)[k]? = some (.int ((X.getD k 0 : Nat) : Int)) := j8_ (by rw [D.X1]; exact hk)
  have hG6 : Same G H6 := sGh.trans J6.sm
  refine ⟨_, rfl, _, rfl, mk, _, _, _, rfl, rfl, SqL.of (hG6 _ _ D.make), qy_ eX, rfl, _, rfl, ?_⟩
  refine ite2 (fun y => absurd y (vS_ rfl)) (fun _ => ?_)
  have hth : ∀ x ∈ as', (cs.getD x none).isSome = true := fun x hx => by
   rw [<- zD_]
   rcases hcase with ⟨e, h1, _⟩ | ⟨e, _⟩
   ·rw [e] at hx
    rw [List.mem_singleton.mp hx]
    exact h1
   ·rw [e] at hx
    exact (List.mem_filter.mp (pm.mem_iff.mp (List.mem_of_mem_take hx))).2
  have hz6 := J6.hz
  have hc6 := hG6 _ _ D.cost
  refine ⟨_, rfl, z, rfl, ⟨_, SqL.of hz6⟩, ?_⟩
  refine j4_ (xs := rowV as') (fun i σ H' => (∃ v8 : Option V, σ = [some (.ref c), some (.ref mk), some (.ref ch), some (.int (k : Nat)), some (.int (N : Nat)), some (.ref z), some (.ref x), some (.int (sumC cs (as'.take i))), v8]) /\ H' = H6) ⟨⟨none, rfl⟩, rfl⟩ ?_ ?_ ?_
  ·rintro i σ H' _ ⟨_, rfl⟩
   exact SqL.of hz6
  ·rintro i y σ H' hy ⟨⟨v8, rfl⟩, rfl⟩
   obtain ⟨j, ej, rfl⟩ := jq_ hy
   have hjm := List.mem_of_getElem? ej
   have hj := J6.lt j hjm
   have hix := qy_ (jg_ (j9_ (os := cs) (k := j) (by rw [D.csl]; exact hj)))
   have ev := zj_ (hth j hjm)
   refine ⟨_, rfl, _, rfl, ch, _, _, _, rfl, rfl, SqL.of hc6, hix, rfl, _, rfl, ?_⟩
   refine ite2 (fun z => by rw [ev] at z; exact absurd z (by simp)) (fun _ => ?_)
   refine ⟨_, rfl, .inl ⟨rfl, _, SqL.of hz6⟩, _, rfl, z, _, _, rfl, rfl, hz6, rfl, fun z hz => ?_, _, _, rfl, rfl, _, rfl, ?_⟩
   ·obtain ⟨y, _, rfl⟩ := vq_ hz
    rfl
   have hc1 := uK_ (k := j) as' J6.nd
   refine ite2 (fun z => absurd (of_decide_eq_true z) (by omega)) (fun _ => ?_)
   refine ⟨_, rfl, _, rfl, _, rfl, ch, _, _, _, rfl, rfl, SqL.of hc6, hix, _, _, rfl, ev, ?_⟩
   have e : sumC cs (as'.take i) + ckO cs j = sumC cs (as'.take (i + 1)) := by
    rw [zX_ ej]
    unfold sumC
    rw [List.map_append, List.sum_append]
    show _ = _ + (ckO cs j + 0)
    omega
   try dsimp only [L2.start, List.set, List.map, List.append, List.replicate, HAppend.hAppend, Append.append, List.length, Nat.reduceAdd, Nat.reduceSub]
   rw [e]
   exact ⟨⟨_, rfl⟩, rfl⟩
  ·rintro σ H' ⟨⟨v8, rfl⟩, rfl⟩
   rw [ql_, List.take_length]
   refine ⟨_, rfl, _, rfl, _, rfl, _, rfl, ch, k, N, cs, rfl, hc6, by rw [D.csl]; exact n8, by rw [D.csl]; exact hk, D.c6, fun H7 ns s7 pn sn => ?_⟩
   rw [D.csl] at pn
   rw [qdk_ pm pw pn sn hcase]
   refine ⟨rfl, ?_⟩
   rw [decide_eq_true rfl]
   exact q H7 { D with sm := hG6.trans s7, t1 := J6.tab.keep s7, t2 := t2h.keep (J6.sm.trans s7) }
end
theorem TabS.kl {H H' : Hp} {t l : Addr} {p : Pos} {q : Str} {ys : List V} (h : TabS H t p q) (hl : H l = some (.lst ys)) (k : ∀ b o, b ≠ l -> H b = some o -> H' b = some o) : TabS H' t p q := by
 obtain ⟨ps', h1, h2⟩ := h
 refine ⟨ps', k _ _ (yL_ h1 hl (fun y => by cases y)) h1, ?_⟩
 rcases h2 with h2 | ⟨c', e, h2⟩
 ·exact .inl h2
 ·exact .inr ⟨c', e, k _ _ (yL_ h2 hl (fun y => by cases y)) h2⟩
theorem qgx_ {K : PySem.W.Frag} {H : Hp} {b : Addr} {xs : List V} {ts : List Addr} (h : SqL K H b xs) (ht : ∀ p ∈ ts, ∃ ps, H p = some (.tbl ps)) : SqL K (qX_ ts H) b xs := by
 have k : ∀ {o : HO}, H b = some o -> (∀ ps, o ≠ .tbl ps) -> qX_ ts H b = some o := fun {o} e n => by
  rw [jO_ fun z => ?_]
  ·exact e
  ·obtain ⟨ps, y⟩ := ht b z
   rw [y] at e
   exact n ps (Option.some.inj e).symm
 rcases h with (h | ⟨o, h⟩) | h
 ·exact .inl (.inl (k h (fun _ y => by cases y)))
 ·exact .inl (.inr ⟨o, k h (fun _ y => by cases y)⟩)
 ·exact .inr h
section
variable {P : Program} {wo : World} {K : PySem.W.Frag} {mg : Str -> Option Value} {base : Heap} {a : Adr}
def vY_ (K : PySem.W.Frag) (ts : List Addr) : Sp := fun vs H Q _ => ∃ (s : Addr) (ns : List Int), vs = [.ref s] /\ SqL K H s (ns.map V.int) /\ ns.length <= 63 /\ (∀ p ∈ ts, H p = some (.tbl #[])) /\ ∀ H', Q (.bl true) H'
theorem qjs_ (T : Txt K mg a) (B : Tb base mg a) : FnOk P wo K mg base CX0 13 a.f_law a.d_law ["_law_script"] (vY_ K [a.t_Asking_order, a.t_asker]) := by
 have G_cell : FnOk P wo K mg base CX0 12 _ _ _ _ := (qch_ T).mono (by decide)
 have G_rule : FnOk P wo K mg base CX0 12 _ _ _ _ := (qhv_ T).mono (by decide)
 have G_sizes : FnOk P wo K mg base CX0 12 _ _ _ _ := (qgh_ T).mono (by decide)
 have G_plain : FnOk P wo K mg base CX0 12 _ _ _ _ := (qgu_ T).mono (by decide)
 have G_some : FnOk P wo K mg base CX0 12 _ _ _ _ := (qh7_ T).mono (by decide)
 have G_make : FnOk P wo K mg base CX0 12 _ _ _ _ := (qh5_ T).mono (by decide)
 have G_costs : FnOk P wo K mg base CX0 12 _ _ _ _ := (qgj_ T).mono (by decide)
 have G_lost : FnOk P wo K mg base CX0 12 _ _ _ _ := (qim_ T).mono (by decide)
 have G_Field_init : FnOk P wo K mg base CX0 11 _ _ _ _ := (uW_ T).mono (by decide)
 have G_Blocks_init : FnOk P wo K mg base CX0 11 _ _ _ _ := (ue_ T).mono (by decide)
 have G_Code_init : FnOk P wo K mg base CX0 11 _ _ _ _ := (qa4_ T).mono (by decide)
 have G_scene : FnOk P wo K mg base CX0 12 _ _ _ _ := qgw_ T B
 refine T.F_law.ok (k := 12) sc_law (fun vs H Q E h => ?_) (fun cdv A outer s H vs Q E hr h => ?_)
 ·obtain ⟨sa, ns, rfl, _⟩ := h
  rfl
 ·obtain ⟨sa, ns, rfl, hS, hlen, hT, q⟩ := h
  have ht1 := hT a.t_Asking_order (.head _)
  have ht2 := hT a.t_asker (.tail _ (.head _))
  refine ⟨_, (qc_ (yQ_ (qx_ G_sizes (hr.mono (by decide)) rfl T.m_sizes T.k_sizes T.b_sizes .nil qo_ (qa_ (qx_ G_cell (hr.mono (by decide)) rfl T.m_cell T.k_cell T.b_cell .nil qo_ (qa_ (pv 0) (qa_ qj_ qf_))) qf_)) (y6_ rfl (qO_ (qs_ (i := 1) sc_law.nd rfl (Or.inl rfl)) (qO_ (qs_ (i := 2) sc_law.nd rfl (Or.inl rfl)) yb_))))
   (qc_ (qm_ (i := 3) sc_law.nd rfl (Or.inl rfl) (qx_ G_rule (hr.mono (by decide)) rfl T.m_rule T.k_rule T.b_rule .nil qo_ (qa_ (qx_ G_cell (hr.mono (by decide)) rfl T.m_cell T.k_cell T.b_cell .nil qo_ (qa_ (pv 0) (qa_ qj_ qf_))) qf_)))
   (qc_ (qm_ (i := 4) sc_law.nd rfl (Or.inl rfl) (qx_ G_plain (hr.mono (by decide)) rfl T.m_plain T.k_plain T.b_plain .nil qo_ (qa_ (pv 1) (qa_ (pv 2) qf_))))
   (qc_ (qm_ (i := 5) sc_law.nd rfl (Or.inl rfl) (qx_ G_make (hr.mono (by decide)) rfl T.m_make T.k_make T.b_make .nil qo_ (qa_ (qx_ G_some (hr.mono (by decide)) rfl T.m_some T.k_some T.b_some .nil qo_ (qa_ (pv 0) (qa_ qj_ (qa_ (pv 1) (qa_ (qn_ u8_ qj_ (qn_ y8_ (zG_ PySem.F.plainAttrs_int PyProof.Rows.slot_int_bit_length PyProof.Rows.type_int_bit_length yS_ (pv 3)) qj_)) qf_))))) (qa_ (pv 4) (qa_ (pv 3) qf_)))))
   (qc_ (qm_ (i := 6) sc_law.nd rfl (Or.inl rfl) (z1_ T.mk_Code G_Code_init (hr.mono (by decide)) rfl T.m_Code T.b_Code_init .nil qo_ (qa_ (z1_ T.mk_Blocks G_Blocks_init (hr.mono (by decide)) rfl T.m_Blocks T.b_Blocks_init .nil qo_ (qa_ (z1_ T.mk_Field G_Field_init (hr.mono (by decide)) rfl T.m_Field T.b_Field_init .nil qo_ (qa_ (pv 3) qf_)) (qa_ qj_ qf_))) (qa_ (pv 4) qf_))))
   (qc_ (qm_ (i := 7) sc_law.nd rfl (Or.inl rfl) (qn_ qP_ (pv 1) (pv 2)))
   (qc_ (qY_ PassesOwn.never rfl (qfb_ rfl T.n_range (qa_ qj_ (qa_ (qw_ (qdr_ rfl) rfl T.n_max boot_max (qa_ qj_ (qa_ (qw_ (qds_ rfl) rfl T.n_min boot_min (qa_ (qw_ qt_ rfl T.n_len PySem.boot_len (qa_ (pv 0) qf_)) (qa_ qj_ qf_))) qf_))) (qa_ qj_ qf_)))) (qs_ (i := 8) sc_law.nd rfl (Or.inl rfl)) (qc_ (qm_ (i := 9) sc_law.nd rfl (Or.inl rfl) (qx_ G_costs (hr.mono (by decide)) rfl T.m_costs T.k_costs T.b_costs .nil qo_ (qa_ (qx_ G_cell (hr.mono (by decide)) rfl T.m_cell T.k_cell T.b_cell .nil qo_ (qa_ (pv 0) (qa_ (pv 8) qf_))) (qa_ (pv 7) qf_))))
   (qc_ (qm_ (i := 10) sc_law.nd rfl (Or.inl rfl) (qx_ G_cell (hr.mono (by decide)) rfl T.m_cell T.k_cell T.b_cell .nil qo_ (qa_ (pv 0) (qa_ (qn_ qP_ (pv 8) qj_) qf_))))
   (qc_ (qm_ (i := 9) sc_law.nd rfl (Or.inl rfl) (qx_ G_lost (hr.mono (by decide)) rfl T.m_lost T.k_lost T.b_lost .nil qo_ (qa_ (qn_ jY_ (pv 10) (pv 7)) (qa_ (pv 7) (qa_ (pv 2) (qa_ (pv 9) qf_))))))
   (qg_ (qH_ (zl_ (j3_ (qx_ G_scene (hr.mono (by decide)) rfl T.m_scene T.k_scene T.b_scene .nil qo_ (qa_ (pv 6) (qa_ (pv 5) (qa_ (pv 9) (qa_ (qn_ q6_ (pv 10) (pv 7)) (qa_ (pv 1) qf_)))))))) (qg_ (qq_ zr_)) qB_))))))
   (qg_ (qq_ zr_))))))))), ?_⟩
  refine ⟨_, rfl, sa, ns, 0, rfl, hS, by decide, hlen, fun c0 => ⟨_, rfl, fun tp H1 N M m1 m2 n1 n8 ntp s1 htp => ?_⟩⟩
  refine ⟨tp, _, rfl, SqT.of htp, rfl, _, _, rfl, _, _, rfl, rfl, ?_⟩
  have hS1 := s1.seq hS
  refine ⟨_, rfl, sa, ns, 1, rfl, hS1, by decide, hlen, fun c1 => ⟨_, rfl, fun r H2 R s2 => ?_⟩⟩
  generalize r.log2 = w at R
  have h16 := R.top16
  have h256 := R.top256
  have s02 := s1.trans s2
  refine ⟨_, rfl, _, rfl, N, M, rfl, m1, m2, by omega, fun WL H3 ps s3 hWL htW => ?_⟩
  have s03 := s02.trans s3
  have W : Wts w M N plainL := qev_ h16 m1 m2 n1 n8
  have hw8 : w <= 8 := R.w8
  have hw4 : 4 <= w := R.w4
  have ew : ((Builtin.Int.intBits (r : Int) : Nat) : Int) - 1 = (w : Int) := by
   rw [jZ_ R.rule.lo R.rule.hi]
   omega
  have eL : (1 : Int) * 2 ^ ((w : Int)).toNat = (((2 ^ w) ^ 1 : Nat) : Int) := by rw [qav_, Nat.pow_one]
  have hL0 : 0 < (2 ^ w) ^ 1 := Nat.pow_pos (Nat.two_pow_pos w)
  have hLB : (2 ^ w) ^ 1 <= 2 ^ 128 := by
   rw [Nat.pow_one]
   exact Nat.pow_le_pow_right (by decide) (by omega)
  refine ⟨_, rfl, _, rfl, _, rfl, rfl, _, rfl, rfl, _, _, rfl, rfl, ?_⟩
  try dsimp only
  rw [ew]
  refine ⟨_, _, rfl, rfl, ⟨by omega, by omega, by decide⟩, ?_⟩
  try dsimp only
  rw [eL]
  refine ⟨sa, ns, 2, N, (2 ^ w) ^ 1, rfl, s03.seq hS, hlen, by omega, by omega, hL0, hLB, fun SL H8 xs s8 nSL hSL hxl hxlt => ?_⟩
  have s08 := s03.trans s8
  refine ⟨_, rfl, _, rfl, SL, WL, ps, r, w, 1, M, N, plainL, xs, rfl, R.toGood, hSL, hxl, by omega, m2, hxlt, s8 _ _ hWL, htW.same s8, W.lt, fun ML H9 s9 nML hML => ?_⟩
  have s09 := s08.trans s9
  have s39 := s8.trans s9
  obtain ⟨X, hXe⟩ : ∃ X, X = zg_ r w 1 M N plainL xs := ⟨_, rfl⟩
  rw [<- hXe] at hML
  have hX1 : X.length = N + M := by rw [hXe]; exact qgs_ _ _ _ _ _ _ _ hxl
  have hXlt : ∀ b ∈ X, b < (2 ^ w) ^ 1 := by rw [hXe]; exact qii_ R.toGood W hxlt
  have hXmk : isMk r w 1 M N plainL X = true := by rw [hXe]; exact qih_ _ _ _ _ _ _ _ R.toGood W hxl
  try dsimp only [L2.start, List.set, List.map, List.append, List.replicate, HAppend.hAppend, Append.append, List.length, Nat.reduceAdd, Nat.reduceSub]
  refine ⟨_, rfl, fun x dx nx ndx nex => ⟨x, dx, r, w, rfl, qd_, R.toGood, rfl, ?_⟩⟩
  have s5 := qek_ (a := a) (r := r) (w := w) (Same.refl H9) nx ndx
  have hF : FieldAt a.C_Field (upd (upd (upd H9 dx (.own x)) x (.ins a.C_Field dx [])) x (.ins a.C_Field dx (ff r w))) x r w := ⟨dx, qd_⟩
  generalize (upd (upd (upd H9 dx (.own x)) x (.ins a.C_Field dx [])) x (.ins a.C_Field dx (ff r w))) = H14 at s5 hF
  refine fun b db nb ndb neb => ⟨b, db, x, r, w, 1, rfl, qd_, ?_, ?_, R.toGood, by decide, by decide, rfl, ?_⟩
  ·obtain ⟨d, e⟩ := hF
   exact ⟨d, by rw [qe_ (qk_ e nb), qe_ (qk_ e ndb)]; exact e⟩
  ·obtain ⟨d, e⟩ := hF
   exact (qk_ e nb).symm
  have s6 := qc6_ (a := a) (fp := x) (w := w) (n := 1) (Same.refl H14) nb ndb
  have hB : BlocksAt a (upd (upd (upd H14 db (.own b)) b (.ins a.C_Blocks db [])) b (.ins a.C_Blocks db (bf x w 1))) b x r w 1 := ⟨⟨db, qd_⟩, hF.same s6⟩
  generalize (upd (upd (upd H14 db (.own b)) b (.ins a.C_Blocks db [])) b (.ins a.C_Blocks db (bf x w 1))) = H15 at s6 hB
  have s915 := s5.trans s6
  have s315 := s39.trans s915
  refine ⟨_, rfl, fun c dc nc ndc nec => ?_⟩
  have s7 : Same H15 (upd (upd H15 dc (.own c)) c (.ins a.C_Code dc [])) := fun y o e => by
   rw [qe_ (qk_ e nc), qe_ (qk_ e ndc)]
   exact e
  refine ⟨c, dc, b, x, WL, r, w, 1, M, N, ps, plainL, rfl, qd_, hB.same s7, R.toGood, s7 _ _ (s315 _ _ hWL), htW.same (s315.trans s7), W, fun H16 k16 hC16 => ⟨rfl, ?_⟩⟩
  have s1516 : Same H15 H16 := fun y o e => k16 y o (qk_ e nc) (s7 _ _ e)
  have s916 := s915.trans s1516
  have s016 := s09.trans s916
  have ht1' := s016 _ _ ht1
  have ht2' := s016 _ _ ht2
  have hML' := s916 _ _ hML
  have hhid : ∀ p ∈ [a.t_Asking_order, a.t_asker], ∃ ps, H16 p = some (.tbl ps) := fun p hp => by
   rcases List.mem_cons.mp hp with y | y
   ·rw [y]; exact ⟨_, ht1'⟩
   ·rw [List.mem_singleton.mp y]; exact ⟨_, ht2'⟩
  have hCG := hC16.hide hhid
  have hMG : qX_ [a.t_Asking_order, a.t_asker] H16 ML = some (.lst (rowV X)) := by
   rw [jO_ fun z => ?_]
   ·exact hML'
   ·obtain ⟨ps, y⟩ := hhid ML z
    rw [y] at hML'; cases hML'
  have sG : Same (qX_ [a.t_Asking_order, a.t_asker] H16) H16 := zC_ _ _
  have nt1 : qX_ [a.t_Asking_order, a.t_asker] H16 a.t_Asking_order = none := jM_ (by simp)
  have nt2 : qX_ [a.t_Asking_order, a.t_asker] H16 a.t_asker = none := jM_ (by simp)
  have hSG : SqL K (qX_ [a.t_Asking_order, a.t_asker] H16) sa (ns.map V.int) := qgx_ (s016.seq hS) hhid
  have T1 : TabS H16 a.t_Asking_order posL qL := ⟨_, ht1', .inl rfl⟩
  have T2 : TabS H16 a.t_asker (posD inA) qA := ⟨_, ht2', .inl rfl⟩
  generalize qX_ [a.t_Asking_order, a.t_asker] H16 = G at hCG hMG sG nt1 nt2 hSG
  refine ⟨_, rfl, _, rfl, _, _, rfl, rfl, ?_⟩
  have hl63 : (ns.map V.int).length <= 63 := by rw [List.length_map]; exact hlen
  obtain ⟨J, hJ, hJ4, hJ63⟩ : ∃ J : Int, (if (if (60 : Int) < (((ns.map V.int).length : Nat) : Int) then 60 else (((ns.map V.int).length : Nat) : Int)) > 4 then (if (60 : Int) < (((ns.map V.int).length : Nat) : Int) then 60 else (((ns.map V.int).length : Nat) : Int)) else 4) = J /\ 4 <= J /\ J <= 63 := by
   refine ⟨_, rfl, ?_, ?_⟩
   ·split <;> omega
   ·split
    ·split <;> omega
    ·omega
  refine ⟨_, rfl, sa, _, rfl, .inl (sG.seq hSG), _, _, rfl, _, _, rfl, ?_⟩
  refine ⟨2, J, congrArg (fun z => [V.int 2, V.int z, V.int 2]) hJ, ⟨by decide, by decide, by omega, by omega⟩, ?_⟩
  refine qdi_ (lo := 2) (n := ((J - 2 + 1) / 2).toNat) (fun i σ H' => (∃ v8 v9 v10 : Option V, σ = [some (.ref sa), some (.int (N : Nat)), some (.int (M : Nat)), some (.int (r : Nat)), some (.ref WL), some (.ref ML), some (.ref c), some (.int ((N : Int) + (M : Int))), v8, v9, v10]) /\ Same G H' /\ TabS H' a.t_Asking_order posL qL /\ TabS H' a.t_asker (posD inA) qA) ⟨⟨_, _, _, rfl⟩, sG, T1, T2⟩ ?_ ?_
  ·rintro i σ H17 hi ⟨⟨v8, v9, v10, rfl⟩, s17, t1, t2⟩
   rw [show (2 : Int) + (i : Nat) * 2 = ((2 + 2 * i : Nat) : Int) by omega]
   have hi2 : 2 + 2 * i <= 70 := by omega
   refine ⟨_, rfl, _, rfl, sa, ns, 2 + 2 * i, rfl, s17.seq hSG, by omega, hlen, fun c2 => ?_⟩
   refine ⟨_, rfl, c2, N + M, congrArg (fun z => [V.int c2, V.int z]) (show (N : Int) + (M : Int) = ((N + M : Nat) : Int) by omega), n8, fun CL H18 cs0 s18 nCL hCL hcl hc9 => ?_⟩
   refine ⟨_, rfl, _, rfl, _, _, rfl, rfl, sa, ns, 2 + 2 * i + 1, congrArg (fun z => [V.ref sa, V.int z]) (show ((2 + 2 * i : Nat) : Int) + 1 = ((2 + 2 * i + 1 : Nat) : Int) by omega), (s17.trans s18).seq hSG, by omega, hlen, fun c3 => ?_⟩
   refine ⟨_, rfl, _, rfl, _, _, rfl, rfl, ⟨by omega, by omega⟩, _, rfl, _, rfl, _, rfl, _, N + M, M, CL, cs0, congrArg (fun z => [V.int (c3 / ((N : Int) + (M : Int))), V.int z, V.int (M : Nat), V.ref CL]) (show (N : Int) + (M : Int) = ((N + M : Nat) : Int) by omega), by omega, n8, m2, hCL, hcl, fun x hx => (hc9 x hx).2, fun H19 cs k19 hCL' hcl' hc9' hno => ?_⟩
   have s19 : Same G H19 := fun b o e => k19 b o (qk_ (s17 b o e) nCL) (s18 b o (s17 b o e))
   have t1 := (t1.keep s18).kl hCL k19
   have t2 := (t2.keep s18).kl hCL k19
   have hh2 : ∀ p ∈ [a.t_Asking_order, a.t_asker], ∃ ps, H19 p = some (.tbl ps) := fun p hp => by
    rcases List.mem_cons.mp hp with y | y
    ·rw [y]; obtain ⟨_, e, _⟩ := t1; exact ⟨_, e⟩
    ·rw [List.mem_singleton.mp y]; obtain ⟨_, e, _⟩ := t2; exact ⟨_, e⟩
   have sGG : Same G (qX_ [a.t_Asking_order, a.t_asker] H19) := vW_ s19 fun p hp => by
    rcases List.mem_cons.mp hp with y | y
    ·rw [y]; exact nt1
    ·rw [List.mem_singleton.mp y]; exact nt2
   have hcG : qX_ [a.t_Asking_order, a.t_asker] H19 CL = some (.lst (rowO cs)) := by
    rw [jO_ fun z => ?_]
    ·exact hCL'
    ·obtain ⟨ps, y⟩ := hh2 CL z
     rw [y] at hCL'; cases hCL'
   obtain ⟨k, hk, ek⟩ := modN c3 (n := N + M) (by omega)
   have ek : c3 % ((N : Int) + (M : Int)) = (k : Int) := by rw [<- ek]; congr 1
   have D : RdH a (qX_ [a.t_Asking_order, a.t_asker] H19) H19 c b x ML CL r w 1 M N cs X := ⟨zC_ _ _, hCG.same sGG, R, by decide, W, sGG _ _ hMG, hcG, hcl', fun j => Nat.le_trans (hc9' j) (by decide), hno, hX1, hXlt, hXmk, jM_ (by simp), jM_ (by simp), t1, t2⟩
   generalize qX_ [a.t_Asking_order, a.t_asker] H19 = G2 at sGG D
   refine ⟨_, rfl, _, rfl, _, rfl, _, rfl, _, rfl, _, _, rfl, rfl, by omega, _, rfl, G2, c, b, x, ML, CL, r, w, 1, M, N, k, cs, X, congrArg (fun z => [V.ref c, V.ref ML, V.ref CL, V.int z, V.int (N : Nat)]) ek, D, hk, fun H20 D2 => ?_⟩
   refine ⟨_, rfl, ?_⟩
   refine ite2 (fun y => absurd y (by decide)) (fun _ => ?_)
   exact ⟨⟨_, _, _, rfl⟩, sGG.trans D2.sm, D2.t1, D2.t2⟩
  ·rintro σ H17 ⟨⟨v8, v9, v10, rfl⟩, s17, t1, t2⟩
   exact q H17
theorem walk {l : PySem.W.OpenLaw} {q : Program} {loose : List Str} {XP : (Str -> Option Value) -> Heap -> Prop} {YP : World -> Heap -> Prop} {d : DefRec} {K : Params -> PySem.W.Frag} {ts : List Addr} (hn : l.most = some 63) (hdf : d.params.defaults = [])
  (hY : ∀ (w : World) (h : Heap), YP w h -> (K w.params).In h /\ ∀ p ∈ ts, h.get? p = some (PySem.W.tabObj #[]))
  (F : ∀ (w : World) (mg : Str -> Option Value) (fa : Addr) (h : Heap), (K w.params).In h -> h.Ns mainGlobals mg -> mg d.name = some (.ref fa) →
   ∃ fd : FuncData, (∀ (s : Shared) (u : Value), BindsTo s fd ⟨[u], []⟩ [("_law_script", u)]) ∧ (∀ p ∈ ts, (K w.params).lookup p = none) ∧ (∀ p ∈ ts, ∃ c, PySem.W.codeHdIn (K w.params) c p = true) ∧ ∀ base : Heap, (K w.params).In base → base.Ns mainGlobals mg → (∀ p ∈ ts, mainGlobals ≠ p ∧ base.BuiltinsAt mg p) → FnOk l.prog w (K w.params) mg base CX0 13 fa fd ["_law_script"] (vY_ (K w.params) ts)) :
  PySem.W.WalkO q loose XP YP l.row.toRowW d [] (fun f vs => PySem.call f vs) :=
 L2.walk_ofT (n := 63) (k := 13) (x := "_law_script") (CX := fun _ => CX0) (sp := fun w => vY_ (K w.params) ts) hn (by decide) hdf ⟨rfl, by decide, by decide, rfl⟩ hY F (fun _ _ a ns hl hS hT => ⟨a, ns, rfl, hS, hl, hT, fun _ => rfl⟩) fun _ _ _ _ _ z => z
end
end My
namespace My
open PySem L2 PyProof.Rows
theorem fin {P : Program} {w : World} {K : PySem.W.Frag} {mg : Str → Option Value} {fa : Addr} {h : Heap} {ts : List Addr} (_ : K.In h) (hmg : mg "law" = some (.ref fa)) (nd : ts.Nodup)
  (T : ∃ a : Adr, Txt K mg a ∧ (∀ (s : Shared) (v : Value), BindsTo s a.d_law ⟨[v], []⟩ [("_law_script", v)]) ∧ ts.Perm [a.t_Asking_order, a.t_asker] ∧ (∀ p ∈ ts, K.lookup p = none) ∧ ∀ p ∈ ts, ∃ c, PySem.W.codeHdIn K c p = true) :
  ∃ fd : FuncData, (∀ (s : Shared) (u : Value), BindsTo s fd ⟨[u], []⟩ [("_law_script", u)]) ∧ (∀ p ∈ ts, K.lookup p = none) ∧ (∀ p ∈ ts, ∃ c, PySem.W.codeHdIn K c p = true) ∧ ∀ base : Heap, K.In base → base.Ns mainGlobals mg → (∀ p ∈ ts, mainGlobals ≠ p ∧ base.BuiltinsAt mg p) → FnOk P w K mg base CX0 13 fa fd ["_law_script"] (vY_ K ts) := by
 obtain ⟨a, T, hb, hp, nl, hd⟩ := T
 have e0 := hmg.symm.trans T.m_law
 cases e0
 exact ⟨a.d_law, hb, nl, hd, fun base kb nb hB => (qjs_ T ⟨(hB _ (hp.mem_iff.mpr (by simp))).2, (hB _ (hp.mem_iff.mpr (by simp))).1, (hB _ (hp.mem_iff.mpr (by simp))).2, (hB _ (hp.mem_iff.mpr (by simp))).1, (by have := hp.nodup_iff.mp nd; simp at this; simp [this])⟩).imp fun vs H Q E ⟨s, n, e, y, l, t, q⟩ => ⟨s, n, e, y, l, fun p z => t p (hp.mem_iff.mpr z), q⟩⟩
end My
open PySem PySem.W PyProof.Rows
-- names the tactics below would else use for second copies of large terms; nothing uses these
def PySem.W.Fast.tw13269174110289866296 : Nat := 0
def PySem.W.Fast.tw6055160327960758216 : Nat := 0
def PySem.W.Fast.tw1057109922312286856 : Nat := 0
def PySem.W.Fast.tw7220622713850949694 : Nat := 0
def PySem.W.Fast.tw12801415299133551580 : Nat := 0
def PySem.W.Fast.tw17265791180214034503 : Nat := 0
def PySem.W.Fast.tw8210547367149030816 : Nat := 0
def PySem.W.Fast.tw12546914273766215437 : Nat := 0
def PySem.W.Fast.tw1928627829263568320 : Nat := 0
def PySem.W.Fast.tw8050927732675619980 : Nat := 0
def PySem.W.Fast.tw11439014831940133986 : Nat := 0
def PySem.W.Fast.tw6308466324056482483 : Nat := 0
def PySem.W.Fast.tw7193906869295884711 : Nat := 0
def PySem.W.Fast.tw11684046351594504778 : Nat := 0
def PySem.W.Fast.tw12838256005750619063 : Nat := 0
def PySem.W.Fast.tw9860339203554663612 : Nat := 0
def PySem.W.Fast.tw16787464225764281166 : Nat := 0
def PySem.W.Fast.tw5273016008961049631 : Nat := 0
def PySem.W.Fast.tw7145529926655028446 : Nat := 0
def PySem.W.Fast.tw17408513614405226742 : Nat := 0
def PySem.W.Fast.tw7908249770396189678 : Nat := 0
def PySem.W.Fast.tw7281085860606702418 : Nat := 0
def PySem.W.Fast.tw10038904989381358647 : Nat := 0
def PySem.W.Fast.tw15080131722140711254 : Nat := 0
def PySem.W.Fast.tw13122139490913386035 : Nat := 0
def PySem.W.Fast.tw12956632169182711173 : Nat := 0
def PySem.W.Fast.tw10646972370940316999 : Nat := 0
def PySem.W.Fast.tw15277683470776003287 : Nat := 0
def PySem.W.Fast.tw16690560388240382018 : Nat := 0
def PySem.W.Fast.tw15396962650916409834 : Nat := 0
def PySem.W.Fast.tw221373946286260309 : Nat := 0
def PySem.W.Fast.tw3550474939635017511 : Nat := 0
def PySem.W.Fast.tw12773200923827801192 : Nat := 0
def PySem.W.Fast.tw36962382044693290 : Nat := 0
def PySem.W.Fast.tw17734922408507237361 : Nat := 0
def PySem.W.Fast.tw9193248442505882363 : Nat := 0
def PySem.W.Fast.tw16958004291174797677 : Nat := 0
def PySem.W.Fast.tw489755458865115170 : Nat := 0
def PySem.W.Fast.tw17072554380099081788 : Nat := 0
def PySem.W.Fast.tw8884324861393092785 : Nat := 0
def PySem.W.Fast.tw14997678578660107256 : Nat := 0
def PySem.W.Fast.tw4826290142728054371 : Nat := 0
def PySem.W.Fast.tw4795227053885167593 : Nat := 0
def PySem.W.Fast.tw10342948204543632419 : Nat := 0
def PySem.W.Fast.tw12885207266807414874 : Nat := 0
def PySem.W.Fast.tw10983717111260676038 : Nat := 0
def PySem.W.Fast.tw4847697643661575782 : Nat := 0
def PySem.W.Fast.tw7643599652608373482 : Nat := 0
def PySem.W.Fast.tw1101164408445492729 : Nat := 0
def PySem.W.Fast.tw9684638147868508729 : Nat := 0
def PySem.W.Fast.tw5562349412475031292 : Nat := 0
def PySem.W.Fast.tw6212732853931919893 : Nat := 0
def PySem.W.Fast.tw11488110423332838603 : Nat := 0
def PySem.W.Fast.tw17229745035215194717 : Nat := 0
def PySem.W.Fast.tw1546390664292953157 : Nat := 0
def PySem.W.Fast.tw17638718906577498893 : Nat := 0
def PySem.W.Fast.tw12461454018082643755 : Nat := 0
def PySem.W.Fast.tw3928047358811242337 : Nat := 0
def PySem.W.Fast.tw9416310947378981867 : Nat := 0
def PySem.W.Fast.tw13075122922677709346 : Nat := 0
def PySem.W.Fast.tw17061519031880818153 : Nat := 0
def PySem.W.Fast.tw13011399863449653711 : Nat := 0
def PySem.W.Fast.tw15377498847626432347 : Nat := 0
def PySem.W.Fast.tw3832653460226371991 : Nat := 0
set_option maxRecDepth 100000 in
set_option maxHeartbeats 0 in
theorem PySem.Challenge.cw_spareplank_k42_whole_least_price_of_a_re_holds : PySem.Challenge.rw_spareplank_k42_whole_least_price_of_a_re.Holds := by
 w_on; o_law; k_head; (case hw => w_witness2)
 k_fill
 refine My.walk (l := PySem.Challenge.rw_spareplank_k42_whole_least_price_of_a_re) rfl rfl (fun w h Y => ⟨PySem.W.km_in_of Y, PySem.W.km_tabs_of Y⟩) ?F
 case F =>
  intro w mg fa h KX G hmg
  refine My.fin KX hmg (by decide) ?T
  case T =>
   refine' My.txt_mk KX G ?a_Field ?pg_Field ?hd_Field ?po_Field ?sa_Field ?no_Field_rule ?no_Field_width ?no_Field_last ?mk_Field ?kc_Field ?a_Blocks ?pg_Blocks ?hd_Blocks ?po_Blocks ?sa_Blocks ?no_Blocks_field ?no_Blocks_many ?no_Blocks_limit ?mk_Blocks ?kc_Blocks ?a_Code ?pg_Code ?hd_Code ?po_Code ?sa_Code ?no_Code_blocks ?no_Code_sums ?no_Code_data ?no_Code_roles ?no_Code_lines ?mk_Code ?kc_Code ?a_Asking ?pg_Asking ?hd_Asking ?po_Asking ?sa_Asking ?no_Asking_code ?no_Asking_ask ?no_Asking_costs ?no_Asking_row ?no_Asking_asked ?mk_Asking ?kc_Asking ?a_Field_init ?i_Field_init ?l_Field_init ?c_Field_init ?k_Field_init ?a_Field_doublings_of_one ?i_Field_doublings_of_one ?l_Field_doublings_of_one ?c_Field_doublings_of_one ?k_Field_doublings_of_one ?a_Field_double ?i_Field_double ?l_Field_double ?c_Field_double ?k_Field_double ?a_Field_times ?i_Field_times ?l_Field_times ?c_Field_times ?k_Field_times ?a_Field_back ?i_Field_back ?l_Field_back ?c_Field_back ?k_Field_back ?a_Field_power ?i_Field_power ?l_Field_power ?c_Field_power ?k_Field_power ?a_unit ?l_unit ?c_unit ?k_unit ?a_scaled_line ?l_scaled_line ?c_scaled_line ?k_scaled_line ?a_sum_of_two ?l_sum_of_two ?c_sum_of_two ?k_sum_of_two ?a_first_with ?l_first_with ?c_first_with ?k_first_with ?a_swapped ?l_swapped ?c_swapped ?k_swapped ?a_cleared ?l_cleared ?c_cleared ?k_cleared ?a_told_of ?l_told_of ?c_told_of ?k_told_of ?a_free_make ?l_free_make ?c_free_make ?k_free_make ?a_Blocks_init ?i_Blocks_init ?l_Blocks_init ?c_Blocks_init ?k_Blocks_init ?a_Blocks_symbols ?i_Blocks_symbols ?l_Blocks_symbols ?c_Blocks_symbols ?k_Blocks_symbols ?a_Blocks_joined ?i_Blocks_joined ?l_Blocks_joined ?c_Blocks_joined ?k_Blocks_joined ?a_Blocks_scaled ?i_Blocks_scaled ?l_Blocks_scaled ?c_Blocks_scaled ?k_Blocks_scaled ?a_Blocks_summed ?i_Blocks_summed ?l_Blocks_summed ?c_Blocks_summed ?k_Blocks_summed ?a_check_lengths ?l_check_lengths ?c_check_lengths ?k_check_lengths ?a_check_weights ?l_check_weights ?c_check_weights ?k_check_weights ?a_equation_of ?l_equation_of ?c_equation_of ?k_equation_of ?a_Code_init ?i_Code_init ?l_Code_init ?c_Code_init ?k_Code_init ?a_Code_told ?i_Code_told ?l_Code_told ?c_Code_told ?k_Code_told ?a_Code_check_role ?i_Code_check_role ?l_Code_check_role ?c_Code_check_role ?k_Code_check_role ?a_Code_fixes ?i_Code_fixes ?l_Code_fixes ?c_Code_fixes ?k_Code_fixes ?a_Code_summed_by ?i_Code_summed_by ?l_Code_summed_by ?c_Code_summed_by ?k_Code_summed_by ?a_Code_reckoned ?i_Code_reckoned ?l_Code_reckoned ?c_Code_reckoned ?k_Code_reckoned ?a_fixes_all ?l_fixes_all ?c_fixes_all ?k_fixes_all ?a_Asking_init ?i_Asking_init ?l_Asking_init ?c_Asking_init ?k_Asking_init ?a_Asking_may ?i_Asking_may ?l_Asking_may ?c_Asking_may ?k_Asking_may ?a_Asking_take ?i_Asking_take ?l_Asking_take ?c_Asking_take ?k_Asking_take ?a_Asking_take_along ?i_Asking_take_along ?l_Asking_take_along ?c_Asking_take_along ?k_Asking_take_along ?a_Asking_known ?i_Asking_known ?l_Asking_known ?c_Asking_known ?k_Asking_known ?a_Asking_fixes ?i_Asking_fixes ?l_Asking_fixes ?c_Asking_fixes ?k_Asking_fixes ?a_Asking_cost_sum ?i_Asking_cost_sum ?l_Asking_cost_sum ?c_Asking_cost_sum ?k_Asking_cost_sum ?a_Asking_order ?i_Asking_order ?l_Asking_order ?c_Asking_order ?x_Asking_order ?y_Asking_order ?h_Asking_order ?nl_Asking_order ?k_Asking_order ?a_Asking_detour ?i_Asking_detour ?l_Asking_detour ?c_Asking_detour ?k_Asking_detour ?a_Asking_block_of ?i_Asking_block_of ?l_Asking_block_of ?c_Asking_block_of ?k_Asking_block_of ?a_read_role ?l_read_role ?c_read_role ?k_read_role ?a_cell ?l_cell ?c_cell ?k_cell ?a_rule ?l_rule ?c_rule ?k_rule ?a_times ?l_times ?c_times ?k_times ?a_scaled ?l_scaled ?c_scaled ?k_scaled ?a_make ?l_make ?c_make ?k_make ?a_some ?l_some ?c_some ?k_some ?a_plain ?l_plain ?c_plain ?k_plain ?a_sizes ?l_sizes ?c_sizes ?k_sizes ?a_costs ?l_costs ?c_costs ?k_costs ?a_asker ?l_asker ?c_asker ?x_asker ?y_asker ?h_asker ?nl_asker ?k_asker ?a_lost ?l_lost ?c_lost ?k_lost ?a_least ?l_least ?c_least ?k_least ?a_scene ?l_scene ?c_scene ?k_scene ?a_law ?l_law ?c_law ?k_law ?z_zip ?z_range ?z_len ?z_list ?z_enumerate ?z_reversed ?z_any ?z_sum ?z_sorted ?z_max ?z_min ?v_LEAST_RULE ?v_GREATEST_RULE ?v_MOST_SYMBOLS ?v_MOST_ROLES ?v_MOST_SUMS ?ets
   (case a_Field => k_is)
   (case pg_Field => k_is)
   (case hd_Field => k_is)
   (case po_Field => k_is)
   (case sa_Field => k_is)
   (case no_Field_rule => k_is)
   (case no_Field_width => k_is)
   (case no_Field_last => k_is)
   (case mk_Field => k_is)
   (case kc_Field => k_is)
   (case a_Blocks => k_is)
   (case pg_Blocks => k_is)
   (case hd_Blocks => k_is)
   (case po_Blocks => k_is)
   (case sa_Blocks => k_is)
   (case no_Blocks_field => k_is)
   (case no_Blocks_many => k_is)
   (case no_Blocks_limit => k_is)
   (case mk_Blocks => k_is)
   (case kc_Blocks => k_is)
   (case a_Code => k_is)
   (case pg_Code => k_is)
   (case hd_Code => k_is)
   (case po_Code => k_is)
   (case sa_Code => k_is)
   (case no_Code_blocks => k_is)
   (case no_Code_sums => k_is)
   (case no_Code_data => k_is)
   (case no_Code_roles => k_is)
   (case no_Code_lines => k_is)
   (case mk_Code => k_is)
   (case kc_Code => k_is)
   (case a_Asking => k_is)
   (case pg_Asking => k_is)
   (case hd_Asking => k_is)
   (case po_Asking => k_is)
   (case sa_Asking => k_is)
   (case no_Asking_code => k_is)
   (case no_Asking_ask => k_is)
   (case no_Asking_costs => k_is)
   (case no_Asking_row => k_is)
   (case no_Asking_asked => k_is)
   (case mk_Asking => k_is)
   (case kc_Asking => k_is)
   (case a_Field_init => k_is)
   (case i_Field_init => k_is)
   (case l_Field_init => k_is)
   (case c_Field_init => k_is)
   (case k_Field_init => k_is)
   (case a_Field_doublings_of_one => k_is)
   (case i_Field_doublings_of_one => k_is)
   (case l_Field_doublings_of_one => k_is)
   (case c_Field_doublings_of_one => k_is)
   (case k_Field_doublings_of_one => k_is)
   (case a_Field_double => k_is)
   (case i_Field_double => k_is)
   (case l_Field_double => k_is)
   (case c_Field_double => k_is)
   (case k_Field_double => k_is)
   (case a_Field_times => k_is)
   (case i_Field_times => k_is)
   (case l_Field_times => k_is)
   (case c_Field_times => k_is)
   (case k_Field_times => k_is)
   (case a_Field_back => k_is)
   (case i_Field_back => k_is)
   (case l_Field_back => k_is)
   (case c_Field_back => k_is)
   (case k_Field_back => k_is)
   (case a_Field_power => k_is)
   (case i_Field_power => k_is)
   (case l_Field_power => k_is)
   (case c_Field_power => k_is)
   (case k_Field_power => k_is)
   (case a_unit => k_is)
   (case l_unit => k_is)
   (case c_unit => k_is)
   (case k_unit => k_is)
   (case a_scaled_line => k_is)
   (case l_scaled_line => k_is)
   (case c_scaled_line => k_is)
   (case k_scaled_line => k_is)
   (case a_sum_of_two => k_is)
   (case l_sum_of_two => k_is)
   (case c_sum_of_two => k_is)
   (case k_sum_of_two => k_is)
   (case a_first_with => k_is)
   (case l_first_with => k_is)
   (case c_first_with => k_is)
   (case k_first_with => k_is)
   (case a_swapped => k_is)
   (case l_swapped => k_is)
   (case c_swapped => k_is)
   (case k_swapped => k_is)
   (case a_cleared => k_is)
   (case l_cleared => k_is)
   (case c_cleared => k_is)
   (case k_cleared => k_is)
   (case a_told_of => k_is)
   (case l_told_of => k_is)
   (case c_told_of => k_is)
   (case k_told_of => k_is)
   (case a_free_make => k_is)
   (case l_free_make => k_is)
   (case c_free_make => k_is)
   (case k_free_make => k_is)
   (case a_Blocks_init => k_is)
   (case i_Blocks_init => k_is)
   (case l_Blocks_init => k_is)
   (case c_Blocks_init => k_is)
   (case k_Blocks_init => k_is)
   (case a_Blocks_symbols => k_is)
   (case i_Blocks_symbols => k_is)
   (case l_Blocks_symbols => k_is)
   (case c_Blocks_symbols => k_is)
   (case k_Blocks_symbols => k_is)
   (case a_Blocks_joined => k_is)
   (case i_Blocks_joined => k_is)
   (case l_Blocks_joined => k_is)
   (case c_Blocks_joined => k_is)
   (case k_Blocks_joined => k_is)
   (case a_Blocks_scaled => k_is)
   (case i_Blocks_scaled => k_is)
   (case l_Blocks_scaled => k_is)
   (case c_Blocks_scaled => k_is)
   (case k_Blocks_scaled => k_is)
   (case a_Blocks_summed => k_is)
   (case i_Blocks_summed => k_is)
   (case l_Blocks_summed => k_is)
   (case c_Blocks_summed => k_is)
   (case k_Blocks_summed => k_is)
   (case a_check_lengths => k_is)
   (case l_check_lengths => k_is)
   (case c_check_lengths => k_is)
   (case k_check_lengths => k_is)
   (case a_check_weights => k_is)
   (case l_check_weights => k_is)
   (case c_check_weights => k_is)
   (case k_check_weights => k_is)
   (case a_equation_of => k_is)
   (case l_equation_of => k_is)
   (case c_equation_of => k_is)
   (case k_equation_of => k_is)
   (case a_Code_init => k_is)
   (case i_Code_init => k_is)
   (case l_Code_init => k_is)
   (case c_Code_init => k_is)
   (case k_Code_init => k_is)
   (case a_Code_told => k_is)
   (case i_Code_told => k_is)
   (case l_Code_told => k_is)
   (case c_Code_told => k_is)
   (case k_Code_told => k_is)
   (case a_Code_check_role => k_is)
   (case i_Code_check_role => k_is)
   (case l_Code_check_role => k_is)
   (case c_Code_check_role => k_is)
   (case k_Code_check_role => k_is)
   (case a_Code_fixes => k_is)
   (case i_Code_fixes => k_is)
   (case l_Code_fixes => k_is)
   (case c_Code_fixes => k_is)
   (case k_Code_fixes => k_is)
   (case a_Code_summed_by => k_is)
   (case i_Code_summed_by => k_is)
   (case l_Code_summed_by => k_is)
   (case c_Code_summed_by => k_is)
   (case k_Code_summed_by => k_is)
   (case a_Code_reckoned => k_is)
   (case i_Code_reckoned => k_is)
   (case l_Code_reckoned => k_is)
   (case c_Code_reckoned => k_is)
   (case k_Code_reckoned => k_is)
   (case a_fixes_all => k_is)
   (case l_fixes_all => k_is)
   (case c_fixes_all => k_is)
   (case k_fixes_all => k_is)
   (case a_Asking_init => k_is)
   (case i_Asking_init => k_is)
   (case l_Asking_init => k_is)
   (case c_Asking_init => k_is)
   (case k_Asking_init => k_is)
   (case a_Asking_may => k_is)
   (case i_Asking_may => k_is)
   (case l_Asking_may => k_is)
   (case c_Asking_may => k_is)
   (case k_Asking_may => k_is)
   (case a_Asking_take => k_is)
   (case i_Asking_take => k_is)
   (case l_Asking_take => k_is)
   (case c_Asking_take => k_is)
   (case k_Asking_take => k_is)
   (case a_Asking_take_along => k_is)
   (case i_Asking_take_along => k_is)
   (case l_Asking_take_along => k_is)
   (case c_Asking_take_along => k_is)
   (case k_Asking_take_along => k_is)
   (case a_Asking_known => k_is)
   (case i_Asking_known => k_is)
   (case l_Asking_known => k_is)
   (case c_Asking_known => k_is)
   (case k_Asking_known => k_is)
   (case a_Asking_fixes => k_is)
   (case i_Asking_fixes => k_is)
   (case l_Asking_fixes => k_is)
   (case c_Asking_fixes => k_is)
   (case k_Asking_fixes => k_is)
   (case a_Asking_cost_sum => k_is)
   (case i_Asking_cost_sum => k_is)
   (case l_Asking_cost_sum => k_is)
   (case c_Asking_cost_sum => k_is)
   (case k_Asking_cost_sum => k_is)
   (case a_Asking_order => k_is)
   (case i_Asking_order => k_is)
   (case l_Asking_order => k_is)
   (case c_Asking_order => k_is)
   (case x_Asking_order => k_is)
   (case y_Asking_order => first | rfl | k_is)
   (case h_Asking_order => first | rfl | k_is)
   (case nl_Asking_order => first | rfl | k_is)
   (case k_Asking_order => k_is)
   (case a_Asking_detour => k_is)
   (case i_Asking_detour => k_is)
   (case l_Asking_detour => k_is)
   (case c_Asking_detour => k_is)
   (case k_Asking_detour => k_is)
   (case a_Asking_block_of => k_is)
   (case i_Asking_block_of => k_is)
   (case l_Asking_block_of => k_is)
   (case c_Asking_block_of => k_is)
   (case k_Asking_block_of => k_is)
   (case a_read_role => k_is)
   (case l_read_role => k_is)
   (case c_read_role => k_is)
   (case k_read_role => k_is)
   (case a_cell => k_is)
   (case l_cell => k_is)
   (case c_cell => k_is)
   (case k_cell => k_is)
   (case a_rule => k_is)
   (case l_rule => k_is)
   (case c_rule => k_is)
   (case k_rule => k_is)
   (case a_times => k_is)
   (case l_times => k_is)
   (case c_times => k_is)
   (case k_times => k_is)
   (case a_scaled => k_is)
   (case l_scaled => k_is)
   (case c_scaled => k_is)
   (case k_scaled => k_is)
   (case a_make => k_is)
   (case l_make => k_is)
   (case c_make => k_is)
   (case k_make => k_is)
   (case a_some => k_is)
   (case l_some => k_is)
   (case c_some => k_is)
   (case k_some => k_is)
   (case a_plain => k_is)
   (case l_plain => k_is)
   (case c_plain => k_is)
   (case k_plain => k_is)
   (case a_sizes => k_is)
   (case l_sizes => k_is)
   (case c_sizes => k_is)
   (case k_sizes => k_is)
   (case a_costs => k_is)
   (case l_costs => k_is)
   (case c_costs => k_is)
   (case k_costs => k_is)
   (case a_asker => k_is)
   (case l_asker => k_is)
   (case c_asker => k_is)
   (case x_asker => k_is)
   (case y_asker => first | rfl | k_is)
   (case h_asker => first | rfl | k_is)
   (case nl_asker => first | rfl | k_is)
   (case k_asker => k_is)
   (case a_lost => k_is)
   (case l_lost => k_is)
   (case c_lost => k_is)
   (case k_lost => k_is)
   (case a_least => k_is)
   (case l_least => k_is)
   (case c_least => k_is)
   (case k_least => k_is)
   (case a_scene => k_is)
   (case l_scene => k_is)
   (case c_scene => k_is)
   (case k_scene => k_is)
   (case a_law => k_is)
   (case l_law => k_is)
   (case c_law => k_is)
   (case k_law => k_is)
   (case z_zip => k_is)
   (case z_range => k_is)
   (case z_len => k_is)
   (case z_list => k_is)
   (case z_enumerate => k_is)
   (case z_reversed => k_is)
   (case z_any => k_is)
   (case z_sum => k_is)
   (case z_sorted => k_is)
   (case z_max => k_is)
   (case z_min => k_is)
   (case v_LEAST_RULE => k_is)
   (case v_GREATEST_RULE => k_is)
   (case v_MOST_SYMBOLS => k_is)
   (case v_MOST_ROLES => k_is)
   (case v_MOST_SUMS => k_is)
   (case ets => first | exact .refl _ | decide)
#print axioms PySem.Challenge.cw_spareplank_k42_whole_least_price_of_a_re_holds
