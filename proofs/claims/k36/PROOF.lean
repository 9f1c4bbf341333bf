import PyProof.Rows.All
import Wide.All
import OpenK.AllK
import Wide.FinOn
import Lean
import PyProof.EqAt
import PyProof.EqKinds
import PyProof.TupleCall
import PyProof.NeKinds
import PySem.Challenge.RW_spareplank_k36_what_is_refused_first
set_option Elab.async false
set_option linter.all false
set_option maxRecDepth 100000
namespace L2
open PySem PySem.Spec PyProof.Rows
abbrev Key := Sum Int Str
def keyIs : Key -> Value -> Bool
 | .inl k, v => Value.isInt k v
 | .inr x, v => Value.isStrOf x v
def keyH (w : World) : Key -> Int
 | .inl k => hashInt k
 | .inr x => hashStr w x
theorem keyIs_shape : ∀ {k : Key} {v : Value}, keyIs k v = true -> (∃ i t, k = Sum.inl i /\ v = Value.int i t) \/ (∃ x t, k = Sum.inr x /\ v = Value.str x t)
 | .inl i, v, h => by
  obtain ⟨t, e⟩ := Value.isInt_shape (k := i) (v := v) h
  exact .inl ⟨i, t, rfl, e⟩
 | .inr x, v, h => by
  obtain ⟨t, e⟩ := Value.isStrOf_shape (x := x) (v := v) h
  exact .inr ⟨x, t, rfl, e⟩
theorem key_ll (a b : Int) : decide ((Sum.inl a : Key) = Sum.inl b) = (a == b) := by
 by_cases e : a = b
 ·subst e; simp
 ·have h : ¬ (Sum.inl a : Key) = Sum.inl b := fun q => e (Sum.inl.inj q)
  rw [decide_eq_false h]
  exact (beq_eq_false_iff_ne.mpr e).symm
theorem key_rr (a b : Str) : decide ((Sum.inr a : Key) = Sum.inr b) = decide (a = b) := by
 by_cases e : a = b
 ·subst e; simp
 ·have h : ¬ (Sum.inr a : Key) = Sum.inr b := fun q => e (Sum.inr.inj q)
  rw [decide_eq_false h, decide_eq_false e]
theorem key_lr (a : Int) (b : Str) : decide ((Sum.inl a : Key) = Sum.inr b) = false := decide_eq_false (fun q => nomatch q)
theorem key_rl (a : Str) (b : Int) : decide ((Sum.inr a : Key) = Sum.inl b) = false := decide_eq_false (fun q => nomatch q)
def mixKind (prog : Program) (w : World) : PySem.KeyKind prog w Key where
 is := keyIs
 hash := keyH w
 inj := fun v a b ha hb => by
  rcases keyIs_shape ha with ⟨i, t, rfl, rfl⟩ | ⟨x, t, rfl, rfl⟩
  ·rcases keyIs_shape hb with ⟨j, u, rfl, e⟩ | ⟨y, u, rfl, e⟩
   ·injection e with e1 _; rw [e1]
   ·exact nomatch e
  ·rcases keyIs_shape hb with ⟨j, u, rfl, e⟩ | ⟨y, u, rfl, e⟩
   ·exact nomatch e
   ·injection e with e1 _; rw [e1]
 byValue := fun k v h => by
  rcases keyIs_shape h with ⟨i, t, rfl, rfl⟩ | ⟨x, t, rfl, rfl⟩ <;> rfl
 pyHash := fun hv h => by
  rcases keyIs_shape hv with ⟨i, t, rfl, rfl⟩ | ⟨x, t, rfl, rfl⟩
  ·exact wpAny_pyHash_int h
  ·exact wpAny_pyHash_str h
 eqBool := fun hu hv h => by
  rcases keyIs_shape hu with ⟨i, t, rfl, rfl⟩ | ⟨x, t, rfl, rfl⟩
  ·rcases keyIs_shape hv with ⟨j, u, rfl, rfl⟩ | ⟨y, u, rfl, rfl⟩
   ·rw [key_ll] at h; exact wpAny_eqBool_int h
   ·rw [key_lr] at h; exact SeqAt.EqAt.int_str i t y u _ _ _ _ h
  ·rcases keyIs_shape hv with ⟨j, u, rfl, rfl⟩ | ⟨y, u, rfl, rfl⟩
   ·rw [key_rl] at h; exact SeqAt.EqAt.str_int x t j u _ _ _ _ h
   ·rw [key_rr] at h; exact wpAny_eqBool_str h
 «strs» := fun k x t v h => by
  rcases keyIs_shape h with ⟨i, u, rfl, e⟩ | ⟨y, u, rfl, e⟩
  ·exact nomatch e
  ·injection e with e1 _
   subst e1
   cases v <;> rfl
end L2
namespace L2
open PySem PySem.Spec PyProof.Rows
inductive V where
 | non | bl (b : Bool) | int (i : Int) | str (x : Str) | byt (b : Array UInt8) | flt (b : UInt64) | ref (a : Addr) | ty (n : String)
 deriving DecidableEq
def RelV : V -> Value -> Prop
 | .non, u => u = Value.none
 | .bl b, u => u = Value.bool b
 | .int i, u => ∃ t, u = Value.int i t
 | .str x, u => ∃ t, u = Value.str x t
 | .byt b, u => ∃ t, u = Value.bytes b t
 | .flt b, u => ∃ t, u = Value.float b t
 | .ref a, u => u = Value.ref a
 | .ty n, u => u = Value.type n
abbrev Vals : List V -> List Value -> Prop := Paired RelV
theorem Vals.length {xs : List V} {us : List Value} (r : Vals xs us) : xs.length = us.length := Paired.length r
theorem Vals.get : ∀ {xs : List V} {us : List Value} {i : Nat} {x : V}, Vals xs us -> xs[i]? = some x -> ∃ u, us[i]? = some u /\ RelV x u
 | _, _, _, _, .nil, e => by simp at e
 | _, _, 0, _, .cons r _, e => by simp at e; subst e; exact ⟨_, rfl, r⟩
 | _, _, i + 1, x, .cons _ t, e => by
  obtain ⟨u, h1, h2⟩ := Vals.get (i := i) (x := x) t (by simpa using e)
  exact ⟨u, by simpa using h1, h2⟩
theorem Vals.set {x : V} {u : Value} (r : RelV x u) : ∀ {xs : List V} {us : List Value} (i : Nat), Vals xs us -> Vals (xs.set i x) (us.set i u)
 | _, _, _, .nil => .nil
 | _, _, 0, .cons _ t => .cons r t
 | _, _, i + 1, .cons q t => .cons q (Vals.set r i t)
theorem Vals.append : ∀ {xs ys : List V} {us ws : List Value}, Vals xs us -> Vals ys ws -> Vals (xs ++ ys) (us ++ ws)
 | _, _, _, _, .nil, s => s
 | _, _, _, _, .cons r t, s => .cons r (Vals.append t s)
theorem Vals.take : ∀ {xs : List V} {us : List Value} (n : Nat), Vals xs us -> Vals (xs.take n) (us.take n)
 | _, _, 0, _ => .nil
 | _, _, _ + 1, .nil => .nil
 | _, _, n + 1, .cons r t => .cons r (Vals.take n t)
theorem Vals.drop : ∀ {xs : List V} {us : List Value} (n : Nat), Vals xs us -> Vals (xs.drop n) (us.drop n)
 | _, _, 0, r => r
 | _, _, _ + 1, .nil => .nil
 | _, _, n + 1, .cons _ t => Vals.drop n t
def RelO : Option V -> Option Value -> Prop
 | some v, some u => RelV v u
 | none, none => True
 | _, _ => False
def KV {κ : Type} : List (κ × V) -> List (κ × Value) -> Prop := Paired fun (p : κ × V) (q : κ × Value) => p.1 = q.1 /\ RelV p.2 q.2
def kV : Key -> V
 | .inl i => .int i
 | .inr x => .str x
inductive HO where
 | lst (xs : List V)
 | tup (xs : List V)
 | dK (kvs : List (Key × V)) | dT (kvs : List (List Key × V))
 | set (S : Int -> Bool) (n : Nat)
 | ins (C dx : Addr) (fs : List (Str × V))
 | own (x : Addr)
 | xd (fs : List (Str × V))
 | met (f x : Addr)
 | rng (lo hi : Int)
 | frz (o : Obj) (u : HO)
 | tbl (ps : Array Value)
 | ext (φ : Heap -> Prop)
abbrev Hp := Addr -> Option HO
def upd (H : Hp) (a : Addr) (o : HO) : Hp := fun b => if b = a then some o else H b
theorem upd_same {H : Hp} {a : Addr} {o : HO} : upd H a o a = some o := by unfold upd; rw [if_pos rfl]
theorem upd_ne {H : Hp} {a b : Addr} {o : HO} (h : b ≠ a) : upd H a o b = H b := by unfold upd; rw [if_neg h]
theorem upd_upd {H : Hp} {a : Addr} {o u : HO} : upd (upd H a o) a u = upd H a u := by
 funext b; unfold upd; split <;> rfl
theorem ne_of_none {H : Hp} {a b : Addr} {o : HO} (h : H a = some o) (h' : H b = none) : a ≠ b := by
 intro e; subst e; rw [h] at h'; cases h'
section
variable (P : Program) (w : World)
def ObjOk (H : Hp) (h : Heap) (a : Addr) : HO -> Prop
 | .lst xs => xs.length ≤ sizeLine ∧ ∃ (its : List Value) (n : Nat), Vals xs its ∧ h.get? a = some { cls := .type "list", data := .seq its.toArray n }
 | .tup xs => xs.length <= sizeLine /\ ∃ its : List Value, Vals xs its /\ IsTup h a its.toArray
 | .dK kvs => kvs.length <= sizeLine /\ (a == sysModules) = false /\ ∃ vs, KV kvs vs /\ h.DictOf (mixKind P w) a vs
 | .dT kvs => kvs.length <= sizeLine /\ (a == sysModules) = false /\ ∃ xs : List (List Key × Addr × Value),
   Paired (fun (p : List Key × V) (q : List Key × Addr × Value) => p.1 = q.1 /\ H q.2.1 = some (.tup (p.1.map kV)) /\ RelV p.2 q.2.2) kvs xs ∧
   ∃ o es ep, h.get? a = some o /\ o.ExactDict /\ o.data = .dict es ep /\ es.toList = xs.map (entryOfKey (tupleKind (mixKind P w))) /\ (xs.map (·.1)).Nodup
 | .set S n => h.SetOf (intKind P w) a S n
 | .ins C dx fs => H dx = some (.own a) /\ fs.length <= 1000 /\ dx ≠ a /\ h.get? a = some (PySem.W.instObj C dx) ∧
   ∃ mA, h.Ns1 dx mA /\ (∀ f, RelO (fs.lookup f) (mA f)) /\ PySem.Within mA (fs.map (·.1))
 | .own _ => ∃ o, h.get? a = some o
 | .xd fs => ∃ mA, h.Ns1 a mA /\ ∀ f, RelO (fs.lookup f) (mA f)
 | .rng lo hi => ∃ t u v, h.get? a = some { cls := .type "range", data := .fields #[.int lo t, .int hi u, .int 1 v] }
 | .frz o u => h.get? a = some o /\ ObjOk H h a u
 | .tbl ps => h.get? a = some { cls := .none, data := .fields ps }
 | .met f x => h.get? a = some (PySem.W.methodObj (.ref f) (.ref x))
 | .ext φ => φ h /\ (∃ o, h.get? a = some o) /\ ∀ h1 h2 : Heap, φ h1 -> (∀ o, h1.get? a = some o -> h2.get? a = some o) -> φ h2
def HOk (H : Hp) (h : Heap) : Prop := ∀ a o, H a = some o -> ObjOk P w H h a o
end
section
variable {P : Program} {w : World} {H H' : Hp} {h h' : Heap} {a : Addr} {o : HO}
theorem ObjOk.lt (x : ObjOk P w H h a o) : a < h.objs.size := by
 cases o with
 | lst xs => obtain ⟨_, _, _, _, e⟩ := x; exact Heap.lt_size e
 | tup xs => obtain ⟨_, _, _, p⟩ := x; exact p.lt
 | dK kvs => obtain ⟨_, _, _, _, o, _, _, e, _⟩ := x; exact Heap.lt_size e
 | dT kvs => obtain ⟨_, _, _, _, o, _, _, e, _⟩ := x; exact Heap.lt_size e
 | set S n => obtain ⟨o, _, _, _, e, _⟩ := x; exact Heap.lt_size e
 | ins C dx fs => obtain ⟨_, _, _, e, _⟩ := x; exact Heap.lt_size e
 | own y => obtain ⟨_, e⟩ := x; exact Heap.lt_size e
 | xd fs => obtain ⟨_, ⟨_, _, _, e, _⟩, _⟩ := x; exact Heap.lt_size e
 | rng lo hi => obtain ⟨_, _, _, e⟩ := x; exact Heap.lt_size e
 | frz ob u => obtain ⟨e, _⟩ := x; exact Heap.lt_size e
 | tbl ps => exact Heap.lt_size (show h.get? a = some _ from x)
 | met f y => exact Heap.lt_size (show h.get? a = some _ from x)
 | ext φ => obtain ⟨_, ⟨_, e⟩, _⟩ := x; exact Heap.lt_size e
theorem Paired.mapP {α β : Type} {F G : α -> β -> Prop} : ∀ {l₁ : List α} {l₂ : List β}, Paired F l₁ l₂ -> (∀ a b, F a b -> G a b) -> Paired G l₁ l₂
 | _, _, .nil, _ => .nil
 | _, _, .cons r t, f => .cons (f _ _ r) (Paired.mapP t f)
theorem ObjOk.stay (x : ObjOk P w H h a o) (k : ∀ b u, (b = a \/ H b = some (.own a)) -> h.get? b = some u -> h'.get? b = some u)
  (ho : ∀ b, H b = some (.own a) -> H' b = some (.own a)) (ht : ∀ b xs, H b = some (.tup xs) -> H' b = some (.tup xs)) : ObjOk P w H' h' a o := by
 induction o with
 | lst xs => obtain ⟨z, its, n, r, e⟩ := x; exact ⟨z, its, n, r, k _ _ (.inl rfl) e⟩
 | tup xs => obtain ⟨z, its, r, ob, e, c⟩ := x; exact ⟨z, its, r, ob, k _ _ (.inl rfl) e, c⟩
 | dK kvs => obtain ⟨z, y, vs, r, ob, es, ep, e, c⟩ := x; exact ⟨z, y, vs, r, ob, es, ep, k _ _ (.inl rfl) e, c⟩
 | dT kvs =>
  obtain ⟨z, y, xs, r, ob, es, ep, e, c⟩ := x
  exact ⟨z, y, xs, Paired.mapP r fun p q z => ⟨z.1, ht _ _ z.2.1, z.2.2⟩, ob, es, ep, k _ _ (.inl rfl) e, c⟩
 | set S n => obtain ⟨ob, es, ep, t, e, c⟩ := x; exact ⟨ob, es, ep, t, k _ _ (.inl rfl) e, c⟩
 | ins C dx fs =>
  obtain ⟨d, z, ne, e, mA, ⟨od, es, ep, e2, c⟩, r⟩ := x
  exact ⟨ho _ d, z, ne, k _ _ (.inl rfl) e, mA, ⟨od, es, ep, k _ _ (.inr d) e2, c⟩, r⟩
 | own y => obtain ⟨ob, e⟩ := x; exact ⟨ob, k _ _ (.inl rfl) e⟩
 | xd fs => obtain ⟨mA, ⟨od, es, ep, e, c⟩, r⟩ := x; exact ⟨mA, ⟨od, es, ep, k _ _ (.inl rfl) e, c⟩, r⟩
 | rng lo hi => obtain ⟨t, u, v, e⟩ := x; exact ⟨t, u, v, k _ _ (.inl rfl) e⟩
 | frz ob u ih => obtain ⟨e, q⟩ := x; exact ⟨k _ _ (.inl rfl) e, ih q⟩
 | tbl ps =>
  have e : h.get? a = some { cls := .none, data := .fields ps } := x
  show h'.get? a = some { cls := .none, data := .fields ps }
  exact k a _ (.inl rfl) e
 | met f y =>
  have e : h.get? a = some (PySem.W.methodObj (.ref f) (.ref y)) := x
  show h'.get? a = some (PySem.W.methodObj (.ref f) (.ref y))
  exact k a _ (.inl rfl) e
 | ext φ => obtain ⟨p, ⟨o, e⟩, st⟩ := x; exact ⟨st _ _ p fun o q => k _ _ (.inl rfl) q, ⟨o, k _ _ (.inl rfl) e⟩, st⟩
theorem HOk.lt (x : HOk P w H h) (e : H a = some o) : a < h.objs.size := (x a o e).lt
theorem HOk.fresh (x : HOk P w H h) (e : h.objs.size <= a) : H a = none := by
 cases q : H a with
 | none => rfl
 | some u => exact absurd (Nat.lt_of_lt_of_le (x.lt q) e) (Nat.lt_irrefl _)
theorem HOk.kept (x : HOk P w H h) (k : ∀ b u, h.get? b = some u -> h'.get? b = some u) : HOk P w H h' := fun a o e =>
 (x a o e).stay (fun b u _ q => k b u q) (fun _ q => q) fun _ _ q => q
theorem HOk.laid (x : HOk P w H h) (k : ∀ b u, h.get? b = some u -> h'.get? b = some u) (hp : h.objs.size <= a) (new : ObjOk P w (upd H a o) h' a o) : HOk P w (upd H a o) h' := fun b u e => by
 have hn := x.fresh hp
 by_cases hb : b = a
 ·subst hb; rw [upd_same] at e; cases e; exact new
 ·rw [upd_ne hb] at e
  exact (x b u e).stay (fun c v _ q => k c v q) (fun c q => by rw [upd_ne (ne_of_none q hn)]; exact q) fun c xs q => by rw [upd_ne (ne_of_none q hn)]; exact q
end
def Rd (H : Hp) (a : Addr) (u : HO) : Prop := H a = some u \/ ∃ o, H a = some (.frz o u)
theorem Rd.ok {P : Program} {w : World} {H : Hp} {h : Heap} {a : Addr} {u : HO} (r : Rd H a u) (x : HOk P w H h) : ObjOk P w H h a u := by
 rcases r with r | ⟨o, r⟩
 ·exact x a u r
 ·obtain ⟨_, q⟩ := x a _ r
  exact q
def Mut : Option HO -> Prop
 | some (.lst _) => True
 | some (.dK _) => True
 | some (.dT _) => True
 | some (.set _ _) => True
 | some (.ins _ _ _) => True
 | some (.ext _) => True
 | _ => False
section
variable {P : Program} {w : World} {H : Hp} {h h' : Heap} {x e : Addr} {o' : HO}
theorem HOk.write (ok : HOk P w H h) (mu : Mut (H x)) (he : e = x \/ H e = some (.own x)) (k : ∀ b u, b ≠ e -> h.get? b = some u -> h'.get? b = some u) (heo : ∃ u, h'.get? e = some u)
  (new : ObjOk P w (upd H x o') h' x o') : HOk P w (upd H x o') h' := fun b u q => by
 have nown : ∀ c y, H c = some (.own y) -> c ≠ x := fun c y r z => by subst z; rw [r] at mu; exact mu
 have ntup : ∀ c xs, H c = some (.tup xs) -> c ≠ x := fun c xs r z => by subst z; rw [r] at mu; exact mu
 by_cases hb : b = x
 ·subst hb; rw [upd_same] at q; cases q; exact new
 ·rw [upd_ne hb] at q
  by_cases hbe : b = e
  ·have q' : H b = some (.own x) := by
    rcases he with z | z
    ·exact absurd (hbe.trans z) hb
    ·rw [hbe]; exact z
   rw [q] at q'; cases q'
   obtain ⟨v, hv⟩ := heo
   exact ⟨v, by rw [hbe]; exact hv⟩
  ·refine (ok b u q).stay (fun c v hc r => k c v ?_ r) (fun c r => by rw [upd_ne (nown c b r)]; exact r) fun c xs r => by rw [upd_ne (ntup c xs r)]; exact r
   rcases hc with rfl | hc
   ·exact hbe
   ·rintro rfl
    rcases he with z | z
    ·exact nown c b hc z
    ·rw [hc] at z; cases z; exact hb rfl
end
structure Un (fs ex : List Addr) (H H' : Hp) (h h' : Heap) : Prop where
 keep : ∀ b o, h.get? b = some o -> H b = none -> b ∉ fs -> b ∉ ex -> h'.get? b = some o
 slot : ∀ b o, h.get? b = some o -> H b = none -> b ∈ fs -> b ∉ ex -> ∃ sl, h'.get? b = some { o with slots := sl }
 free : ∀ b o, h.get? b = some o -> H b = none -> b ∉ ex -> H' b = none
 there : ∀ b o, h.get? b = some o -> b ∉ ex -> ∃ o', h'.get? b = some o'
 tups : ∀ b xs, H b = some (.tup xs) -> H' b = some (.tup xs)
 frzs : ∀ b o u, H b = some (.frz o u) -> H' b = some (.frz o u)
 tbls : ∀ b ps, H b = some (.tbl ps) -> ∃ more, H' b = some (.tbl (ps ++ more))
section
variable {fs fs' ex ex' : List Addr} {H H1 H2 : Hp} {h h1 h2 h' : Heap} {a x e : Addr} {o : HO}
theorem Un.any (u : Un fs ex H H1 h h1) {b : Addr} {ob : Obj} (q : h.get? b = some ob) (n : H b = none) (hx : b ∉ ex) : ∃ sl, h1.get? b = some { ob with slots := sl } := by
 by_cases hb : b ∈ fs
 ·exact u.slot b ob q n hb hx
 ·exact ⟨ob.slots, u.keep b ob q n hb hx⟩
theorem Un.kept (k : ∀ b u, h.get? b = some u -> h'.get? b = some u) : Un fs ex H H h h' :=
 ⟨fun b ob q _ _ _ => k b ob q, fun b ob q _ _ _ => ⟨ob.slots, k b ob q⟩, fun _ _ _ n _ => n, fun b ob q _ => ⟨ob, k b ob q⟩, fun _ _ q => q, fun _ _ _ q => q, fun _ ps q => ⟨#[], by rw [q]; simp⟩⟩
theorem Un.refl : Un fs ex H H h h := Un.kept fun _ _ q => q
theorem Un.laid (k : ∀ b u, h.get? b = some u -> h'.get? b = some u) (hp : h.objs.size <= a) (hn : H a = none) : Un fs ex H (upd H a o) h h' where
 keep := fun b u q _ _ _ => k b u q
 slot := fun b u q _ _ _ => ⟨u.slots, k b u q⟩
 free := fun b u q n _ => by rw [upd_ne (Nat.ne_of_lt (Nat.lt_of_lt_of_le (Heap.lt_size q) hp))]; exact n
 there := fun b u q _ => ⟨u, k b u q⟩
 tups := fun b xs q => by rw [upd_ne (ne_of_none q hn)]; exact q
 frzs := fun b u xs q => by rw [upd_ne (ne_of_none q hn)]; exact q
 tbls := fun b ps q => ⟨#[], by rw [upd_ne (ne_of_none q hn), q]; simp⟩
theorem Un.write (mu : Mut (H x)) (he : e = x \/ H e = some (.own x)) (k : ∀ b u, b ≠ e -> h.get? b = some u -> h'.get? b = some u) (heo : ∃ u, h'.get? e = some u) : Un fs ex H (upd H x o) h h' := by
 have hx : ∀ b, H b = none -> b ≠ x := fun b n z => by subst z; rw [n] at mu; exact mu
 have hb : ∀ b, H b = none -> b ≠ e := fun b n z => by
  subst z
  rcases he with r | r
  ·exact hx b n r
  ·rw [n] at r; cases r
 have hm : ∀ b u, H b = some u -> ¬ Mut (some u) -> b ≠ x := fun b u q nm z => by subst z; rw [q] at mu; exact nm mu
 refine ⟨fun b u q n _ _ => k b u (hb b n) q, fun b u q n _ _ => ⟨u.slots, k b u (hb b n) q⟩, fun b u q n _ => by rw [upd_ne (hx b n)]; exact n, fun b u q _ => ?_,
  fun b xs q => by rw [upd_ne (hm b _ q fun z => z)]; exact q, fun b u xs q => by rw [upd_ne (hm b _ q fun z => z)]; exact q, fun b ps q => ⟨#[], by rw [upd_ne (hm b _ q fun z => z), q]; simp⟩⟩
 by_cases hbe : b = e
 ·subst hbe; exact heo
 ·exact ⟨u, k b u hbe q⟩
end
def trk (h : Heap) (H : Hp) : List Addr := (List.range h.objs.size).filter fun a => (H a).isSome
def hidT (h : Heap) (H : Hp) : Heap := PySem.W.hideAll h (trk h H)
theorem hidT_size (h : Heap) (H : Hp) : (hidT h H).objs.size = h.objs.size := PySem.W.hideAll_size _ _
theorem hidT_get {h : Heap} {H : Hp} {b : Addr} {o : Obj} (e : h.get? b = some o) (n : H b = none) : (hidT h H).get? b = some o :=
 PySem.W.hideAll_get _ e fun hm => by
  have q : (H b).isSome = true := (List.mem_filter.mp hm).2
  rw [n] at q; simp at q
theorem of_hidT {h : Heap} {H : Hp} {b : Addr} {o : Obj} (e : (hidT h H).get? b = some o) : h.get? b = some o /\ H b = none := by
 have e' : h.get? b = some o := PySem.W.of_hideAll (trk h H) e
 refine ⟨e', ?_⟩
 cases q : H b with
 | none => rfl
 | some x =>
  have hm : b ∈ trk h H := List.mem_filter.mpr ⟨List.mem_range.mpr (Heap.lt_size e'), by simp [q]⟩
  have z : (hidT h H).get? b = none := PySem.W.hideAll_none (trk h H) hm
  rw [z] at e; cases e
def allNews (g h : Heap) (L : Addr) : List (Addr × Obj) := (List.range h.objs.size).filterMap fun a => if a = L \/ (g.get? a).isSome = true then none else (h.get? a).map fun o => (a, o)
def rest (g h : Heap) (L d : Addr) : List (Addr × Obj) := (allNews g h L).filter fun p => decide (p.1 ≠ d)
end L2
namespace L2
open PySem PySem.Spec PyProof.Rows
structure Mod (K : PySem.W.Frag) (mg : Str -> Option Value) (base : Heap) : Prop where
 kin : K.In base
 glob : base.Ns mainGlobals mg
 blt : ∃ mb, base.Ns builtinsNs mb ∧ ∀ x : Str, x ≠ "__name__" → mb x = bootBuiltins x
 nolimit : base.NoLimit
structure Cx where
 prog : Program
 w : World
 K : PySem.W.Frag
 mg : Str -> Option Value
 base : Heap
 A : Around
 N : List Str
 s₀ : Shared
 H₀ : Hp
 env : Env
 outer : List Env
 stack : List Env
 ex : List Addr
 fn : Str -> Bool
 calm : Bool
 pn : List (Addr × Obj)
 xe : Value -> Shared -> Prop
def frs (l : List Env) : List Addr := l.filterMap (·.frame)
abbrev Cx.fs (X : Cx) : List Addr := frs X.outer
def Vis (sc : Scope) (x : Str) : Prop := sc.names.lookup x = some .local \/ sc.names.lookup x = some .cell \/ sc.names.lookup x = some .free
def Loc (sc : Scope) (x : Str) : Prop := sc.names.lookup x = some .local \/ sc.names.lookup x = some .cell
def Look (env : Env) (h : Heap) (m : Str -> Option Value) (x : Str) (u : Value) : Prop :=
 (env.kindOf x = some .local /\ m x = some u) \/ ((env.kindOf x = some .cell \/ env.kindOf x = some .free) /\ ∃ c, env.cells.lookup x = some c /\ h.IsCell c (some u))
structure Cx.Ok (X : Cx) : Prop where
 mod : Mod X.K X.mg X.base
 kind : X.env.scope.kind = .function
 glob : X.env.globals = mainGlobals
 blt : X.env.builtins = builtinsNs
 above : X.s₀.heap.objs.size <= X.env.locals
 inj : ∀ x y c, X.env.cells.lookup x = some c -> X.env.cells.lookup y = some c -> x = y
 has : ∀ x, (X.env.kindOf x = some .cell \/ X.env.kindOf x = some .free) -> ∃ c, X.env.cells.lookup x = some c
 cab : ∀ x c, X.fn x = true -> X.env.cells.lookup x = some c -> X.s₀.heap.objs.size <= c
 hd : X.calm = true -> X.A.handled = none
 frames : X.A.frames = some X.stack
 stk : X.stack = X.outer \/ (X.stack = X.env :: X.outer /\ X.env.frame = some X.env.locals)
 exf : ∀ b ∈ X.ex, b ≠ X.env.locals /\ ∀ x c, X.env.cells.lookup x = some c -> c ≠ b
 bs : ∀ b o, X.base.get? b = some o -> X.s₀.heap.get? b = some o /\ X.H₀ b = none
 bsz : X.base.objs.size <= X.s₀.heap.objs.size
 noex : ∀ b o, X.base.get? b = some o -> b ∉ X.ex
 exfs : ∀ b ∈ X.ex, b ∉ X.fs
 funs : X.s₀.heap.FunFrames X.base X.outer
 frf : ∀ b ∈ X.fs, X.H₀ b = none
structure Inv (X : Cx) (pins : List (Addr × Obj)) (σ : List (Option V)) (H : Hp) (s : Shared) : Prop where
 ok : X.Ok
 os : s.os = X.s₀.os
 bare : AllBare s.gens
 base : Un X.fs X.ex X.H₀ H X.s₀.heap s.heap
 loc : ∃ m, s.heap.Ns X.env.locals m /\ ∀ (i : Nat) (x : Str) (v : V), X.N[i]? = some x -> σ[i]? = some (some v) -> Vis X.env.scope x -> ∃ u, RelV v u /\ Look X.env s.heap m x u
 cell : ∀ x c, X.env.cells.lookup x = some c -> ∃ v, s.heap.IsCell c v
 free : H X.env.locals = none
 freeC : ∀ x c, X.env.cells.lookup x = some c -> H c = none
 pin : ∀ p ∈ X.pn ++ pins, s.heap.get? p.1 = some p.2 /\ H p.1 = none /\ p.1 ≠ X.env.locals /\ p.1 ∉ X.fs /\ ∀ v, p.2.data ≠ .cell v
 hok : HOk X.prog X.w H s.heap
 len : σ.length = X.N.length
section
variable {X : Cx} {pins : List (Addr × Obj)} {σ : List (Option V)} {H H' : Hp} {s : Shared} {h' : Heap}
theorem Cx.Ok.nofr (ok : X.Ok) {b : Addr} {o : Obj} (e : X.base.get? b = some o) : b ∉ X.fs := fun hb => by
 have := (ok.funs.mem hb).1
 rw [e] at this; cases this
theorem Inv.bs (I : Inv X pins σ H s) : ∀ b o, X.base.get? b = some o -> s.heap.get? b = some o /\ H b = none := fun b o e =>
 ⟨I.base.keep b o (I.ok.bs b o e).1 (I.ok.bs b o e).2 (I.ok.nofr e) (I.ok.noex b o e), I.base.free b o (I.ok.bs b o e).1 (I.ok.bs b o e).2 (I.ok.noex b o e)⟩
theorem Inv.bk (I : Inv X pins σ H s) : ∀ b o, X.base.get? b = some o -> s.heap.get? b = some o := fun b o e => (I.bs b o e).1
theorem Inv.mod (I : Inv X pins σ H s) : Mod X.K X.mg X.base := I.ok.mod
theorem Inv.kIn (I : Inv X pins σ H s) : X.K.In s.heap := I.ok.mod.kin.keeps I.bk
theorem Inv.lt (I : Inv X pins σ H s) : X.env.locals < s.heap.objs.size := let ⟨_, hn, _⟩ := I.loc; hn.lt
theorem Inv.sz (I : Inv X pins σ H s) : X.s₀.heap.objs.size <= s.heap.objs.size := Nat.le_trans I.ok.above (Nat.le_of_lt I.lt)
theorem Inv.nofs (I : Inv X pins σ H s) {a : Addr} (h : s.heap.objs.size <= a) : a ∉ X.fs := fun hb => by
 obtain ⟨_, o, ho, _⟩ := I.ok.funs.mem hb
 exact absurd (Nat.lt_of_lt_of_le (Heap.lt_size ho) (Nat.le_trans I.sz h)) (Nat.lt_irrefl _)
theorem Inv.cne (I : Inv X pins σ H s) : ∀ x c, X.env.cells.lookup x = some c -> c ≠ X.env.locals := fun x c e z => by
 obtain ⟨v, o, ho, hd⟩ := I.cell x c e
 obtain ⟨m, ⟨o', es, ep, ho', hd', _⟩, _⟩ := I.loc
 rw [z, ho'] at ho; cases ho; rw [hd'] at hd; cases hd
theorem Inv.funs (I : Inv X pins σ H s) : s.heap.FunFrames X.base X.outer := by
 have all : ∀ (l : List Env), (∀ b ∈ frs l, b ∈ X.fs) -> X.s₀.heap.FunFrames X.base l -> s.heap.FunFrames X.base l := by
  intro l
  induction l with
  | nil => intro _ _; trivial
  | cons env r ih =>
   intro hs hl
   obtain ⟨hk, ⟨L, o, hf, hn, ho, hd⟩, hr⟩ := hl
   have hL : L ∈ X.fs := hs L (by unfold frs; rw [List.filterMap_cons, hf]; exact List.mem_cons_self)
   obtain ⟨sl, e⟩ := I.base.slot L o ho (I.ok.frf L hL) hL fun z => I.ok.exfs L z hL
   exact ⟨hk, ⟨L, _, hf, hn, e, hd⟩, ih (fun b hb => hs b (by unfold frs; rw [List.filterMap_cons, hf]; exact List.mem_cons_of_mem _ hb)) hr⟩
 exact all X.outer (fun _ hb => hb) I.ok.funs
theorem Inv.stack (I : Inv X pins σ H s) : s.heap.FunFrames X.base X.stack := by
 rcases I.ok.stk with e | ⟨e, hf⟩
 ·rw [e]; exact I.funs
 ·rw [e]
  obtain ⟨m, hn, _⟩ := I.loc
  refine .cons (by rw [I.ok.kind]; decide) hf hn ?_ I.funs
  exact Heap.get?_none_of_le (Nat.le_trans I.ok.bsz I.ok.above)
theorem Inv.stkSub (I : Inv X pins σ H s) : ∀ b ∈ frs X.stack, b ∈ X.env.locals :: X.fs := fun b hb => by
 rcases I.ok.stk with e | ⟨e, hf⟩
 ·rw [e] at hb; exact List.mem_cons_of_mem _ hb
 ·rw [e] at hb
  unfold frs at hb
  rw [List.filterMap_cons, hf] at hb
  exact hb
theorem Inv.stkFree (I : Inv X pins σ H s) : ∀ b ∈ frs X.stack, H b = none := fun b hb => by
 rcases List.mem_cons.mp (I.stkSub b hb) with e | hb
 ·rw [e]; exact I.free
 ·obtain ⟨_, o, ho, _⟩ := I.ok.funs.mem hb
  exact I.base.free b o ho (I.ok.frf b hb) fun z => I.ok.exfs b z hb
theorem Inv.step {g' : Array GenState} {t' : Nat} {d' : Drawn} {ch : List Addr} (I : Inv X pins σ H s)
  (hch : ∀ b ∈ ch, (b ∈ X.ex \/ X.s₀.heap.objs.size <= b) /\ b ≠ X.env.locals /\ (∀ x c, X.env.cells.lookup x = some c -> c ≠ b) /\ ∀ p ∈ X.pn ++ pins, p.1 ≠ b)
  (keep : ∀ b o, b ≠ X.env.locals -> b ∉ X.fs -> b ∉ ch -> s.heap.get? b = some o -> H b = none -> h'.get? b = some o)
  (slot : ∀ b o, b ≠ X.env.locals -> b ∈ X.fs -> b ∉ ch -> s.heap.get? b = some o -> H b = none -> ∃ sl, h'.get? b = some { o with slots := sl }) (free : ∀ b o, b ∉ ch -> s.heap.get? b = some o -> H b = none -> H' b = none)
  (there : ∀ b o, b ∉ ch -> s.heap.get? b = some o -> ∃ o', h'.get? b = some o')
  (tups : ∀ b xs, H b = some (.tup xs) -> H' b = some (.tup xs)) (frzs : ∀ b o u, H b = some (.frz o u) -> H' b = some (.frz o u)) (tbls : ∀ b ps, H b = some (.tbl ps) -> ∃ more, H' b = some (.tbl (ps ++ more)))
  (ns : ∀ m, s.heap.Ns X.env.locals m -> h'.Ns X.env.locals m) (hok : HOk X.prog X.w H' h') (hg : AllBare g') :
  Inv X pins σ H' { s with heap := h', gens := g', drawn := d', toks := t' } := by
 have neL : ∀ b o, X.s₀.heap.get? b = some o -> b ≠ X.env.locals := fun b o e => Nat.ne_of_lt (Nat.lt_of_lt_of_le (Heap.lt_size e) I.ok.above)
 have neC : ∀ b o, X.s₀.heap.get? b = some o -> b ∉ X.ex -> b ∉ ch := fun b o e hx hb => by
  rcases (hch b hb).1 with z | z
  ·exact hx z
  ·exact absurd (Nat.lt_of_lt_of_le (Heap.lt_size e) z) (Nat.lt_irrefl _)
 have cellK : ∀ x c, X.env.cells.lookup x = some c -> ∀ v, s.heap.IsCell c v -> h'.IsCell c v := fun x c e v ⟨o, ho, hd⟩ => by
  have nch : c ∉ ch := fun z => (hch c z).2.2.1 x c e rfl
  by_cases hc : c ∈ X.fs
  ·obtain ⟨sl, q⟩ := slot c o (I.cne x c e) hc nch ho (I.freeC x c e)
   exact ⟨_, q, hd⟩
  ·exact ⟨o, keep c o (I.cne x c e) hc nch ho (I.freeC x c e), hd⟩
 refine ⟨I.ok, I.os, hg, ⟨fun b o e n hb hx => ?_, fun b o e n hb hx => ?_, fun b o e n hx => ?_, fun b o e hx => ?_, fun b xs e => tups b xs (I.base.tups b xs e), fun b o xs e => frzs b o xs (I.base.frzs b o xs e), fun b ps e => ?_⟩, ?_, fun x c e => ?_, ?_, fun x c e => ?_, fun p hp => ?_, hok, I.len⟩
 ·exact keep b o (neL b o e) hb (neC b o e hx) (I.base.keep b o e n hb hx) (I.base.free b o e n hx)
 ·obtain ⟨sl, e1⟩ := I.base.slot b o e n hb hx
  obtain ⟨sl', e2⟩ := slot b _ (neL b o e) hb (neC b o e hx) e1 (I.base.free b o e n hx)
  exact ⟨sl', e2⟩
 ·obtain ⟨o', e1⟩ := I.base.there b o e hx
  exact free b o' (neC b o e hx) e1 (I.base.free b o e n hx)
 ·obtain ⟨o', e1⟩ := I.base.there b o e hx
  exact there b o' (neC b o e hx) e1
 ·obtain ⟨m1, e1⟩ := I.base.tbls b ps e
  obtain ⟨m2, e2⟩ := tbls b _ e1
  exact ⟨m1 ++ m2, by rw [e2, Array.append_assoc]⟩
 ·obtain ⟨m, hn, hl⟩ := I.loc
  refine ⟨m, ns m hn, fun i x v e1 e2 e3 => ?_⟩
  obtain ⟨u, r, l⟩ := hl i x v e1 e2 e3
  refine ⟨u, r, ?_⟩
  rcases l with l | ⟨k, c, e, z⟩
  ·exact .inl l
  ·exact .inr ⟨k, c, e, cellK x c e _ z⟩
 ·obtain ⟨v, z⟩ := I.cell x c e
  exact ⟨v, cellK x c e v z⟩
 ·obtain ⟨m, ⟨o, _, _, ho, _⟩, _⟩ := I.loc
  exact free _ o (fun z => (hch _ z).2.1 rfl) ho I.free
 ·obtain ⟨v, o, ho, hd⟩ := I.cell x c e
  exact free c o (fun z => (hch c z).2.2.1 x c e rfl) ho (I.freeC x c e)
 ·obtain ⟨e, n, ne, nf, d⟩ := I.pin p hp
  have nch : p.1 ∉ ch := fun z => (hch p.1 z).2.2.2 p hp rfl
  exact ⟨keep p.1 p.2 ne nf nch e n, free p.1 p.2 nch e n, ne, nf, d⟩
theorem Inv.un {t' : Nat} (I : Inv X pins σ H s) (u : Un X.fs [] H H' s.heap h') (hok : HOk X.prog X.w H' h') : Inv X pins σ H' { s with heap := h', toks := t' } := by
 obtain ⟨m, ⟨o, es, ep, ho, r⟩, _⟩ := id I.loc
 obtain ⟨sl, hL⟩ := u.any ho I.free (by simp)
 exact I.step (g' := s.gens) (d' := s.drawn) (ch := []) (fun _ z => nomatch z) (fun b o _ hb _ e n => u.keep b o e n hb (by simp)) (fun b o _ hb _ e n => u.slot b o e n hb (by simp)) (fun b o _ e n => u.free b o e n (by simp)) (fun b o _ e => u.there b o e (by simp)) u.tups u.frzs u.tbls (fun m' hm => by
  obtain ⟨o', es', ep', ho', r'⟩ := hm
  rw [ho] at ho'; cases ho'
  exact ⟨_, es', ep', hL, r'⟩) hok I.bare
theorem Inv.call {g' : Array GenState} {t' : Nat} {d' : Drawn} {ch : List Addr} (I : Inv X pins σ H s) (u : Un (frs X.stack) ch H H' s.heap h') (hok : HOk X.prog X.w H' h') (hg : AllBare g')
  (hch : ∀ b ∈ ch, (b ∈ X.ex \/ X.s₀.heap.objs.size <= b) /\ b ≠ X.env.locals /\ (∀ x c, X.env.cells.lookup x = some c -> c ≠ b) /\ ∀ p ∈ X.pn ++ pins, p.1 ≠ b) :
  Inv X pins σ H' { s with heap := h', gens := g', drawn := d', toks := t' } := by
 obtain ⟨m, ⟨o, es, ep, ho, r⟩, _⟩ := id I.loc
 obtain ⟨sl, hL⟩ := u.any ho I.free fun z => (hch _ z).2.1 rfl
 exact I.step (ch := ch) hch (fun b o hL hb hc e n => u.keep b o e n (fun z => (List.mem_cons.mp (I.stkSub b z)).elim hL hb) hc) (fun b o _ _ hc e n => u.any e n hc) (fun b o hc e n => u.free b o e n hc) (fun b o hc e => u.there b o e hc) u.tups u.frzs u.tbls (fun m' hm => by
  obtain ⟨o', es', ep', ho', r'⟩ := hm
  rw [ho] at ho'; cases ho'
  exact ⟨_, es', ep', hL, r'⟩) hok hg
theorem Inv.turned {t' : Nat} {it : Addr} (I : Inv X pins σ H s) (k : ∀ b o, b ≠ it -> s.heap.get? b = some o -> h'.get? b = some o) (hn : H it = none) (hL : it ≠ X.env.locals)
  (h1 : it ∈ X.ex \/ X.s₀.heap.objs.size <= it) (h2 : ∀ x c, X.env.cells.lookup x = some c -> c ≠ it) (h3 : ∀ p ∈ X.pn ++ pins, p.1 ≠ it) : Inv X pins σ H { s with heap := h', toks := t' } := by
 have nit : ∀ b u, H b = some u -> b ≠ it := fun b u e z => by rw [z, hn] at e; cases e
 refine I.step (g' := s.gens) (d' := s.drawn) (ch := [it]) (fun b hb => ?_) (fun b o _ _ hc e _ => k b o (fun z => hc (by simp [z])) e) (fun b o _ _ hc e _ => ⟨o.slots, k b o (fun z => hc (by simp [z])) e⟩) (fun _ _ _ _ n => n)
  (fun b o hc e => ⟨o, k b o (fun z => hc (by simp [z])) e⟩) (fun _ _ e => e) (fun _ _ _ e => e) (fun b ps e => ⟨#[], by rw [e]; simp⟩) (fun m hm => ?_) (fun b u e => ?_) I.bare
 ·have e : b = it := by simpa using hb
  subst e
  exact ⟨h1, hL, h2, h3⟩
 ·obtain ⟨o, es, ep, ho, r⟩ := hm
  exact ⟨o, es, ep, k _ o (Ne.symm hL) ho, r⟩
 ·refine (I.hok b u e).stay (fun c v hc q => k c v ?_ q) (fun _ q => q) fun _ _ q => q
  rcases hc with z | z
  ·rw [z]; exact nit b u e
  ·exact nit c _ z
theorem Inv.tok (I : Inv X pins σ H s) (t : Nat) : Inv X pins σ H { s with toks := t } := I.un (h' := s.heap) (t' := t) Un.refl I.hok
theorem Inv.kept {t' : Nat} (I : Inv X pins σ H s) (k : ∀ b u, s.heap.get? b = some u -> h'.get? b = some u) : Inv X pins σ H { s with heap := h', toks := t' } := I.un (Un.kept k) (I.hok.kept k)
theorem Inv.laid {a : Addr} {o : HO} {t' : Nat} (I : Inv X pins σ H s) (k : ∀ b u, s.heap.get? b = some u -> h'.get? b = some u) (hp : s.heap.objs.size <= a) (new : ObjOk X.prog X.w (upd H a o) h' a o) :
  Inv X pins σ (upd H a o) { s with heap := h', toks := t' } := I.un (Un.laid k hp (I.hok.fresh hp)) (I.hok.laid k hp new)
theorem Inv.write {x e : Addr} {o : HO} {t' : Nat} (I : Inv X pins σ H s) (mu : Mut (H x)) (he : e = x \/ H e = some (.own x)) (k : ∀ b u, b ≠ e -> s.heap.get? b = some u -> h'.get? b = some u) (heo : ∃ u, h'.get? e = some u)
  (new : ObjOk X.prog X.w (upd H x o) h' x o) : Inv X pins σ (upd H x o) { s with heap := h', toks := t' } := I.un (Un.write mu he k heo) (I.hok.write mu he k heo new)
theorem Inv.pins_of {pins' : List (Addr × Obj)} (I : Inv X pins σ H s) (h : ∀ p ∈ pins', s.heap.get? p.1 = some p.2 /\ H p.1 = none /\ p.1 ≠ X.env.locals /\ p.1 ∉ X.fs /\ ∀ v, p.2.data ≠ .cell v) : Inv X pins' σ H s :=
 ⟨I.ok, I.os, I.bare, I.base, I.loc, I.cell, I.free, I.freeC, fun p hp => (List.mem_append.mp hp).elim (fun z => I.pin p (List.mem_append_left _ z)) (h p), I.hok, I.len⟩
theorem nodup_ix {N : List Str} (hN : N.Nodup) {i j : Nat} {x : Str} (a : N[i]? = some x) (b : N[j]? = some x) : i = j := by
 obtain ⟨h1, e1⟩ := List.getElem?_eq_some_iff.mp a
 obtain ⟨h2, e2⟩ := List.getElem?_eq_some_iff.mp b
 exact (List.getElem_inj hN).mp (e1.trans e2.symm)
theorem store_ok2 {M : Model} {A : Around} {E : Value -> Shared -> Prop} {i : Nat} {x : Str} {v : V} {u : Value} {Q : Unit -> Shared -> Prop} (I : Inv X pins σ H s) (hN : X.N.Nodup) (hi : X.N[i]? = some x) (hx : Loc X.env.scope x) (r : RelV v u)
  (h : ∀ s', Inv X pins (σ.set i (some v)) H s' -> (∃ a, Heap.SameBut a s.heap s'.heap /\ (a = X.env.locals \/ X.env.cells.lookup x = some a)) -> Q () s') (hf : X.fn x = true \/ X.env.scope.names.lookup x = some .local := by first | exact .inl rfl | exact .inr rfl | assumption) : wpAny M A (storeName X.env x u) Q E s := by
 obtain ⟨m, hn, hl⟩ := id I.loc
 have hcls : (X.env.scope.kind == .class || (X.env.scope.kind == .module && X.env.locals != X.env.globals)) = false := by rw [I.ok.kind]; rfl
 have hiσ : i < σ.length := by rw [I.len]; exact (List.getElem?_eq_some_iff.mp hi).1
 have cne := I.cne
 have tracked : ∀ {a : Addr} {h' : Heap}, (∃ o, s.heap.get? a = some o /\ H a = none) -> Heap.SameBut a s.heap h' -> HOk X.prog X.w H h' := fun {a h'} ha hs b ob e => by
  obtain ⟨_, _, hfree⟩ := ha
  refine (I.hok b ob e).stay (fun c w' hc q => (hs.2 c ?_).trans q) (fun _ q => q) fun _ _ q => q
  rintro rfl
  rcases hc with rfl | hc
  ·rw [hfree] at e; cases e
  ·rw [hfree] at hc; cases hc
 rcases hx with hk | hk
 ·refine wpAny_storeName_local hk hn (fun h' hn' hs => ?_) hcls
  obtain ⟨oL, _, _, hoL, _⟩ := id hn
  refine h _ ⟨I.ok, I.os, I.bare, ⟨fun b o e n hb hx => ?_, fun b o e n hb hx => ?_, I.base.free, fun b o e hx => ?_, I.base.tups, I.base.frzs, I.base.tbls⟩, ⟨_, hn', fun j y v' e1 e2 e3 => ?_⟩, fun y c e => ?_, I.free, I.freeC, fun p hp => ?_, tracked ⟨oL, hoL, I.free⟩ hs, by simpa using I.len⟩ ⟨_, hs, .inl rfl⟩
  ·exact (hs.2 b (Nat.ne_of_lt (Nat.lt_of_lt_of_le (Heap.lt_size e) I.ok.above))).trans (I.base.keep b o e n hb hx)
  ·obtain ⟨sl, e1⟩ := I.base.slot b o e n hb hx
   exact ⟨sl, (hs.2 b (Nat.ne_of_lt (Nat.lt_of_lt_of_le (Heap.lt_size e) I.ok.above))).trans e1⟩
  ·obtain ⟨o', e1⟩ := I.base.there b o e hx
   exact ⟨o', (hs.2 b (Nat.ne_of_lt (Nat.lt_of_lt_of_le (Heap.lt_size e) I.ok.above))).trans e1⟩
  ·by_cases hj : j = i
   ·subst hj
    rw [hi] at e1; cases e1
    rw [List.getElem?_set_self hiσ] at e2
    cases e2
    exact ⟨u, r, .inl ⟨hk, by simp⟩⟩
   ·rw [List.getElem?_set_ne (Ne.symm hj)] at e2
    obtain ⟨u', r', q⟩ := hl j y v' e1 e2 e3
    refine ⟨u', r', ?_⟩
    rcases q with ⟨k, e⟩ | ⟨k, c, e, z⟩
    ·refine .inl ⟨k, ?_⟩
     have : y ≠ x := fun e => hj (nodup_ix hN e1 (e ▸ hi))
     simp [this, e]
    ·exact .inr ⟨k, c, e, z.sameBut hs (cne y c e)⟩
  ·obtain ⟨w', z⟩ := I.cell y c e
   exact ⟨w', z.sameBut hs (cne y c e)⟩
  ·obtain ⟨e, n, ne, nf, d⟩ := I.pin p hp
   exact ⟨(hs.2 p.1 ne).trans e, n, ne, nf, d⟩
 ·have hfn : X.fn x = true := by
   rcases hf with z | z
   ·exact z
   ·rw [z] at hk; cases hk
  obtain ⟨c, hc⟩ := I.ok.has x (.inl hk)
  obtain ⟨w', z⟩ := I.cell x c hc
  refine wpAny_storeName_cell I.ok.kind hk hc z (fun h' hc' hs => ?_)
  obtain ⟨oc, hoc, hocd⟩ := id z
  refine h { s with heap := h' } ⟨I.ok, I.os, I.bare, ⟨fun b o e n hb hx => ?_, fun b o e n hb hx => ?_, I.base.free, fun b o e hx => ?_, I.base.tups, I.base.frzs, I.base.tbls⟩, ⟨m, hn.sameBut hs (Ne.symm (cne x c hc)), fun j y v' e1 e2 e3 => ?_⟩, fun y c' e => ?_, I.free, I.freeC, fun p hp => ?_, tracked ⟨oc, hoc, I.freeC x c hc⟩ hs, by simpa using I.len⟩ ⟨c, hs, .inr hc⟩
  ·exact (hs.2 b (Nat.ne_of_lt (Nat.lt_of_lt_of_le (Heap.lt_size e) (I.ok.cab x c hfn hc)))).trans (I.base.keep b o e n hb hx)
  ·obtain ⟨sl, e1⟩ := I.base.slot b o e n hb hx
   exact ⟨sl, (hs.2 b (Nat.ne_of_lt (Nat.lt_of_lt_of_le (Heap.lt_size e) (I.ok.cab x c hfn hc)))).trans e1⟩
  ·obtain ⟨o', e1⟩ := I.base.there b o e hx
   exact ⟨o', (hs.2 b (Nat.ne_of_lt (Nat.lt_of_lt_of_le (Heap.lt_size e) (I.ok.cab x c hfn hc)))).trans e1⟩
  ·by_cases hj : j = i
   ·subst hj
    rw [hi] at e1; cases e1
    rw [List.getElem?_set_self hiσ] at e2
    cases e2
    exact ⟨u, r, .inr ⟨.inl hk, c, hc, hc'⟩⟩
   ·rw [List.getElem?_set_ne (Ne.symm hj)] at e2
    obtain ⟨u', r', q⟩ := hl j y v' e1 e2 e3
    refine ⟨u', r', ?_⟩
    rcases q with q | ⟨k, c', e, z'⟩
    ·exact .inl q
    ·refine .inr ⟨k, c', e, z'.sameBut hs ?_⟩
     rintro rfl
     exact hj (nodup_ix hN e1 (I.ok.inj _ _ _ e hc ▸ hi))
  ·by_cases hcc : c' = c
   ·subst hcc; exact ⟨_, hc'⟩
   ·obtain ⟨w2, z2⟩ := I.cell y c' e
    exact ⟨w2, z2.sameBut hs hcc⟩
  ·obtain ⟨e, n, ne, nf, d⟩ := I.pin p hp
   refine ⟨(hs.2 p.1 ?_).trans e, n, ne, nf, d⟩
   intro q
   rw [q, hoc] at e
   have q' : oc = p.2 := Option.some.inj e
   exact d w' (by rw [<- q']; exact hocd)
theorem store_ok {M : Model} {A : Around} {E : Value -> Shared -> Prop} {i : Nat} {x : Str} {v : V} {u : Value} {Q : Unit -> Shared -> Prop} (I : Inv X pins σ H s) (hN : X.N.Nodup) (hi : X.N[i]? = some x) (hx : Loc X.env.scope x) (r : RelV v u)
  (h : ∀ s', Inv X pins (σ.set i (some v)) H s' -> Q () s') (hf : X.fn x = true \/ X.env.scope.names.lookup x = some .local := by first | exact .inl rfl | exact .inr rfl | assumption) : wpAny M A (storeName X.env x u) Q E s :=
 store_ok2 I hN hi hx r (fun s' I' _ => h s' I') hf
theorem Inv.call' {s' : Shared} {ch : List Addr} (I : Inv X pins σ H s) (ho : s'.os = s.os) (u : Un (frs X.stack) ch H H' s.heap s'.heap) (hok : HOk X.prog X.w H' s'.heap) (hg : AllBare s'.gens)
  (hch : ∀ b ∈ ch, (b ∈ X.ex \/ X.s₀.heap.objs.size <= b) /\ b ≠ X.env.locals /\ (∀ x c, X.env.cells.lookup x = some c -> c ≠ b) /\ ∀ p ∈ X.pn ++ pins, p.1 ≠ b) : Inv X pins σ H' s' := by
 obtain ⟨h', g', d', t', o'⟩ := s'
 have e : o' = s.os := ho
 subst e
 exact I.call (g' := g') (t' := t') (d' := d') u hok hg hch
end
abbrev XK := Value -> Option Addr -> Hp -> Prop
abbrev St := List (Option V)
abbrev VK := V -> Hp -> Prop
abbrev TE := St -> Hp -> VK -> Prop
abbrev TT := St -> Hp -> (Bool -> Hp -> Prop) -> Prop
abbrev TA := St -> Hp -> (List V -> Hp -> Prop) -> Prop
structure Ends where
 nx : St -> Hp -> Prop
 rt : VK
 bk : St -> Hp -> Prop := fun _ _ => False
 ct : St -> Hp -> Prop := fun _ _ => False
abbrev TS := Ends -> St -> Hp -> Prop
def EP (X : Cx) (pins : List (Addr × Obj)) (σ : St) (Q : VK) (u : Value) (s' : Shared) : Prop := ∃ v H', Inv X pins σ H' s' /\ RelV v u /\ Q v H'
def TP (X : Cx) (pins : List (Addr × Obj)) (σ : St) (Q : Bool -> Hp -> Prop) (b : Bool) (s' : Shared) : Prop := ∃ H', Inv X pins σ H' s' /\ Q b H'
def AP (X : Cx) (pins : List (Addr × Obj)) (σ : St) (Q : List V -> Hp -> Prop) (us : List Value) (s' : Shared) : Prop := ∃ vs H', Inv X pins σ H' s' /\ Vals vs us /\ Q vs H'
def SP (X : Cx) (pins : List (Addr × Obj)) (D : Ends) (f : Flow) (s' : Shared) : Prop :=
 match f with
 | .next => ∃ σ' H', Inv X pins σ' H' s' /\ D.nx σ' H'
 | .brk => ∃ σ' H', Inv X pins σ' H' s' /\ D.bk σ' H'
 | .cont => ∃ σ' H', Inv X pins σ' H' s' /\ D.ct σ' H'
 | .ret u => ∃ v σ' H', Inv X pins σ' H' s' /\ RelV v u /\ D.rt v H'
def PE (X : Cx) (e : Expr) (t : TE) : Prop :=
 ∀ (pins : List (Addr × Obj)) (s : Shared) (σ : St) (H : Hp) (Q : VK), Inv X pins σ H s -> t σ H Q -> wpAny (model X.prog X.w) X.A (eval e X.env) (EP X pins σ Q) X.xe s
def PT (X : Cx) (e : Expr) (t : TT) : Prop :=
 ∀ (pins : List (Addr × Obj)) (s : Shared) (σ : St) (H : Hp) (Q : Bool -> Hp -> Prop), Inv X pins σ H s -> t σ H Q -> wpAny (model X.prog X.w) X.A (isTrue e X.env (eval e X.env)) (TP X pins σ Q) X.xe s
def PW (X : Cx) (e : Expr) (t : TT) : Prop :=
 ∀ (whole : Sem Value) (pins : List (Addr × Obj)) (s : Shared) (σ : St) (H : Hp) (Q : Bool -> Hp -> Prop), Inv X pins σ H s -> t σ H Q -> wpAny (model X.prog X.w) X.A (isTrue e X.env whole) (TP X pins σ Q) X.xe s
theorem PW.pt {X : Cx} {e : Expr} {t : TT} (h : PW X e t) : PT X e t := h _
def PA (X : Cx) (es : List Expr) (t : TA) : Prop :=
 ∀ (pos : Pos) (pins : List (Addr × Obj)) (s : Shared) (σ : St) (H : Hp) (Q : List V -> Hp -> Prop), Inv X pins σ H s -> t σ H Q -> wpAny (model X.prog X.w) X.A (spliced (backTo pos (starEach es X.env))) (AP X pins σ Q) X.xe s
def PS (X : Cx) (st : Stmt) (t : TS) : Prop :=
 ∀ (pins : List (Addr × Obj)) (s : Shared) (σ : St) (H : Hp) (D : Ends), Inv X pins σ H s -> t D σ H -> wpAny (model X.prog X.w) X.A (exec st X.env) (SP X pins D) X.xe s
def PSs (X : Cx) (st : List Stmt) (t : TS) : Prop :=
 ∀ (pins : List (Addr × Obj)) (s : Shared) (σ : St) (H : Hp) (D : Ends), Inv X pins σ H s -> t D σ H -> wpAny (model X.prog X.w) X.A (execs st X.env) (SP X pins D) X.xe s
theorem thn {α : Type} {t : Sem α} {Q Q' : α -> Shared -> Prop} {M : Model} {A : Around} {E : Value -> Shared -> Prop} {s : Shared} (h : wpAny M A t Q E s) (hQ : ∀ a s, Q a s -> Q' a s) : wpAny M A t Q' E s := wpAny_mono h hQ fun _ _ x => x
end L2
namespace L2
open PySem PySem.Spec PyProof.Rows
section
variable {X : Cx}
def tVar (i : Nat) : TE := fun σ H Q => ∃ v, σ[i]? = some (some v) /\ Q v H
def tC (v : V) : TE := fun _ H Q => Q v H
theorem pe_var {i : Nat} {x : Str} {pos : Pos} (hN : X.N[i]? = some x) (hv : Vis X.env.scope x) (hd : (x == ("__debug__" : Str)) = false := by decide) (hcd : (x == ("__classdict__" : Str)) = false := by decide) : PE X (.Name x pos) (tVar i) := by
 intro pins s σ H Q I h
 obtain ⟨v, e, h⟩ := h
 obtain ⟨m, hn, hl⟩ := I.loc
 obtain ⟨u, r, l⟩ := hl i x v hN e hv
 have fin : EP X pins σ Q u s := ⟨v, H, I, r, h⟩
 rcases l with ⟨hk, hm⟩ | ⟨hk, c, hc, hcell⟩
 ·exact wpAny_Name (wpAny_loadName_local I.ok.kind hk hn hm fin) hd
 ·rcases hk with hk | hk
  ·exact wpAny_Name (wpAny_loadName_cell I.ok.kind hk hc hcell fin) hd
  ·exact wpAny_Name (wpAny_loadName_free I.ok.kind hk hc hcell fin hcd) hd
theorem pe_int {i j pos} : PE X (.Constant (.int i) j pos) (tC (.int i)) := fun _ _ _ H _ I h => wpAny_Constant_int ⟨.int i, H, I.tok _, ⟨_, rfl⟩, h⟩
theorem pe_bl {b j pos} : PE X (.Constant (.bool b) j pos) (tC (.bl b)) := fun _ _ _ H _ I h => Constant_bool ⟨.bl b, H, I, rfl, h⟩
theorem pe_non {j pos} : PE X (.Constant .none j pos) (tC .non) := fun _ _ _ H _ I h => Constant_none ⟨.non, H, I, rfl, h⟩
theorem pe_str {x j pos} : PE X (.Constant (.str x) j pos) (tC (.str x)) := fun _ _ _ H _ I h => Calls.Constant_str ⟨.str x, H, I.tok _, ⟨_, rfl⟩, h⟩
def Gl (X : Cx) (x : Str) : Prop := X.env.kindOf x = some .globalImplicit
theorem ld_glob {E : Value -> Shared -> Prop} {pins : List (Addr × Obj)} {s : Shared} {σ : St} {H : Hp} {x : Str} {u : Value} {pos : Pos} {Q : Value -> Shared -> Prop} (I : Inv X pins σ H s) (hg : Gl X x) (hm : X.mg x = some u) (h : Q u s)
  (hd : (x == ("__debug__" : Str)) = false := by decide) : wpAny (model X.prog X.w) X.A (eval (.Name x pos) X.env) Q E s :=
 Calls.Name_function_global I.ok.kind hg (Calls.loadGlobal_global (by rw [I.ok.glob]; exact I.mod.glob.keeps I.bk) hm h) hd
theorem ld_blt {E : Value -> Shared -> Prop} {pins : List (Addr × Obj)} {s : Shared} {σ : St} {H : Hp} {x : Str} {u : Value} {pos : Pos} {Q : Value -> Shared -> Prop} (I : Inv X pins σ H s) (hg : Gl X x) (hm : X.mg x = none) (hv : bootBuiltins x = some u) (h : Q u s)
  (hn : x ≠ "__name__" := by decide) (hd : (x == ("__debug__" : Str)) = false := by decide) : wpAny (model X.prog X.w) X.A (eval (.Name x pos) X.env) Q E s := by
 obtain ⟨mb, h1, h2⟩ := I.mod.blt
 exact Calls.Name_function_global I.ok.kind hg (Calls.loadGlobal_builtin (by rw [I.ok.glob]; exact I.mod.glob.keeps I.bk) hm (by rw [I.ok.blt]; exact h1.keeps I.bk) ((h2 x hn).trans hv) h) hd
theorem pe_glob {x : Str} {v : V} {u : Value} {pos : Pos} (hg : Gl X x) (hm : X.mg x = some u) (r : RelV v u) (hd : (x == ("__debug__" : Str)) = false := by decide) : PE X (.Name x pos) (tC v) :=
 fun _ _ _ H _ I h => ld_glob I hg hm ⟨v, H, I, r, h⟩ hd
theorem pe_bltn {x : Str} {v : V} {u : Value} {pos : Pos} (hg : Gl X x) (hm : X.mg x = none) (hv : bootBuiltins x = some u) (r : RelV v u) (hn : x ≠ "__name__" := by decide) (hd : (x == ("__debug__" : Str)) = false := by decide) : PE X (.Name x pos) (tC v) :=
 fun _ _ _ H _ I h => ld_blt I hg hm hv ⟨v, H, I, r, h⟩ hn hd
def t2I (ta tb : TE) (k : Int -> Int -> Hp -> Prop) : St -> Hp -> Prop := fun σ H => ta σ H fun x H1 => tb σ H1 fun y H2 => ∃ i j, x = .int i /\ y = .int j /\ k i j H2
def tAdd (ta tb : TE) : TE := fun σ H Q => t2I ta tb (fun i j H2 => Q (.int (i + j)) H2) σ H
def tSub (ta tb : TE) : TE := fun σ H Q => t2I ta tb (fun i j H2 => Q (.int (i - j)) H2) σ H
def tMul (ta tb : TE) : TE := fun σ H Q => t2I ta tb (fun i j H2 => (-(2 ^ 64) < i /\ i < 2 ^ 64) /\ Q (.int (i * j)) H2) σ H
variable {a b : Expr} {ta tb : TE} {pos : Pos}
def PC (X : Cx) (op : CmpOp) (a b : Expr) (t : TE) : Prop :=
 ∀ (pins : List (Addr × Obj)) (s : Shared) (σ : St) (H : Hp) (Q : VK), Inv X pins σ H s -> t σ H Q →
  wpAny (model X.prog X.w) X.A (eval a X.env) (fun v s₁ => wpAny (model X.prog X.w) X.A (eval b X.env) (fun u s₂ => wpAny (model X.prog X.w) X.A (compareOp op v u) (EP X pins σ Q) X.xe s₂) X.xe s₁) X.xe s
def tCmp (p : Int -> Int -> Bool) (ta tb : TE) : TE := fun σ H Q => t2I ta tb (fun i j H2 => Q (.bl (p i j)) H2) σ H
abbrev tLt : TE -> TE -> TE := tCmp fun i j => decide (i < j)
abbrev tLe : TE -> TE -> TE := tCmp fun i j => decide (i <= j)
abbrev tGt : TE -> TE -> TE := tCmp fun i j => decide (j < i)
abbrev tGe : TE -> TE -> TE := tCmp fun i j => decide (j <= i)
abbrev tEqI : TE -> TE -> TE := tCmp fun i j => decide (i = j)
abbrev tNeI : TE -> TE -> TE := tCmp fun i j => !decide (i = j)
def tIsN (ta : TE) : TE := fun σ H Q => ta σ H fun x H1 => Q (.bl (decide (x = .non))) H1
def tNotN (ta : TE) : TE := fun σ H Q => ta σ H fun x H1 => Q (.bl (!decide (x = .non))) H1
def tB (t : TE) : TT := fun σ H Q => t σ H fun x H1 => ∃ c, x = .bl c /\ Q c H1
theorem pt_val {e : Expr} {t : TE} (h : PE X e t) (he : ∀ whole, isTrue e X.env whole = (do let v ← whole; standAt e.pos; holding [v] (truthy v)) := by intro _; rfl) : PT X e (tB t) := by
 intro pins s σ H Q I hw
 refine isTrue_plain (thn (h pins s σ H _ I hw) fun v s1 ⟨x, H1, I1, r1, q1⟩ => ?_) (he _)
 obtain ⟨d, rfl, q⟩ := q1
 cases r1
 exact wpAny_truthy_bool ⟨H1, I1, q⟩
variable {tA tB' : TT} {rest : List Expr}
def tAnd (t u : TT) : TT := fun σ H Q => t σ H fun c H1 => if c = true then u σ H1 Q else Q false H1
def tOr (t u : TT) : TT := fun σ H Q => t σ H fun c H1 => if c = true then Q true H1 else u σ H1 Q
def tNot (t : TT) : TT := fun σ H Q => t σ H fun c H1 => Q (!c) H1
theorem pw_and1 (ha : PT X a tA) : PW X (.BoolOp .And [a] pos) tA := by
 intro wh pins s σ H Q I h
 refine isTrue_and (thn (ha pins s σ H Q I h) fun c s1 e => ?_)
 cases c with
 | true => exact isTrue_and_nil e
 | false => exact e
theorem pw_or1 (ha : PT X a tA) : PW X (.BoolOp .Or [a] pos) tA := by
 intro wh pins s σ H Q I h
 refine isTrue_or (thn (ha pins s σ H Q I h) fun c s1 e => ?_)
 cases c with
 | false => exact isTrue_or_nil e
 | true => exact e
theorem pw_and (ha : PT X a tA) (hb : PW X (.BoolOp .And (b :: rest) pos) tB') : PW X (.BoolOp .And (a :: b :: rest) pos) (tAnd tA tB') := by
 intro wh pins s σ H Q I h
 refine isTrue_and (thn (ha pins s σ H _ I h) fun c s1 ⟨H1, I1, q1⟩ => ?_)
 cases c with
 | true => exact hb wh pins s1 σ H1 Q I1 q1
 | false => exact ⟨H1, I1, q1⟩
theorem pw_or (ha : PT X a tA) (hb : PW X (.BoolOp .Or (b :: rest) pos) tB') : PW X (.BoolOp .Or (a :: b :: rest) pos) (tOr tA tB') := by
 intro wh pins s σ H Q I h
 refine isTrue_or (thn (ha pins s σ H _ I h) fun c s1 ⟨H1, I1, q1⟩ => ?_)
 cases c with
 | true => exact ⟨H1, I1, q1⟩
 | false => exact hb wh pins s1 σ H1 Q I1 q1
theorem pt_not (ha : PT X a tA) : PT X (.UnaryOp .Not a pos) (tNot tA) := by
 intro pins s σ H Q I h
 exact isTrue_not (ha pins s σ H (fun c H1 => Q (!c) H1) I h)
def tAndV (ta tb : TE) : TE := fun σ H Q => ta σ H fun x H1 => ∃ c, x = .bl c /\ if c = true then tb σ H1 Q else Q (.bl false) H1
def tOrV (ta tb : TE) : TE := fun σ H Q => ta σ H fun x H1 => ∃ c, x = .bl c /\ if c = true then Q (.bl true) H1 else tb σ H1 Q
def tNotV (ta : TE) : TE := fun σ H Q => ta σ H fun x H1 => ∃ c, x = .bl c /\ Q (.bl (!c)) H1
theorem pe_one {op} {t : TE} (h : PE X a t) : PE X (.BoolOp op [a] pos) t := fun pins s σ H Q I hw => BoolOp_one (h pins s σ H Q I hw)
theorem pe_and (ha : PE X a ta) (hb : PE X (.BoolOp .And (b :: rest) pos) tb) : PE X (.BoolOp .And (a :: b :: rest) pos) (tAndV ta tb) := by
 intro pins s σ H Q I h
 refine BoolOp_and (thn (ha pins s σ H _ I h) fun v s1 ⟨x, H1, I1, r1, q1⟩ => ?_)
 obtain ⟨c, rfl, q1⟩ := q1
 cases r1
 refine wpAny_truthy_bool ?_
 cases c with
 | true => exact hb pins s1 σ H1 Q I1 q1
 | false => exact ⟨.bl false, H1, I1, rfl, q1⟩
theorem pe_or (ha : PE X a ta) (hb : PE X (.BoolOp .Or (b :: rest) pos) tb) : PE X (.BoolOp .Or (a :: b :: rest) pos) (tOrV ta tb) := by
 intro pins s σ H Q I h
 refine BoolOp_or (thn (ha pins s σ H _ I h) fun v s1 ⟨x, H1, I1, r1, q1⟩ => ?_)
 obtain ⟨c, rfl, q1⟩ := q1
 cases r1
 refine wpAny_truthy_bool ?_
 cases c with
 | false => exact hb pins s1 σ H1 Q I1 q1
 | true => exact ⟨.bl true, H1, I1, rfl, q1⟩
theorem pe_not (ha : PE X a ta) : PE X (.UnaryOp .Not a pos) (tNotV ta) := by
 intro pins s σ H Q I h
 refine UnaryOp_ (thn (ha pins s σ H _ I h) fun v s1 ⟨x, H1, I1, r1, q1⟩ => ?_)
 obtain ⟨c, rfl, q1⟩ := q1
 cases r1
 exact not_of (wpAny_truthy_bool ⟨.bl (!c), H1, I1, rfl, q1⟩)
def tIf (t : TT) (ta tb : TE) : TE := fun σ H Q => t σ H fun c H1 => if c = true then ta σ H1 Q else tb σ H1 Q
theorem pe_ifExp {c : Expr} (hc : PT X c tA) (ha : PE X a ta) (hb : PE X b tb) : PE X (.IfExp c a b pos) (tIf tA ta tb) := by
 intro pins s σ H Q I h
 refine wpAny_IfExp (thn (hc pins s σ H _ I h) fun d s1 ⟨H1, I1, q1⟩ => ?_)
 cases d with
 | true => exact ha pins s1 σ H1 Q I1 q1
 | false => exact hb pins s1 σ H1 Q I1 q1
end
end L2
namespace L2
open PySem PySem.Spec PyProof.Rows
def SqL (K : PySem.W.Frag) (H : Hp) (a : Addr) (xs : List V) : Prop :=
 Rd H a (.lst xs) ∨
  ∃ (o : Obj) (its : Array Value) (n : Nat), K.lookup a = some o ∧ o.cls = .type "list" ∧ o.dict = none ∧ o.data = .seq its n ∧ its.size ≤ sizeLine ∧ Vals xs its.toList
def SqT (K : PySem.W.Frag) (H : Hp) (a : Addr) (xs : List V) : Prop :=
 Rd H a (.tup xs) ∨
  ∃ (o : Obj) (its : Array Value) (n : Nat), K.lookup a = some o ∧ o.cls = .type "tuple" ∧ o.data = .seq its n ∧ its.size ≤ sizeLine ∧ Vals xs its.toList
def absV : Value -> Option V
 | .none => some .non
 | .bool b => some (.bl b)
 | .int i _ => some (.int i)
 | .str x _ => some (.str x)
 | .bytes b _ => some (.byt b)
 | .float b _ => some (.flt b)
 | .ref a => some (.ref a)
 | .type n => some (.ty n)
 | _ => none
theorem RelV.abs {x : V} {u : Value} (r : RelV x u) : absV u = some x := by
 cases x with
 | non => cases r; rfl
 | bl _ => cases r; rfl
 | int _ => obtain ⟨t, rfl⟩ := r; rfl
 | str _ => obtain ⟨t, rfl⟩ := r; rfl
 | byt _ => obtain ⟨t, rfl⟩ := r; rfl
 | flt _ => obtain ⟨t, rfl⟩ := r; rfl
 | ref _ => cases r; rfl
 | ty _ => cases r; rfl
theorem RelV.inj {x y : V} {u : Value} (r : RelV x u) (q : RelV y u) : x = y := Option.some.inj (r.abs.symm.trans q.abs)
theorem Vals.inj : ∀ {xs ys : List V} {us : List Value}, Vals xs us -> Vals ys us -> xs = ys
 | _, _, _, .nil, .nil => rfl
 | _, _, _, .cons r t, .cons r' t' => by rw [r.inj r', Vals.inj t t']
section
variable {X : Cx} {pins : List (Addr × Obj)} {σ : St} {H : Hp} {s : Shared} {a : Addr} {xs ys : List V}
theorem SqL.of {K : PySem.W.Frag} (h : H a = some (.lst xs)) : SqL K H a xs := .inl (.inl h)
theorem SqT.of {K : PySem.W.Frag} (h : H a = some (.tup xs)) : SqT K H a xs := .inl (.inl h)
theorem Inv.list (I : Inv X pins σ H s) (h : SqL X.K H a xs) : ∃ its : List Value, Vals xs its /\ PlainL s.heap a its.toArray /\ xs.length <= sizeLine := by
 rcases h with h | ⟨o, its, n, hk, hc, hd, hs, hz, r⟩
 ·obtain ⟨z, its, n, r, e⟩ := h.ok I.hok
  exact ⟨its, r, ⟨_, n, e, rfl, rfl, rfl⟩, z⟩
 ·refine ⟨its.toList, r, ⟨o, n, I.kIn a o hk, hc, hd, by simpa using hs⟩, ?_⟩
  have e := r.length
  simp only [Array.length_toList] at e
  omega
theorem Inv.tuple (I : Inv X pins σ H s) (h : SqT X.K H a xs) : ∃ its : List Value, Vals xs its /\ IsTup s.heap a its.toArray /\ xs.length <= sizeLine := by
 rcases h with h | ⟨o, its, n, hk, hc, hs, hz, r⟩
 ·obtain ⟨z, its, r, p⟩ := h.ok I.hok
  exact ⟨its, r, p, z⟩
 ·refine ⟨its.toList, r, ⟨o, I.kIn a o hk, hc, n, by simpa using hs⟩, ?_⟩
  have e := r.length
  simp only [Array.length_toList] at e
  omega
theorem Inv.list_inj (I : Inv X pins σ H s) (h : SqL X.K H a xs) (h' : SqL X.K H a ys) : xs = ys := by
 obtain ⟨its, r, ⟨o, n, e, _, _, d⟩, _⟩ := I.list h
 obtain ⟨its', r', ⟨o', n', e', _, _, d'⟩, _⟩ := I.list h'
 rw [e] at e'; cases e'
 rw [d] at d'
 injection d' with d1 _
 have : its = its' := by simpa using congrArg Array.toList d1
 subst this
 exact r.inj r'
theorem Inv.tuple_inj (I : Inv X pins σ H s) (h : SqT X.K H a xs) (h' : SqT X.K H a ys) : xs = ys := by
 obtain ⟨its, r, ⟨o, e, _, n, d⟩, _⟩ := I.tuple h
 obtain ⟨its', r', ⟨o', e', _, n', d'⟩, _⟩ := I.tuple h'
 rw [e] at e'; cases e'
 rw [d] at d'
 injection d' with d1 _
 have : its = its' := by simpa using congrArg Array.toList d1
 subst this
 exact r.inj r'
end
abbrev Cx.wish (X : Cx) (E : Value -> Shared -> Prop) : Cx := { X with xe := E }
abbrev Cx.nox (X : Cx) : Cx := X.wish fun _ _ => False
theorem Cx.Ok.wish {X : Cx} (ok : X.Ok) (E : Value -> Shared -> Prop) : (X.wish E).Ok :=
 ⟨ok.mod, ok.kind, ok.glob, ok.blt, ok.above, ok.inj, ok.has, ok.cab, ok.hd, ok.frames, ok.stk, ok.exf, ok.bs, ok.bsz, ok.noex, ok.exfs, ok.funs, ok.frf⟩
theorem Cx.Ok.unwish {X : Cx} {E : Value -> Shared -> Prop} (ok : (X.wish E).Ok) : X.Ok :=
 ⟨ok.mod, ok.kind, ok.glob, ok.blt, ok.above, ok.inj, ok.has, ok.cab, ok.hd, ok.frames, ok.stk, ok.exf, ok.bs, ok.bsz, ok.noex, ok.exfs, ok.funs, ok.frf⟩
section
variable {X : Cx} {pins : List (Addr × Obj)} {σ : St} {H : Hp} {s : Shared} {E : Value -> Shared -> Prop}
theorem Inv.wish (I : Inv X pins σ H s) (E : Value -> Shared -> Prop) : Inv (X.wish E) pins σ H s := ⟨I.ok.wish E, I.os, I.bare, I.base, I.loc, I.cell, I.free, I.freeC, I.pin, I.hok, I.len⟩
theorem Inv.unwish (I : Inv (X.wish E) pins σ H s) : Inv X pins σ H s := ⟨I.ok.unwish, I.os, I.bare, I.base, I.loc, I.cell, I.free, I.freeC, I.pin, I.hok, I.len⟩
theorem SP.unwish {D : Ends} {f : Flow} {s' : Shared} (h : SP (X.wish E) pins D f s') : SP X pins D f s' := by
 cases f with
 | next => obtain ⟨σ', H', I, q⟩ := h; exact ⟨σ', H', I.unwish, q⟩
 | brk => obtain ⟨σ', H', I, q⟩ := h; exact ⟨σ', H', I.unwish, q⟩
 | cont => obtain ⟨σ', H', I, q⟩ := h; exact ⟨σ', H', I.unwish, q⟩
 | ret u => obtain ⟨v, σ', H', I, r, q⟩ := h; exact ⟨v, σ', H', I.unwish, r, q⟩
theorem PSs.nox {st : List Stmt} {t : TS} (h : PSs X.nox st t) : PSs X st t := fun pins s σ H D I hw =>
 wpAny_mono (h pins s σ H D (I.wish _) hw) (fun _ _ q => q.unwish) fun _ _ z => False.elim z
end
section
variable {X : Cx} {st : Stmt} {rest : List Stmt} {t u : TS} {e : Expr} {te : TE} {pos : Pos}
def tNext : TS := fun D σ H => D.nx σ H
def tSeq (t u : TS) : TS := fun D σ H => t { D with nx := u D } σ H
theorem pss_nil : PSs X [] tNext := fun _ _ σ H _ I h => wpAny_execs_nil ⟨σ, H, I, h⟩
theorem pss_cons (h1 : PS X st t) (h2 : PSs X rest u) : PSs X (st :: rest) (tSeq t u) := by
 intro pins s σ H D I h
 refine wpAny_execs_cons (thn (h1 pins s σ H { D with nx := u D } I h) fun f s1 q => ?_)
 cases f with
 | next =>
  obtain ⟨σ', H', I', q⟩ := q
  exact h2 pins s1 σ' H' D I' q
 | ret v => exact q
 | brk => exact q
 | cont => exact q
theorem pss_one (h1 : PS X st t) : PSs X [st] t := by
 intro pins s σ H D I h
 refine wpAny_execs_cons (thn (h1 pins s σ H D I h) fun f s1 q => ?_)
 cases f with
 | next => exact wpAny_execs_nil q
 | ret v => exact q
 | brk => exact q
 | cont => exact q
def tBreak : TS := fun D σ H => D.bk σ H
def tCont : TS := fun D σ H => D.ct σ H
theorem ps_pass : PS X (.Pass pos) tNext := fun _ _ σ H _ I h => wpAny_Pass ⟨σ, H, I, h⟩
theorem Inv.quiet {pins : List (Addr × Obj)} {σ : St} {H : Hp} {s : Shared} (I : Inv X pins σ H s) : interactive X.env = false := by simp [interactive, I.ok.kind]
def tDrop (te : TE) : TS := fun D σ H => te σ H fun _ H1 => D.nx σ H1
theorem ps_expr (he : PE X e te) (hs : swapsWith e none pos.line X.env = pure false := by rfl) : PS X (.Expr e pos) (tDrop te) := by
 intro pins s σ H D I h
 exact wpAny_Expr_any (thn (he pins s σ H _ I h) fun v s1 ⟨x, H1, I1, r1, q1⟩ => ⟨σ, H1, I1, q1⟩) I.quiet hs
def tRet (te : TE) : TS := fun D σ H => te σ H D.rt
theorem ps_ret (he : PE X e te) : PS X (.Return (some e) pos) (tRet te) := by
 intro pins s σ H D I h
 exact wpAny_Return_some (thn (he pins s σ H _ I h) fun v s1 ⟨x, H1, I1, r1, q1⟩ => ⟨x, σ, H1, I1, r1, q1⟩)
def tRetN : TS := fun D _ H => D.rt .non H
def tIfS (c : TT) (t u : TS) : TS := fun D σ H => c σ H fun b H1 => if b = true then t D σ H1 else u D σ H1
theorem ps_if {c : Expr} {a b : List Stmt} {tc : TT} (hc : PT X c tc) (ha : PSs X a t) (hb : PSs X b u) : PS X (.If c a b pos) (tIfS tc t u) := by
 intro pins s σ H D I h
 refine wpAny_If (thn (hc pins s σ H _ I h) fun d s1 ⟨H1, I1, q1⟩ => ?_)
 cases d with
 | true => exact ha pins s1 σ H1 D I1 q1
 | false => exact hb pins s1 σ H1 D I1 q1
def tNever : TS := fun _ _ _ => False
end
abbrev TG := V -> St -> Hp -> (St -> Hp -> Prop) -> Prop
abbrev TGs := List V -> St -> Hp -> (St -> Hp -> Prop) -> Prop
def PG (X : Cx) (target : Expr) (t : TG) : Prop :=
 ∀ (pins : List (Addr × Obj)) (s : Shared) (σ : St) (H : Hp) (v : V) (u : Value) (Q : St -> Hp -> Prop), Inv X pins σ H s -> RelV v u -> t v σ H Q →
  wpAny (model X.prog X.w) X.A (assign target X.env u) (fun _ s' => ∃ σ' H', Inv X pins σ' H' s' /\ Q σ' H') X.xe s
def PGs (X : Cx) (ts : List Expr) (t : TGs) : Prop :=
 ∀ (pins : List (Addr × Obj)) (s : Shared) (σ : St) (H : Hp) (vs : List V) (us : List Value) (Q : St -> Hp -> Prop), Inv X pins σ H s -> Vals vs us -> t vs σ H Q →
  wpAny (model X.prog X.w) X.A (assignInOrder ((assignEach ts X.env).map (·.2)) us) (fun _ s' => ∃ σ' H', Inv X pins σ' H' s' /\ Q σ' H') X.xe s
abbrev TSet := V -> V -> V -> Hp -> (Hp -> Prop) -> Prop
def PSet (X : Cx) (t : TSet) : Prop :=
 ∀ (pins : List (Addr × Obj)) (s : Shared) (σ : St) (H : Hp) (o i v : V) (ov iv u : Value) (Q : Hp -> Prop), Inv X pins σ H s -> RelV o ov -> RelV i iv -> RelV v u -> t o i v H Q →
  wpAny (model X.prog X.w) X.A (setItem ov iv u) (fun _ s' => ∃ H', Inv X pins σ H' s' /\ Q H') X.xe s
abbrev TIp := V -> V -> Hp -> VK -> Prop
def PIp (X : Cx) (op : Operator) (t : TIp) : Prop :=
 ∀ (pins : List (Addr × Obj)) (s : Shared) (σ : St) (H : Hp) (x y : V) (v u : Value) (Q : VK), Inv X pins σ H s -> RelV x v -> RelV y u -> t x y H Q →
  wpAny (model X.prog X.w) X.A (inplaceOp op v u) (EP X pins σ Q) X.xe s
section
variable {X : Cx} {pos : Pos}
def gName (i : Nat) : TG := fun v σ H Q => Q (σ.set i (some v)) H
theorem pg_name {i : Nat} {x : Str} (hN : X.N.Nodup) (hi : X.N[i]? = some x) (hx : Loc X.env.scope x) (hf : X.fn x = true \/ X.env.scope.names.lookup x = some .local := by first | exact .inl rfl | exact .inr rfl | assumption) : PG X (.Name x pos) (gName i) := by
 intro pins s σ H v u Q I r h
 exact wpAny_assign_Name (store_ok I hN hi hx r (fun s' I' => ⟨_, H, I', h⟩) hf)
def gNil : TGs := fun vs σ H Q => vs = [] /\ Q σ H
def gCons (t : TG) (u : TGs) : TGs := fun vs σ H Q => ∃ v r, vs = v :: r /\ t v σ H fun σ' H' => u r σ' H' Q
theorem pgs_nil : PGs X [] gNil := by
 intro pins s σ H vs us Q I r h
 obtain ⟨e, h⟩ := h
 subst e
 cases r
 exact assignInOrder_nil ⟨σ, H, I, h⟩
theorem pgs_cons {e : Expr} {es : List Expr} {t : TG} {u : TGs} (h1 : PG X e t) (h2 : PGs X es u)
  (hs : (assignEach (e :: es) X.env).map (·.2) = assign e X.env :: (assignEach es X.env).map (·.2) := by rfl) : PGs X (e :: es) (gCons t u) := by
 intro pins s σ H vs us Q I r h
 obtain ⟨v, vr, e1, h⟩ := h
 subst e1
 cases r with
 | cons r rr =>
  rw [hs]
  refine assignInOrder_cons (thn (h1 pins s σ H _ _ _ I r h) fun _ s1 ⟨σ1, H1, I1, q1⟩ => ?_)
  exact h2 pins s1 σ1 H1 _ _ Q I1 rr q1
def gTup (K : PySem.W.Frag) (n : Nat) (t : TGs) : TG := fun v σ H Q => ∃ a xs, v = .ref a /\ SqT K H a xs /\ xs.length = n /\ t xs σ H Q
theorem pg_tup {es : List Expr} {k : Nat} {t : TGs} {n : Nat} (hc : X.calm = true) (h : PGs X es t)
  (hn : (assignEach es X.env).length = n := by rfl) (hst : (assignEach es X.env).findIdx? (·.1) = none := by rfl) : PG X (.Tuple es k pos) (gTup X.K n t) := by
 intro pins s σ H v u Q I r hw
 obtain ⟨a, xs, e1, hq, hl, hw⟩ := hw
 subst e1
 cases r
 obtain ⟨its, rv, ht, hz⟩ := I.tuple hq
 refine assign_Tuple_tuple (I.ok.hd hc) ht (by simp [hn, ← hl, rv.length]) hst fun h' hx => ?_
 have I1 : Inv X pins σ H { s with heap := h' } := I.kept (t' := s.toks) fun b o e => hx b o (Nat.ne_of_lt (Heap.lt_size e)) e
 exact h pins _ σ H xs _ Q I1 (by simpa using rv) hw
def gSub (to ti : TE) (t : TSet) : TG := fun v σ H Q => to σ H fun o H1 => ti σ H1 fun i H2 => t o i v H2 fun H3 => Q σ H3
theorem pg_sub {o i : Expr} {to ti : TE} {t : TSet} (ho : PE X o to) (hi : PE X i ti) (hs : PSet X t)
  (ha : ∀ v, assign (.Subscript o i pos) X.env v = (do
   let ov ← holding [v] (eval o X.env)
   let iv ← holding [v, ov] (eval i X.env)
   standAt pos
   holding [v, ov, iv] (setItem ov iv v)
   release [v, ov, iv] []) := by intro _; rfl) : PG X (.Subscript o i pos) (gSub to ti t) := by
 intro pins s σ H v u Q I r h
 rw [ha]
 refine wpAny_bind (wpAny_holding (thn (ho pins s σ H _ I h) fun ov s1 ⟨x, H1, I1, r1, q1⟩ => ?_))
 refine wpAny_bind (wpAny_holding (thn (hi pins s1 σ H1 _ I1 q1) fun iv s2 ⟨y, H2, I2, r2, q2⟩ => ?_))
 refine wpAny_bind (wpAny_standAt (wpAny_bind (wpAny_holding (thn (hs pins s2 σ H2 x y v ov iv u _ I2 r1 r2 r q2) fun _ s3 ⟨H3, I3, q3⟩ => ?_))))
 exact wpAny_release ⟨σ, H3, I3, q3⟩
def tAsg (te : TE) (g : TG) : TS := fun D σ H => te σ H fun x H1 => g x σ H1 D.nx
theorem ps_asg {tg e : Expr} {te : TE} {g : TG} (he : PE X e te) (hg : PG X tg g) (hs : swapsWithSole [tg] e pos.line X.env = pure false := by rfl) (hw : swappedStores [tg] e X.env = pure none := by rfl)
  (h1 : (assignEach [tg] X.env).map (·.2) = [assign tg X.env] := by rfl) : PS X (.Assign [tg] e pos) (tAsg te g) := by
 intro pins s σ H D I h
 refine wpAny_Assign_stores (thn (he pins s σ H _ I h) fun v s1 ⟨x, H1, I1, r1, q1⟩ => ?_) hs hw
 rw [h1]
 exact thn (hg pins s1 σ H1 x v _ I1 r1 q1) fun _ s2 q => q
theorem ps_set {i : Nat} {x : Str} {e : Expr} {te : TE} {pos' : Pos} (hN : X.N.Nodup) (hi : X.N[i]? = some x) (hx : Loc X.env.scope x) (he : PE X e te) (hs : swapsWith e (some (.Name x pos')) pos.line X.env = pure false := by rfl) (hf : X.fn x = true \/ X.env.scope.names.lookup x = some .local := by first | exact .inl rfl | exact .inr rfl | assumption) :
  PS X (.Assign [.Name x pos'] e pos) (tAsg te (gName i)) := by
 intro pins s σ H D I h
 refine wpAny_Assign_Name (thn (he pins s σ H _ I h) fun v s1 ⟨y, H1, I1, r1, q1⟩ => ?_) hs
 exact store_ok I1 hN hi hx r1 (fun s2 I2 => ⟨_, H1, I2, q1⟩) hf
def tPar (i j : Nat) (ta : TA) : TS := fun D σ H => ta σ H fun vs H1 => ∃ v w, vs = [v, w] /\ D.nx ((σ.set i (some v)).set j (some w)) H1
def tAug (i : Nat) (te : TE) (ti : TIp) : TS := fun D σ H => ∃ x, σ[i]? = some (some x) /\ te σ H fun y H1 => ti x y H1 fun z H2 => D.nx (σ.set i (some z)) H2
def tAugS (to ti te : TE) (tget : V -> V -> Hp -> VK -> Prop) (tip : TIp) (tset : TSet) : TS := fun D σ H => to σ H fun o H1 => ti σ H1 fun i H2 => tget o i H2 fun x H3 => te σ H3 fun y H4 => tip x y H4 fun z H5 => tset o i z H5 fun H6 => D.nx σ H6
def PGet (X : Cx) (t : V -> V -> Hp -> VK -> Prop) : Prop :=
 ∀ (pins : List (Addr × Obj)) (s : Shared) (σ : St) (H : Hp) (o i : V) (ov iv : Value) (Q : VK), Inv X pins σ H s -> RelV o ov -> RelV i iv -> t o i H Q →
  wpAny (model X.prog X.w) X.A (getItem ov iv) (EP X pins σ Q) X.xe s
def ipI (f : Int -> Int -> Int) : TIp := fun x y H Q => ∃ i j, x = .int i /\ y = .int j /\ Q (.int (f i j)) H
theorem ip_add : PIp X .Add (ipI fun i j => i + j) := by
 intro pins s σ H x y v u Q I r1 r2 h
 obtain ⟨i, j, e1, e2, q⟩ := h
 subst e1; subst e2
 obtain ⟨t, rfl⟩ := r1
 obtain ⟨t', rfl⟩ := r2
 exact iadd_int ⟨.int _, H, I.tok _, ⟨_, rfl⟩, q⟩
theorem ip_sub : PIp X .Sub (ipI fun i j => i - j) := by
 intro pins s σ H x y v u Q I r1 r2 h
 obtain ⟨i, j, e1, e2, q⟩ := h
 subst e1; subst e2
 obtain ⟨t, rfl⟩ := r1
 obtain ⟨t', rfl⟩ := r2
 exact isub_int ⟨.int _, H, I.tok _, ⟨_, rfl⟩, q⟩
end
section
variable {X : Cx} {pos : Pos}
def tWhile (c : TT) (tb : TS) : TS := fun D σ H => ∃ W : Nat -> St -> Hp -> Prop, (∃ m, W m σ H) /\ ∀ m σ H, W m σ H →
 c σ H fun b H1 => if b = true then ∃ N : St -> Hp -> Prop, (∀ σ' H', N σ' H' -> ∃ m', m' < m /\ W m' σ' H') /\ tb { D with nx := N, ct := N, bk := D.nx } σ H1 else D.nx σ H1
end
structure It where
 go : Nat -> Hp -> Prop
 yld : Nat -> Hp -> V -> Hp -> Prop
 stop : Nat -> Hp -> Prop
def FpOk (X : Cx) (pins : List (Addr × Obj)) (H : Hp) (b : Addr) : Prop :=
 H b = none /\ b ≠ X.env.locals /\ b ∉ X.fs /\ (b ∈ X.ex \/ X.s₀.heap.objs.size <= b) /\ (∀ x c, X.env.cells.lookup x = some c -> c ≠ b) /\ ∀ p ∈ X.pn ++ pins, p.1 ≠ b
theorem Inv.fpOk {X : Cx} {pins : List (Addr × Obj)} {σ : St} {H H' : Hp} {s : Shared} {b : Addr} (I : Inv X pins σ H s) (hb : s.heap.objs.size <= b) (hn : H' b = none) : FpOk X pins H' b := by
 refine ⟨hn, Nat.ne_of_gt (Nat.lt_of_lt_of_le I.lt hb), I.nofs hb, .inr (Nat.le_trans I.sz hb), fun x c e z => ?_, fun p hp z => ?_⟩
 ·obtain ⟨v, q⟩ := I.cell x c e
  exact absurd (Nat.lt_of_lt_of_le q.lt (by rw [z]; exact hb)) (Nat.lt_irrefl _)
 ·exact absurd (Nat.lt_of_lt_of_le (Heap.lt_size (I.pin p hp).1) (by rw [z]; exact hb)) (Nat.lt_irrefl _)
structure Turn (P : Program) (w : World) (K : PySem.W.Frag) (tg : Expr) (J : It) (fp : List Addr) (it : Addr) (tn : Nat -> Heap -> Prop) : Prop where
 mem : it ∈ fp
 obj : ∀ i h, tn i h -> ∀ b ∈ fp, ∃ o, h.get? b = some o /\ ∀ v, o.data ≠ .cell v
 keep : ∀ i h h', tn i h -> (∀ b ∈ fp, ∀ o, h.get? b = some o -> h'.get? b = some o) -> tn i h'
 item : ∀ (X : Cx), X.prog = P -> X.w = w -> X.K = K -> X.calm = true -> ∀ (i : Nat) (pins : List (Addr × Obj)) (s : Shared) (σ : St) (H : Hp) (E : Value -> Shared -> Prop), Inv X pins σ H s -> (∀ b ∈ fp, FpOk X pins H b) -> tn i s.heap -> J.go i H →
  wpAny (model P w) X.A (pyNext (.ref it)) (fun r s1 => ∃ u, r = some u ∧
   wpAny (model P w) X.A (letOwnedTupleGo tg (.ref it) u) (fun _ s2 => ∃ x H', Inv X pins σ H' s2 /\ RelV x u /\ J.yld i H x H' /\ tn (i + 1) s2.heap /\ ∀ b ∈ fp, H' b = none) E s1) E s
 done : ∀ (X : Cx), X.prog = P -> X.w = w -> X.K = K -> X.calm = true -> ∀ (i : Nat) (pins : List (Addr × Obj)) (s : Shared) (σ : St) (H : Hp) (E : Value -> Shared -> Prop), Inv X pins σ H s -> (∀ b ∈ fp, FpOk X pins H b) -> tn i s.heap -> J.stop i H →
  wpAny (model P w) X.A (pyNext (.ref it)) (fun r s1 => r = none /\ Inv X pins σ H s1) E s
 self : ∀ (A : Around) (i : Nat) (s : Shared) (Q : Value -> Shared -> Prop) (E : Value -> Shared -> Prop), tn i s.heap -> Q (.ref it) s -> wpAny (model P w) A (pyIter (.ref it)) Q E s
abbrev TI := St -> Hp -> (It -> Hp -> Prop) -> Prop
def PIE (X : Cx) (pins : List (Addr × Obj)) (σ : St) (tg : Expr) (R : It -> Hp -> Prop) (itv : Value) (s2 : Shared) : Prop :=
 ∃ (it : Addr) (fp : List Addr) (tn : Nat -> Heap -> Prop) (J : It) (H' : Hp), itv = .ref it /\ Inv X pins σ H' s2 /\ Turn X.prog X.w X.K tg J fp it tn /\ tn 0 s2.heap /\ (∀ b ∈ fp, FpOk X pins H' b) /\ R J H'
def PI (X : Cx) (tg iter : Expr) (wi : TI) : Prop :=
 ∀ (pins : List (Addr × Obj)) (s : Shared) (σ : St) (H : Hp) (R : It -> Hp -> Prop), Inv X pins σ H s -> wi σ H R →
  wpAny (model X.prog X.w) X.A (eval iter X.env) (fun v s1 => wpAny (model X.prog X.w) X.A (pyIter v) (PIE X pins σ tg R) X.xe s1) X.xe s
theorem go_of {M : Model} {A : Around} {E : Value -> Shared -> Prop} {s : Shared} {tg : Expr} {it : Addr} {u : Value} {o : Obj} {n : String} {vs : Array Value} {Q : Unit -> Shared -> Prop} (ho : s.heap.get? it = some o) (hc : o.cls = .type n) (hd : o.data = .fields vs)
  (hn : ["enumerate", "zip", "dict_itemiterator", "dict_reverseitemiterator", "odict_iterator", "itertools.zip_longest", "itertools.pairwise"].contains n = false) (hQ : Q () s) : wpAny M A (letOwnedTupleGo tg (.ref it) u) Q E s := by
 unfold letOwnedTupleGo
 cases tg <;> first
  | exact wpAny_pure hQ
  | (cases u <;> first
    | exact wpAny_pure hQ
    | (refine wpAny_bind (wpAny_load ho ?_)
       rw [hc, hd]
       show wpAny M A (if (["enumerate", "zip", "dict_itemiterator", "dict_reverseitemiterator", "odict_iterator", "itertools.zip_longest", "itertools.pairwise"].contains n && vs[0]? == some (rawInt _)) = true then _ else _) Q E s
       rw [if_neg (by intro h; rw [hn, Bool.false_and] at h; cases h)]
       exact wpAny_pure hQ))
def Itl (K : PySem.W.Frag) (a : Addr) : It :=
 ⟨fun i H => ∃ xs x, SqL K H a xs /\ xs[i]? = some x, fun i H x H' => H' = H /\ ∀ xs, SqL K H a xs -> xs[i]? = some x, fun i H => ∃ xs, SqL K H a xs /\ xs.length <= i⟩
def Itt (K : PySem.W.Frag) (a : Addr) : It :=
 ⟨fun i H => ∃ xs x, SqT K H a xs /\ xs[i]? = some x, fun i H x H' => H' = H /\ ∀ xs, SqT K H a xs -> xs[i]? = some x, fun i H => ∃ xs, SqT K H a xs /\ xs.length <= i⟩
def Itr (lo : Int) (n : Nat) : It := ⟨fun i _ => i < n, fun i H x H' => H' = H /\ x = .int (lo + i), fun i _ => n <= i⟩
theorem turn_range {P : Program} {w : World} {K : PySem.W.Frag} {tg : Expr} (it : Addr) (lo : Int) (n : Nat) : Turn P w K tg (Itr lo n) [it] it (fun i h => IsRangeIter h it (lo + (i : Nat) * 1) ((n : Int) - (i : Nat)) 1) where
 mem := by simp
 obj := fun i h st b hb => by
  have e : b = it := by simpa using hb
  subst e
  exact ⟨_, st, fun v z => by
   have z' : Data.fields _ = Data.cell v := z
   cases z'⟩
 keep := fun i h h' st k => k it (by simp) _ st
 item := by
  intro X hP hw hK hc i pins s σ H E I hf st hg
  subst hP hw hK
  obtain ⟨f0, f1, f2, f3, f4, f5⟩ := hf it (by simp)
  have W := Walks.range (prog := X.prog) (w := X.w) (I.ok.hd hc) it lo 1 n
  refine W.item i s _ _ hg st fun v h' tk hv st' kk => ?_
  obtain ⟨t, rfl⟩ := hv
  have I1 : Inv X pins σ H { s with heap := h', toks := tk } := I.turned (fun b o hb e => kk b o (by simpa using hb) e) f0 f1 f3 f4 f5
  refine ⟨_, rfl, go_of (s := { s with heap := h', toks := tk }) (n := "range_iterator") st' rfl rfl (by decide) ⟨.int (lo + i), H, I1, ⟨t, ?_⟩, ⟨rfl, rfl⟩, st', fun b hb => (hf b hb).1⟩⟩
  rw [Int.mul_one]
 done := by
  intro X hP hw hK hc i pins s σ H E I hf st hg
  subst hP hw hK
  obtain ⟨f0, f1, f2, f3, f4, f5⟩ := hf it (by simp)
  exact wpAny_pyNext_range_end (I.ok.hd hc) st (by have : n <= i := hg; omega) fun h' eb => ⟨rfl, I.turned (t' := s.toks) (fun b o hb e => eb b o hb e) f0 f1 f3 f4 f5⟩
 self := fun _ _ _ _ _ st h => wpAny_pyIter_rangeiter st h
end L2
namespace L2
open PySem PySem.Spec PyProof.Rows
section
variable {X : Cx} {tg : Expr}
def iList (K : PySem.W.Frag) (tl : TE) : TI := fun σ H R => tl σ H fun x H1 => ∃ a, x = .ref a /\ (∃ xs, SqL K H1 a xs) /\ R (Itl K a) H1
def iTup (K : PySem.W.Frag) (tl : TE) : TI := fun σ H R => tl σ H fun x H1 => ∃ a, x = .ref a /\ (∃ xs, SqT K H1 a xs) /\ R (Itt K a) H1
theorem range_it {pins : List (Addr × Obj)} {σ : St} {H : Hp} {s : Shared} {R : It -> Hp -> Prop} {E : Value -> Shared -> Prop} {lo hi : Int} {t u v : Tok} {tk : Nat} (I : Inv X pins σ H s) (h1 : -(2 ^ 62) <= lo) (h2 : lo < 2 ^ 62) (h3 : -(2 ^ 62) <= hi) (h4 : hi < 2 ^ 62)
  (q : R (Itr lo (hi - lo).toNat) H) : wpAny (model X.prog X.w) X.A (pyIter (.ref s.heap.objs.size)) (PIE X pins σ tg R) E { s with heap := s.heap.push { cls := .type "range", data := .fields #[.int lo t, .int hi u, .int 1 v] }, toks := tk } := by
 refine wpAny_pyIter_range (IsRange.new ..) (small_one h1 h2 h3 h4) ?_
 have I1 : Inv X pins σ H { s with heap := s.heap.push { cls := .type "range", data := .fields #[.int lo t, .int hi u, .int 1 v] }, toks := tk } := I.kept fun b o e => Heap.get?_push_of_some _ e
 refine ⟨(s.heap.push { cls := .type "range", data := .fields #[.int lo t, .int hi u, .int 1 v] }).objs.size, [(s.heap.push { cls := .type "range", data := .fields #[.int lo t, .int hi u, .int 1 v] }).objs.size], _, _, H, rfl,
  I1.kept (t' := tk) fun b o e => Heap.get?_push_of_some _ e, turn_range _ lo (hi - lo).toNat, ?_, fun b hb => ?_, q⟩
 ·have e1 : lo + ((0 : Nat) : Int) * 1 = lo := by simp
  have e2 : (((hi - lo).toNat : Nat) : Int) - ((0 : Nat) : Int) = Builtin.Range.rangeSize lo hi 1 := by rw [rangeSize_one]; split <;> omega
  show IsRangeIter _ _ (lo + ((0 : Nat) : Int) * 1) ((((hi - lo).toNat : Nat) : Int) - ((0 : Nat) : Int)) 1
  rw [e1, e2]
  exact Heap.get?_push_size _ rfl
 ·have e : b = (s.heap.push { cls := .type "range", data := .fields #[.int lo t, .int hi u, .int 1 v] }).objs.size := by simpa using hb
  subst e
  exact I1.fpOk (Nat.le_refl _) (I1.hok.fresh (Nat.le_refl _))
def iRng1 (ta : TA) : TI := fun σ H R => ta σ H fun vs H1 => ∃ j : Int, vs = [.int j] /\ -(2 ^ 62) <= j /\ j < 2 ^ 62 /\ R (Itr 0 j.toNat) H1
def iRng2 (ta : TA) : TI := fun σ H R => ta σ H fun vs H1 => ∃ i j : Int, vs = [.int i, .int j] /\ (-(2 ^ 62) <= i /\ i < 2 ^ 62 /\ -(2 ^ 62) <= j /\ j < 2 ^ 62) /\ R (Itr i (j - i).toNat) H1
theorem pi_range1 {a : Expr} {ta : TA} {p pos : Pos} (hg : Gl X "range") (hm : X.mg "range" = none) (ha : PA X [a] ta) (hs : starEach [a] X.env = [(false, eval a X.env)] := by rfl) : PI X tg (.Call (.Name "range" p) [a] [] pos) (iRng1 ta) := by
 intro pins s σ H R I h
 refine Call_ (ld_blt I hg hm boot_range (PyProof.Rows.callWith_type1 (thn (ha pos pins s σ H _ I h) fun us s1 ⟨vs, H1, I1, r1, q1⟩ => ?_) hs rfl))
 obtain ⟨j, e, q1, q2, q⟩ := q1
 subst e
 cases r1 with
 | cons r rr =>
  cases rr
  obtain ⟨t, rfl⟩ := r
  exact call_range_1 (range_it I1 (by omega) (by omega) q1 q2 (by simpa using q))
def tFor (wi : TI) (g : TG) (tb : TS) : TS := fun D σ H => wi σ H fun J H1 => ∃ W : Nat -> Nat -> St -> Hp -> Prop, (∃ m, W 0 m σ H1) /\ ∀ i m σ H, W i m σ H →
 (J.stop i H /\ D.nx σ H) \/ (J.go i H /\ ∃ N : St -> Hp -> Prop, (∀ σ' H', N σ' H' -> ∃ m', m' < m /\ W (i + 1) m' σ' H') /\ ∀ x H', J.yld i H x H' -> g x σ H' fun σ2 H2 => tb { D with nx := N, ct := N, bk := D.nx } σ2 H2)
def pinsAt (fp : List Addr) (h : Heap) : List (Addr × Obj) := fp.filterMap fun b => (h.get? b).map fun o => (b, o)
theorem mem_pinsAt {fp : List Addr} {h : Heap} {b : Addr} {o : Obj} (hb : b ∈ fp) (e : h.get? b = some o) : (b, o) ∈ pinsAt fp h := List.mem_filterMap.mpr ⟨b, hb, by rw [e]; rfl⟩
theorem of_pinsAt {fp : List Addr} {h : Heap} {p : Addr × Obj} (hp : p ∈ pinsAt fp h) : p.1 ∈ fp /\ h.get? p.1 = some p.2 := by
 obtain ⟨b, hb, e⟩ := List.mem_filterMap.mp hp
 cases q : h.get? b with
 | none => rw [q] at e; cases e
 | some o =>
  rw [q] at e
  have e' : (b, o) = p := Option.some.inj e
  subst e'
  exact ⟨hb, q⟩
theorem Inv.pinned {pins : List (Addr × Obj)} {σ : St} {H : Hp} {s : Shared} {fp : List Addr} (I : Inv X pins σ H s) (hf : ∀ b ∈ fp, FpOk X pins H b) (ho : ∀ b ∈ fp, ∃ o, s.heap.get? b = some o /\ ∀ v, o.data ≠ .cell v) : Inv X (pins ++ pinsAt fp s.heap) σ H s :=
 I.pins_of fun p hp => (List.mem_append.mp hp).elim (fun z => I.pin p (List.mem_append_right _ z)) fun z => by
  obtain ⟨hb, e⟩ := of_pinsAt z
  obtain ⟨f0, f1, f2, _⟩ := hf p.1 hb
  obtain ⟨o, e', d⟩ := ho p.1 hb
  rw [e] at e'; cases e'
  exact ⟨e, f0, f1, f2, d⟩
theorem Inv.unpinned {pins pl : List (Addr × Obj)} {σ : St} {H : Hp} {s : Shared} (I : Inv X (pins ++ pl) σ H s) : Inv X pins σ H s := I.pins_of fun p hp => I.pin p (List.mem_append_right _ (List.mem_append_left _ hp))
theorem ps_for {iter : Expr} {body : List Stmt} {wi : TI} {g : TG} {tb : TS} {pos : Pos} (hp : PassesOwn (model X.prog X.w) X.A X.env X.xe) (hc : X.calm = true) (hi : PI X tg iter wi) (hg : PG X tg g) (hb : PSs X body tb)
  (hs : ∀ x, foldedSetIterable iter X.env x = pure x := by intro _; rfl) : PS X (.For tg iter body [] pos) (tFor wi g tb) := by
 intro pins s σ H D I h
 refine wpAny_For (thn (hi pins s σ H _ I h) fun v s1 h1 => thn h1 fun itv s2 h2 => ?_) hs
 obtain ⟨it, fp, tn, J, H2, e, I2, T, st2, f2, W, ⟨m0, w0⟩, turn⟩ := h2
 subst e
 have stat : ∀ {H' : Hp}, (∀ b ∈ fp, H' b = none) -> ∀ b ∈ fp, FpOk X pins H' b := fun hn b hb => ⟨hn b hb, (f2 b hb).2⟩
 refine codeAny_forLoop_any (fun n s' => ∃ i σ' H', Inv X pins σ' H' s' /\ tn i s'.heap /\ (∀ b ∈ fp, H' b = none) /\ W i n σ' H') ?_ m0 ⟨0, σ, H2, I2, st2, fun b hb => (f2 b hb).1, w0⟩
 rintro n s3 ⟨i, σ3, H3, I3, st3, fr3, w3⟩
 rcases turn i n σ3 H3 w3 with ⟨stop, qn⟩ | ⟨go, N, hN, step⟩
 ·refine wpAny_passesOwn hp (thn (T.done X rfl rfl rfl hc i pins s3 σ3 H3 X.xe I3 (stat fr3) st3 stop) fun r s4 ⟨hr, I4⟩ => ?_)
  subst hr
  exact wpAny_execs_nil ⟨σ3, H3, I4, qn⟩
 ·refine wpAny_passesOwn hp (thn (T.item X rfl rfl rfl hc i pins s3 σ3 H3 X.xe I3 (stat fr3) st3 go) fun r s4 ⟨u, hr, h4⟩ => ?_)
  subst hr
  refine wpAny_passesOwn hp (thn h4 fun _ s5 ⟨x, H5, I5, r5, y5, st5, fr5⟩ => ?_)
  have I5' := I5.pinned (stat fr5) (T.obj _ _ st5)
  refine wpAny_passesOwn hp (thn (hg _ s5 σ3 H5 x u _ I5' r5 (step x H5 y5)) fun _ s6 ⟨σ6, H6, I6, q6⟩ => ?_)
  refine wpAny_passesOwn hp (thn (hb _ s6 σ6 H6 _ I6 q6) fun f s7 q7 => ?_)
  have again : ∀ {σ7 : St} {H7 : Hp}, Inv X (pins ++ pinsAt fp s5.heap) σ7 H7 s7 -> N σ7 H7 -> ∃ m, m < n /\ ∃ i σ' H', Inv X pins σ' H' s7 /\ tn i s7.heap /\ (∀ b ∈ fp, H' b = none) /\ W i m σ' H' := fun {σ7 H7} I7 n7 => by
   obtain ⟨m', hm, w7⟩ := hN σ7 H7 n7
   refine ⟨m', hm, i + 1, σ7, H7, I7.unpinned, T.keep _ _ _ st5 fun b hb o e => (I7.pin (b, o) (List.mem_append_right _ (List.mem_append_right _ (mem_pinsAt hb e)))).1, fun b hb => ?_, w7⟩
   obtain ⟨o, e, d⟩ := T.obj _ _ st5 b hb
   exact (I7.pin (b, o) (List.mem_append_right _ (List.mem_append_right _ (mem_pinsAt hb e)))).2.1
  cases f with
  | next => obtain ⟨σ7, H7, I7, n7⟩ := q7; exact again I7 n7
  | cont => obtain ⟨σ7, H7, I7, n7⟩ := q7; exact again I7 n7
  | brk => obtain ⟨σ7, H7, I7, q7⟩ := q7; exact ⟨σ7, H7, I7.unpinned, q7⟩
  | ret v => obtain ⟨x7, σ7, H7, I7, r7, q7⟩ := q7; exact ⟨x7, σ7, H7, I7.unpinned, r7, q7⟩
end
theorem for_range {lo : Int} {n : Nat} {g : TG} {tb : TS} {D : Ends} {σ : St} {H : Hp} (Pv : Nat -> St -> Hp -> Prop) (h0 : Pv 0 σ H)
  (hs : ∀ i σ H, i < n -> Pv i σ H -> g (.int (lo + i)) σ H fun σ2 H2 => tb { D with nx := Pv (i + 1), ct := Pv (i + 1), bk := D.nx } σ2 H2) (hd : ∀ σ H, Pv n σ H -> D.nx σ H) :
  ∃ W : Nat -> Nat -> St -> Hp -> Prop, (∃ m, W 0 m σ H) /\ ∀ i m σ H, W i m σ H →
   ((Itr lo n).stop i H /\ D.nx σ H) \/ ((Itr lo n).go i H /\ ∃ N : St -> Hp -> Prop, (∀ σ' H', N σ' H' -> ∃ m', m' < m /\ W (i + 1) m' σ' H') /\ ∀ x H', (Itr lo n).yld i H x H' -> g x σ H' fun σ2 H2 => tb { D with nx := N, ct := N, bk := D.nx } σ2 H2) := by
 refine ⟨fun i m σ H => m = n - i /\ i <= n /\ Pv i σ H, ⟨n, by simp, Nat.zero_le _, h0⟩, ?_⟩
 rintro i m σ H ⟨rfl, hi, p⟩
 by_cases hlt : i < n
 ·refine .inr ⟨hlt, Pv (i + 1), fun σ' H' p' => ⟨n - (i + 1), by omega, rfl, hlt, p'⟩, fun x H' y => ?_⟩
  obtain ⟨e, y⟩ := y
  subst e y
  exact hs i σ _ hlt p
 ·have e : i = n := by omega
  subst e
  exact .inl ⟨Nat.le_refl _, hd σ H p⟩
end L2
namespace L2
open PySem PySem.Spec PyProof.Rows
abbrev R2 := V -> V -> Hp -> VK -> Prop
def OpR (X : Cx) (f : Value -> Value -> Sem Value) (r : R2) : Prop :=
 ∀ (pins : List (Addr × Obj)) (s : Shared) (σ : St) (H : Hp) (x y : V) (v u : Value) (Q : VK), Inv X pins σ H s -> RelV x v -> RelV y u -> r x y H Q →
  wpAny (model X.prog X.w) X.A (f v u) (EP X pins σ Q) X.xe s
def UnR (X : Cx) (f : Value -> Sem Value) (r : V -> Hp -> VK -> Prop) : Prop :=
 ∀ (pins : List (Addr × Obj)) (s : Shared) (σ : St) (H : Hp) (x : V) (v : Value) (Q : VK), Inv X pins σ H s -> RelV x v -> r x H Q →
  wpAny (model X.prog X.w) X.A (f v) (EP X pins σ Q) X.xe s
def CallR (X : Cx) (f : Value) (r : List V -> Hp -> VK -> Prop) : Prop :=
 ∀ (pins : List (Addr × Obj)) (s : Shared) (σ : St) (H : Hp) (xs : List V) (us : List Value) (Q : VK), Inv X pins σ H s -> Vals xs us -> r xs H Q →
  wpAny (model X.prog X.w) X.A (call f us) (EP X pins σ Q) X.xe s
def TruR (X : Cx) (r : V -> Hp -> (Bool -> Hp -> Prop) -> Prop) : Prop :=
 ∀ (pins : List (Addr × Obj)) (s : Shared) (σ : St) (H : Hp) (x : V) (v : Value) (Q : Bool -> Hp -> Prop), Inv X pins σ H s -> RelV x v -> r x H Q →
  wpAny (model X.prog X.w) X.A (truthy v) (TP X pins σ Q) X.xe s
def tOp (r : R2) (ta tb : TE) : TE := fun σ H Q => ta σ H fun x H1 => tb σ H1 fun y H2 => r x y H2 Q
def tUn (r : V -> Hp -> VK -> Prop) (ta : TE) : TE := fun σ H Q => ta σ H fun x H1 => r x H1 Q
def rI (C : Int -> Int -> Prop) (g : Int -> Int -> V) : R2 := fun x y H Q => ∃ i j, x = .int i /\ y = .int j /\ C i j /\ Q (g i j) H
def rI0 (g : Int -> Int -> V) : R2 := fun x y H Q => ∃ i j, x = .int i /\ y = .int j /\ Q (g i j) H
def rU (g : Int -> V) : V -> Hp -> VK -> Prop := fun x H Q => ∃ i, x = .int i /\ Q (g i) H
section
variable {X : Cx} {a b c : Expr} {ta tb tc : TE} {pos : Pos}
theorem binT (ha : PE X a ta) (hb : PE X b tb) {pins : List (Addr × Obj)} {s : Shared} {σ : St} {H : Hp} {R : V -> V -> Hp -> Prop} (I : Inv X pins σ H s)
  (h : ta σ H fun x H1 => tb σ H1 fun y H2 => R x y H2) {Q : Value -> Shared -> Prop} {f : Value -> Value -> Sem Value}
  (hf : ∀ v u s2 x y H2, Inv X pins σ H2 s2 -> RelV x v -> RelV y u -> R x y H2 -> wpAny (model X.prog X.w) X.A (f v u) Q X.xe s2) :
  wpAny (model X.prog X.w) X.A (eval a X.env) (fun v s₁ => wpAny (model X.prog X.w) X.A (eval b X.env) (fun u s₂ => wpAny (model X.prog X.w) X.A (f v u) Q X.xe s₂) X.xe s₁) X.xe s := by
 refine thn (ha pins s σ H _ I h) fun v s1 ⟨x, H1, I1, r1, q1⟩ => ?_
 refine thn (hb pins s1 σ H1 _ I1 q1) fun u s2 ⟨y, H2, I2, r2, q2⟩ => ?_
 exact hf v u s2 x y H2 I2 r1 r2 q2
theorem pe_op {op : Operator} {r : R2} (ho : OpR X (binaryOp op) r) (ha : PE X a ta) (hb : PE X b tb) : PE X (.BinOp a op b pos) (tOp r ta tb) := by
 intro pins s σ H Q I h
 exact wpAny_BinOp (binT ha hb I h fun v u s2 x y H2 I2 rx ry q => ho pins s2 σ H2 x y v u Q I2 rx ry q)
theorem pe_un {op : UnaryOp} {r : V -> Hp -> VK -> Prop} (ho : UnR X (unaryOp op) r) (ha : PE X a ta) : PE X (.UnaryOp op a pos) (tUn r ta) := by
 intro pins s σ H Q I h
 exact UnaryOp_ (thn (ha pins s σ H _ I h) fun v s1 ⟨x, H1, I1, r1, q1⟩ => ho pins s1 σ H1 x v Q I1 r1 q1)
theorem opI {f : Value -> Value -> Sem Value} {C : Int -> Int -> Prop} {g : Int -> Int -> Int}
  (rule : ∀ (i j : Int) (t u : Tok) (s : Shared) (Q : Value -> Shared -> Prop) (E : Value -> Shared -> Prop), C i j -> Q (.int (g i j) s.toks) { s with toks := s.toks + 1 } -> wpAny (model X.prog X.w) X.A (f (.int i t) (.int j u)) Q E s) :
  OpR X f (rI C fun i j => .int (g i j)) := by
 intro pins s σ H x y v u Q I rx ry h
 obtain ⟨i, j, rfl, rfl, hc, q⟩ := h
 obtain ⟨t, rfl⟩ := rx
 obtain ⟨t', rfl⟩ := ry
 exact rule i j t t' s _ _ hc ⟨.int (g i j), H, I.tok _, ⟨_, rfl⟩, q⟩
theorem opI0 {f : Value -> Value -> Sem Value} {g : Int -> Int -> Int}
  (rule : ∀ (i j : Int) (t u : Tok) (s : Shared) (Q : Value -> Shared -> Prop) (E : Value -> Shared -> Prop), Q (.int (g i j) s.toks) { s with toks := s.toks + 1 } -> wpAny (model X.prog X.w) X.A (f (.int i t) (.int j u)) Q E s) :
  OpR X f (rI0 fun i j => .int (g i j)) := by
 intro pins s σ H x y v u Q I rx ry h
 obtain ⟨i, j, rfl, rfl, q⟩ := h
 obtain ⟨t, rfl⟩ := rx
 obtain ⟨t', rfl⟩ := ry
 exact rule i j t t' s _ _ ⟨.int (g i j), H, I.tok _, ⟨_, rfl⟩, q⟩
theorem opB0 {f : Value -> Value -> Sem Value} {g : Int -> Int -> Bool}
  (rule : ∀ (i j : Int) (t u : Tok) (s : Shared) (Q : Value -> Shared -> Prop) (E : Value -> Shared -> Prop), Q (.bool (g i j)) s -> wpAny (model X.prog X.w) X.A (f (.int i t) (.int j u)) Q E s) :
  OpR X f (rI0 fun i j => .bl (g i j)) := by
 intro pins s σ H x y v u Q I rx ry h
 obtain ⟨i, j, rfl, rfl, q⟩ := h
 obtain ⟨t, rfl⟩ := rx
 obtain ⟨t', rfl⟩ := ry
 exact rule i j t t' s _ _ ⟨.bl (g i j), H, I, rfl, q⟩
def CDiv (i j : Int) : Prop := 0 < j /\ j < 1073741824
def CDivN (i j : Int) : Prop := j ≠ 0 /\ j.natAbs < 1073741824
def CPow (i j : Int) : Prop := 0 <= j /\ j <= 1000000 /\ i.natAbs < 2 ^ 64
def CMul (i j : Int) : Prop := (-(2 ^ 64) < i /\ i < 2 ^ 64) \/ (-(2 ^ 64) < j /\ j < 2 ^ 64)
theorem CMul.ok {i j : Int} (h : CMul i j) : IntMulOk i j := by
 rcases h with ⟨h1, h2⟩ | ⟨h1, h2⟩
 ·exact .of_left (intBits_le_64 h1 h2)
 ·exact .of_right (intBits_le_64 h1 h2)
theorem op_add : OpR X (binaryOp .Add) (rI0 fun i j => .int (i + j)) := opI0 fun _ _ _ _ _ _ _ q => add_int q
theorem op_sub : OpR X (binaryOp .Sub) (rI0 fun i j => .int (i - j)) := opI0 fun _ _ _ _ _ _ _ q => sub_int q
theorem op_mul : OpR X (binaryOp .Mult) (rI CMul fun i j => .int (i * j)) := opI fun _ _ _ _ _ _ _ hc q => mul_int q hc.ok
theorem op_fdiv : OpR X (binaryOp .FloorDiv) (rI CDiv fun i j => .int (i / j)) := opI fun i j _ _ _ _ _ hc q => by
 have h1 : (0 : Int) < j := hc.1
 have h2 : j < 1073741824 := hc.2
 exact floordiv_int (by omega) (by rw [Int.fdiv_eq_ediv_of_nonneg i (by omega)]; exact q) (.inl (PyProof.noPylong_small (by omega)))
theorem op_mod : OpR X (binaryOp .Mod) (rI (fun _ j => 0 < j) fun i j => .int (i % j)) := opI fun i j _ _ _ _ _ hc q => by
 have h1 : (0 : Int) < j := hc
 exact mod_int' (by omega) (by rw [Int.fmod_eq_emod_of_nonneg i (by omega)]; exact q)
theorem op_pow : OpR X (binaryOp .Pow) (rI CPow fun i j => .int (i ^ j.toNat)) := opI fun _ _ _ _ _ _ _ hc q => pow_int_small hc.1 hc.2.1 hc.2.2 q
theorem unI {f : Value -> Sem Value} {g : Int -> Int}
  (rule : ∀ (i : Int) (t : Tok) (s : Shared) (Q : Value -> Shared -> Prop) (E : Value -> Shared -> Prop), Q (.int (g i) s.toks) { s with toks := s.toks + 1 } -> wpAny (model X.prog X.w) X.A (f (.int i t)) Q E s) :
  UnR X f (rU fun i => .int (g i)) := by
 intro pins s σ H x v Q I rx h
 obtain ⟨i, rfl, q⟩ := h
 obtain ⟨t, rfl⟩ := rx
 exact rule i t s _ _ ⟨.int (g i), H, I.tok _, ⟨_, rfl⟩, q⟩
theorem un_neg : UnR X (unaryOp .USub) (rU fun i => .int (-i)) := unI fun _ _ _ _ _ q => neg_int q
end
def scal : V -> V -> Bool
 | .non, .non => true | .non, .int _ => true | .int _, .non => true | .non, .bl _ => true | .bl _, .non => true | .non, .str _ => true | .str _, .non => true
 | .int _, .int _ => true | .bl _, .bl _ => true | .str _, .str _ => true | .byt _, .byt _ => true
 | .int _, .str _ => true | .str _, .int _ => true | .bl _, .str _ => true | .str _, .bl _ => true
 | _, _ => false
def rEq : R2 := fun x y H Q => scal x y = true /\ Q (.bl (decide (x = y))) H
def rNe : R2 := fun x y H Q => scal x y = true /\ Q (.bl (!decide (x = y))) H
theorem dec_int {i j : Int} : decide (V.int i = V.int j) = (i == j) := by
 rw [Bool.eq_iff_iff]
 simp
theorem dec_bl {i j : Bool} : decide (V.bl i = V.bl j) = (i == j) := by
 rw [Bool.eq_iff_iff]
 simp
theorem dec_str {i j : Str} : decide (V.str i = V.str j) = (i == j) := by
 rw [Bool.eq_iff_iff]
 simp
theorem dec_byt {i j : Array UInt8} : decide (V.byt i = V.byt j) = (i.toList == j.toList) := by
 rw [Bool.eq_iff_iff]
 cases i
 cases j
 simp
section
variable {X : Cx} {a b c : Expr} {ta tb tc : TE} {pos : Pos}
theorem fin_bl {pins : List (Addr × Obj)} {σ : St} {H : Hp} {s : Shared} {Q : VK} {k k' : Bool} (I : Inv X pins σ H s) (q : Q (.bl k) H) (e : k = k') : EP X pins σ Q (.bool k') s := by
 subst e
 exact ⟨.bl k, H, I, rfl, q⟩
theorem op_eq : OpR X (compareOp .Eq) rEq := by
 intro pins s σ H x y v u Q I rx ry h
 obtain ⟨hs, q⟩ := h
 cases x with
 | non =>
  cases rx
  cases y with
  | non => cases ry; exact PySem.EqNone.eq_none_none (fin_bl I q (by simp))
  | bl j => cases ry; exact PySem.EqNone.eq_none_bool (fin_bl I q (by simp))
  | int j => obtain ⟨t', rfl⟩ := ry; exact PySem.EqNone.eq_none_int (fin_bl I q (by simp))
  | str j => obtain ⟨t', rfl⟩ := ry; exact PySem.EqNone.eq_none_str (fin_bl I q (by simp))
  | _ => exact absurd (show false = true from hs) Bool.false_ne_true
 | bl i =>
  cases rx
  cases y with
  | non => cases ry; exact PySem.EqNone.eq_bool_none (fin_bl I q (by simp))
  | bl j => cases ry; exact eq_bool (fin_bl I q dec_bl)
  | str j => obtain ⟨t', rfl⟩ := ry; exact PySem.EqMixed.eq_bool_str (fin_bl I q (by simp))
  | _ => exact absurd (show false = true from hs) Bool.false_ne_true
 | int i =>
  obtain ⟨t, rfl⟩ := rx
  cases y with
  | non => cases ry; exact PySem.EqNone.eq_int_none (fin_bl I q (by simp))
  | int j => obtain ⟨t', rfl⟩ := ry; exact eq_int (fin_bl I q dec_int)
  | str j => obtain ⟨t', rfl⟩ := ry; exact PySem.EqMixed.eq_int_str (fin_bl I q (by simp))
  | _ => exact absurd (show false = true from hs) Bool.false_ne_true
 | str i =>
  obtain ⟨t, rfl⟩ := rx
  cases y with
  | non => cases ry; exact PySem.EqNone.eq_str_none (fin_bl I q (by simp))
  | bl j => cases ry; exact PySem.EqMixed.eq_str_bool (fin_bl I q (by simp))
  | int j => obtain ⟨t', rfl⟩ := ry; exact PySem.EqMixed.eq_str_int (fin_bl I q (by simp))
  | str j => obtain ⟨t', rfl⟩ := ry; exact eq_str (fin_bl I q dec_str)
  | _ => exact absurd (show false = true from hs) Bool.false_ne_true
 | byt i =>
  obtain ⟨t, rfl⟩ := rx
  cases y with
  | byt j => obtain ⟨t', rfl⟩ := ry; exact PySem.W.eq_bytes (fin_bl I q dec_byt)
  | _ => exact absurd (show false = true from hs) Bool.false_ne_true
 | _ => cases y <;> exact absurd (show false = true from hs) Bool.false_ne_true
theorem op_ne : OpR X (compareOp .NotEq) rNe := by
 intro pins s σ H x y v u Q I rx ry h
 obtain ⟨hs, q⟩ := h
 cases x with
 | non =>
  cases rx
  cases y with
  | non => cases ry; exact PySem.EqNone.ne_none_none (fin_bl I q (by simp))
  | bl j => cases ry; exact PySem.EqNone.ne_none_bool (fin_bl I q (by simp))
  | int j => obtain ⟨t', rfl⟩ := ry; exact PySem.EqNone.ne_none_int (fin_bl I q (by simp))
  | str j => obtain ⟨t', rfl⟩ := ry; exact PySem.EqNone.ne_none_str (fin_bl I q (by simp))
  | _ => exact absurd (show false = true from hs) Bool.false_ne_true
 | bl i =>
  cases rx
  cases y with
  | non => cases ry; exact PySem.EqNone.ne_bool_none (fin_bl I q (by simp))
  | bl j => cases ry; exact ne_bool (fin_bl I q (congrArg not dec_bl))
  | str j => obtain ⟨t', rfl⟩ := ry; exact PySem.EqMixed.ne_bool_str (fin_bl I q (by simp))
  | _ => exact absurd (show false = true from hs) Bool.false_ne_true
 | int i =>
  obtain ⟨t, rfl⟩ := rx
  cases y with
  | non => cases ry; exact PySem.EqNone.ne_int_none (fin_bl I q (by simp))
  | int j => obtain ⟨t', rfl⟩ := ry; exact ne_int (fin_bl I q (congrArg not dec_int))
  | str j => obtain ⟨t', rfl⟩ := ry; exact PySem.EqMixed.ne_int_str (fin_bl I q (by simp))
  | _ => exact absurd (show false = true from hs) Bool.false_ne_true
 | str i =>
  obtain ⟨t, rfl⟩ := rx
  cases y with
  | non => cases ry; exact PySem.EqNone.ne_str_none (fin_bl I q (by simp))
  | bl j => cases ry; exact PySem.EqMixed.ne_str_bool (fin_bl I q (by simp))
  | int j => obtain ⟨t', rfl⟩ := ry; exact PySem.EqMixed.ne_str_int (fin_bl I q (by simp))
  | str j => obtain ⟨t', rfl⟩ := ry; exact ne_str (fin_bl I q (congrArg not dec_str))
  | _ => exact absurd (show false = true from hs) Bool.false_ne_true
 | byt i =>
  obtain ⟨t, rfl⟩ := rx
  cases y with
  | byt j => obtain ⟨t', rfl⟩ := ry; exact PySem.W.ne_bytes (fin_bl I q (congrArg not dec_byt))
  | _ => exact absurd (show false = true from hs) Bool.false_ne_true
 | _ => cases y <;> exact absurd (show false = true from hs) Bool.false_ne_true
theorem op_lt : OpR X (compareOp .Lt) (rI0 fun i j => .bl (decide (i < j))) := opB0 fun _ _ _ _ _ _ _ q => lt_int q
theorem op_le : OpR X (compareOp .LtE) (rI0 fun i j => .bl (decide (i <= j))) := opB0 fun _ _ _ _ _ _ _ q => le_int q
theorem op_gt : OpR X (compareOp .Gt) (rI0 fun i j => .bl (decide (j < i))) := opB0 fun _ _ _ _ _ _ _ q => gt_int q
theorem op_ge : OpR X (compareOp .GtE) (rI0 fun i j => .bl (decide (j <= i))) := opB0 fun _ _ _ _ _ _ _ q => ge_int q
theorem op_isN : OpR X (compareOp .Is) (fun x y H Q => y = .non /\ Q (.bl (decide (x = .non))) H) := by
 intro pins s σ H x y v u Q I rx ry h
 obtain ⟨rfl, q⟩ := h
 cases ry
 refine is_none_gen (fin_bl I q ?_)
 cases x <;> first
  | (cases rx; rfl)
  | (obtain ⟨t, rfl⟩ := rx; rfl)
theorem op_notN : OpR X (compareOp .IsNot) (fun x y H Q => y = .non /\ Q (.bl (!decide (x = .non))) H) := by
 intro pins s σ H x y v u Q I rx ry h
 obtain ⟨rfl, q⟩ := h
 cases ry
 refine isnot_none_gen (fin_bl I q ?_)
 cases x <;> first
  | (cases rx; rfl)
  | (obtain ⟨t, rfl⟩ := rx; rfl)
def isObj : HO -> Bool
 | .lst _ => true
 | .ins _ _ _ => true
 | _ => false
theorem nomark (b : Expr) {op : CmpOp} (h : op ≠ .In := by decide) (h2 : op ≠ .NotIn := by decide) : behindInMarks op b = false := by
 have e1 : (op == CmpOp.In) = false := by cases op <;> first | rfl | exact absurd rfl h
 have e2 : (op == CmpOp.NotIn) = false := by cases op <;> first | rfl | exact absurd rfl h2
 cases b <;> simp [behindInMarks, e1, e2]
theorem pe_cmpR {op : CmpOp} {r : R2} (ho : OpR X (compareOp op) r) (ha : PE X a ta) (hb : PE X b tb) (hm : behindInMarks op b = false) : PE X (.Compare a [op] [b] pos) (tOp r ta tb) := by
 intro pins s σ H Q I h
 exact wpAny_Compare1 (binT ha hb I h fun v u s2 x y H2 I2 rx ry q => ho pins s2 σ H2 x y v u Q I2 rx ry q) hm
def tTest (t : TE) : TT := fun σ H Q => t σ H fun x H' => ∃ k, x = .bl k /\ Q k H'
theorem pt_cmpR {op : CmpOp} {r : R2} (ho : OpR X (compareOp op) r) (ha : PE X a ta) (hb : PE X b tb) (hm : behindInMarks op b = false) : PT X (.Compare a [op] [b] pos) (tTest (tOp r ta tb)) := by
 intro pins s σ H Q I h
 refine wpAny_isTrue_Compare1 (thn (ha pins s σ H _ I h) fun v s1 ⟨x, H1, I1, r1, q1⟩ => thn (hb pins s1 σ H1 _ I1 q1) fun u s2 ⟨y, H2, I2, r2, q2⟩ =>
  thn (ho pins s2 σ H2 x y v u _ I2 r1 r2 q2) fun c s3 ⟨z, H3, I3, r3, k, e, q3⟩ => ?_) hm
 subst e
 cases r3
 exact wpAny_truthy_bool ⟨H3, I3, q3⟩
def tChain (r r' : R2) (ta tb tc : TE) : TE := fun σ H Q => ta σ H fun x H1 => tb σ H1 fun y H2 => r x y H2 fun z H3 => ∃ k, z = .bl k ∧
 (if k = true then tc σ H3 fun w' H4 => r' y w' H4 Q else Q (.bl false) H3)
theorem pt_chain {op op' : CmpOp} {r r' : R2} (ho : OpR X (compareOp op) r) (ho' : OpR X (compareOp op') r') (ha : PE X a ta) (hb : PE X b tb) (hc : PE X c tc)
  (hm : lastMarks [op, op'] [b, c] = false := by with_unfolding_all rfl) : PT X (.Compare a [op, op'] [b, c] pos) (tTest (tChain r r' ta tb tc)) := by
 intro pins s σ H Q I h
 refine isTrue_chain (thn (ha pins s σ H _ I h) fun v s1 ⟨x, H1, I1, r1, q1⟩ => test_link (thn (hb pins s1 σ H1 _ I1 q1) fun u s2 ⟨y, H2, I2, r2, q2⟩ =>
  thn (ho pins s2 σ H2 x y v u _ I2 r1 r2 q2) fun d s3 ⟨z, H3, I3, r3, k, e, q3⟩ => ?_)) hm
 subst e
 cases r3
 refine wpAny_truthy_bool ?_
 cases k with
 | false =>
  obtain ⟨k', e', q'⟩ := q3
  cases e'
  exact ite_ff ⟨H3, I3, q'⟩
 | true =>
  refine ite_tt (test_last (thn (hc pins s3 σ H3 _ I3 q3) fun w' s4 ⟨z', H4, I4, r4, q4⟩ => thn (ho' pins s4 σ H4 y z' u w' _ I4 r2 r4 q4) fun d' s5 ⟨z2, H5, I5, r5, k2, e2, q5⟩ => ?_))
  subst e2
  cases r5
  exact wpAny_truthy_bool ⟨H5, I5, q5⟩
def TruV (K : PySem.W.Frag) (x : V) (H : Hp) (k : Bool) : Prop :=
 match x with
 | .non => k = false
 | .bl b => k = b
 | .int i => k = (i != 0)
 | .str y => y.length <= sizeLine /\ k = ((y.length : Int) != 0)
 | .byt y => y.size <= sizeLine /\ k = ((y.size : Int) != 0)
 | .ref p => (∃ xs, SqL K H p xs /\ k = !xs.isEmpty) \/ (∃ xs, SqT K H p xs /\ k = !xs.isEmpty) \/ ∃ kvs, H p = some (.dK kvs) /\ k = !kvs.isEmpty
 | _ => False
theorem line63 : (sizeLine : Nat) < 2 ^ 63 := by rw [sizeLine_eq]; decide
def PlainIxT (b : Expr) : Prop := ∀ o i, subscripted b false o i = operate [o, i] (getItem o i)
theorem vals1 {x : V} {us : List Value} (r : Vals [x] us) : ∃ u, us = [u] /\ RelV x u := by
 cases r with
 | cons r1 r2 => cases r2; exact ⟨_, rfl, r1⟩
theorem vals2 {x y : V} {us : List Value} (r : Vals [x, y] us) : ∃ u w', us = [u, w'] /\ RelV x u /\ RelV y w' := by
 cases r with
 | cons r1 r2 =>
  cases r2 with
  | cons r3 r4 => cases r4; exact ⟨_, _, rfl, r1, r3⟩
theorem call_max2 (hc : X.calm = true) : CallR X (.builtin "max") (fun xs H Q => ∃ i j, xs = [.int i, .int j] ∧ Q (.int (if j > i then j else i)) H) := by
 intro pins s σ H xs us Q I r h
 obtain ⟨i, j, rfl, q⟩ := h
 obtain ⟨u, w', rfl, ⟨t, rfl⟩, ⟨t', rfl⟩⟩ := vals2 r
 refine max_two_ints (I.ok.hd hc) fun h' tk k => ⟨_, H, I.kept k, ?_, q⟩
 by_cases hj : j > i
 ·rw [if_pos hj, if_pos hj]; exact ⟨_, rfl⟩
 ·rw [if_neg hj, if_neg hj]; exact ⟨_, rfl⟩
theorem call_min2 (hc : X.calm = true) : CallR X (.builtin "min") (fun xs H Q => ∃ i j, xs = [.int i, .int j] ∧ Q (.int (if j < i then j else i)) H) := by
 intro pins s σ H xs us Q I r h
 obtain ⟨i, j, rfl, q⟩ := h
 obtain ⟨u, w', rfl, ⟨t, rfl⟩, ⟨t', rfl⟩⟩ := vals2 r
 refine min_two_ints (I.ok.hd hc) fun h' tk k => ⟨_, H, I.kept k, ?_, q⟩
 by_cases hj : j < i
 ·rw [if_pos hj, if_pos hj]; exact ⟨_, rfl⟩
 ·rw [if_neg hj, if_neg hj]; exact ⟨_, rfl⟩
def LenV (K : PySem.W.Frag) (x : V) (H : Hp) (n : Nat) : Prop :=
 match x with
 | .str y => y.length <= sizeLine /\ n = y.length
 | .byt y => y.size <= sizeLine /\ n = y.size
 | .ref p => (∃ xs, SqL K H p xs /\ n = xs.length) \/ ∃ xs, SqT K H p xs /\ n = xs.length
 | _ => False
end
end L2
namespace L2
open PySem PySem.Spec PyProof.Rows
structure ObjM (h : Heap) (x dx C : Addr) (mA : Str -> Option Value) : Prop where
 obj : h.get? x = some (PySem.W.instObj C dx)
 ns : h.Ns1 dx mA
 ne : dx ≠ x
theorem lookIn_ns {h : Heap} {dx : Addr} {mA : Str -> Option Value} (n : h.Ns1 dx mA) : ∃ od, h.get? dx = some od /\ ∀ name, PySem.W.lookIn name od = some (mA name) := by
 obtain ⟨o, es, ep, ho, hd, hk, _, hm⟩ := n
 refine ⟨o, ho, fun name => ?_⟩
 have e := hm name
 unfold nsFind findBy at e
 rw [<- Array.find?_toList] at e
 unfold PySem.W.lookIn
 rw [hd]
 dsimp only
 split
 ·rename_i y q
  rw [q] at e
  exact congrArg some e
 ·rename_i q
  rw [q] at e
  have a : es.toList.any (·.refKey) = false := by
   rw [List.any_eq_false]
   intro y hy
   obtain ⟨z, t, hkey⟩ := hk y (Array.mem_toList_iff.mp hy)
   simp [DictEntry.refKey, hkey]
  have a' : ¬ es.toList.any (·.refKey) = true := by rw [a]; exact Bool.false_ne_true
  rw [if_neg a']
  exact congrArg some e
theorem ObjM.look {h : Heap} {x dx C : Addr} {mA : Str -> Option Value} (I : ObjM h x dx C mA) : ∃ od, PySem.W.InstAt h x (PySem.W.instObj C dx) C (some od) /\ ∀ name, PySem.W.lookIn name od = some (mA name) :=
 let ⟨od, ho, hl⟩ := lookIn_ns I.ns
 ⟨od, ⟨I.obj, rfl, rfl, ho⟩, hl⟩
section
variable {prog : Program} {w : World} {A : Around} {E : Value -> Shared -> Prop} {s : Shared} {K : PySem.W.Frag} {x dx C f : Addr} {mA : Str -> Option Value} {name : Str} {v : Value}
theorem get_map {expr : Bool} {Q : Value -> Shared -> Prop} (X : K.In s.heap) (I : ObjM s.heap x dx C mA) (hg : PySem.W.plainGet K C name = true) (hh : PySem.W.hasDictIn K C = true)
  (ha : PySem.W.findIn K (.ref C) name = some none) (hv : mA name = some v) (hv' : PySem.W.handedIn v = true) (h : Q v { s with toks := s.toks + 1 }) :
  wpAny (model prog w) A (getAttr (.ref x) name expr) Q E s := by
 obtain ⟨od, J, hl⟩ := I.look
 exact PySem.W.get_value X J (PySem.W.plainGet_of hg).1 (PySem.W.findObj_own hh ha rfl (by rw [hl, hv])) hv' h
theorem get_meth {pl : Sem Bool} {Q : Value × List Value -> Shared -> Prop} (X : K.In s.heap) (I : ObjM s.heap x dx C mA) (hg : PySem.W.plainGet K C name = true)
  (hf : PySem.W.findIn K (.ref C) name = some (some (.ref f))) (ht : PySem.W.isFn K (.ref f) = true) (hv : mA name = none) (h : Q (.ref f, [.ref x]) s) :
  wpAny (model prog w) A (getMethod (.ref x) name pl) Q E s := by
 obtain ⟨od, J, hl⟩ := I.look
 exact PySem.W.method_fn X J (PySem.W.plainGet_of hg).1 (PySem.W.plainGet_of hg).2 hf (beq_iff_eq.mp ht) (by show (PySem.W.lookIn name od).map (·.isSome) = some false; rw [hl, hv]; rfl) h
theorem set_map {ns : List Str} {Q : Unit -> Shared -> Prop} (X : K.In s.heap) (I : ObjM s.heap x dx C mA)
  (hs : PySem.W.findIn K (.ref C) "__setattr__" = some (some (.builtin "object.__setattr__"))) (hp : PySem.W.plainOver K C = true) (ht : PySem.W.takerIn K C name = some none) (hh : PySem.W.hasDictIn K C = true)
  (hw : PySem.Within mA ns) (hsz : ns.length <= sizeLine)
  (h : ∀ h', ObjM h' x dx C (fun y => if y = name then some v else mA y) -> Heap.SameBut dx s.heap h' -> Q () { s with heap := h', toks := s.toks + 2 }) :
  wpAny (model prog w) A (setAttr (.ref x) name v) Q E s := by
 obtain ⟨od, J, hl⟩ := I.look
 refine PySem.W.set_plain X J hs (PySem.W.osa_open (s := { s with toks := s.toks + 1 }) (r := none) X J hp ht fun b => ?_)
 obtain ⟨cd, hc, hd'⟩ := PySem.W.any_some hh
 have hx : s.heap.get? x = some ⟨.ref C, some dx, .plain, #[]⟩ := I.obj
 refine wpAny_bind (wpAny_pure (wpAny_bind (wpAny_bind (wpAny_loadPart hx (wpAny_bind (PySem.W.Looks.here (s := { s with toks := s.toks + 1 }) (PySem.W.looks_clsIn X hc) ?_))))))
 rw [hd']
 refine wpAny_pure (a := some dx) (wpAny_bind (wpAny_pure (wpAny_bind ?_)))
 refine wpAny_nsSet1 (s := { s with toks := s.toks + 1 }) I.ns fun h' hn2 hs2 => ?_
 obtain ⟨oD, esD, epD, hoD, hdD, hcD⟩ := hn2.count (PySem.Within.cons name v hw)
 refine wpAny_bind (wpAny_lookBehind hoD (by rw [hdD]; exact pastItsLine_dict (Nat.le_trans hcD (by rw [List.length_cons]; omega))) ?_)
 exact wpAny_pure (h _ ⟨(hs2.2 _ (Ne.symm I.ne)).trans I.obj, hn2, I.ne⟩ hs2)
theorem make_map {R : Result -> Shared -> Prop} {vs : List Value} {kw : List (Str × Value)} (X : K.In s.heap) (hm : PySem.W.makesIn K C = true)
  (hi : PySem.W.findIn K (.ref C) "__init__" = some (some (.ref f))) (hf : PySem.W.typeIn K (.ref f) = some (.type "function"))
  (h : codeAny (model prog w) (A.under (.builtin "type.__call__" ⟨.ref C :: vs, kw⟩)) (.call (.ref f) ⟨.ref (s.heap.objs.size + 1) :: vs, kw⟩) (PySem.W.InitBack (s.heap.objs.size + 1) R)
   { s with heap := (s.heap.push PySem.W.emptyDict).push (PySem.W.instObj C s.heap.objs.size) }) :
  codeAny (model prog w) A (.call (.ref C) ⟨vs, kw⟩) R s := by
 obtain ⟨hh, g, d, t, os⟩ := s
 exact PySem.W.make_core (PySem.W.makes_of X hm) (PySem.W.looks_findIn X hi) (fun self => PySem.W.bind_fn X self hf) (.inl rfl) h
end
def putF (f : Str) (v : V) : List (Str × V) -> List (Str × V)
 | [] => [(f, v)]
 | (g, x) :: r => if g = f then (g, v) :: r else (g, x) :: putF f v r
theorem lookup_putF (f g : Str) (v : V) : ∀ fs : List (Str × V), (putF f v fs).lookup g = if g = f then some v else fs.lookup g
 | [] => by
  show List.lookup g [(f, v)] = _
  by_cases h : g = f
  ·have hb : (g == f) = true := beq_iff_eq.mpr h
   simp only [List.lookup, hb, if_pos h]
  ·have hb : (g == f) = false := beq_eq_false_iff_ne.mpr h
   simp only [List.lookup, hb, if_neg h]
 | (k, x) :: r => by
  have ih := lookup_putF f g v r
  rw [show putF f v ((k, x) :: r) = (if k = f then (k, v) :: r else (k, x) :: putF f v r) from rfl]
  by_cases hk : k = f
  ·rw [if_pos hk]
   by_cases h : g = k
   ·have hb : (g == k) = true := beq_iff_eq.mpr h
    simp only [List.lookup, hb, if_pos (h.trans hk)]
   ·have hb : (g == k) = false := beq_eq_false_iff_ne.mpr h
    simp only [List.lookup, hb, if_neg (fun e : g = f => h (e.trans hk.symm))]
  ·rw [if_neg hk]
   by_cases h : g = k
   ·have hb : (g == k) = true := beq_iff_eq.mpr h
    simp only [List.lookup, hb, if_neg (fun e : g = f => hk (h.symm.trans e))]
   ·have hb : (g == k) = false := beq_eq_false_iff_ne.mpr h
    simp only [List.lookup, hb]
    exact ih
theorem keys_putF (f : Str) (v : V) : ∀ fs : List (Str × V), f ∈ (putF f v fs).map (·.1) /\ ∀ g, g ∈ fs.map (·.1) -> g ∈ (putF f v fs).map (·.1)
 | [] => ⟨by simp [putF], fun g h => by simp at h⟩
 | (k, x) :: r => by
  obtain ⟨i1, i2⟩ := keys_putF f v r
  rw [show putF f v ((k, x) :: r) = (if k = f then (k, v) :: r else (k, x) :: putF f v r) from rfl]
  by_cases hk : k = f
  ·rw [if_pos hk]
   subst hk
   exact ⟨by simp, fun g h => by simpa using h⟩
  ·rw [if_neg hk]
   refine ⟨?_, fun g h => ?_⟩
   ·rw [List.map_cons]
    exact List.mem_cons_of_mem _ i1
   ·rw [List.map_cons] at h ⊢
    rcases List.mem_cons.mp h with e | e
    ·exact List.mem_cons.mpr (.inl e)
    ·exact List.mem_cons_of_mem _ (i2 g e)
theorem length_putF (f : Str) (v : V) : ∀ fs : List (Str × V), (putF f v fs).length <= fs.length + 1
 | [] => by simp [putF]
 | (k, x) :: r => by
  have ih := length_putF f v r
  rw [show putF f v ((k, x) :: r) = (if k = f then (k, v) :: r else (k, x) :: putF f v r) from rfl]
  by_cases hk : k = f
  ·rw [if_pos hk, List.length_cons, List.length_cons]; omega
  ·rw [if_neg hk, List.length_cons, List.length_cons]; omega
theorem RelO.some_of {v : V} {o : Option Value} (r : RelO (some v) o) : ∃ u, o = some u /\ RelV v u := by
 cases o with
 | none => exact (show False from r).elim
 | some u => exact ⟨u, rfl, r⟩
theorem RelO.none_of {o : Option Value} (r : RelO none o) : o = none := by
 cases o with
 | none => rfl
 | some u => exact (show False from r).elim
theorem handed_of {v : V} {u : Value} (r : RelV v u) : PySem.W.handedIn u = true := by
 cases v with
 | non => cases (show u = Value.none from r); rfl
 | bl b => cases (show u = Value.bool b from r); rfl
 | int i => obtain ⟨t, e⟩ := (show ∃ t, u = Value.int i t from r); cases e; rfl
 | str x => obtain ⟨t, e⟩ := (show ∃ t, u = Value.str x t from r); cases e; rfl
 | byt b => obtain ⟨t, e⟩ := (show ∃ t, u = Value.bytes b t from r); cases e; rfl
 | flt b => obtain ⟨t, e⟩ := (show ∃ t, u = Value.float b t from r); cases e; rfl
 | ref a => cases (show u = Value.ref a from r); rfl
 | ty n => cases (show u = Value.type n from r); rfl
section
variable {P : Program} {w : World} {H H' : Hp} {h h' : Heap} {a C dx : Addr} {fs fs' : List (Str × V)}
theorem ins_get (hok : HOk P w H h) (e : H a = some (.ins C dx fs)) : ∃ mA, ObjM h a dx C mA /\ (∀ f, RelO (fs.lookup f) (mA f)) /\ PySem.Within mA (fs.map (·.1)) /\ fs.length <= 1000 /\ H dx = some (.own a) := by
 obtain ⟨d, z, ne, ob, mA, n, r, q⟩ := (show ObjOk P w H h a (.ins C dx fs) from hok a _ e)
 exact ⟨mA, ⟨ob, n, ne⟩, r, q, z, d⟩
end
structure Cls (K : PySem.W.Frag) (C : Addr) : Prop where
 pg : PySem.W.plainGet K C Str.empty = true
 hd : PySem.W.hasDictIn K C = true
 po : PySem.W.plainOver K C = true
 sa : PySem.W.findIn K (.ref C) "__setattr__" = some (some (.builtin "object.__setattr__"))
theorem Cls.get {K : PySem.W.Frag} {C : Addr} (c : Cls K C) (f : Str) : PySem.W.plainGet K C f = true := c.pg
def NoAttr (K : PySem.W.Frag) (C : Addr) (f : Str) : Prop := PySem.W.findIn K (.ref C) f = some none
theorem NoAttr.taker {K : PySem.W.Frag} {C : Addr} {f : Str} (n : NoAttr K C f) : PySem.W.takerIn K C f = some none := by
 unfold PySem.W.takerIn
 rw [show PySem.W.findIn K (.ref C) f = some none from n]
 rfl
structure Con (K : PySem.W.Frag) (C : Addr) (f : Str) (v : V) (u : Value) : Prop where
 at_ : PySem.W.findIn K (.ref C) f = some (some u)
 rel : RelV v u
 get : PySem.W.specialIn K u "__get__" = some none
 cp : PySem.W.copiedNames.contains f = false
structure Meth (K : PySem.W.Frag) (C : Addr) (m : Str) (f : Addr) : Prop where
 at_ : PySem.W.findIn K (.ref C) m = some (some (.ref f))
 fn : PySem.W.isFn K (.ref f) = true
 kp : PySem.W.keepIn K (.ref f) = true
section
variable {X : Cx} {pins : List (Addr × Obj)} {σ : St} {H : Hp} {s : Shared} {a C dx : Addr} {fs : List (Str × V)} {f : Str} {v : V} {A : Around} {E : Value -> Shared -> Prop}
theorem getattr_ok {b : Bool} {Q : Value -> Shared -> Prop} (I : Inv X pins σ H s) (e : H a = some (.ins C dx fs)) (c : Cls X.K C) (n : NoAttr X.K C f) (l : fs.lookup f = some v)
  (h : ∀ u s', Inv X pins σ H s' -> RelV v u -> Q u s') : wpAny (model X.prog X.w) A (getAttr (.ref a) f b) Q E s := by
 obtain ⟨mA, O, r, _, _, _⟩ := ins_get I.hok e
 obtain ⟨u, hu, ru⟩ := RelO.some_of (v := v) (o := mA f) (by rw [<- l]; exact r f)
 exact get_map I.kIn O (c.get f) c.hd n hu (handed_of ru) (h u _ (I.tok _) ru)
theorem getmeth_ok {m : Str} {g : Addr} {pl : Sem Bool} {Q : Value × List Value -> Shared -> Prop} (I : Inv X pins σ H s) (e : H a = some (.ins C dx fs)) (c : Cls X.K C) (k : Meth X.K C m g) (l : fs.lookup m = none)
  (h : Q (.ref g, [.ref a]) s) : wpAny (model X.prog X.w) A (getMethod (.ref a) m pl) Q E s := by
 obtain ⟨mA, O, r, _, _, _⟩ := ins_get I.hok e
 have hn : mA m = none := RelO.none_of (by rw [<- l]; exact r m)
 exact get_meth I.kIn O (c.get m) k.at_ k.fn hn h
theorem setattr_ok {y : V} {u : Value} {Q : Unit -> Shared -> Prop} (I : Inv X pins σ H s) (e : H a = some (.ins C dx fs)) (c : Cls X.K C) (n : NoAttr X.K C f) (hl : fs.length < 1000) (ry : RelV y u)
  (h : ∀ s', Inv X pins σ (upd H a (.ins C dx (putF f y fs))) s' -> Q () s') : wpAny (model X.prog X.w) A (setAttr (.ref a) f u) Q E s := by
 obtain ⟨mA, O, r, wi, _, ho⟩ := ins_get I.hok e
 have hz : (fs.map (·.1)).length <= sizeLine := by rw [List.length_map, sizeLine_eq]; omega
 refine set_map I.kIn O c.sa c.po n.taker c.hd wi hz fun h' O' sb => h _ ?_
 have hd : ∃ o, h'.get? dx = some o := let ⟨o, _, _, e', _⟩ := O'.ns; ⟨o, e'⟩
 refine I.write (x := a) (e := dx) (by rw [e]; exact True.intro) (.inr ho) (fun b q hb z => (sb.2 b hb).trans z) hd ?_
 refine ⟨by rw [upd_ne O.ne]; exact ho, ?_, O.ne, O'.obj, _, O'.ns, fun g => ?_, fun g hg => ?_⟩
 ·have := length_putF f y fs; omega
 ·show RelO ((putF f y fs).lookup g) (if g = f then some u else mA g)
  rw [lookup_putF]
  by_cases q : g = f
  ·rw [if_pos q, if_pos q]; exact ry
  ·rw [if_neg q, if_neg q]; exact r g
 ·by_cases q : g = f
  ·rw [q]; exact (keys_putF f y fs).1
  ·refine (keys_putF f y fs).2 g (wi g fun z => hg ?_)
   show (if g = f then some u else mA g) = none
   rw [if_neg q]; exact z
theorem Inv.made (I : Inv X pins σ H s) : Inv X pins σ (upd (upd H s.heap.objs.size (.own (s.heap.objs.size + 1))) (s.heap.objs.size + 1) (.ins C s.heap.objs.size []))
  { s with heap := (s.heap.push PySem.W.emptyDict).push (PySem.W.instObj C s.heap.objs.size) } := by
 have e1 : (s.heap.push PySem.W.emptyDict).get? s.heap.objs.size = some PySem.W.emptyDict := Heap.get?_push_size s.heap rfl
 have e2 : ((s.heap.push PySem.W.emptyDict).push (PySem.W.instObj C s.heap.objs.size)).get? (s.heap.objs.size + 1) = some (PySem.W.instObj C s.heap.objs.size) := by
  have := Heap.get?_push_size (s.heap.push PySem.W.emptyDict) (o := PySem.W.instObj C s.heap.objs.size) rfl
  rwa [Heap.size_push] at this
 have e3 : (s.heap.push PySem.W.emptyDict).Ns s.heap.objs.size (fun _ => none) := ⟨PySem.W.emptyDict, #[], _, e1, rfl, (fun e he => absurd he (by simp)), fun _ => rfl⟩
 have I1 := I.laid (a := s.heap.objs.size) (o := .own (s.heap.objs.size + 1)) (h' := s.heap.push PySem.W.emptyDict) (t' := s.toks) (fun b u q => Heap.get?_push_of_some _ q) (Nat.le_refl _) ⟨_, e1⟩
 refine I1.laid (a := s.heap.objs.size + 1) (o := .ins C s.heap.objs.size []) (t' := s.toks) (fun b u q => Heap.get?_push_of_some _ q) (Nat.le_of_eq (Heap.size_push _ _)) ?_
 have ne : s.heap.objs.size ≠ s.heap.objs.size + 1 := Nat.ne_of_lt (Nat.lt_succ_self _)
 refine ⟨by rw [upd_ne ne, upd_same], Nat.zero_le _, ne, e2, fun _ => none, (Heap.Ns1.of_empty e3).at fun o q => Heap.get?_push_of_some _ q, fun _ => True.intro, fun y hy => absurd rfl hy⟩
theorem attr_of {prog : Program} {w : World} {env : Env} {e : Expr} {f : Str} {pos : Pos} {s : Shared} {Q : Value -> Shared -> Prop} (hb : attributeBase e f env (eval e env) = eval e env)
  (h : wpAny (model prog w) A (eval e env) (fun o s₁ => wpAny (model prog w) A (getAttr o f true) Q E s₁) E s) : wpAny (model prog w) A (eval (.Attribute e f pos) env) Q E s :=
 Attribute_any_ h (by rw [arm_eval_Attribute, hb])
end
def tFld (K : PySem.W.Frag) (ta : TE) (f : Str) : TE := fun σ H Q => ta σ H fun x H1 => ∃ a C dx fs v, x = .ref a /\ H1 a = some (.ins C dx fs) /\ Cls K C /\ NoAttr K C f /\ fs.lookup f = some v /\ Q v H1
def tCon (K : PySem.W.Frag) (ta : TE) (f : Str) : TE := fun σ H Q => ta σ H fun x H1 => ∃ a C dx fs v u, x = .ref a /\ H1 a = some (.ins C dx fs) /\ Cls K C /\ Con K C f v u /\ fs.lookup f = none /\ Q v H1
def sFld (K : PySem.W.Frag) (ta tv : TE) (f : Str) : TS := fun D σ H => tv σ H fun y H1 => ta σ H1 fun x H2 => ∃ a C dx fs, x = .ref a /\ H2 a = some (.ins C dx fs) /\ Cls K C /\ NoAttr K C f /\ fs.length < 1000 ∧
 D.nx σ (upd H2 a (.ins C dx (putF f y fs)))
def InOp (X : Cx) (op : Operator) (rd : V -> V -> Hp -> VK -> Prop) : Prop :=
 ∀ (pins : List (Addr × Obj)) (s : Shared) (σ : St) (H : Hp) (x y : V) (u v : Value) (Q : VK), Inv X pins σ H s -> RelV x u -> RelV y v -> rd x y H Q -> wpAny (model X.prog X.w) X.A (inplaceOp op u v) (EP X pins σ Q) X.xe s
def sFldAug (K : PySem.W.Frag) (ta tv : TE) (rd : V -> V -> Hp -> VK -> Prop) (f : Str) : TS := fun D σ H => ta σ H fun x H1 => ∃ a C dx fs v, x = .ref a /\ H1 a = some (.ins C dx fs) /\ Cls K C /\ NoAttr K C f /\ fs.lookup f = some v ∧
 tv σ H1 fun y H2 => rd v y H2 fun z H3 => ∃ dx' fs', H3 a = some (.ins C dx' fs') /\ fs'.length < 1000 /\ D.nx σ (upd H3 a (.ins C dx' (putF f z fs')))
section
variable {X : Cx} {o e value : Expr} {f : Str} {pos pos' tpos : Pos} {ta tv : TE}
theorem pe_fld (he : PE X e ta) (hb : attributeBase e f X.env (eval e X.env) = eval e X.env) : PE X (.Attribute e f pos) (tFld X.K ta f) := by
 intro pins s σ H Q I h
 refine attr_of hb (thn (he pins s σ H _ I h) fun u s1 ⟨x, H1, I1, rx, a, C, dx, fs, v, ex, ea, c, n, l, q⟩ => ?_)
 subst ex
 obtain rfl : u = Value.ref a := rx
 exact getattr_ok I1 ea c n l fun u' s2 I2 ru => ⟨v, H1, I2, ru, q⟩
theorem ps_fld (ha : PE X o ta) (hv : PE X value tv) (hs : swapsWith value (some (.Attribute o f pos')) pos.line X.env = pure false) : PS X (.Assign [.Attribute o f pos'] value pos) (sFld X.K ta tv f) := by
 intro pins s σ H D I h
 refine plainObj_wpAny_Assign_Attribute (thn (hv pins s σ H _ I h) fun u s1 ⟨y, H1, I1, ry, q⟩ => thn (ha pins s1 σ H1 _ I1 q) fun ov s2 ⟨x, H2, I2, rx, a, C, dx, fs, ex, ea, c, n, l, q2⟩ => ?_) hs
 subst ex
 obtain rfl : ov = Value.ref a := rx
 exact setattr_ok I2 ea c n l ry fun s3 I3 => ⟨σ, _, I3, q2⟩
theorem ps_fldaug {op : Operator} {rd : V -> V -> Hp -> VK -> Prop} (ha : PE X o ta) (hv : PE X value tv) (hop : InOp X op rd) : PS X (.AugAssign (.Attribute o f tpos) op value pos) (sFldAug X.K ta tv rd f) := by
 intro pins s σ H D I h
 refine wpAny_AugAssign_AttributeAny (thn (ha pins s σ H _ I h) fun ov s1 ⟨x, H1, I1, rx, a, C, dx, fs, v, ex, ea, c, n, l, q⟩ => ?_)
 subst ex
 obtain rfl : ov = Value.ref a := rx
 refine getattr_ok I1 ea c n l fun u s2 I2 ru => thn (hv pins s2 σ H1 _ I2 q) fun w3 s3 ⟨y, H2, I3, ry, q3⟩ => thn (hop pins s3 σ H2 v y u w3 _ I3 ru ry q3) fun w4 s4 ⟨z, H3, I4, rz, dx', fs', ea', l', q4⟩ => ?_
 exact setattr_ok I4 ea' c n l' rz fun s5 I5 => ⟨σ, _, I5, q4⟩
def rAdd : V -> V -> Hp -> VK -> Prop := fun x y H Q => ∃ i j, x = .int i /\ y = .int j /\ Q (.int (i + j)) H
def rSub : V -> V -> Hp -> VK -> Prop := fun x y H Q => ∃ i j, x = .int i /\ y = .int j /\ Q (.int (i - j)) H
end
section
variable {X : Cx} {pins : List (Addr × Obj)} {σ : St} {H : Hp} {s : Shared} {A : Around} {E : Value -> Shared -> Prop} {Q : Value -> Shared -> Prop} {c : Value} {b : Bool}
inductive TyOf (K : PySem.W.Frag) (H : Hp) : V -> Value -> Prop where
 | non : TyOf K H .non (.type "NoneType")
 | bl (x : Bool) : TyOf K H (.bl x) (.type "bool")
 | int (i : Int) : TyOf K H (.int i) (.type "int")
 | str (x : Str) : TyOf K H (.str x) (.type "str")
 | flt (x : UInt64) : TyOf K H (.flt x) (.type "float")
 | lst {a : Addr} {xs : List V} (e : H a = some (.lst xs)) : TyOf K H (.ref a) (.type "list")
 | frz {a : Addr} {o : Obj} {xs : List V} (e : H a = some (.frz o (.lst xs))) : TyOf K H (.ref a) (.type "list")
 | tup {a : Addr} {xs : List V} (e : H a = some (.tup xs)) : TyOf K H (.ref a) (.type "tuple")
 | dK {a : Addr} {kvs : List (Key × V)} (e : H a = some (.dK kvs)) : TyOf K H (.ref a) (.type "dict")
 | dT {a : Addr} {kvs : List (List Key × V)} (e : H a = some (.dT kvs)) : TyOf K H (.ref a) (.type "dict")
 | ins {a C dx : Addr} {fs : List (Str × V)} (e : H a = some (.ins C dx fs)) (cl : Cls K C) (ha : PySem.W.findIn K (.ref C) "__class__" = some (some (.builtin "object.__class__")))
   (hn : PySem.W.specialIn K (.builtin "object.__class__") "__get__" = some (some (.builtin "getset_descriptor.__get__"))) (htk : PySem.W.takesIn K (.builtin "object.__class__") = some true)
   (hm : PySem.W.mroIn K C (.type "object") = some true) : TyOf K H (.ref a) (.ref C)
theorem isinst_ok {x : V} {u t : Value} (I : Inv X pins σ H s) (rx : RelV x u) (ty : TyOf X.K H x t) (e : PySem.W.kitOne X.K t c = some b) (h : ∀ tk, Q (.bool b) { s with toks := tk }) :
  wpAny (model X.prog X.w) A (call (.builtin "isinstance") [u, c]) Q E s := by
 cases ty with
 | non => cases (show u = Value.none from rx); exact PySem.W.kia_one PySem.W.kitx_none I.kIn True.intro e (fun z => nomatch z) h
 | bl y => cases (show u = Value.bool y from rx); exact PySem.W.kia_one PySem.W.kitx_bool I.kIn True.intro e (fun z => nomatch z) h
 | int i => obtain ⟨t, q⟩ := (show ∃ t, u = Value.int i t from rx); cases q; exact PySem.W.kia_one PySem.W.kitx_int I.kIn True.intro e (fun z => nomatch z) h
 | str y => obtain ⟨t, q⟩ := (show ∃ t, u = Value.str y t from rx); cases q; exact PySem.W.kia_one PySem.W.kitx_str I.kIn True.intro e (fun z => nomatch z) h
 | flt y => obtain ⟨t, q⟩ := (show ∃ t, u = Value.float y t from rx); cases q; exact PySem.W.kia_one PySem.W.kitx_float I.kIn True.intro e (fun z => nomatch z) h
 | @lst a xs ea =>
  cases (show u = Value.ref a from rx)
  obtain ⟨_, _, n, _, h1⟩ := (show ObjOk X.prog X.w H s.heap a (.lst xs) from I.hok a _ ea)
  exact PySem.W.kia_one PySem.W.kitx_list I.kIn ⟨_, h1, rfl⟩ e (fun z => nomatch z) h
 | @frz a ob xs ea =>
  cases (show u = Value.ref a from rx)
  obtain ⟨_, _, _, n, _, h1⟩ := (show ObjOk X.prog X.w H s.heap a (.frz ob (.lst xs)) from I.hok a _ ea)
  exact PySem.W.kia_one PySem.W.kitx_list I.kIn ⟨_, h1, rfl⟩ e (fun z => nomatch z) h
 | @tup a xs ea =>
  cases (show u = Value.ref a from rx)
  obtain ⟨_, _, _, p⟩ := (show ObjOk X.prog X.w H s.heap a (.tup xs) from I.hok a _ ea)
  obtain ⟨o, h1, h2, _⟩ := p
  exact PySem.W.kia_one PySem.W.kitx_tuple I.kIn ⟨o, h1, h2⟩ e (fun z => nomatch z) h
 | @dK a kvs ea =>
  cases (show u = Value.ref a from rx)
  obtain ⟨_, _, vs, _, p⟩ := (show ObjOk X.prog X.w H s.heap a (.dK kvs) from I.hok a _ ea)
  obtain ⟨o, es, ep, h1, h2, _⟩ := p
  exact PySem.W.kia_one PySem.W.kitx_dict I.kIn ⟨o, h1, h2.1⟩ e (fun z => nomatch z) h
 | @dT a kvs ea =>
  cases (show u = Value.ref a from rx)
  obtain ⟨_, _, xs, _, o, es, ep, h1, h2, _⟩ := (show ObjOk X.prog X.w H s.heap a (.dT kvs) from I.hok a _ ea)
  exact PySem.W.kia_one PySem.W.kitx_dict I.kIn ⟨o, h1, h2.1⟩ e (fun z => nomatch z) h
 | @ins a C dx fs ea cl ha hn htk hm =>
  cases (show u = Value.ref a from rx)
  obtain ⟨mA, O, _⟩ := ins_get I.hok ea
  obtain ⟨od, J, _⟩ := O.look
  exact PySem.W.kia_one (PySem.W.kitx_own (cl.get _) cl.hd ha hn htk hm) I.kIn J e (fun z => nomatch z) h
end
end L2
namespace L2
open PySem PySem.Spec PyProof.Rows
structure Room (k : Nat) (A : Around) : Prop where
 hd : A.handled = none
 dp : A.depth + 3 * k + 5 < recursionLimit
 un : A.units + 16 * k + 200 < cLine
 gd : A.guards = some [] := by rfl
theorem Room.mono {j k : Nat} {A : Around} (r : Room k A) (h : j <= k) : Room j A := ⟨r.hd, by have := r.dp; omega, by have := r.un; omega, r.gd⟩
theorem Room.deeper {k : Nat} {A : Around} (r : Room (k + 1) A) (env : Env) : Room k (A.deeper env) :=
 ⟨r.hd, by have := r.dp; show A.depth + 1 + 3 * k + 5 < _; omega, by have := r.un; show A.units + 3 + 16 * k + 200 < _; omega, r.gd⟩
theorem make_depth {A : Around} {C : Addr} {us : List Value} {kw : List (Str × Value)} : (A.under (.builtin "type.__call__" ⟨.ref C :: us, kw⟩)).depth = A.depth + 1 := by
 first | rfl | simp [Around.under, Code.weight, Code.isCreation, Code.isGuard, Code.isCaller, Code.frames, Code.isFrame, guardIds]
theorem make_units {A : Around} {C : Addr} {us : List Value} {kw : List (Str × Value)} : (A.under (.builtin "type.__call__" ⟨.ref C :: us, kw⟩)).units = A.units + 1 := by
 first | rfl | simp [Around.under, Code.cUnits, Code.frames, Code.isFrame]
theorem Room.make {k : Nat} {A : Around} (r : Room (k + 1) A) (C : Addr) (us : List Value) (kw : List (Str × Value)) : Room k (A.under (.builtin "type.__call__" ⟨.ref C :: us, kw⟩)) :=
 ⟨r.hd, by have := r.dp; rw [make_depth]; omega, by have := r.un; rw [make_units]; omega, by have := r.gd; first | exact this | simp [Around.under, Code.weight, Code.isCreation, Code.isGuard, Code.isCaller, Code.frames, Code.isFrame, guardIds, this]⟩
theorem Room.depth {k : Nat} {A : Around} (r : Room k A) : A.depth < recursionLimit := by have := r.dp; omega
theorem Room.units {k : Nat} {A : Around} (r : Room k A) : A.units + 64 < cLine := by have := r.un; omega
def tNil : TA := fun _ H Q => Q [] H
def tCons (ta : TE) (tr : TA) : TA := fun σ H Q => ta σ H fun x H1 => tr σ H1 fun xs H2 => Q (x :: xs) H2
section
variable {X : Cx} {e : Expr} {es : List Expr} {te : TE} {t : TA} {pos : Pos}
theorem pa_nil : PA X [] tNil := fun _ _ _ _ H Q I h => Calls.spliced_nil ⟨[], H, I, .nil, h⟩
theorem pa_cons (ha : PE X e te) (hr : PA X es t) (hs : starEach (e :: es) X.env = (false, eval e X.env) :: starEach es X.env := by rfl) : PA X (e :: es) (tCons te t) := by
 intro pos pins s σ H Q I h
 rw [hs]
 show wpAny _ _ (spliced ((false, eval e X.env) :: backTo pos (starEach es X.env))) _ _ s
 refine Calls.spliced_cons (thn (ha pins s σ H _ I h) fun u s1 ⟨x, H1, I1, r1, q1⟩ => ?_)
 exact thn (hr pos pins s1 σ H1 _ I1 q1) fun us s2 ⟨xs, H2, I2, r2, q2⟩ => ⟨x :: xs, H2, I2, .cons r1 r2, q2⟩
def tTup (t : TA) : TE := fun σ H Q => t σ H fun xs H1 => xs.length <= sizeLine /\ ∀ p, H1 p = none -> Q (.ref p) (upd H1 p (.tup xs))
def tLst (t : TA) : TE := fun σ H Q => t σ H fun xs H1 => xs.length <= sizeLine /\ ∀ p, H1 p = none -> Q (.ref p) (upd H1 p (.lst xs))
theorem pe_tup {x1} (h : PA X es t) : PE X (.Tuple es x1 pos) (tTup t) := by
 intro pins s σ H Q I hq
 refine wpAny_Tuple_spliced (thn (h pos pins s σ H _ I hq) fun us s1 ⟨xs, H1, I1, r, z, q⟩ => ⟨by rw [<- r.length]; exact z, ?_⟩)
 have hf : H1 s1.heap.objs.size = none := I1.hok.fresh (Nat.le_refl _)
 refine ⟨.ref s1.heap.objs.size, upd H1 s1.heap.objs.size (.tup xs), I1.laid (t' := s1.toks) (fun b u e => Heap.get?_push_of_some _ e) (Nat.le_refl _) ?_, rfl, q _ hf⟩
 exact ⟨z, us, r, ⟨_, Heap.get?_push_size _ rfl, rfl, _, rfl⟩⟩
theorem pe_lst (h : PA X es t) : PE X (.List es pos) (tLst t) := by
 intro pins s σ H Q I hq
 refine wpAny_List_spliced (thn (h pos pins s σ H _ I hq) fun us s1 ⟨xs, H1, I1, r, z, q⟩ => ⟨by rw [<- r.length]; exact z, ?_⟩)
 have hf : H1 s1.heap.objs.size = none := I1.hok.fresh (Nat.le_refl _)
 refine ⟨.ref s1.heap.objs.size, upd H1 s1.heap.objs.size (.lst xs), I1.laid (t' := s1.toks) (fun b u e => Heap.get?_push_of_some _ e) (Nat.le_refl _) ?_, rfl, q _ hf⟩
 exact ⟨z, us, 0, r, Heap.get?_push_size _ rfl⟩
end
abbrev Sp := List V -> Hp -> VK -> XK -> Prop
abbrev CXT := List Env -> Hp -> Shared -> XK -> Value -> Shared -> Prop
structure Env0 (P : Program) (w : World) (K : PySem.W.Frag) (mg : Str -> Option Value) (base : Heap) (A : Around) (outer : List Env) (s : Shared) (H : Hp) : Prop where
 frames : A.frames = some outer
 mod : Mod K mg base
 bs : ∀ b o, base.get? b = some o -> s.heap.get? b = some o /\ H b = none
 bsz : base.objs.size <= s.heap.objs.size
 funs : s.heap.FunFrames base outer
 frf : ∀ b ∈ frs outer, H b = none
 hok : HOk P w H s.heap
 bare : AllBare s.gens
def CE (outer : List Env) (P : Program) (w : World) (H : Hp) (s : Shared) (Q : VK) (u : Value) (s' : Shared) : Prop :=
 ∃ v H', s'.os = s.os /\ AllBare s'.gens /\ Un (frs outer) [] H H' s.heap s'.heap /\ HOk P w H' s'.heap /\ RelV v u /\ Q v H'
def CR (CX : CXT) (outer : List Env) (P : Program) (w : World) (H : Hp) (s : Shared) (Q : VK) (E : XK) (r : Result) (s' : Shared) : Prop :=
 match r with
 | .ok (.ret u) => CE outer P w H s Q u s'
 | .ok _ => False
 | .error e => CX outer H s E e s'
structure FnOk (P : Program) (w : World) (K : PySem.W.Frag) (mg : Str -> Option Value) (base : Heap) (CX : CXT) (k : Nat) (f : Addr) (fd : FuncData) (ps : List Str) (sp : Sp) : Prop where
 len : ∀ vs H Q E, sp vs H Q E -> vs.length = ps.length
 run : ∀ (A : Around) (outer : List Env) (s : Shared) (H : Hp) (args : Args) (us : List Value) (vs : List V) (Q : VK) (E : XK), Room k A -> Env0 P w K mg base A outer s H -> BindsTo s fd args (ps.zip us) -> Vals vs us -> sp vs H Q E →
  codeAny (model P w) A (.call (.ref f) args) (CR CX outer P w H s Q E) s
theorem FnOk.mono {P : Program} {w : World} {K : PySem.W.Frag} {mg : Str -> Option Value} {base : Heap} {CX : CXT} {j k : Nat} {f : Addr} {fd : FuncData} {ps : List Str} {sp : Sp} (F : FnOk P w K mg base CX j f fd ps sp) (h : j <= k) :
  FnOk P w K mg base CX k f fd ps sp := ⟨F.len, fun A outer s H args us vs Q E hr => F.run A outer s H args us vs Q E (hr.mono h)⟩
theorem Env0.make {P : Program} {w : World} {K : PySem.W.Frag} {mg : Str -> Option Value} {base : Heap} {A : Around} {outer : List Env} {s : Shared} {H : Hp} (e : Env0 P w K mg base A outer s H) (C : Addr) (us : List Value) (kw : List (Str × Value)) :
  Env0 P w K mg base (A.under (.builtin "type.__call__" ⟨.ref C :: us, kw⟩)) outer s H := ⟨by first | exact e.frames | (simpa [Around.under, Code.envs, Code.isFrame, pushEnvs] using e.frames), e.mod, e.bs, e.bsz, e.funs, e.frf, e.hok, e.bare⟩
section
variable {X : Cx} {pins : List (Addr × Obj)} {σ : St} {H : Hp} {s s' : Shared}
theorem Inv.env0 (I : Inv X pins σ H s) : Env0 X.prog X.w X.K X.mg X.base X.A X.stack s H :=
 ⟨I.ok.frames, I.ok.mod, I.bs, Nat.le_trans I.ok.bsz I.sz, I.stack, I.stkFree, I.hok, I.bare⟩
theorem Inv.after {Q : VK} {u : Value} (I : Inv X pins σ H s) (h : CE X.stack X.prog X.w H s Q u s') : EP X pins σ Q u s' := by
 obtain ⟨v, H', os, bare, un, hok, r, q⟩ := h
 obtain ⟨hh, g, d, t, os'⟩ := s'
 obtain rfl : os' = s.os := os
 exact ⟨v, H', I.call (h' := hh) (g' := g) (d' := d) (t' := t) (ch := []) un hok bare (fun b z => absurd z (by simp)), r, q⟩
end
def tCall (sp : Sp) (dvs : List V) (E : XK) (t : TA) : TE := fun σ H Q => t σ H fun vs H1 => sp (vs ++ dvs) H1 Q E
def tMeth (C : Addr) (m : Str) (sp : Sp) (dvs : List V) (E : XK) (ta : TE) (t : TA) : TE := fun σ H Q => ta σ H fun x H1 => ∃ a dx fs, x = .ref a /\ H1 a = some (.ins C dx fs) /\ fs.lookup m = none ∧
 t σ H1 fun vs H2 => sp (x :: (vs ++ dvs)) H2 Q E
def tMake (C : Addr) (sp : Sp) (dvs : List V) (E : XK) (t : TA) : TE := fun σ H Q => t σ H fun vs H1 => ∀ x dx, H1 x = none -> H1 dx = none -> dx ≠ x →
 sp (.ref x :: (vs ++ dvs)) (upd (upd H1 dx (.own x)) x (.ins C dx [])) (fun v H2 => v = .non /\ Q (.ref x) H2) E
def Binds (K : PySem.W.Frag) (fd : FuncData) (ps : List Str) (ds : List Value) : Prop :=
 ∀ (s : Shared) (us : List Value), K.In s.heap -> (us ++ ds).length = ps.length -> BindsTo s fd ⟨us, []⟩ (ps.zip (us ++ ds))
theorem Binds.all {K : PySem.W.Frag} {fd : FuncData} {ps : List Str} (h : ∀ us : List Value, us.length = ps.length -> bindArgs fd ⟨us, []⟩ = pure (ps.zip us)) : Binds K fd ps [] := fun s us _ hl => by
 rw [List.append_nil] at hl ⊢
 exact .of_eq (h us hl)
def Passes (CX : CXT) (X : Cx) (E : XK) : Prop := ∀ (pins : List (Addr × Obj)) (σ : St) (H : Hp) (s : Shared) (e : Value) (s' : Shared), Inv X pins σ H s -> CX X.stack H s E e s' -> X.xe e s'
section
variable {X : Cx} {CX : CXT} {k : Nat} {f C : Addr} {fd : FuncData} {ps : List Str} {sp : Sp} {dvs : List V} {ds : List Value} {E : XK} {x m : Str} {p pos apos : Pos} {e o : Expr} {es : List Expr} {ta : TE} {t : TA}
theorem run_fn {pins : List (Addr × Obj)} {σ : St} {H : Hp} {s : Shared} {Q : VK} {us : List Value} {vs : List V} (F : FnOk X.prog X.w X.K X.mg X.base CX k f fd ps sp) (hr : Room k X.A) (hb : Binds X.K fd ps ds) (hd : Vals dvs ds) (hx : Passes CX X E)
  (I : Inv X pins σ H s) (r : Vals vs us) (h : sp (vs ++ dvs) H Q E) : wpAny (model X.prog X.w) X.A (call (.ref f) us) (EP X pins σ Q) X.xe s := by
 have r2 : Vals (vs ++ dvs) (us ++ ds) := r.append hd
 have hl : (us ++ ds).length = ps.length := by rw [<- r2.length]; exact F.len _ _ _ _ h
 refine wpAny_call (codeAny_mono (F.run X.A X.stack s H ⟨us, []⟩ (us ++ ds) (vs ++ dvs) Q E hr I.env0 (hb s us I.kIn hl) r2 h) fun r s' hq => ?_)
 cases r with
 | error e => exact hx pins σ H s e s' I hq
 | ok fl =>
  cases fl with
  | ret u => exact I.after hq
  | next => exact False.elim hq
  | brk => exact False.elim hq
  | cont => exact False.elim hq
theorem pe_call (F : FnOk X.prog X.w X.K X.mg X.base CX k f fd ps sp) (hr : Room k X.A) (hg : Gl X x) (hm : X.mg x = some (.ref f)) (hk : PySem.W.keepIn X.K (.ref f) = true) (hb : Binds X.K fd ps ds) (hd : Vals dvs ds) (hx : Passes CX X E)
  (ha : PA X (e :: es) t) (hdb : (x == ("__debug__" : Str)) = false := by decide) (he : starEach (e :: es) X.env = (false, eval e X.env) :: starEach es X.env := by rfl) (hpl : (backTo pos (starEach es X.env)).any (·.1) = false := by rfl) :
  PE X (.Call (.Name x p) (e :: es) [] pos) (tCall sp dvs E t) := by
 intro pins s σ H Q I h
 refine wpAny_Call_Name_kw (ld_glob I hg hm ?_ hdb)
 refine PySem.W.callWith_K (h₀ := X.base) I.ok.mod.kin hk (thn (ha pos pins s σ H _ I h) fun us s1 ⟨vs, H1, I1, r, q⟩ => ⟨I1.kIn, ?_⟩) he hpl
 exact run_fn F hr hb hd hx I1 r q
theorem pe_meth {pl : Sem Bool} (he : PE X o ta) (c : Cls X.K C) (hm : Meth X.K C m f) (F : FnOk X.prog X.w X.K X.mg X.base CX k f fd ps sp) (hr : Room k X.A) (hb : Binds X.K fd ps ds) (hd : Vals dvs ds) (hx : Passes CX X E) (ha : PA X (e :: es) t)
  (hst : starEach (e :: es) X.env = (false, eval e X.env) :: starEach es X.env := by rfl) (hpl : (backTo pos (starEach es X.env)).any (·.1) = false := by rfl)
  (ht : eval (.Call (.Attribute o m apos) (e :: es) [] pos) X.env = (do
   let ov ← eval o X.env
   standAt apos.atName
   let (f, first) ← holding [ov] (getMethod ov m pl)
   callWith pos f first (backTo pos (starEach (e :: es) X.env)) (backToKw pos (keywordEach [] X.env))) := by rfl) :
  PE X (.Call (.Attribute o m apos) (e :: es) [] pos) (tMeth C m sp dvs E ta t) := by
 intro pins s σ H Q I h
 refine PySem.W.methodCall_KW (pl := pl) (thn (he pins s σ H _ I h) fun u s1 ⟨x, H1, I1, rx, a, dx, fs, ex, ea, l, q⟩ => ?_) ht
 subst ex
 obtain rfl : u = Value.ref a := rx
 refine getmeth_ok I1 ea c hm l ?_
 refine PySem.W.callWith_K (first := [.ref a]) (h₀ := X.base) I.ok.mod.kin hm.kp (thn (ha pos pins s1 σ H1 _ I1 q) fun us s2 ⟨vs, H2, I2, r, q2⟩ => ⟨I2.kIn, ?_⟩) hst hpl
 exact run_fn (us := .ref a :: us) (vs := .ref a :: vs) F hr hb hd hx I2 (.cons rfl r) q2
theorem pe_meth0 {pl : Sem Bool} (he : PE X o ta) (c : Cls X.K C) (hm : Meth X.K C m f) (F : FnOk X.prog X.w X.K X.mg X.base CX k f fd ps sp) (hr : Room k X.A) (hb : Binds X.K fd ps ds) (hd : Vals dvs ds) (hx : Passes CX X E)
  (ht : eval (.Call (.Attribute o m apos) [] [] pos) X.env = (do
   let ov ← eval o X.env
   standAt apos.atName
   let (f, first) ← holding [ov] (getMethod ov m pl)
   callWith pos f first (backTo pos (starEach [] X.env)) (backToKw pos (keywordEach [] X.env))) := by rfl) :
  PE X (.Call (.Attribute o m apos) [] [] pos) (tMeth C m sp dvs E ta tNil) := by
 intro pins s σ H Q I h
 refine PySem.W.methodCall_KW (pl := pl) (thn (he pins s σ H _ I h) fun u s1 ⟨x, H1, I1, rx, a, dx, fs, ex, ea, l, q⟩ => ?_) ht
 subst ex
 obtain rfl : u = Value.ref a := rx
 refine getmeth_ok I1 ea c hm l ?_
 exact PySem.W.callWith_K0 (first := [.ref a]) I1.kIn hm.kp (run_fn (us := [.ref a]) (vs := [.ref a]) F hr hb hd hx I1 (.cons rfl .nil) q)
structure Mk (K : PySem.W.Frag) (C f : Addr) : Prop where
 makes : PySem.W.makesIn K C = true
 init : PySem.W.findIn K (.ref C) "__init__" = some (some (.ref f))
 fn : PySem.W.isFn K (.ref f) = true
 kp : PySem.W.keepIn K (.ref C) = true
theorem run_make {pins : List (Addr × Obj)} {σ : St} {H : Hp} {s : Shared} {Q : VK} {us : List Value} {vs : List V} (M : Mk X.K C f) (F : FnOk X.prog X.w X.K X.mg X.base CX k f fd ps sp) (hr : Room (k + 1) X.A) (hb : Binds X.K fd ps ds) (hd : Vals dvs ds)
  (hx : Passes CX X E) (I : Inv X pins σ H s) (r : Vals vs us)
  (h : ∀ x dx, H x = none -> H dx = none -> dx ≠ x -> sp (.ref x :: (vs ++ dvs)) (upd (upd H dx (.own x)) x (.ins C dx [])) (fun v H2 => v = .non /\ Q (.ref x) H2) E) :
  wpAny (model X.prog X.w) X.A (call (.ref C) us) (EP X pins σ Q) X.xe s := by
 have hq := h (s.heap.objs.size + 1) s.heap.objs.size (I.hok.fresh (Nat.le_succ _)) (I.hok.fresh (Nat.le_refl _)) (Nat.ne_of_lt (Nat.lt_succ_self _))
 have I2 := Inv.made (C := C) I
 have r2 : Vals (V.ref (s.heap.objs.size + 1) :: (vs ++ dvs)) (Value.ref (s.heap.objs.size + 1) :: (us ++ ds)) := .cons rfl (r.append hd)
 have hl : (Value.ref (s.heap.objs.size + 1) :: us ++ ds).length = ps.length := by
  have e := r2.length
  rw [F.len _ _ _ _ hq] at e
  exact e.symm
 refine wpAny_call (make_map (f := f) I.kIn M.makes M.init (beq_iff_eq.mp M.fn) (codeAny_mono (F.run _ X.stack _ _ ⟨Value.ref (s.heap.objs.size + 1) :: us, []⟩ (Value.ref (s.heap.objs.size + 1) :: (us ++ ds)) _ _ E (hr.make C us [])
  (I2.env0.make C us []) (hb _ (Value.ref (s.heap.objs.size + 1) :: us) I2.kIn hl) r2 hq) fun r s' hq' => ?_))
 cases r with
 | error e => exact hx pins σ _ _ e s' I2 hq'
 | ok fl =>
  cases fl with
  | ret u =>
   obtain ⟨v, H', I3, rv, ev, q3⟩ := I2.after hq'
   subst ev
   exact ⟨rv, ⟨V.ref (s.heap.objs.size + 1), H', I3, rfl, q3⟩⟩
  | next => exact False.elim hq'
  | brk => exact False.elim hq'
  | cont => exact False.elim hq'
theorem pe_make (M : Mk X.K C f) (F : FnOk X.prog X.w X.K X.mg X.base CX k f fd ps sp) (hr : Room (k + 1) X.A) (hg : Gl X x) (hm : X.mg x = some (.ref C)) (hb : Binds X.K fd ps ds) (hd : Vals dvs ds) (hx : Passes CX X E)
  (ha : PA X (e :: es) t) (hdb : (x == ("__debug__" : Str)) = false := by decide) (he : starEach (e :: es) X.env = (false, eval e X.env) :: starEach es X.env := by rfl) (hpl : (backTo pos (starEach es X.env)).any (·.1) = false := by rfl) :
  PE X (.Call (.Name x p) (e :: es) [] pos) (tMake C sp dvs E t) := by
 intro pins s σ H Q I h
 refine wpAny_Call_Name_kw (ld_glob I hg hm ?_ hdb)
 refine PySem.W.callWith_K (h₀ := X.base) I.ok.mod.kin M.kp (thn (ha pos pins s σ H _ I h) fun us s1 ⟨vs, H1, I1, r, q⟩ => ⟨I1.kIn, ?_⟩) he hpl
 exact run_make M F hr hb hd hx I1 r q
end
def PK (X : Cx) (kws : List Keyword) (t : TA) : Prop :=
 ∀ (pos : Pos) (pins : List (Addr × Obj)) (s : Shared) (σ : St) (H : Hp) (Q : List V -> Hp -> Prop), Inv X pins σ H s -> t σ H Q -> wpAny (model X.prog X.w) X.A (evalAll ((backToKw pos (keywordEach kws X.env)).map (·.2))) (AP X pins σ Q) X.xe s
section
variable {X : Cx} {CX : CXT} {k : Nat} {f C : Addr} {fd : FuncData} {ps ks : List Str} {sp : Sp} {E : XK} {x m : Str} {p pos apos kpos : Pos} {e o : Expr} {es : List Expr} {kws : List Keyword} {te ta : TE} {t tk : TA} {nm : Option Str}
structure KBinds (K : PySem.W.Frag) (fd : FuncData) (ps ks : List Str) (g : List Value -> List Value -> List Value) (gV : List V -> List V -> List V) : Prop where
 to : ∀ (s : Shared) (us ws : List Value), K.In s.heap -> (g us ws).length = ps.length -> BindsTo s fd ⟨us, ks.zip ws⟩ (ps.zip (g us ws))
 rel : ∀ {vs : List V} {us : List Value} {zs : List V} {ws : List Value}, Vals vs us -> Vals zs ws -> Vals (gV vs zs) (g us ws)
def tCallK (sp : Sp) (gV : List V -> List V -> List V) (E : XK) (t tk : TA) : TE := fun σ H Q => t σ H fun vs H1 => tk σ H1 fun zs H2 => sp (gV vs zs) H2 Q E
variable {g : List Value -> List Value -> List Value} {gV : List V -> List V -> List V}
end
structure FnScope (N P : List Str) (sc : Scope) : Prop where
 kind : sc.kind = .function
 co : sc.isCoroutine = false
 gen : sc.isGenerator = false
 nd : N.Nodup
 pre : N.take P.length = P
 par : ∀ x ∈ P, sc.names.lookup x = some .local \/ sc.names.lookup x = some .cell
 nofree : ∀ y ∈ sc.names, y.2 ≠ .free
theorem bindL_out {kindOf : Str -> Option NameKind} {x : Str} : ∀ {binds : List (Str × Value)} {m : Str -> Option Value}, (∀ v, (x, v) ∉ binds) -> bindL kindOf binds m x = m x
 | [], _, _ => rfl
 | (n, v) :: r, m, h => by
  unfold bindL
  rw [bindL_out fun w hw => h w (List.mem_cons_of_mem _ hw)]
  split
  ·have : x ≠ n := by rintro rfl; exact h v List.mem_cons_self
   simp [this]
  ·rfl
theorem bindC_out {kindOf : Str -> Option NameKind} {x : Str} : ∀ {binds : List (Str × Value)} {m : Str -> Option Value}, (∀ v, (x, v) ∉ binds) -> bindC kindOf binds m x = m x
 | [], _, _ => rfl
 | (n, v) :: r, m, h => by
  unfold bindC
  rw [bindC_out fun w hw => h w (List.mem_cons_of_mem _ hw)]
  split
  ·rfl
  ·have : x ≠ n := by rintro rfl; exact h v List.mem_cons_self
   simp [this]
theorem bindL_get {kindOf : Str -> Option NameKind} {x : Str} {v : Value} : ∀ {P : List Str} {vs : List Value} {i : Nat} {m : Str -> Option Value}, P.Nodup -> P[i]? = some x -> vs[i]? = some v -> kindOf x = some .local →
  bindL kindOf (P.zip vs) m x = some v
 | [], _, _, _, _, h, _, _ => by simp at h
 | _ :: _, [], _, _, _, _, h, _ => by simp at h
 | p :: P, w :: vs, 0, m, nd, h1, h2, hk => by
  simp at h1 h2; subst h1; subst h2
  show bindL kindOf ((p, w) :: P.zip vs) m p = _
  unfold bindL
  rw [bindL_out fun v hv => (List.nodup_cons.mp nd).1 (List.of_mem_zip hv).1, if_pos hk]
  simp
 | p :: P, w :: vs, i + 1, m, nd, h1, h2, hk => by
  show bindL kindOf ((p, w) :: P.zip vs) m x = _
  unfold bindL
  exact bindL_get (i := i) (List.nodup_cons.mp nd).2 (by simpa using h1) (by simpa using h2) hk
theorem bindC_get {kindOf : Str -> Option NameKind} {x : Str} {v : Value} : ∀ {P : List Str} {vs : List Value} {i : Nat} {m : Str -> Option Value}, P.Nodup -> P[i]? = some x -> vs[i]? = some v -> kindOf x ≠ some .local →
  bindC kindOf (P.zip vs) m x = some v
 | [], _, _, _, _, h, _, _ => by simp at h
 | _ :: _, [], _, _, _, _, h, _ => by simp at h
 | p :: P, w :: vs, 0, m, nd, h1, h2, hk => by
  simp at h1 h2; subst h1; subst h2
  show bindC kindOf ((p, w) :: P.zip vs) m p = _
  unfold bindC
  rw [bindC_out fun v hv => (List.nodup_cons.mp nd).1 (List.of_mem_zip hv).1, if_neg hk]
  simp
 | p :: P, w :: vs, i + 1, m, nd, h1, h2, hk => by
  show bindC kindOf ((p, w) :: P.zip vs) m x = _
  unfold bindC
  exact bindC_get (i := i) (List.nodup_cons.mp nd).2 (by simpa using h1) (by simpa using h2) hk
def start (N : List Str) (vs : List V) : St := vs.map some ++ List.replicate (N.length - vs.length) none
def cxOf (CX : CXT) (P : Program) (w : World) (K : PySem.W.Frag) (mg : Str -> Option Value) (base : Heap) (N : List Str) (qual : Str) (scope : Scope) (f : Addr) (cd : Value) (A : Around) (outer : List Env) (s : Shared) (H : Hp) (E : XK) : Cx where
 prog := P
 w := w
 K := K
 mg := mg
 base := base
 A := A.deeper (envOfC qual scope s.heap.objs.size f cd)
 N := N
 s₀ := s
 H₀ := H
 env := envOfC qual scope s.heap.objs.size f cd
 outer := outer
 stack := envOfC qual scope s.heap.objs.size f cd :: outer
 ex := []
 calm := true
 fn := fun _ => true
 pn := []
 xe := fun e s' => wpAny (model P w) (A.deeper (envOfC qual scope s.heap.objs.size f cd)) (leaving (envOfC qual scope s.heap.objs.size f cd) e) (fun _ s'' => CX outer H s E e s'') (fun e' s'' => CX outer H s E e' s'') s'
theorem cell_has {sc : Scope} {n : Nat} {x : Str} (h : sc.names.lookup x = some .cell) : ∃ c, (cellsFrom n sc.names []).lookup x = some c := by
 have q := PySem.W.cellsFrom_some sc.names n [] (.inl h)
 exact Option.isSome_iff_exists.mp q
theorem inv_start {CX : CXT} {P : Program} {w : World} {K : PySem.W.Frag} {mg : Str -> Option Value} {base : Heap} {N ps : List Str} {qual : Str} {scope : Scope} {f : Addr} {cd : Value} {A : Around} {outer : List Env} {s s1 : Shared} {H : Hp} {E : XK} {us : List Value} {vs : List V}
  (S : FnScope N ps scope) (hd : A.handled = none) (e0 : Env0 P w K mg base A outer s H) (hl : vs.length = ps.length) (r : Vals vs us)
  (x : InCallC s s.heap.objs.size (bindL (envOfC qual scope s.heap.objs.size f cd).kindOf (ps.zip us) fun _ => none) (cellsFrom (s.heap.objs.size + 1) scope.names []) (bindC (envOfC qual scope s.heap.objs.size f cd).kindOf (ps.zip us) fun _ => none) s1) :
  Inv (cxOf CX P w K mg base N qual scope f cd A outer s H E) [] (start N vs) H s1 := by
 have hpl : ps.length <= N.length := by have := congrArg List.length S.pre; rw [List.length_take] at this; omega
 obtain ⟨h1, tk, rfl, hk⟩ := x.done
 have noA : ∀ b : Addr, b ∉ (cxOf CX P w K mg base N qual scope f cd A outer s H E).ex := fun b z => absurd (show b ∈ ([] : List Addr) from z) (by simp)
 refine ⟨⟨e0.mod, S.kind, rfl, rfl, Nat.le_refl _, fun y z c h1 h2 => ?_, fun y hy => ?_, fun y c _ h => ?_, fun _ => hd, Around.frames_deeper e0.frames, .inr ⟨rfl, rfl⟩, fun b z => absurd z (noA b), e0.bs, e0.bsz, fun b _ _ => noA b, fun b z => absurd z (noA b), e0.funs, e0.frf⟩,
  rfl, e0.bare, Un.kept hk, ⟨_, x.toInCall.ns, fun i y v h1 h2 h3 => ?_⟩, fun y c h => ⟨_, x.cell y c h⟩, e0.hok.fresh (Nat.le_refl _), fun y c h => ?_, fun p hp => absurd (show p ∈ ([] : List (Addr × Obj)) from hp) (by simp), e0.hok.kept hk, ?_⟩
 ·exact name_of_addr x.apart (PySem.mem_of_lookup h1) (PySem.mem_of_lookup h2)
 ·have hy : scope.names.lookup y = some .cell \/ scope.names.lookup y = some .free := hy
  rcases hy with hy | hy
  ·exact cell_has hy
  ·exact absurd rfl (S.nofree _ (PySem.mem_of_lookup hy))
 ·exact Nat.le_of_lt (x.above y c (PySem.mem_of_lookup h))
 ·have hi : i < vs.length := by
   unfold start at h2
   by_cases hi : i < vs.length
   ·exact hi
   ·rw [List.getElem?_append_right (by simpa using hi)] at h2
    rw [List.getElem?_replicate] at h2
    split at h2 <;> cases h2
  have ha : vs[i]? = some v := by
   unfold start at h2
   rw [List.getElem?_append_left (by simpa using hi), List.getElem?_map] at h2
   cases e : vs[i]? with
   | none => rw [e] at h2; cases h2
   | some a => rw [e] at h2; cases h2; rfl
  obtain ⟨u, hu, rv⟩ := r.get ha
  have hp : ps[i]? = some y := by
   rw [<- S.pre, List.getElem?_take_of_lt (by omega)]; exact h1
  have ndP : ps.Nodup := by rw [<- S.pre]; exact S.nd.sublist (List.take_sublist _ _)
  refine ⟨u, rv, ?_⟩
  rcases S.par y (List.mem_of_getElem? hp) with k | k
  ·exact .inl ⟨k, bindL_get ndP hp hu k⟩
  ·obtain ⟨c, e⟩ := cell_has (n := s.heap.objs.size + 1) k
   refine .inr ⟨.inl k, c, e, ?_⟩
   have q := x.cell y c e
   rw [bindC_get ndP hp hu (by show scope.names.lookup y ≠ _; rw [k]; decide)] at q
   exact q
 ·exact e0.hok.fresh (Nat.le_of_lt (x.above y c (PySem.mem_of_lookup h)))
 ·unfold start
  show _ = N.length
  rw [List.length_append, List.length_map, List.length_replicate]
  omega
theorem fn_of {CX : CXT} {P : Program} {w : World} {K : PySem.W.Frag} {mg : Str -> Option Value} {base : Heap} {k : Nat} {f : Addr} {name qual : Str} {params : Arguments} {body : List Stmt} {scope : Scope} {dV kV doc pm cdv ct oc : Value} {an od : Option Addr}
  {osl : Array (Option Value)} {N ps : List Str} {sp : Sp} (lk : K.lookup f = some ⟨oc, od, .func (PySem.W.fnOf name qual params body scope dV kV doc pm an cdv ct), osl⟩) (hcd : PySem.W.codeIn K cdv qual = true) (S : FnScope N ps scope)
  (len : ∀ vs H Q E, sp vs H Q E -> vs.length = ps.length)
  (hbody : ∀ (A : Around) (outer : List Env) (s : Shared) (H : Hp) (vs : List V) (Q : VK) (E : XK), Room k (A.deeper (envOfC qual scope s.heap.objs.size f cdv)) -> sp vs H Q E →
   ∃ t, PSs (cxOf CX P w K mg base N qual scope f cdv A outer s H E) body t /\ t { nx := fun _ H' => Q .non H', rt := Q } (start N vs) H) :
  FnOk P w K mg base CX (k + 1) f (PySem.W.fnOf name qual params body scope dV kV doc pm an cdv ct) ps sp := by
 refine ⟨len, fun A outer s H args us vs Q E hr e0 hb r hsp => ?_⟩
 have hl := len _ _ _ _ hsp
 have KX : K.In s.heap := e0.mod.kin.keeps fun b o e => (e0.bs b o e).1
 have lim : s.heap.NoLimit := e0.mod.nolimit.keeps fun b o e => (e0.bs b o e).1
 have hkind : ∀ y ∈ ps.zip us, scope.names.lookup y.1 = some .local \/ (scope.names.lookup y.1 = some .cell /\ ((cellsFrom (s.heap.objs.size + 1) scope.names []).lookup y.1).isSome = true) := fun ⟨n, v⟩ hy => by
  rcases S.par n (List.of_mem_zip hy).1 with q | q
  ·exact .inl q
  ·exact .inr ⟨q, PySem.W.cellsFrom_some _ _ _ (.inl q)⟩
 refine codeAny_call_function hr.depth (KX _ _ lk) rfl S.co S.gen rfl (PySem.W.codeRec_of KX hcd) (hb _ _ _ _ ?_)
 refine wpAny_newFunctionEnv_cells S.kind hkind fun env he s1 x => ?_
 subst he
 refine ⟨lim.keeps x.toInCall.keep, codeAny_func ?_⟩
 obtain ⟨t, ht, hq⟩ := hbody A outer s H vs Q E (hr.deeper _) hsp
 have I : Inv (cxOf CX P w K mg base N qual scope f cdv A outer s H E) [] (start N vs) H s1 := inv_start S hr.hd e0 hl r x
 refine wpAny_mono (ht [] s1 (start N vs) H _ I hq) (fun fl s' hs => ?_) fun e s' hs => hs
 have fin : ∀ {σ' : St} {H' : Hp} {v : V} {u : Value}, Inv (cxOf CX P w K mg base N qual scope f cdv A outer s H E) [] σ' H' s' -> RelV v u -> Q v H' -> CE outer P w H s Q u s' :=
  fun {σ' H' v u} J rv q => ⟨v, H', J.os, J.bare, J.base, J.hok, rv, q⟩
 cases fl with
 | ret u =>
  obtain ⟨v, σ', H', J, rv, q⟩ := hs
  exact fin J rv q
 | next =>
  obtain ⟨σ', H', J, q⟩ := hs
  exact fin (v := V.non) (u := Value.none) J rfl q
 | brk =>
  obtain ⟨_, _, _, q⟩ := hs
  exact False.elim q
 | cont =>
  obtain ⟨_, _, _, q⟩ := hs
  exact False.elim q
end L2
namespace L2
open PySem PySem.Spec PyProof.Rows
section
variable {X : Cx} {x : Str} {p pos : Pos} {e : Expr} {es : List Expr} {t : TA} {id T : String} {r : List V -> Hp -> VK -> Prop}
def tCB (r : List V -> Hp -> VK -> Prop) (t : TA) : TE := fun σ H Q => t σ H fun vs H1 => r vs H1 Q
theorem pe_callB (hc : CallR X (.builtin id) r) (hg : Gl X x) (hm : X.mg x = none) (hv : bootBuiltins x = some (.builtin id)) (ha : PA X (e :: es) t) (hn : x ≠ "__name__" := by decide) (hdb : (x == ("__debug__" : Str)) = false := by decide)
  (he : starEach (e :: es) X.env = (false, eval e X.env) :: starEach es X.env := by rfl) (hpl : (backTo pos (starEach es X.env)).any (·.1) = false := by rfl) : PE X (.Call (.Name x p) (e :: es) [] pos) (tCB r t) := by
 intro pins s σ H Q I h
 refine wpAny_Call_Name_kw (ld_blt I hg hm hv ?_ hn hdb)
 exact PyProof.Rows.callWith_builtin1 (thn (ha pos pins s σ H _ I h) fun us s1 ⟨vs, H1, I1, r1, q1⟩ => hc pins s1 σ H1 vs us Q I1 r1 q1) he hpl
theorem pe_callTy (hc : CallR X (.type T) r) (hg : Gl X x) (hm : X.mg x = none) (hv : bootBuiltins x = some (.type T)) (ha : PA X (e :: es) t) (hn : x ≠ "__name__" := by decide) (hdb : (x == ("__debug__" : Str)) = false := by decide)
  (he : starEach (e :: es) X.env = (false, eval e X.env) :: starEach es X.env := by rfl) (hpl : (backTo pos (starEach es X.env)).any (·.1) = false := by rfl) : PE X (.Call (.Name x p) (e :: es) [] pos) (tCB r t) := by
 intro pins s σ H Q I h
 refine wpAny_Call_Name_kw (ld_blt I hg hm hv ?_ hn hdb)
 exact PyProof.Rows.callWith_type1 (thn (ha pos pins s σ H _ I h) fun us s1 ⟨vs, H1, I1, r1, q1⟩ => hc pins s1 σ H1 vs us Q I1 r1 q1) he hpl
end
end L2
namespace HT
open PySem PyProof.Rows
def lexLt : List Int -> List Int -> Bool
 | [], [] => false
 | [], _ :: _ => true
 | _ :: _, [] => false
 | x :: xs, y :: ys => if x = y then lexLt xs ys else decide (x < y)
section
open PySem.SeqAt
open PySem.AutoSeq1 (wpAny_loadPart')
open PySem.MeetsSeq PySem.MeetsSeq2 PySem.MeetsSeq3
end
section
variable {prog : Program} {w : World} {A : Around} {E : Value -> Shared -> Prop} {s : Shared}
def sIx (n d : Nat) : Option Int -> Nat
 | none => d
 | some v => if v < 0 then (v + (n : Int)).toNat else min v.toNat n
theorem sIx_none (n d : Nat) : sIx n d none = d := rfl
theorem sIx_nat (n d k : Nat) : sIx n d (some (k : Int)) = min k n := by
 show (if (k : Int) < 0 then ((k : Int) + (n : Int)).toNat else min (k : Int).toNat n) = min k n
 rw [if_neg (by omega), Int.toNat_natCast]
end
end HT
namespace L2
open PySem PySem.Spec PyProof.Rows
abbrev TO := St -> Hp -> (Option Int -> Hp -> Prop) -> Prop
def PO (X : Cx) (e : Option Expr) (t : TO) : Prop :=
 ∀ (pins : List (Addr × Obj)) (s : Shared) (σ : St) (H : Hp) (Q : Option Int -> Hp -> Prop), Inv X pins σ H s -> t σ H Q →
  wpAny (model X.prog X.w) X.A (evalPart e X.env) (fun u s' => ∃ o H', Inv X pins σ H' s' /\ IsPart u o /\ Q o H') X.xe s
def tNoPart : TO := fun _ H Q => Q none H
def tPart (t : TE) : TO := fun σ H Q => t σ H fun x H1 => ∃ i, x = .int i /\ Q (some i) H1
section
variable {X : Cx} {e : Expr} {te : TE} {lo hi : Option Expr} {tl th : TO} {pos p2 : Pos}
theorem po_none : PO X none tNoPart := by
 intro pins s σ H Q I h
 rw [evalPart_none]
 exact wpAny_pure ⟨none, H, I, .none, h⟩
theorem po_some (h : PE X e te) : PO X (some e) (tPart te) := by
 intro pins s σ H Q I hw
 rw [evalPart_some]
 refine thn (h pins s σ H _ I hw) fun u s1 ⟨x, H1, I1, r1, q1⟩ => ?_
 obtain ⟨i, rfl, q⟩ := q1
 obtain ⟨t, rfl⟩ := r1
 exact ⟨some i, H1, I1, .int i t, q⟩
def SlR (X : Cx) (r : V -> Option Int -> Option Int -> Hp -> VK -> Prop) : Prop :=
 ∀ (pins : List (Addr × Obj)) (s : Shared) (σ : St) (H : Hp) (x : V) (v vl vu : Value) (lo hi : Option Int) (sl : Addr) (Q : VK), Inv X pins σ H s -> RelV x v -> s.heap.IsSliceOf sl vl vu .none -> IsPart vl lo -> IsPart vu hi -> r x lo hi H Q →
  ∃ T id, typeLookup (.type T) "__getitem__" = pure (some (.builtin id)) ∧ s.TypeIs v T ∧ wpAny (model X.prog X.w) X.A (getItem v (.ref sl)) (EP X pins σ Q) X.xe s
def tSl (r : V -> Option Int -> Option Int -> Hp -> VK -> Prop) (te : TE) (tl th : TO) : TE := fun σ H Q => te σ H fun x H1 => tl σ H1 fun l H2 => th σ H2 fun u H3 => r x l u H3 Q
theorem pe_slice {r : V -> Option Int -> Option Int -> Hp -> VK -> Prop} (hr : SlR X r) (he : PE X e te) (hl : PO X lo tl) (hu : PO X hi th) : PE X (.Subscript e (.Slice lo hi none p2) pos) (tSl r te tl th) := by
 intro pins s σ H Q I h
 refine Subscript_ (thn (he pins s σ H _ I h) fun v s1 ⟨x, H1, I1, r1, q1⟩ => ?_)
 refine wpAny_Slice (thn (hl pins s1 σ H1 _ I1 q1) fun vl s2 ⟨l, H2, I2, pl, q2⟩ => thn (hu pins s2 σ H2 _ I2 q2) fun vu s3 ⟨u, H3, I3, pu, q3⟩ => ?_)
 rw [evalPart_none]
 refine wpAny_pure ?_
 have I4 : Inv X pins σ H3 { s3 with heap := s3.heap.push { cls := .type "slice", data := .fields #[vl, vu, .none] } } := I3.kept (t' := s3.toks) fun b ob q => Heap.get?_push_of_some _ q
 obtain ⟨T, id, hT, ht, hg⟩ := hr pins { s3 with heap := s3.heap.push { cls := .type "slice", data := .fields #[vl, vu, .none] } } σ H3 x v vl vu l u s3.heap.objs.size Q I4 r1 (Heap.IsSliceOf.new ..) pl pu q3
 show wpAny (model X.prog X.w) X.A (subscriptTail e (.Slice lo hi none p2) v (.ref s3.heap.objs.size)) (EP X pins σ Q) X.xe { s3 with heap := s3.heap.push { cls := .type "slice", data := .fields #[vl, vu, .none] } }
 exact tail_any (ops := [.ref s3.heap.objs.size, v]) ht hT hg (by with_unfolding_all rfl)
def cutV (xs : List V) (lo hi : Option Int) : List V := (xs.drop (HT.sIx xs.length 0 lo)).take (HT.sIx xs.length xs.length hi - HT.sIx xs.length 0 lo)
theorem cutV_length (xs : List V) (lo hi : Option Int) : (cutV xs lo hi).length <= xs.length := by
 unfold cutV
 rw [List.length_take, List.length_drop]
 omega
def rSlT (K : PySem.W.Frag) : V -> Option Int -> Option Int -> Hp -> VK -> Prop := fun x lo hi H Q => ∃ a xs, x = .ref a /\ SqT K H a xs ∧
 ¬ (HT.sIx xs.length 0 lo = 0 /\ HT.sIx xs.length xs.length hi = xs.length) /\ ∀ p, H p = none -> Q (.ref p) (upd H p (.tup (cutV xs lo hi)))
def rLtT (K : PySem.W.Frag) : R2 := fun x y H Q => ∃ a b ns ms, x = .ref a /\ y = .ref b /\ SqT K H a (ns.map V.int) /\ SqT K H b (ms.map V.int) /\ Q (.bl (HT.lexLt ns ms)) H
def rCatT (K : PySem.W.Frag) : R2 := fun x y H Q => ∃ a b xs ys, x = .ref a /\ y = .ref b /\ SqT K H a xs /\ SqT K H b ys /\ xs ≠ [] /\ xs.length + ys.length <= sizeLine ∧
 (ys = [] -> Q (.ref a) H) /\ (ys ≠ [] -> ∀ p, H p = none -> Q (.ref p) (upd H p (.tup (xs ++ ys))))
end
end L2
namespace L2
open PySem PySem.Spec PyProof.Rows
def ixN (n : Nat) (i : Int) : Option Nat := if 0 <= i then (if i < n then some i.toNat else none) else if -(n : Int) <= i then some (i + n).toNat else none
def atI {α : Type} (xs : List α) (i : Int) : Option α := (ixN xs.length i).bind fun j => xs[j]?
theorem ixN_seq {n : Nat} {i : Int} {j : Nat} (h : ixN n i = some j) : seqIndex? i n = some j /\ j < n /\ -(n : Int) <= i /\ i < n := by
 unfold ixN at h
 by_cases h0 : 0 <= i
 ·rw [if_pos h0] at h
  by_cases h1 : i < n
  ·rw [if_pos h1] at h
   have e : i.toNat = j := Option.some.inj h
   exact ⟨by rw [seqIndex_of h0 h1, e], by omega, by omega, h1⟩
  ·rw [if_neg h1] at h; cases h
 ·rw [if_neg h0] at h
  by_cases h1 : -(n : Int) <= i
  ·rw [if_pos h1] at h
   have e : (i + n).toNat = j := Option.some.inj h
   exact ⟨by rw [seqIndex_neg (by omega) h1, e], by omega, h1, by omega⟩
  ·rw [if_neg h1] at h; cases h
theorem atI_get {α : Type} {xs : List α} {i : Int} {v : α} (h : atI xs i = some v) : ∃ j, seqIndex? i xs.length = some j /\ xs[j]? = some v /\ j < xs.length /\ -(xs.length : Int) <= i /\ i < xs.length := by
 unfold atI at h
 cases e : ixN xs.length i with
 | none => rw [e] at h; cases h
 | some j =>
  rw [e] at h
  obtain ⟨h1, h2, h3, h4⟩ := ixN_seq e
  exact ⟨j, h1, h, h2, h3, h4⟩
theorem atI_nat {α : Type} {xs : List α} {j : Nat} {v : α} (h : xs[j]? = some v) : atI xs (j : Int) = some v := by
 have hj : j < xs.length := (List.getElem?_eq_some_iff.mp h).1
 have e : ixN xs.length (j : Int) = some j := by
  unfold ixN
  rw [if_pos (by omega), if_pos (by omega)]; simp
 unfold atI; rw [e]; exact h
def PlainIx (b : Expr) : Prop := ∀ o i, subscripted b false o i = operate [o, i] (getItem o i)
def IxR (X : Cx) (r : R2) : Prop :=
 ∀ (value slice : Expr) (pins : List (Addr × Obj)) (s : Shared) (σ : St) (H : Hp) (x y : V) (v u : Value) (Q : VK), Inv X pins σ H s -> RelV x v -> RelV y u -> r x y H Q →
  subscripted slice false v u = operate [v, u] (getItem v u) -> wpAny (model X.prog X.w) X.A (subscriptTail value slice v u) (EP X pins σ Q) X.xe s
def MtR (X : Cx) (id : String) (r : V -> List V -> Hp -> VK -> Prop) : Prop :=
 ∀ (pins : List (Addr × Obj)) (s : Shared) (σ : St) (H : Hp) (x : V) (xs : List V) (v : Value) (us : List Value) (Q : VK), Inv X pins σ H s -> RelV x v -> Vals xs us -> r x xs H Q →
  wpAny (model X.prog X.w) X.A (call (.builtin id) (v :: us)) (EP X pins σ Q) X.xe s
section
variable {X : Cx} {a b : Expr} {ta tb : TE} {pos : Pos}
theorem pe_ix {r : R2} (hr : IxR X r) (ha : PE X a ta) (hb : PE X b tb) (hs : PlainIx b) : PE X (.Subscript a b pos) (tOp r ta tb) := by
 intro pins s σ H Q I h
 exact Subscript_ (binT ha hb I h fun v u s2 x y H2 I2 rx ry q => hr a b pins s2 σ H2 x y v u Q I2 rx ry q (hs _ _))
def rIxL (K : PySem.W.Frag) : R2 := fun x y H Q => ∃ p xs i v, x = .ref p /\ y = .int i /\ SqL K H p xs /\ atI xs i = some v /\ Q v H
def rIxT (K : PySem.W.Frag) : R2 := fun x y H Q => ∃ p xs i v, x = .ref p /\ y = .int i /\ SqT K H p xs /\ atI xs i = some v /\ Q v H
def rIxS : R2 := fun x y H Q => ∃ z i c, x = .str z /\ y = .int i /\ z.length <= sizeLine /\ atI z.cps.toList i = some c /\ Q (.str ⟨#[c]⟩) H
theorem ix_list : IxR X (rIxL X.K) := by
 intro value slice pins s σ H x y v u Q I rx ry h hs
 obtain ⟨p, xs, i, z, rfl, rfl, hq, he, q⟩ := h
 cases rx
 obtain ⟨t, rfl⟩ := ry
 obtain ⟨its, r, pl, hz⟩ := I.list hq
 obtain ⟨j, h1, h2, h3, h4, h5⟩ := atI_get he
 obtain ⟨w, ew, rw'⟩ := r.get h2
 have hl := r.length
 have hn := line63
 have fin : EP X pins σ Q w s := ⟨z, H, I, rw', q⟩
 by_cases h0 : 0 <= i
 ·have hj : i.toNat = j := by
   rw [seqIndex_of h0 h5] at h1
   exact Option.some.inj h1
  exact item_listR pl.isList h0 (by omega) (by rw [hj]; simpa using ew) fin hs
 ·have hj : (i + (its.toArray.size : Int)).toNat = j := by
   rw [seqIndex_neg (by omega) h4] at h1
   rw [List.size_toArray, ← hl]
   exact Option.some.inj h1
  exact subscriptTail_builtinR (x := w) pl.isList.typeIs slot_list_getitem.lookup
   (wpAny_getItem_list_neg (Q := fun r s' => r = w /\ EP X pins σ Q r s') pl.isList (by omega) (by rw [List.size_toArray] <;> omega) (by omega) (by rw [hj]; simpa using ew) ⟨rfl, fin⟩) hs
theorem ix_tup : IxR X (rIxT X.K) := by
 intro value slice pins s σ H x y v u Q I rx ry h hs
 obtain ⟨p, xs, i, z, rfl, rfl, hq, he, q⟩ := h
 cases rx
 obtain ⟨t, rfl⟩ := ry
 obtain ⟨its, r, pl, hz⟩ := I.tuple hq
 obtain ⟨j, h1, h2, h3, h4, h5⟩ := atI_get he
 obtain ⟨w, ew, rw'⟩ := r.get h2
 have hl := r.length
 have hn := line63
 have fin : EP X pins σ Q w s := ⟨z, H, I, rw', q⟩
 exact subscriptTail_builtinR (x := w) pl.typeIs slot_tuple_getitem.lookup
  (getItem_tuple (j := j) (Q := fun r s' => r = w /\ EP X pins σ Q r s') pl (by omega) (by omega) (by rw [List.size_toArray, ← hl]; exact h1) (by simpa using ew) ⟨rfl, fin⟩) hs
def rIx (K : PySem.W.Frag) : R2 := fun x y H Q => rIxL K x y H Q \/ rIxT K x y H Q \/ rIxS x y H Q
theorem mapSeq_set (its : List Value) (n j : Nat) (u : Value) : Obj.mapSeq (·.setIfInBounds j u) { cls := .type "list", data := .seq its.toArray n } = { cls := .type "list", data := .seq (its.set j u).toArray n } := by
 simp [Obj.mapSeq]
theorem Inv.lst {pins : List (Addr × Obj)} {σ : St} {H : Hp} {s : Shared} {p : Addr} {xs : List V} (I : Inv X pins σ H s) (h : H p = some (.lst xs)) :
  ∃ (its : List Value) (n : Nat), Vals xs its ∧ s.heap.get? p = some { cls := .type "list", data := .seq its.toArray n } ∧ xs.length ≤ sizeLine := by
 obtain ⟨z, its, n, r, e⟩ := I.hok p _ h
 exact ⟨its, n, r, e, z⟩
theorem Inv.lstUpd {pins : List (Addr × Obj)} {σ : St} {H : Hp} {s : Shared} {p : Addr} {xs ys : List V} {its its' : List Value} {n n' : Nat} {f : Obj -> Obj} (I : Inv X pins σ H s) (h : H p = some (.lst xs))
  (ho : s.heap.get? p = some { cls := .type "list", data := .seq its.toArray n }) (hf : f { cls := .type "list", data := .seq its.toArray n } = { cls := .type "list", data := .seq its'.toArray n' }) (r : Vals ys its') (hz : ys.length ≤ sizeLine) (t : Nat) :
  Inv X pins σ (upd H p (.lst ys)) { s with heap := s.heap.update p f, toks := t } := by
 have e : (s.heap.update p f).get? p = some { cls := .type "list", data := .seq its'.toArray n' } := by
  rw [Heap.get?_update_self f ho (by rw [hf] <;> rfl), hf]
 refine I.write (x := p) (e := p) (by rw [h]; trivial) (.inl rfl) (fun b u hb q => (Heap.get?_update_other _ _ (Ne.symm hb)).trans q) ⟨_, e⟩ ?_
 exact ⟨hz, its', n', r, e⟩
def rSetL : V -> V -> V -> Hp -> (Hp -> Prop) -> Prop := fun o i v H Q => ∃ p xs k j, o = .ref p /\ i = .int k /\ H p = some (.lst xs) /\ ixN xs.length k = some j /\ Q (upd H p (.lst (xs.set j v)))
theorem set_list : PSet X rSetL := by
 intro pins s σ H o i v ov iv u Q I ro ri rv h
 obtain ⟨p, xs, k, j, rfl, rfl, hp, hj, q⟩ := h
 cases ro
 obtain ⟨t, rfl⟩ := ri
 obtain ⟨its, n, r, ho, hz⟩ := I.lst hp
 obtain ⟨h1, h2, h3, h4⟩ := ixN_seq hj
 have hl := r.length
 have hn := line63
 have I' : Inv X pins σ (upd H p (.lst (xs.set j v))) { s with heap := s.heap.update p (Obj.mapSeq (·.setIfInBounds j u)) } :=
  I.lstUpd hp ho (mapSeq_set its n j u) (r.set rv j) (by rw [List.length_set]; exact hz) s.toks
 by_cases h0 : 0 <= k
 ·have hk : k.toNat = j := by
   rw [seqIndex_of h0 h4] at h1
   exact Option.some.inj h1
  exact PySem.W.ki_setAt ho h0 (by omega) (by rw [List.size_toArray, ← hl]; exact h4) (by rw [hk]; exact ⟨_, I', q⟩)
 ·have hk : (k + (its.toArray.size : Int)).toNat = j := by
   rw [seqIndex_neg (by omega) h3] at h1
   rw [List.size_toArray, ← hl]
   exact Option.some.inj h1
  exact PySem.W.ki_setBack ho (by omega) (by rw [List.size_toArray, ← hl]; exact h3) (by omega) (by rw [hk]; exact ⟨_, I', q⟩)
theorem slice_bounds (lo hi : Option Int) (n : Nat) : (sliceBounds lo hi none n).1 = ((HT.sIx n 0 lo : Nat) : Int) /\ (sliceBounds lo hi none n).2.1 = ((HT.sIx n n hi : Nat) : Int) /\ (sliceBounds lo hi none n).2.2 = 1 := by
 refine ⟨?_, ?_, rfl⟩
 ·cases lo with
  | none => simp [sliceBounds, HT.sIx]
  | some i =>
   simp only [sliceBounds, HT.sIx, Option.getD_none, show (1 : Int) > 0 by decide, if_true]
   by_cases h : i < 0
   ·simp only [h, if_true] <;> omega
   ·simp only [h, if_false] <;> omega
 ·cases hi with
  | none => simp [sliceBounds, HT.sIx]
  | some i =>
   simp only [sliceBounds, HT.sIx, Option.getD_none, show (1 : Int) > 0 by decide, if_true]
   by_cases h : i < 0
   ·simp only [h, if_true] <;> omega
   ·simp only [h, if_false] <;> omega
theorem slicePick_cut (its : List Value) (lo hi : Option Int) : slicePick its.toArray lo hi none = ((its.drop (HT.sIx its.length 0 lo)).take (HT.sIx its.length its.length hi - HT.sIx its.length 0 lo)).toArray := by
 obtain ⟨h1, h2, h3⟩ := slice_bounds lo hi its.toArray.size
 unfold slicePick
 rw [h1, h2, h3]
 simp only [sliceRange_one, pick_run, List.size_toArray] <;> rfl
def rSlL (K : PySem.W.Frag) : V -> Option Int -> Option Int -> Hp -> VK -> Prop := fun x lo hi H Q => ∃ a xs, x = .ref a /\ SqL K H a xs /\ ∀ p, H p = none -> Q (.ref p) (upd H p (.lst (cutV xs lo hi)))
theorem sl_list : SlR X (rSlL X.K) := by
 intro pins s σ H x v vl vu lo hi sl Q I rx hs pl pu h
 obtain ⟨a, xs, rfl, hx, q⟩ := h
 cases rx
 obtain ⟨its, r, ht, hz⟩ := I.list hx
 have hlen := r.length
 refine ⟨"list", _, slot_list_getitem.lookup, ht.isList.typeIs, ?_⟩
 refine wpAny_getItem_list_slice ht.isList hs pl pu .none (by simp) ?_ (by rw [List.size_toArray] <;> omega)
 rw [slicePick_cut, ← hlen]
 refine ⟨.ref s.heap.objs.size, _, I.laid (t' := s.toks) (o := .lst (cutV xs lo hi)) (fun b ob q => Heap.get?_push_of_some _ q) (Nat.le_refl _) ?_, rfl, q _ (I.hok.fresh (Nat.le_refl _))⟩
 exact ⟨Nat.le_trans (cutV_length xs lo hi) hz, _, 0, (r.drop (HT.sIx xs.length 0 lo)).take (HT.sIx xs.length xs.length hi - HT.sIx xs.length 0 lo), Heap.get?_push_size _ rfl⟩
def flatV : V -> Bool
 | .non => true
 | .bl _ => true
 | .int _ => true
 | .str _ => true
 | _ => false
def eqV : V -> V -> Bool
 | .non, .non => true
 | .bl a, .bl b => a == b
 | .bl a, .int b => (if a then 1 else 0) == b
 | .int a, .bl b => a == (if b then 1 else 0)
 | .int a, .int b => a == b
 | .str a, .str b => a == b
 | _, _ => false
theorem eqAt_V {A : Around} {s : Shared} {y x : V} {u v : Value} (ry : RelV y u) (rx : RelV x v) (fy : flatV y = true) (fx : flatV x = true) : SeqAt.EqAt A s u v (eqV y x) := by
 cases y with
 | non =>
  cases ry
  cases x with
  | non => cases rx; exact SeqAt.EqAt.same _
  | bl b => cases rx; exact SeqAt.EqAt.none_bool b
  | int b => obtain ⟨t, rfl⟩ := rx; exact SeqAt.EqAt.none_int b t
  | str b => obtain ⟨t, rfl⟩ := rx; exact SeqAt.EqAt.none_str b t
  | _ => exact absurd (show false = true from fx) Bool.false_ne_true
 | bl a =>
  cases ry
  cases x with
  | non => cases rx; exact SeqAt.EqAt.bool_none a
  | bl b => cases rx; exact SeqAt.EqAt.bool_bool a b
  | int b => obtain ⟨t, rfl⟩ := rx; exact SeqAt.EqAt.bool_int a b t
  | str b => obtain ⟨t, rfl⟩ := rx; exact SeqAt.EqAt.bool_str a b t
  | _ => exact absurd (show false = true from fx) Bool.false_ne_true
 | int a =>
  obtain ⟨t', rfl⟩ := ry
  cases x with
  | non => cases rx; exact SeqAt.EqAt.int_none a t'
  | bl b => cases rx; exact SeqAt.EqAt.int_bool a t' b
  | int b => obtain ⟨t, rfl⟩ := rx; exact SeqAt.EqAt.int_int a t' b t
  | str b => obtain ⟨t, rfl⟩ := rx; exact SeqAt.EqAt.int_str a t' b t
  | _ => exact absurd (show false = true from fx) Bool.false_ne_true
 | str a =>
  obtain ⟨t', rfl⟩ := ry
  cases x with
  | non => cases rx; exact SeqAt.EqAt.str_none a t'
  | bl b => cases rx; exact SeqAt.EqAt.str_bool a t' b
  | int b => obtain ⟨t, rfl⟩ := rx; exact SeqAt.EqAt.str_int a t' b t
  | str b => obtain ⟨t, rfl⟩ := rx; exact SeqAt.EqAt.str_str a t' b t
  | _ => exact absurd (show false = true from fx) Bool.false_ne_true
 | _ => exact absurd (show false = true from fy) Bool.false_ne_true
def eqU (x : V) (u : Value) : Bool := match u with
 | .none => eqV .non x
 | .bool b => eqV (.bl b) x
 | .int i _ => eqV (.int i) x
 | .str z _ => eqV (.str z) x
 | _ => false
theorem eqU_of {x y : V} {u : Value} (r : RelV y u) (f : flatV y = true) : eqU x u = eqV y x := by
 cases y with
 | non => cases r; rfl
 | bl b => cases r; rfl
 | int i => obtain ⟨t, rfl⟩ := r; rfl
 | str z => obtain ⟨t, rfl⟩ := r; rfl
 | _ => exact absurd (show false = true from f) Bool.false_ne_true
theorem any_eqU {x : V} : ∀ {xs : List V} {us : List Value}, Vals xs us -> xs.all flatV = true -> us.any (eqU x) = xs.any fun y => eqV y x
 | _, _, .nil, _ => rfl
 | y :: xs, u :: us, .cons r t, f => by
  rw [List.all_cons, Bool.and_eq_true] at f
  rw [List.any_cons, List.any_cons, eqU_of r f.1, any_eqU t f.2]
theorem mem_eqAt {A : Around} {s : Shared} {x : V} {v : Value} (rx : RelV x v) (fx : flatV x = true) : ∀ {xs : List V} {us : List Value}, Vals xs us -> xs.all flatV = true -> ∀ u ∈ us, SeqAt.EqAt A s u v (eqU x u)
 | _, _, .nil, _ => fun u hu => by cases hu
 | y :: xs, u :: us, .cons r t, f => fun u' hu => by
  rw [List.all_cons, Bool.and_eq_true] at f
  rcases List.mem_cons.mp hu with rfl | hu
  ·rw [eqU_of r f.1]; exact eqAt_V r rx f.1 fx
  ·exact mem_eqAt rx fx t f.2 u' hu
def inV (x : V) (xs : List V) : Bool := xs.any fun y => eqV y x
def rIn (K : PySem.W.Frag) (neg : Bool) : R2 := fun x y H Q => ∃ p xs, y = .ref p /\ (SqL K H p xs \/ SqT K H p xs) /\ flatV x = true /\ xs.all flatV = true /\ Q (.bl (if neg then !inV x xs else inV x xs)) H
theorem op_in_seq : OpR X (compareOp .In) (rIn X.K false) := by
 intro pins s σ H x y v u Q I rx ry h
 obtain ⟨p, xs, rfl, hq, fx, fs, q⟩ := h
 cases ry
 rcases hq with hq | hq
 ·obtain ⟨its, r, pl, hz⟩ := I.list hq
  refine SeqAt.in_listAt (eqU x) pl.isList (fun w hw => mem_eqAt rx fx r fs w (by simpa using hw)) ⟨.bl _, H, I, rfl, ?_⟩
  rw [show its.toArray.any (eqU x) = its.any (eqU x) by simp, any_eqU r fs]
  exact q
 ·obtain ⟨its, r, pl, hz⟩ := I.tuple hq
  refine SeqAt.in_tupleAt (eqU x) pl (fun w hw => mem_eqAt rx fx r fs w (by simpa using hw)) ⟨.bl _, H, I, rfl, ?_⟩
  rw [show its.toArray.any (eqU x) = its.any (eqU x) by simp, any_eqU r fs]
  exact q
theorem call_len_seq : CallR X (.builtin "len") (fun xs H Q => ∃ p ys, xs = [.ref p] ∧ (SqL X.K H p ys ∨ SqT X.K H p ys) ∧ Q (.int ys.length) H) := by
 intro pins s σ H xs us Q I r h
 obtain ⟨p, ys, rfl, hq, q⟩ := h
 obtain ⟨u, rfl, rx⟩ := vals1 r
 cases rx
 have hn := line63
 rcases hq with hq | hq
 ·obtain ⟨its, r', pl, hz⟩ := I.list hq
  have hlen := r'.length
  exact Calls.call_len_list pl.isList (by simp only [List.size_toArray] <;> omega) ⟨.int ys.length, H, I.tok _, ⟨s.toks + 1, by rw [List.size_toArray, hlen]⟩, q⟩
 ·obtain ⟨its, r', pl, hz⟩ := I.tuple hq
  have hlen := r'.length
  exact len_tuple pl (by simp only [List.size_toArray] <;> omega) ⟨.int ys.length, H, I.tok _, ⟨s.toks + 1, by rw [List.size_toArray, hlen]⟩, q⟩
theorem call_list_of : CallR X (.type "list") (fun xs H Q => ∃ p ys, xs = [.ref p] ∧ (SqL X.K H p ys ∨ SqT X.K H p ys) ∧ ∀ l, H l = none → Q (.ref l) (upd H l (.lst ys))) := by
 intro pins s σ H xs us Q I r h
 obtain ⟨p, ys, rfl, hq, q⟩ := h
 obtain ⟨u, rfl, rx⟩ := vals1 r
 cases rx
 have fin : ∀ (its : List Value), Vals ys its -> ys.length <= sizeLine -> ∀ (h' : Heap) (c' : Nat), (∀ b o', s.heap.get? b = some o' -> h'.get? b = some o') →
   h'.get? s.heap.objs.size = some { cls := .type "list", dict := none, data := .seq its.toArray c', slots := #[] } → EP X pins σ Q (.ref s.heap.objs.size) { s with heap := h' } := fun its r' hz h' c' kp e =>
  ⟨.ref s.heap.objs.size, _, I.laid (t' := s.toks) kp (Nat.le_refl _) (show ObjOk X.prog X.w _ h' _ (.lst ys) from ⟨hz, its, c', r', e⟩), rfl, q _ (I.hok.fresh (Nat.le_refl _))⟩
 rcases hq with hq | hq
 ·obtain ⟨its, r', pl, hz⟩ := I.list hq
  have hlen := r'.length
  obtain ⟨o, ho, hc, n, hd⟩ := pl.isList
  exact call_list_seq p (.inl rfl) ho hc hd (fun h' c' kp e => fin its r' hz h' c' kp e) (by simp only [List.size_toArray] <;> omega)
 ·obtain ⟨its, r', pl, hz⟩ := I.tuple hq
  have hlen := r'.length
  obtain ⟨o, ho, hc, n, hd⟩ := pl
  exact call_list_seq p (.inr rfl) ho hc hd (fun h' c' kp e => fin its r' hz h' c' kp e) (by simp only [List.size_toArray] <;> omega)
def tyV (K : PySem.W.Frag) (T : String) (x : V) (H : Hp) : Prop := match x with
 | .str _ => T = "str"
 | .int _ => T = "int"
 | .ref p => (T = "list" ∧ ∃ xs, SqL K H p xs) ∨ (T = "tuple" ∧ ∃ o, K.lookup p = some o ∧ o.cls = .type "tuple" ∧ o.dict = none) ∨
   (T = "dict" ∧ ((∃ kvs, H p = some (.dK kvs)) ∨ ∃ kvs, H p = some (.dT kvs))) ∨ (T = "set" ∧ ∃ S n, H p = some (.set S n))
 | _ => False
theorem tyV_is {pins : List (Addr × Obj)} {σ : St} {H : Hp} {s : Shared} {T : String} {x : V} {v : Value} (I : Inv X pins σ H s) (r : RelV x v) (ty : tyV X.K T x H) :
  s.TypeIs v T /\ ∀ a, v = .ref a -> ∃ ob, s.heap.get? a = some ob /\ ob.dict = none := by
 cases x with
 | str z =>
  obtain ⟨t, rfl⟩ := r
  cases (show T = "str" from ty)
  exact ⟨typeIs_str s z t, fun _ e => nomatch e⟩
 | int i =>
  obtain ⟨t, rfl⟩ := r
  cases (show T = "int" from ty)
  exact ⟨typeIs_int s i t, fun _ e => nomatch e⟩
 | ref p =>
  cases r
  rcases ty with ⟨rfl, xs, hq⟩ | ⟨rfl, o, hk, hc, hd⟩ | ⟨rfl, hk⟩ | ⟨rfl, S, n, hk⟩
  ·obtain ⟨its, _, pl, _⟩ := I.list hq
   refine ⟨pl.isList.typeIs, fun a e => ?_⟩
   cases e
   obtain ⟨o, n, e, c, hd, _⟩ := pl
   exact ⟨o, e, hd⟩
  ·refine ⟨⟨o, I.kIn p o hk, hc⟩, fun a e => ?_⟩
   cases e
   exact ⟨o, I.kIn _ o hk, hd⟩
  ·have z : ∃ o, s.heap.get? p = some o /\ o.ExactDict := by
    rcases hk with ⟨kvs, hk⟩ | ⟨kvs, hk⟩
    ·obtain ⟨_, _, _, _, o, _, _, e, ex, _⟩ := I.hok p _ hk
     exact ⟨o, e, ex⟩
    ·obtain ⟨_, _, _, _, o, _, _, e, ex, _⟩ := I.hok p _ hk
     exact ⟨o, e, ex⟩
   obtain ⟨o, e, ex⟩ := z
   refine ⟨⟨o, e, ex.1⟩, fun a e2 => ?_⟩
   cases e2
   exact ⟨o, e, ex.2.1⟩
  ·obtain ⟨o, _, _, _, e, ex, _⟩ := I.hok p _ hk
   refine ⟨⟨o, e, ex.1⟩, fun a e2 => ?_⟩
   cases e2
   exact ⟨o, e, ex.2.1⟩
 | _ => exact False.elim ty
def tBM0 (K : PySem.W.Frag) (T : String) (r : V -> List V -> Hp -> VK -> Prop) (to : TE) : TE := fun σ H Q => to σ H fun x H1 => tyV K T x H1 /\ r x [] H1 Q
def tBM (K : PySem.W.Frag) (T : String) (r : V -> List V -> Hp -> VK -> Prop) (to : TE) (t : TA) : TE := fun σ H Q => to σ H fun x H1 => tyV K T x H1 /\ t σ H1 fun xs H2 => r x xs H2 Q
variable {o e : Expr} {es : List Expr} {to : TE} {t : TA} {name : Str} {apos cpos : Pos} {T id : String} {r : V -> List V -> Hp -> VK -> Prop}
theorem pe_bm (pa : PlainAttrs T) (slot : Slot T name id) (hty : typeOf (.builtin id) = pure (.type "method_descriptor")) (hm : MtR X id r) (ho : PE X o to) (ha : PA X (e :: es) t)
  (hbase : attributeBase o name X.env (eval o X.env) = eval o X.env := by rfl)
  (hfew : ((backTo cpos (starEach (e :: es) X.env)).all (fun x => !x.1) && (backToKw cpos (keywordEach [] X.env)).all (fun x => x.1.isSome)
   && decide ((e :: es).length + ([] : List Keyword).length + (if ([] : List Keyword).isEmpty then 0 else 1) < 30)) = true := by rfl)
  (hline : (apos.endLine == cpos.line) = true := by rfl) (hs : starEach (e :: es) X.env = (false, eval e X.env) :: starEach es X.env := by rfl) (hplain : (backTo cpos (starEach es X.env)).any (·.1) = false := by rfl) :
  PE X (.Call (.Attribute o name apos) (e :: es) [] cpos) (tBM X.K T r to t) := by
 intro pins s σ H Q I h
 refine wpAny_Call_method_late hbase hfew hline rfl (thn (ho pins s σ H _ I h) fun v s1 ⟨x, H1, I1, r1, ty, q1⟩ => ?_)
 obtain ⟨h1, h2⟩ := tyV_is I1 r1 ty
 refine ⟨T, id, pa, slot, hty, h1, h2, ?_⟩
 have hA := ha cpos pins s1 σ H1 _ I1 q1
 rw [hs] at hA ⊢
 refine Calls.callWith_builtin (by show (false || (backTo cpos (starEach es X.env)).any (·.1)) = false; rw [hplain] <;> rfl) (Calls.evalArgs_plain ?_)
 exact thn hA fun us s2 ⟨vs, H2, I2, r2, q2⟩ => hm pins s2 σ H2 x vs v us Q I2 r1 r2 q2
end
end L2
namespace L2
open PySem PySem.Spec PyProof.Rows
def MtM (X : Cx) (id : String) (r : V -> List V -> Hp -> VK -> Prop) : Prop :=
 ∀ (pins : List (Addr × Obj)) (s : Shared) (σ : St) (H : Hp) (x : V) (xs : List V) (v : Value) (us : List Value) (Q : VK), Inv X pins σ H s -> RelV x v -> Vals xs us -> r x xs H Q →
  wpAny (model X.prog X.w) X.A (call (.builtin id) (v :: us)) (EP X pins σ Q) X.xe s
theorem Vals.one : ∀ {x : V} {us : List Value}, Vals [x] us -> ∃ u, us = [u] /\ RelV x u
 | _, _, .cons r .nil => ⟨_, rfl, r⟩
theorem Vals.rep {xs : List V} {us : List Value} (h : Vals xs us) : ∀ k : Nat, Vals (List.replicate k xs).flatten (List.replicate k us).flatten
 | 0 => .nil
 | k + 1 => by
  rw [List.replicate_succ, List.replicate_succ, List.flatten_cons, List.flatten_cons]
  exact Vals.append h (Vals.rep h k)
theorem foldl_rep (its : List Value) : ∀ (k : Nat) (acc : List Value),
  List.foldl (fun x1 x2 => x1 ++ x2) acc.toArray (List.replicate k its.toArray) = (acc ++ (List.replicate k its).flatten).toArray
 | 0, acc => by simp
 | k + 1, acc => by
  have e : acc.toArray ++ its.toArray = (acc ++ its).toArray := by simp
  have e2 : (acc ++ its) ++ (List.replicate k its).flatten = acc ++ (List.replicate (k + 1) its).flatten := by
   rw [List.replicate_succ, List.flatten_cons, List.append_assoc]
  rw [<- e2, ← foldl_rep its k (acc ++ its), ← e, List.replicate_succ, List.foldl_cons]
section
variable {X : Cx} {pins : List (Addr × Obj)} {σ : St} {H : Hp} {s : Shared} {l b : Addr} {xs ys zs : List V}
theorem Inv.lset {its its' : List Value} {n : Nat} {f : Array Value -> Array Value} {t' : Nat} (I : Inv X pins σ H s) (hH : H l = some (.lst xs))
  (e : s.heap.get? l = some { cls := .type "list", data := .seq its.toArray n }) (hf : f its.toArray = its'.toArray) (hv : Vals ys its') (hz : ys.length ≤ sizeLine) :
  Inv X pins σ (upd H l (.lst ys)) { s with heap := s.heap.update l (Obj.mapSeq f), toks := t' } := by
 have q := PySem.IsL.update e f
 rw [hf] at q
 refine I.write (x := l) (e := l) (by rw [hH]; exact trivial) (.inl rfl) (fun b' u hb hu => (Heap.get?_update_other s.heap (Obj.mapSeq f) (Ne.symm hb)).trans hu) ⟨_, q⟩ ?_
 exact ⟨hz, its', _, hv, q⟩
theorem Inv.lnew {its : List Value} {t' : Nat} (I : Inv X pins σ H s) (hv : Vals ys its) (hz : ys.length <= sizeLine) :
  Inv X pins σ (upd H s.heap.objs.size (.lst ys)) { s with heap := s.heap.push { cls := .type "list", data := .seq its.toArray }, toks := t' } :=
 I.laid (fun _ _ q => Heap.get?_push_of_some _ q) (Nat.le_refl _) ⟨hz, its, 0, hv, Heap.get?_push_size _ rfl⟩
theorem Inv.fresh (I : Inv X pins σ H s) : H s.heap.objs.size = none := I.hok.fresh (Nat.le_refl _)
theorem Inv.lstM (I : Inv X pins σ H s) (hH : H l = some (.lst xs)) : xs.length ≤ sizeLine ∧ ∃ (its : List Value) (n : Nat), Vals xs its ∧ xs.length = its.length ∧ s.heap.get? l = some { cls := .type "list", data := .seq its.toArray n } := by
 obtain ⟨z, its, n, r, e⟩ := I.hok l _ hH
 exact ⟨z, its, n, r, r.length, e⟩
theorem notLongL {n : Nat} (h : n <= sizeLine) : Builtin.List.listTooLong n = false := by
 unfold Builtin.List.listTooLong
 exact decide_eq_false (by omega)
end
section
variable {X : Cx}
def rAppend : V -> List V -> Hp -> VK -> Prop := fun x vs H Q => ∃ l xs y, x = .ref l /\ vs = [y] /\ H l = some (.lst xs) /\ xs.length < sizeLine /\ Q .non (upd H l (.lst (xs ++ [y])))
theorem mt_append : MtM X "list.append" rAppend := by
 intro pins s σ H x vs v us Q I rx rv h
 obtain ⟨l, xs, y, rfl, rfl, hH, hz, q⟩ := h
 cases rx
 obtain ⟨u, rfl, ru⟩ := rv.one
 obtain ⟨z, its, n, r, hl, e⟩ := I.lstM hH
 refine call_meets F.slot_list_append ⟨_, e, rfl⟩ F.entry_list_append (F.args_list_append_2 _ _) (PySem.list_append l its.toArray n u (by rw [List.size_toArray]; omega)) ⟨e, ?_⟩
 refine ⟨.non, _, I.lset (its' := its ++ [u]) hH e (by simp) (r.append (.cons ru .nil)) ?_, rfl, q⟩
 rw [List.length_append, List.length_singleton]
 omega
def rExtend : V -> List V -> Hp -> VK -> Prop := fun x vs H Q => ∃ l b xs zs, x = .ref l /\ vs = [.ref b] /\ H l = some (.lst xs) /\ H b = some (.lst zs) /\ xs.length + zs.length <= sizeLine /\ Q .non (upd H l (.lst (xs ++ zs)))
def rPop : V -> List V -> Hp -> VK -> Prop := fun x vs H Q => ∃ l xs y, x = .ref l /\ vs = [] /\ H l = some (.lst xs) /\ xs[xs.length - 1]? = some y /\ Q y (upd H l (.lst xs.dropLast))
def rPopAt : V -> List V -> Hp -> VK -> Prop := fun x vs H Q => ∃ l xs i k y, x = .ref l /\ vs = [.int i] /\ H l = some (.lst xs) /\ -(2 ^ 63) <= i /\ i < 2 ^ 63 /\ seqIndex? i xs.length = some k /\ xs[k]? = some y /\ Q y (upd H l (.lst (xs.eraseIdx k)))
def rReverse : V -> List V -> Hp -> VK -> Prop := fun x vs H Q => ∃ l xs, x = .ref l /\ vs = [] /\ H l = some (.lst xs) /\ Q .non (upd H l (.lst xs.reverse))
def rClear : V -> List V -> Hp -> VK -> Prop := fun x vs H Q => ∃ l xs, x = .ref l /\ vs = [] /\ H l = some (.lst xs) /\ Q .non (upd H l (.lst []))
def rCat : R2 := fun x y H Q => ∃ l b xs zs, x = .ref l /\ y = .ref b /\ H l = some (.lst xs) /\ H b = some (.lst zs) /\ xs.length + zs.length <= sizeLine /\ ∀ p, H p = none -> Q (.ref p) (upd H p (.lst (xs ++ zs)))
theorem op_cat : OpR X (binaryOp .Add) rCat := by
 intro pins s σ H x y v u Q I rx ry h
 obtain ⟨l, b, xs, zs, rfl, rfl, hH, hB, hz, q⟩ := h
 cases rx
 cases ry
 obtain ⟨z, its, n, r, hl, e⟩ := I.lstM hH
 obtain ⟨z2, its2, n2, r2, hl2, e2⟩ := I.lstM hB
 refine PySem.P.add_list e e2 ?_ (by rw [List.size_toArray, List.size_toArray]; omega)
 have ea : its.toArray ++ its2.toArray = (its ++ its2).toArray := by simp
 rw [ea]
 exact ⟨.ref _, _, I.lnew (t' := s.toks) (r.append r2) (by rw [List.length_append]; omega), rfl, q _ I.fresh⟩
def rRep : R2 := fun x y H Q => ∃ l k xs, x = .ref l /\ y = .int k /\ H l = some (.lst xs) /\ -(2 ^ 63) <= k /\ k < 2 ^ 63 /\ xs.length * k.toNat <= sizeLine ∧
 ∀ p, H p = none -> Q (.ref p) (upd H p (.lst (List.replicate k.toNat xs).flatten))
theorem len_rep {α : Type} (xs : List α) (k : Nat) : (List.replicate k xs).flatten.length = k * xs.length := by
 induction k with
 | zero => simp
 | succ k ih => rw [List.replicate_succ, List.flatten_cons, List.length_append, ih, Nat.succ_mul, Nat.add_comm]
theorem op_rep : OpR X (binaryOp .Mult) rRep := by
 intro pins s σ H x y v u Q I rx ry h
 obtain ⟨l, k, xs, rfl, rfl, hH, h1, h2, hz, q⟩ := h
 cases rx
 obtain ⟨t, rfl⟩ := ry
 obtain ⟨z, its, n, r, hl, e⟩ := I.lstM hH
 have hlen : its.toArray.size * k.toNat <= sizeLine := by rw [List.size_toArray, ← hl]; exact hz
 have hcap : ¬ its.toArray.size * k.toNat > (2 ^ 63 - 1) / 8 := by
  have : (sizeLine : Nat) <= (2 ^ 63 - 1) / 8 := by decide
  omega
 have hfit : ¬ (!Builtin.List.listFitsIndex k) = true := by
  rw [fitsIndex_both h1 h2]
  exact Bool.false_ne_true
 have hlong : ¬ Builtin.List.listTooLong (its.toArray.size * k.toNat) = true := by
  rw [notLongL hlen]
  exact Bool.false_ne_true
 have hnew : List.foldl (fun x1 x2 => x1 ++ x2) #[] (List.replicate (if its.toArray.isEmpty = true then 0 else k.toNat) its.toArray) = (List.replicate k.toNat its).flatten.toArray := by
  have f0 : ∀ m : Nat, List.foldl (fun x1 x2 => x1 ++ x2) #[] (List.replicate m its.toArray) = (List.replicate m its).flatten.toArray := fun m => by
   have := foldl_rep its m []
   rw [List.nil_append] at this
   exact this
  rw [f0]
  cases its with
  | nil => simp
  | cons a r' => rw [if_neg (by simp)]
 refine wpAny_binaryOp_repeat_ref (T := "list") (U := "int") (by decide) ⟨_, e, rfl⟩ (fun s' => typeIs_int s' k t) noFill_list_mul F.fills_int_mul F.slot_int_rmul repeat_list F.slot_int_index.lookup
  (call_meets F.slot_int_rmul (typeIs_int s k t) F.entry_int_rmul (F.args_int_rmul_2 _ _) (int___rmul___int_list k t l its.toArray n)
   ⟨e, rfl, ⟨_, e, rfl⟩, call_meets F.slot_list_mul ⟨_, e, rfl⟩ F.entry_list_mul (F.args_list_mul_2 _ _) (AutoListH.list___mul___list_int_3 l its.toArray n k t hfit hcap hlong) ⟨e, ?_⟩⟩)
 rw [hnew]
 exact ⟨.ref _, _, I.lnew (t' := s.toks) (r.rep k.toNat) (by rw [len_rep, Nat.mul_comm]; exact hz), rfl, q _ I.fresh⟩
end
section
variable {prog : Program} {w : World} {A : Around} {E : Value -> Shared -> Prop} {s : Shared}
end
section
variable {X : Cx}
end
end L2
namespace Att
open PySem PySem.W PySem.Calls PyProof.Rows
theorem ints_of_wellAll {P : Params} {h : Heap} : ∀ (ns : List Int) (vs : List Value), WellAll P h vs (ns.map WData.int) -> IntsAre vs ns := by
 intro ns
 induction ns with
 | nil =>
  intro vs w
  rw [List.map_nil] at w
  cases w
  exact .nil
 | cons n ns ih =>
  intro vs w
  rw [List.map_cons] at w
  cases w with
  | cons a b =>
   cases a
   exact .cons _ _ (ih _ b)
theorem script_of {l : OpenLaw} {n : Nat} (hn : l.most = some n) {P : Params} {h : Heap} {args : List WData} {vals : List Value}
  (hpre : l.row.toRowW.claim.pre args = true) (hwl : WellAll P h vals args) :
  ∃ a vs ns, vals = [Value.ref a] ∧ args = [WData.list (ns.map WData.int)] ∧ h.get? a = some { cls := .type "list", data := .seq vs.toArray } ∧ IntsAre vs ns ∧ ns.length ≤ n := by
 have hsh : WShape.hasAll [] args [.list .int] = true := (pre_splitW hpre).1
 have hc : l.pre.holds [] { args := args } = true := (pre_splitW hpre).2
 obtain ⟨d, r, rfl, h1, h2⟩ := hasAllW_cons hsh
 obtain rfl := hasAllW_nil h2
 obtain ⟨xs, rfl, h3⟩ := hasW_list h1
 obtain ⟨ns, rfl⟩ := items_int h3
 have hlen : ns.length <= n := by
  unfold OpenLaw.pre at hc
  have h4 : (WTm.not (.lt (.lit (.int (n : Int))) (.len (.arg 0)))).holds [] { args := [.list (ns.map .int)] } = true := by
   have h4 := (holds_andW hc).1
   rw [hn] at h4
   exact h4
  have h5 := condW_of h4 (w_not (w_lt w_lit (w_len_list (w_arg rfl))))
  rw [List.length_map] at h5
  refine Nat.le_of_not_lt fun q => ?_
  have q' : (n : Int) < ((ns.length : Nat) : Int) := by omega
  first
   | (rw [decide_eq_true q'] at h5; exact absurd h5 (by decide))
   | (simp at h5; omega)
 cases hwl with
 | cons w1 w2 =>
  cases w2
  cases w1 with
  | list ho hall => exact ⟨_, _, ns, rfl, rfl, ho, ints_of_wellAll ns _ hall, hlen⟩
theorem post_true (l : OpenLaw) (args : List WData) : l.row.toRowW.claim.post args (.bool true) args = true :=
 postW_of (r := l.row.toRowW) (X := (true == true))
  (show WShape.has [] (.bool true) .bool = true by first | rfl | decide | simp [WShape.has, WShape.arms, WShape.armsAll])
  (show (WTm.eq .res (.lit (.bool true))).value [] { args := args, res := some (.bool true), after := args } = some (.bool (true == true)) from w_eq_bool (w_res rfl) w_lit) rfl
theorem attach_call {l : OpenLaw} {n : Nat} {q : Program} {loose : List Str} {XP : (Str -> Option Value) -> Heap -> Prop} {YP : World -> Heap -> Prop} {d : DefRec}
  (hn : l.most = some n) (hdf : d.params.defaults = [])
  (call : ∀ (w : World) (s₀ s₁ : Shared) (mg mb : Str -> Option Value) (fa : Addr) (o : Obj) (pm cd doc : Value) (a : Addr) (vs : List Value) (ns : List Int),
   Ground q loose [] XP w s₀ mg mb s₁.heap -> YP w s₁.heap →
   s₁.heap.get? fa = some o -> o.data = .func (docDef d.name d.params d.body d.scope pm cd doc) -> s₁.heap.CodeRec cd d.name -> mg d.name = some (.ref fa) →
   s₁.heap.get? a = some { cls := .type "list", data := .seq vs.toArray } → IntsAre vs ns → ns.length ≤ n → s₁.gens = #[] →
   codeAny (model l.prog w) callerA (.call (.ref fa) ⟨[.ref a], []⟩) (fun r s' => r = .ok (.ret (.bool true)) /\ OldK s₁.heap s'.heap /\ s'.os = s₁.os /\ AllBare s'.gens) s₁) :
  WalkO q loose XP YP l.row.toRowW d [] (fun f vs => PySem.call f vs) := by
 intro w s₀ s₁ mg mb G Y fa o pm cd doc dV kV ho hd hcd hD hmg hg args vals as hpre hlay hrd hwl hlo
 obtain rfl : dV = .none := Dflts.none hD hdf
 obtain rfl : kV = .none := Dflts.noKw hD
 obtain ⟨a, vs, ns, rfl, rfl, hobj, hints, hlen⟩ := script_of hn hpre hwl
 refine enter_call (codeAny_mono (call w s₀ s₁ mg mb fa o pm cd doc a vs ns G Y ho (fd_plain hd) hcd hmg hobj hints hlen hg) fun r s' hq => ?_)
 obtain ⟨rfl, h2, h3, h4⟩ := hq
 exact ⟨.inl ⟨.bool true, .bool true, [], rfl, fun _ => rfl, .bool true, post_true l _, fun _ => ⟨List.Pairwise.nil, fun _ hm => (nomatch hm)⟩⟩, h2, h3, h4⟩
section
variable {prog : Program} {w : World} {A : Around} {E : Value -> Shared -> Prop} {s : Shared} {K : Frag}
def noObjs (h : Heap) : Heap := { h with objs := #[] }
def ledger (h : Heap) (L d : Addr) : List (Addr × Obj) := (List.range h.objs.size).filterMap fun a => if a = L \/ a = d then none else (h.get? a).map fun o => (a, o)
end
end Att
namespace L2
open PySem PySem.Spec PyProof.Rows
theorem vals_ints : ∀ {vs : List Value} {ns : List Int}, IntsAre vs ns -> Vals (ns.map V.int) vs
 | _, _, .nil => .nil
 | _, _, .cons n t h => .cons ⟨t, rfl⟩ (vals_ints h)
def Only (H : Hp) : Prop := ∀ b, H b = none \/ ∃ o xs, H b = some (.frz o (.lst xs))
theorem law_call {P : Program} {w : World} {K : PySem.W.Frag} {mg mb : Str -> Option Value} {CX : CXT} {k : Nat} {fa a : Addr} {fd : FuncData} {x : Str} {sp : Sp} {s₁ : Shared} {vs : List Value} {ns : List Int}
  (KX : K.In s₁.heap) (hns : s₁.heap.Ns mainGlobals mg) (hb : s₁.heap.Ns builtinsNs mb) (hbb : ∀ x : Str, x ≠ "__name__" → mb x = bootBuiltins x) (hlim : s₁.heap.NoLimit) (hg : s₁.gens = #[])
  (ha : s₁.heap.get? a = some { cls := .type "list", data := .seq vs.toArray }) (hi : IntsAre vs ns) (hl : ns.length ≤ sizeLine) (hr : Room k callerA)
  (F : ∀ base : Heap, K.In base -> base.Ns mainGlobals mg -> FnOk P w K mg base CX k fa fd [x] sp) (hbind : ∀ (s : Shared) (u : Value), BindsTo s fd ⟨[u], []⟩ [(x, u)])
  (hsp : ∀ H : Hp, Only H -> SqL K H a (ns.map V.int) -> sp [.ref a] H (fun v _ => v = .bl true) fun _ _ _ => False)
  (hCX : ∀ H e s', CX [] H s₁ (fun _ _ _ => False) e s' -> False) :
  codeAny (model P w) callerA (.call (.ref fa) ⟨[.ref a], []⟩) (fun r s' => r = .ok (.ret (.bool true)) /\ OldK s₁.heap s'.heap /\ s'.os = s₁.os /\ AllBare s'.gens) s₁ := by
 have rv := vals_ints hi
 have lenV := hi.length
 have core : ∀ H : Hp, Only H -> SqL K H a (ns.map V.int) -> HOk P w H s₁.heap -> (∀ b, H b ≠ none -> b = a) -> (H a ≠ none -> K.lookup a = none) →
   codeAny (model P w) callerA (.call (.ref fa) ⟨[.ref a], []⟩) (fun r s' => r = .ok (.ret (.bool true)) /\ OldK s₁.heap s'.heap /\ s'.os = s₁.os /\ AllBare s'.gens) s₁ := by
  intro H hO hS hok hA hK
  have base_of : ∀ {b : Addr} {o : Obj}, s₁.heap.get? b = some o -> H b = none -> (hidT s₁.heap H).get? b = some o := fun e n => hidT_get e n
  have noA : ∀ {b : Addr} {o : Obj} {es : Array DictEntry} {ep : Nat}, s₁.heap.get? b = some o -> o.data = .dict es ep -> H b = none := fun {b o es ep} e d => by
   cases q : H b with
   | none => rfl
   | some u =>
    have e' : b = a := hA b (by rw [q]; simp)
    subst e'
    rw [ha] at e; cases e
    have d' : Data.seq vs.toArray _ = Data.dict es ep := d
    cases d'
  have nsK : ∀ {b : Addr} {m : Str -> Option Value}, s₁.heap.Ns b m -> (hidT s₁.heap H).Ns b m := fun {b m} ⟨o, es, ep, e, d, r⟩ => ⟨o, es, ep, base_of e (noA e d), d, r⟩
  have hKb : K.In (hidT s₁.heap H) := fun b o e => base_of (KX b o e) (by
   cases q : H b with
   | none => rfl
   | some u =>
    have e' : b = a := hA b (by rw [q]; simp)
    subst e'
    rw [hK (by rw [q]; simp)] at e; cases e)
  have hM : Mod K mg (hidT s₁.heap H) := ⟨hKb, nsK hns, ⟨mb, nsK hb, hbb⟩, let ⟨mc, h1, h2⟩ := hlim; ⟨mc, nsK h1, h2⟩⟩
  have e0 : Env0 P w K mg (hidT s₁.heap H) callerA [] s₁ H := ⟨rfl, hM, fun b o e => of_hidT e, Nat.le_of_eq (hidT_size _ _), trivial, fun b hb => absurd (show b ∈ ([] : List Addr) from hb) (by simp), hok, .of_eq hg⟩
  refine codeAny_mono ((F _ hKb (nsK hns)).run callerA [] s₁ H ⟨[.ref a], []⟩ [.ref a] [.ref a] _ _ hr e0 (hbind s₁ (.ref a)) (.cons rfl .nil) (hsp H hO hS)) fun r s' h => ?_
  cases r with
  | error e => exact (hCX H e s' h).elim
  | ok fl =>
   cases fl with
   | next => exact False.elim h
   | brk => exact False.elim h
   | cont => exact False.elim h
   | ret u =>
    obtain ⟨v, H', os, bare, un, hok', r', q⟩ := h
    have q' : v = .bl true := q
    subst q'
    obtain rfl : u = Value.bool true := r'
    refine ⟨rfl, OldK.of_keep fun b o e => ?_, os, bare⟩
    cases q : H b with
    | none => exact un.keep b o e q (by intro z; exact absurd (show b ∈ ([] : List Addr) from z) (by simp)) (by simp)
    | some u =>
     rcases hO b with z | ⟨ob, xs, z⟩
     ·rw [q] at z; cases z
     ·have z2 := un.frzs b ob _ z
      obtain ⟨e1, _⟩ := hok b _ z
      obtain ⟨e2, _⟩ := hok' b _ z2
      rw [e] at e1; cases e1
      exact e2
 cases hk : K.lookup a with
 | some o =>
  have e := KX a o hk
  rw [ha] at e
  cases e
  refine core (fun _ => none) (fun _ => .inl rfl) (.inr ⟨_, vs.toArray, _, hk, rfl, rfl, rfl, by rw [List.size_toArray, lenV]; exact hl, by simpa using rv⟩) (fun b u z => by have z' : (none : Option HO) = some u := z; cases z') (fun b z => absurd rfl z) fun z => absurd rfl z
 | none =>
  refine core (fun b => if b = a then some (.frz { cls := .type "list", data := .seq vs.toArray } (.lst (ns.map V.int))) else none) (fun b => ?_) (.inl (.inr ⟨{ cls := .type "list", data := .seq vs.toArray }, if_pos rfl⟩)) (fun b u z => ?_) (fun b z => ?_) fun _ => hk
  ·by_cases hb : b = a
   ·exact .inr ⟨_, _, if_pos hb⟩
   ·exact .inl (if_neg hb)
  ·by_cases hb : b = a
   ·have z' := (if_pos hb).symm.trans z
    cases z'
    subst hb
    exact ⟨ha, by rw [List.length_map]; exact hl, vs, _, rv, ha⟩
   ·have z' := (if_neg hb).symm.trans z
    cases z'
  ·by_cases hb : b = a
   ·exact hb
   ·exact absurd (if_neg hb) z
end L2
namespace L2
open PySem PySem.Spec PyProof.Rows
abbrev KOf {K : PySem.W.Frag} {h : Heap} (_ : K.In h) : PySem.W.Frag := K
theorem walk_of {l : PySem.W.OpenLaw} {n k : Nat} {q : Program} {loose : List Str} {XP : (Str -> Option Value) -> Heap -> Prop} {YP : World -> Heap -> Prop} {d : DefRec} {K : Params -> PySem.W.Frag} {CX : World -> CXT} {sp : World -> Sp} {x : Str}
  (hn : l.most = some n) (hn2 : n <= sizeLine) (hdf : d.params.defaults = []) (hr : Room k callerA)
  (hY : ∀ (w : World) (h : Heap), YP w h -> (K w.params).In h)
  (F : ∀ (w : World) (mg : Str -> Option Value) (fa : Addr) (h : Heap), (K w.params).In h -> h.Ns mainGlobals mg -> mg d.name = some (.ref fa) →
   ∃ fd : FuncData, (∀ (s : Shared) (u : Value), BindsTo s fd ⟨[u], []⟩ [(x, u)]) ∧
    ∀ base : Heap, (K w.params).In base -> base.Ns mainGlobals mg -> FnOk l.prog w (K w.params) mg base (CX w) k fa fd [x] (sp w))
  (hsp : ∀ (w : World) (H : Hp) (a : Addr) (ns : List Int), ns.length <= n -> Only H -> SqL (K w.params) H a (ns.map V.int) -> sp w [.ref a] H (fun v _ => v = .bl true) fun _ _ _ => False)
  (hCX : ∀ (w : World) (H : Hp) (s : Shared) (e : Value) (s' : Shared), CX w [] H s (fun _ _ _ => False) e s' -> False) :
  PySem.W.WalkO q loose XP YP l.row.toRowW d [] (fun f vs => PySem.call f vs) := by
 refine Att.attach_call hn hdf fun w s₀ s₁ mg mb fa o pm cd doc a vs ns G Y ho hd hcd hmg hobj hints hlen hg => ?_
 have KX := hY w _ Y
 obtain ⟨fd, hb, hF⟩ := F w mg fa _ KX G.T.g hmg
 exact law_call KX G.T.g G.T.b G.T.builtins G.T.nolimit hg hobj hints (Nat.le_trans hlen hn2) hr hF hb (fun H hO hS => hsp w H a ns hlen hO hS) fun H e s' => hCX w H s₁ e s'
end L2
namespace L2
open PySem PySem.Spec PyProof.Rows
def inClass (s : Stmt) (j : Nat) : Stmt := match s with
 | .ClassDef _ _ _ body _ _ _ _ _ _ _ => body.getD j (.Pass ⟨0, 0, 0, 0⟩)
 | _ => .Pass ⟨0, 0, 0, 0⟩
def defArgs (s : Stmt) : Arguments := match s with
 | .FunctionDef _ a _ _ _ _ _ _ _ _ => a
 | _ => { posonlyargs := [], args := [], vararg := none, kwonlyargs := [], kw_defaults := [], kwarg := none, defaults := [] }
def defBody (s : Stmt) : List Stmt := match s with
 | .FunctionDef _ _ b _ _ _ _ _ _ _ => b
 | _ => []
def defScope (s : Stmt) : Scope := match s with
 | .FunctionDef _ _ _ _ _ _ sc _ _ _ => sc
 | _ => { kind := .function, names := [], isGenerator := false, isCoroutine := false }
abbrev CX0 : CXT := fun _ _ _ _ _ _ => False
abbrev E0 : XK := fun _ _ _ => False
theorem pass0 {X : Cx} : Passes CX0 X E0 := fun _ _ _ _ _ _ _ h => h.elim
structure Fun (K : PySem.W.Frag) (x qual : Str) (st : Stmt) (f : Addr) (fd : FuncData) : Prop where
 ex : ∃ (oc : Value) (od : Option Addr) (kV doc pm : Value) (an : Option Addr) (cdv ct : Value) (osl : Array (Option Value)),
  fd = PySem.W.fnOf x qual (defArgs st) (defBody st) (defScope st) .none kV doc pm an cdv ct /\ K.lookup f = some ⟨oc, od, .func fd, osl⟩ /\ PySem.W.codeIn K cdv qual = true
 kp : PySem.W.keepIn K (.ref f) = true
section
variable {P : Program} {w : World} {K : PySem.W.Frag} {mg : Str -> Option Value} {base : Heap}
theorem Fun.ok {x qual : Str} {st : Stmt} {f : Addr} {fd : FuncData} {N ps : List Str} {k : Nat} {sp : Sp} (F : Fun K x qual st f fd) (S : FnScope N ps (defScope st)) (len : ∀ vs H Q E, sp vs H Q E -> vs.length = ps.length)
  (hbody : ∀ (cdv : Value) (A : Around) (outer : List Env) (s : Shared) (H : Hp) (vs : List V) (Q : VK) (E : XK), Room k (A.deeper (envOfC qual (defScope st) s.heap.objs.size f cdv)) -> sp vs H Q E →
   ∃ t, PSs (cxOf CX0 P w K mg base N qual (defScope st) f cdv A outer s H E).nox (defBody st) t /\ t { nx := fun _ H' => Q .non H', rt := Q } (start N vs) H) : FnOk P w K mg base CX0 (k + 1) f fd ps sp := by
 obtain ⟨oc, od, kV, doc, pm, an, cdv, ct, osl, rfl, lk, hcd⟩ := F.ex
 refine fn_of lk hcd S len fun A outer s H vs Q E hr hsp => ?_
 obtain ⟨t, h, q⟩ := hbody cdv A outer s H vs Q E hr hsp
 exact ⟨t, h.nox, q⟩
theorem Fun.binds {x qual : Str} {st : Stmt} {f : Addr} {fd : FuncData} {ps : List Str} (F : Fun K x qual st f fd)
  (h : ∀ (kV doc pm : Value) (an : Option Addr) (cdv ct : Value) (us : List Value), us.length = ps.length -> bindArgs (PySem.W.fnOf x qual (defArgs st) (defBody st) (defScope st) .none kV doc pm an cdv ct) ⟨us, []⟩ = pure (ps.zip us)) : Binds K fd ps [] := by
 obtain ⟨oc, od, kV, doc, pm, an, cdv, ct, osl, rfl, lk, hcd⟩ := F.ex
 exact .all (h kV doc pm an cdv ct)
theorem fun_mk {x qual : Str} {st : Stmt} {f : Addr} {oc : Value} {od an : Option Addr} {osl : Array (Option Value)} {kV doc pm cdv ct : Value} (l : K.lookup f = some ⟨oc, od, .func (PySem.W.fnOf x qual (defArgs st) (defBody st) (defScope st) .none kV doc pm an cdv ct), osl⟩)
  (c : PySem.W.codeIn K cdv qual = true) (k : PySem.W.keepIn K (.ref f) = true) : Fun K x qual st f (PySem.W.fnOf x qual (defArgs st) (defBody st) (defScope st) .none kV doc pm an cdv ct) := ⟨⟨oc, od, kV, doc, pm, an, cdv, ct, osl, rfl, l, c⟩, k⟩
end
theorem small1000 {n : Nat} (h : n <= 1000) : n < sizeLine := Nat.lt_of_le_of_lt h (by decide)
section
variable {X : Cx}
theorem pv (i : Nat) {x : Str} {pos : Pos} (hN : X.N[i]? = some x := by rfl) (hv : Vis X.env.scope x := by first | exact Or.inl rfl | exact Or.inr (Or.inl rfl) | exact Or.inr (Or.inr rfl)) (hd : (x == ("__debug__" : Str)) = false := by decide)
  (hcd : (x == ("__classdict__" : Str)) = false := by decide) : PE X (.Name x pos) (tVar i) := pe_var hN hv hd hcd
end
theorem iteF {A B : Prop} (h : B) : if false = true then A else B := by
 rw [if_neg Bool.false_ne_true]
 exact h
theorem iteT {A B : Prop} (h : A) : if true = true then A else B := by
 rw [if_pos rfl]
 exact h
theorem ite2 {c A B : Prop} [Decidable c] (h1 : c -> A) (h2 : ¬ c -> B) : if c then A else B := by
 by_cases h : c
 ·rw [if_pos h]
  exact h1 h
 ·rw [if_neg h]
  exact h2 h
def Same (H H' : Hp) : Prop := ∀ b o, H b = some o -> H' b = some o
theorem Same.refl (H : Hp) : Same H H := fun _ _ h => h
theorem Same.trans {H H1 H2 : Hp} (a : Same H H1) (b : Same H1 H2) : Same H H2 := fun c o h => b c o (a c o h)
theorem Same.free {H H' : Hp} (e : Same H H') {l : Addr} (h : H' l = Option.none) : H l = Option.none := by
 cases q : H l with
 | none => rfl
 | some o =>
  rw [e l o q] at h
  cases h
theorem Same.seq {K : PySem.W.Frag} {H H' : Hp} {a : Addr} {xs : List V} (e : Same H H') (h : SqL K H a xs) : SqL K H' a xs := by
 rcases h with (h | ⟨o, h⟩) | h
 ·exact .inl (.inl (e _ _ h))
 ·exact .inl (.inr ⟨o, e _ _ h⟩)
 ·exact .inr h
end L2
namespace GF
def dbl (r w x : Nat) : Nat := if 2 ^ w <= 2 * x then (2 * x) ^^^ r else 2 * x
structure Rule (r w : Nat) : Prop where
 lo : 2 ^ w <= r
 hi : r < 2 ^ (w + 1)
variable {r w : Nat}
def tm (r w a b : Nat) : Nat := if b = 0 then 0 else (if b % 2 = 1 then a else 0) ^^^ tm r w (dbl r w a) (b / 2)
termination_by b
decreasing_by omega
abbrev ev (r w x : Nat) : Nat := tm r w 1 x
end GF
namespace GF
variable {r w : Nat}
structure Sum1 (r w a b i f : Nat) : Prop where
 lt : f < 2 ^ (2 * w - 1)
 ev : ev r w f = tm r w a (b % 2 ^ i)
structure Sum2 (r w p i f : Nat) : Prop where
 lt : f < 2 ^ (2 * w - 1 - i)
 ev : ev r w f = p
end GF
namespace GF
def it (r w : Nat) : Nat -> Nat
 | 0 => 1
 | n + 1 => dbl r w (it r w n)
structure Good (r w : Nat) : Prop where
 rule : Rule r w
 w4 : 4 <= w
 w8 : w <= 8
 odd : r % 2 = 1
 lo16 : 16 <= r
 hi511 : r <= 511
 back : it r w (2 ^ w - 1) = 1
 first : ∀ n, 1 <= n -> n < 2 ^ w - 1 -> it r w n ≠ 1
def firstBack (r w : Nat) : Nat -> Nat -> Nat -> Option Nat
 | 0, _, _ => none
 | fuel + 1, x, n => if x = 1 then some n else firstBack r w fuel (dbl r w x) (n + 1)
def rules : List Nat := [19, 25, 37, 41, 47, 55, 59, 61, 67, 91, 97, 103, 109, 115, 131, 137, 143, 145, 157, 167, 171, 185, 191, 193,
 203, 211, 213, 229, 239, 241, 247, 253, 285, 299, 301, 333, 351, 355, 357, 361, 369, 391, 397, 425, 451, 463, 487, 501]
def chk (r : Nat) : Bool := decide (16 <= r) && decide (r <= 511) && decide (r % 2 = 1) && decide (4 <= r.log2) && decide (r.log2 <= 8) && decide (2 ^ r.log2 <= r) && decide (r < 2 ^ (r.log2 + 1)) &&
 decide (firstBack r r.log2 600 2 1 = some (2 ^ r.log2 - 1))
def ruleOf (c : Int) : Nat := rules.getD (c % 48).toNat 19
end GF
namespace GF
def mask (r w : Nat) : Nat -> Nat -> Nat -> Nat
 | 0, _, acc => acc
 | fuel + 1, x, acc => mask r w fuel (dbl r w x) (acc ||| 2 ^ x)
structure Full (r w : Nat) : Prop extends Good r w where
 all : ∀ x, 0 < x -> x < 2 ^ w -> ∃ n, it r w n = x
variable {r w : Nat}
def pw (r w x : Nat) : Nat -> Nat
 | 0 => 1
 | n + 1 => tm r w (pw r w x n) x
def prod (r w : Nat) (row : List Nat) : Nat := row.foldl (fun f x => tm r w f x) 1
end GF
namespace GF
variable {r w : Nat}
end GF
namespace GF
def join (w : Nat) : List Nat -> Nat
 | [] => 0
 | x :: xs => join w xs * 2 ^ w + x
def syms (w : Nat) : Nat -> Nat -> List Nat
 | 0, _ => []
 | n + 1, b => b % 2 ^ w :: syms w n (b / 2 ^ w)
end GF
namespace GF
def sumB (r w n : Nat) (ps : List (Nat × Nat)) : Nat := ps.foldl (fun t p => t ^^^ join w ((syms w n p.2).map (tm r w p.1))) 0
def dg (r w : Nat) (ps : List (Nat × Nat)) (k : Nat) : Nat := ps.foldl (fun t p => t ^^^ tm r w (p.2 / (2 ^ w) ^ k % 2 ^ w) p.1) 0
end GF
set_option linter.all false
set_option maxRecDepth 100000
namespace L2
open PySem PySem.Spec PyProof.Rows
section
variable {X : Cx}
theorem call_isi : CallR X (.builtin "isinstance") (fun xs H Q => ∃ x c t b, xs = [x, .ty c] ∧ TyOf X.K H x t ∧ PySem.W.kitOne X.K t (.type c) = some b ∧ Q (.bl b) H) := by
 intro pins s σ H xs us Q I r h
 obtain ⟨x, c, t, b, rfl, ty, e, q⟩ := h
 obtain ⟨u, w', rfl, ru, rw'⟩ := vals2 r
 cases (show w' = Value.type c from rw')
 exact isinst_ok I ru ty e fun tk => ⟨.bl b, H, I.tok tk, rfl, q⟩
end
theorem kit_same (K : PySem.W.Frag) (c : String) : PySem.W.kitOne K (.type c) (.type c) = some true := by
 unfold PySem.W.kitOne
 rw [if_pos (by exact beq_self_eq_true _)]
theorem kit_of {K : PySem.W.Frag} {t c : String} {b : Bool} (h0 : (Value.type t == Value.type c) = false) (h1 : PySem.W.kitMeta c = true) (h2 : (PySem.fastBuiltinMro t).map (fun l => l.contains (Value.type c)) = some b) : PySem.W.kitOne K (.type t) (.type c) = some b := by
 unfold PySem.W.kitOne
 rw [if_neg (by rw [h0]; exact Bool.false_ne_true)]
 show (if PySem.W.kitMeta c = true then PySem.W.subIn K (.type t) (.type c) else none) = some b
 rw [if_pos h1]
 exact h2
theorem kit_int_bool (K : PySem.W.Frag) : PySem.W.kitOne K (.type "int") (.type "bool") = some false := kit_of (by decide +kernel) (by decide +kernel) (by decide +kernel)
end L2
set_option linter.all false
set_option maxRecDepth 100000
namespace L2
open PySem PySem.Spec PyProof.Rows
def Itv (K : PySem.W.Frag) (a : Addr) (xs : List V) : It :=
 ⟨fun i H => SqL K H a xs /\ i < xs.length, fun i H x H' => H' = H /\ xs[xs.length - 1 - i]? = some x, fun i _ => i = xs.length⟩
section
variable {X : Cx} {tg : Expr}
def iRev (K : PySem.W.Frag) (ta : TA) : TI := fun σ H R => ta σ H fun vs H1 => ∃ l xs, vs = [.ref l] /\ SqL K H1 l xs /\ R (Itv K l xs) H1
end
end L2
set_option linter.all false
set_option maxRecDepth 100000
set_option maxHeartbeats 1000000
namespace L2
open PySem PySem.Spec PyProof.Rows
theorem closure_go {env : Env} : ∀ (names : List (Str × NameKind)) (acc : List (Str × Addr)), (∀ n, (n, NameKind.free) ∈ names -> ∃ c, env.cells.lookup n = some c) -> (∀ n c, acc.lookup n = some c -> env.cells.lookup n = some c) →
  ∃ cl : List (Str × Addr), (forIn names acc (fun x r => match x with
    | (name, kind) => if (kind == NameKind.free) = true then do
      let c ← cellOf env name
      pure (ForInStep.yield ((name, c) :: r))
     else pure (ForInStep.yield r)) : Sem (List (Str × Addr))) = pure cl /\ (∀ n c, cl.lookup n = some c -> env.cells.lookup n = some c) ∧
   ∀ n, ((n, NameKind.free) ∈ names \/ (acc.lookup n).isSome = true) -> (cl.lookup n).isSome = true
 | [], acc, _, h => ⟨acc, rfl, h, fun n q => q.elim (fun z => by simp at z) id⟩
 | (n, k) :: r, acc, hf, h => by
  rw [List.forIn_cons]
  by_cases hk : k = .free
  ·subst hk
   obtain ⟨c, hc⟩ := hf n List.mem_cons_self
   have e : cellOf env n = pure c := by unfold cellOf; rw [hc]
   obtain ⟨cl, h1, h2, h3⟩ := closure_go r ((n, c) :: acc) (fun m hm => hf m (List.mem_cons_of_mem _ hm)) (fun m d hm => by
    rw [List.lookup_cons] at hm
    cases q : (m == n) with
    | true => rw [q] at hm; cases hm; rw [eq_of_beq q]; exact hc
    | false => rw [q] at hm; exact h m d hm)
   refine ⟨cl, ?_, h2, fun m hm => h3 m ?_⟩
   ·show ((if (NameKind.free == NameKind.free) = true then _ else _) >>= _) = _
    rw [if_pos (by decide), e]
    exact h1
   ·rcases hm with hm | hm
    ·rcases List.mem_cons.mp hm with z | z
     ·cases z
      exact .inr (by rw [List.lookup_cons, beq_self_eq_true]; rfl)
     ·exact .inl z
    ·refine .inr ?_
     rw [List.lookup_cons]
     cases q : (m == n) with
     | true => rfl
     | false => exact hm
  ·have hb : (k == NameKind.free) = false := by simpa using hk
   obtain ⟨cl, h1, h2, h3⟩ := closure_go r acc (fun m hm => hf m (List.mem_cons_of_mem _ hm)) h
   refine ⟨cl, ?_, h2, fun m hm => h3 m ?_⟩
   ·show ((if (k == NameKind.free) = true then _ else _) >>= _) = _
    rw [if_neg (by rw [hb]; exact Bool.false_ne_true)]
    exact h1
   ·rcases hm with hm | hm
    ·rcases List.mem_cons.mp hm with z | z
     ·cases z
      exact absurd rfl hk
     ·exact .inl z
    ·exact .inr hm
theorem closure_of {env : Env} {scope : Scope} (hf : ∀ n, (n, NameKind.free) ∈ scope.names -> ∃ c, env.cells.lookup n = some c) :
  ∃ cl : List (Str × Addr), closureFor scope env = pure cl /\ (∀ n c, cl.lookup n = some c -> env.cells.lookup n = some c) /\ ∀ n, (n, NameKind.free) ∈ scope.names -> (cl.lookup n).isSome = true := by
 obtain ⟨cl, h1, h2, h3⟩ := closure_go scope.names [] hf (fun n c h => by simp at h)
 refine ⟨cl, ?_, h2, fun n h => h3 n (.inl h)⟩
 unfold closureFor
 have : (forIn scope.names ([] : List (Str × Addr)) (fun x r => match x with
    | (name, kind) => if (kind == NameKind.free) = true then do
      let c ← cellOf env name
      pure (ForInStep.yield ((name, c) :: r))
     else pure (ForInStep.yield r)) : Sem (List (Str × Addr))) = pure cl := h1
 first
  | exact this
  | (rw [show ∀ x : Sem (List (Str × Addr)), (x >>= fun cs => pure cs) = x from fun x => by simp]; exact this)
  | (simp only [bind_pure]; exact this)
theorem lookup_relabel {env : Env} : ∀ (names : List (Str × NameKind)) (x : Str),
  (names.map fun (n, k) => if (k == NameKind.free && env.scope.kind == .function && env.kindOf n == some .cell) = true then (n, NameKind.cell) else (n, k)).lookup x =
   (names.lookup x).map fun k => if (k == NameKind.free && env.scope.kind == .function && env.kindOf x == some .cell) = true then NameKind.cell else k
 | [], x => rfl
 | (n, k) :: r, x => by
  have ih := lookup_relabel (env := env) r x
  show List.lookup x ((if (k == NameKind.free && env.scope.kind == .function && env.kindOf n == some .cell) = true then (n, NameKind.cell) else (n, k)) :: _) = _
  cases q : (x == n) with
  | true =>
   have e := eq_of_beq q
   subst e
   by_cases hc : (k == NameKind.free && env.scope.kind == .function && env.kindOf x == some .cell) = true
   ·rw [if_pos hc]
    simp only [List.lookup_cons, q, Option.map_some, if_pos hc]
   ·rw [if_neg hc]
    simp only [List.lookup_cons, q, Option.map_some, if_neg hc]
  | false =>
   by_cases hc : (k == NameKind.free && env.scope.kind == .function && env.kindOf n == some .cell) = true
   ·rw [if_pos hc]
    simp only [List.lookup_cons, q]
    exact ih
   ·rw [if_neg hc]
    simp only [List.lookup_cons, q]
    exact ih
def compOk (N : List Str) (osc sc : Scope) (cap : List Nat) (own : List Str) : Bool :=
 (sc.kind == .function) && sc.names.all (fun y => (y.2 != .cell) && ((y.2 != .local) || (sc.names.lookup y.1 == some .local)) && ((y.2 != .free) || ((sc.names.lookup y.1 == some .free) && ((osc.names.lookup y.1 == some .cell) || (osc.names.lookup y.1 == some .free))))) &&
  cap.all (fun i => match N[i]? with | some x => sc.names.lookup x == some .free | none => false) && own.all (fun x => sc.names.lookup x == some .local) && decide ((cap.map (fun i => N.getD i Str.empty) ++ own).Nodup)
structure CompOk (N : List Str) (osc sc : Scope) (cap : List Nat) (own : List Str) : Prop where
 kind : sc.kind = .function
 nocell : ∀ y ∈ sc.names, y.2 ≠ .cell
 locs : ∀ y ∈ sc.names, y.2 = .local -> sc.names.lookup y.1 = some .local
 free1 : ∀ y ∈ sc.names, y.2 = .free -> sc.names.lookup y.1 = some .free
 frees : ∀ y ∈ sc.names, y.2 = .free -> osc.names.lookup y.1 = some .cell \/ osc.names.lookup y.1 = some .free
 capf : ∀ i ∈ cap, ∃ x, N[i]? = some x /\ sc.names.lookup x = some .free
 owns : ∀ x ∈ own, sc.names.lookup x = some .local
 nd : (cap.map (fun i => N.getD i Str.empty) ++ own).Nodup
theorem CompOk.of {N : List Str} {osc sc : Scope} {cap : List Nat} {own : List Str} (h : compOk N osc sc cap own = true) : CompOk N osc sc cap own := by
 unfold compOk at h
 simp only [Bool.and_eq_true] at h
 obtain ⟨⟨⟨⟨h1, h2⟩, h3⟩, h4⟩, h5⟩ := h
 have all := List.all_eq_true.mp h2
 refine ⟨eq_of_beq h1, fun y hy => ?_, fun y hy e => ?_, fun y hy e => ?_, fun y hy e => ?_, fun i hi => ?_, fun x hx => ?_, of_decide_eq_true h5⟩
 ·have q := all y hy
  simp only [Bool.and_eq_true] at q
  intro e
  rw [e] at q
  exact absurd q.1.1 (by decide)
 ·have q := all y hy
  simp only [Bool.and_eq_true, Bool.or_eq_true] at q
  rcases q.1.2 with z | z
  ·rw [e] at z; exact absurd z (by decide)
  ·exact eq_of_beq z
 ·have q := all y hy
  simp only [Bool.and_eq_true, Bool.or_eq_true] at q
  rcases q.2 with z | z
  ·rw [e] at z; exact absurd z (by decide)
  ·exact eq_of_beq z.1
 ·have q := all y hy
  simp only [Bool.and_eq_true, Bool.or_eq_true] at q
  rcases q.2 with z | z
  ·rw [e] at z; exact absurd z (by decide)
  ·exact z.2.imp eq_of_beq eq_of_beq
 ·have q := List.all_eq_true.mp h3 i hi
  cases e : N[i]? with
  | none => rw [e] at q; cases q
  | some x => rw [e] at q; exact ⟨x, rfl, eq_of_beq q⟩
 ·exact eq_of_beq (List.all_eq_true.mp h4 x hx)
abbrev compN (N : List Str) (cap : List Nat) (own : List Str) : List Str := cap.map (fun i => N.getD i Str.empty) ++ own
abbrev compSt (σ : St) (cap : List Nat) (own : List Str) : St := cap.map (fun i => (σ[i]?).join) ++ own.map fun _ => none
def compCx (X : Cx) (sc : Scope) (cl : List (Str × Addr)) (C : Addr) (cap : List Nat) (own : List Str) (s₀ : Shared) (H₀ : Hp) (ex : List Addr) : Cx :=
 { X with N := compN X.N cap own, s₀ := s₀, H₀ := H₀, env := compEnvC sc cl C X.env, outer := X.stack, stack := X.stack, ex := ex, fn := fun _ => false, pn := [], xe := fun _ _ => False }
section
variable {X : Cx} {pins : List (Addr × Obj)} {σ : St} {H : Hp} {s : Shared} {sc : Scope} {cl : List (Str × Addr)} {cap : List Nat} {own : List Str}
theorem kind_relabel (S : CompOk X.N X.env.scope sc cap own) {x : Str} {C : Addr} (h : (compEnvC sc cl C X.env).kindOf x = some .cell \/ (compEnvC sc cl C X.env).kindOf x = some .free) : (x, NameKind.free) ∈ sc.names := by
 have e : (compEnvC sc cl C X.env).kindOf x = (sc.names.lookup x).map fun k => if (k == NameKind.free && X.env.scope.kind == .function && X.env.kindOf x == some .cell) = true then NameKind.cell else k := lookup_relabel sc.names x
 rw [e] at h
 cases q : sc.names.lookup x with
 | none => rw [q] at h; rcases h with z | z <;> cases z
 | some k =>
  have hm := PySem.mem_of_lookup q
  have hk : k = .free := by
   rw [q] at h
   simp only [Option.map_some, Option.some.injEq] at h
   by_cases c : (k == NameKind.free && X.env.scope.kind == .function && X.env.kindOf x == some .cell) = true
   ·simp only [Bool.and_eq_true] at c
    exact eq_of_beq c.1.1
   ·rw [if_neg c] at h
    rcases h with z | z
    ·exact absurd z (S.nocell _ hm)
    ·exact z
  rw [hk] at hm
  exact hm
theorem kind_free (S : CompOk X.N X.env.scope sc cap own) {x : Str} {C : Addr} (h : sc.names.lookup x = some .free) : (compEnvC sc cl C X.env).kindOf x = some .cell \/ (compEnvC sc cl C X.env).kindOf x = some .free := by
 have e : (compEnvC sc cl C X.env).kindOf x = (sc.names.lookup x).map fun k => if (k == NameKind.free && X.env.scope.kind == .function && X.env.kindOf x == some .cell) = true then NameKind.cell else k := lookup_relabel sc.names x
 rw [e, h]
 simp only [Option.map_some, Option.some.injEq]
 split
 ·exact .inl rfl
 ·exact .inr rfl
theorem Inv.block {h' : Heap} {fp : List Addr} {t' : Nat} (I : Inv X pins σ H s) (S : CompOk X.N X.env.scope sc cap own) (hc1 : ∀ n c, cl.lookup n = some c -> X.env.cells.lookup n = some c) (hc2 : ∀ n, (n, NameKind.free) ∈ sc.names -> (cl.lookup n).isSome = true)
  (hf : ∀ b ∈ fp, FpOk X pins H b) (hlt : ∀ b ∈ fp, b < s.heap.objs.size) {m : Str -> Option Value} (hn : h'.Ns s.heap.objs.size m) (k : ∀ b u, s.heap.get? b = some u -> h'.get? b = some u) :
  Inv (compCx X sc cl s.heap.objs.size cap own s H fp) [] (compSt σ cap own) H { s with heap := h', toks := t' } := by
 refine ⟨⟨I.mod, S.kind, I.ok.glob, I.ok.blt, Nat.le_refl _, fun x y c a b => I.ok.inj x y c (hc1 x c a) (hc1 y c b), fun x hx => ?_, fun x c z => absurd z (by show ¬ (false = true); decide), I.ok.hd, I.ok.frames, .inl rfl, fun b hb => ⟨Nat.ne_of_lt (hlt b hb), fun x c e => (hf b hb).2.2.2.2.1 x c (hc1 x c e)⟩, I.bs, Nat.le_trans I.ok.bsz I.sz, fun b o e hb => ?_, fun b hb z => ?_, I.stack, I.stkFree⟩,
  rfl, I.bare, Un.kept k, ⟨m, hn, fun i x v e1 e2 e3 => ?_⟩, fun x c e => ?_, I.hok.fresh (Nat.le_refl _), fun x c e => I.freeC x c (hc1 x c e), fun p hp => absurd hp (by show p ∉ ([] ++ [] : List (Addr × Obj)); simp), I.hok.kept k, ?_⟩
 ·have hm := kind_relabel S hx
  exact Option.isSome_iff_exists.mp (hc2 x hm)
 ·rcases (hf b hb).2.2.2.1 with z | z
  ·exact I.ok.noex b o e z
  ·exact absurd (Nat.lt_of_lt_of_le (Heap.lt_size (I.ok.bs b o e).1) z) (Nat.lt_irrefl _)
 ·rcases List.mem_cons.mp (I.stkSub b z) with q | q
  ·exact (hf b hb).2.1 q
  ·exact (hf b hb).2.2.1 q
 ·by_cases hi : i < cap.length
  ·have e1' : (compN X.N cap own)[i]? = some x := e1
   have e2' : (compSt σ cap own)[i]? = some (some v) := e2
   rw [compN, List.getElem?_append_left (by simpa using hi), List.getElem?_map, List.getElem?_eq_getElem hi] at e1'
   rw [compSt, List.getElem?_append_left (by simpa using hi), List.getElem?_map, List.getElem?_eq_getElem hi] at e2'
   simp only [Option.map_some, Option.some.injEq] at e1' e2'
   obtain ⟨y, hy, hl⟩ := S.capf _ (List.getElem_mem hi)
   have exy : x = y := by
    rw [<- e1', List.getD_eq_getElem?_getD, hy]; rfl
   subst exy
   have ev : σ[cap[i]]? = some (some v) := by
    cases q : σ[cap[i]]? with
    | none => rw [q] at e2'; cases e2'
    | some o => rw [q] at e2'; exact congrArg some e2'
   obtain ⟨m0, hn0, hl0⟩ := I.loc
   have hm := PySem.mem_of_lookup hl
   have hko := S.frees _ hm rfl
   obtain ⟨u, ru, lk⟩ := hl0 _ x v hy ev (hko.elim (fun z => .inr (.inl z)) fun z => .inr (.inr z))
   refine ⟨u, ru, .inr ⟨kind_free S hl, ?_⟩⟩
   obtain ⟨c, hc⟩ := Option.isSome_iff_exists.mp (hc2 x hm)
   refine ⟨c, hc, ?_⟩
   rcases lk with ⟨z, _⟩ | ⟨_, c', hc', q⟩
   ·have z' : X.env.scope.names.lookup x = some .local := z
    rcases hko with w | w <;> (rw [z'] at w; cases w)
   ·have := hc1 x c hc
    rw [hc'] at this
    cases this
    obtain ⟨o, ho, hd⟩ := q
    exact ⟨o, k _ o ho, hd⟩
  ·have e2' : (compSt σ cap own)[i]? = some (some v) := e2
   rw [compSt, List.getElem?_append_right (by simpa using hi), List.getElem?_map] at e2'
   cases q : own[i - (cap.map fun i => (σ[i]?).join).length]? with
   | none => rw [q] at e2'; cases e2'
   | some o => rw [q] at e2'; cases e2'
 ·obtain ⟨v, o, ho, hd⟩ := I.cell x c (hc1 x c e)
  exact ⟨v, o, k c o ho, hd⟩
 ·show (compSt σ cap own).length = (compN X.N cap own).length
  simp [compSt, compN]
def PTs (X : Cx) (ifs : List Expr) (t : TT) : Prop :=
 ∀ (pins : List (Addr × Obj)) (s : Shared) (σ : St) (H : Hp) (Q : Bool -> Hp -> Prop), Inv X pins σ H s -> t σ H Q →
  wpAny (model X.prog X.w) X.A (forIn ifs true fun c r => if r = true then do let ok ← isTrue c X.env (eval c X.env); pure (ForInStep.yield ok) else pure (ForInStep.yield r)) (TP X pins σ Q) X.xe s
def tTrue : TT := fun _ H Q => Q true H
theorem pts_nil : PTs X [] tTrue := fun _ _ _ H _ I h => wpAny_tests_nil ⟨H, I, h⟩
end
theorem comp_loop {prog : Program} {w : World} {A : Around} {R : Result -> Shared -> Prop} {s : Shared} {elt target iter : Expr} {ifs : List Expr} {scope : Scope} {pos : Pos} {it acc : Value} {env : Env} (I : Nat -> Shared -> Prop)
  (turn : ∀ n s, I n s -> wpAny (model prog w) A (pyNext it) (fun r s₁ => match r with
   | none => R (.ok .next) s₁
   | some v => wpAny (model prog w) A (letOwnedTupleGo target it v) (fun _ s₁ => wpAny (model prog w) A (assign target env v) (fun _ s₂ =>
     wpAny (model prog w) A (forIn ifs true fun c r => if r = true then do let ok ← isTrue c env (eval c env); pure (ForInStep.yield ok) else pure (ForInStep.yield r)) (fun ok s₃ =>
      if ok = true then wpAny (model prog w) A (eval elt env) (fun x s₄ =>
       wpAny (model prog w) A (call (.builtin "list.append") [acc, x]) (fun _ s₅ => ∃ m, m < n ∧ I m s₅) (fun _ _ => False) s₄) (fun _ _ => False) s₃
      else ∃ m, m < n /\ I m s₃) (fun _ _ => False) s₂) (fun _ _ => False) s₁) (fun _ _ => False) s₁) (fun _ _ => False) s)
  (n : Nat) (h : I n s) :
  codeAny (model prog w) A (.compLoop (.ListComp elt [⟨target, iter, ifs, 0⟩] scope pos) 0 it acc env) R s := by
 refine codeAny_loop rfl I (fun n s hI => ?_) n h
 show wpAny _ A ((compTurn (.ListComp elt [⟨target, iter, ifs, 0⟩] scope pos) 0 it acc env).onRaise (fun x => do noteFrame x env; theTreesLotGoes x)) _ _ s
 refine wpAny_noted ?_
 rw [compTurn_list]
 refine wpAny_noRaise ?_
 refine wpAny_bind (wpAny_standAt (wpAny_bind (wpAny_mono (turn n s hI) (fun r s₁ h₁ => ?_) fun _ _ h' => h')))
 cases r with
 | none => exact wpAny_pure h₁
 | some v =>
  refine wpAny_bind (wpAny_mono h₁ (fun _ s₁ h₁ => ?_) fun _ _ h' => h')
  refine wpAny_bind (wpAny_mono h₁ (fun _ s₂ h₂ => wpAny_bind (wpAny_mono h₂ (fun ok s₃ h₃ => ?_) fun _ _ h' => h')) fun _ _ h' => h')
  cases ok with
  | false => exact wpAny_pure ⟨rfl, h₃⟩
  | true =>
   exact wpAny_bind (wpAny_bind (wpAny_mono h₃ (fun x s₄ h₄ => wpAny_bind (wpAny_mono h₄ (fun _ s₅ h₅ => wpAny_pure (wpAny_pure ⟨rfl, h₅⟩)) fun _ _ h' => h')) fun _ _ h' => h'))
def tCompQ (J : It) (g : TG) (tt : TT) (te : TE) (σ0 : St) (H1 : Hp) (D : Addr) (Q : Hp -> Prop) : Prop :=
 ∃ W : Nat -> Nat -> List V -> St -> Hp -> Prop, (∃ m, W 0 m [] σ0 (upd H1 D (.lst []))) /\ ∀ i m ys σ H, W i m ys σ H -> H D = some (.lst ys) ∧
  ((J.stop i H /\ Q H) \/ (J.go i H /\ ∀ x H', J.yld i H x H' -> g x σ H' fun σ2 H2 => tt σ2 H2 fun b H3 =>
   if b = true then te σ2 H3 fun v H4 => H4 D = some (.lst ys) /\ ys.length < sizeLine /\ ∃ m', m' < m /\ W (i + 1) m' (ys ++ [v]) σ2 (upd H4 D (.lst (ys ++ [v])))
   else ∃ m', m' < m /\ W (i + 1) m' ys σ2 H3))
def tComp (cap : List Nat) (own : List Str) (wi : TI) (g : TG) (tt : TT) (te : TE) : TE := fun σ H Q => wi σ H fun J H1 => ∀ D, H1 D = none -> tCompQ J g tt te (compSt σ cap own) H1 D (fun H' => Q (.ref D) H')
section
variable {X : Cx} {sc : Scope} {cap : List Nat} {own : List Str} {tg iter elt : Expr} {ifs : List Expr} {pos : Pos} {wi : TI} {g : TG} {tt : TT} {te : TE}
theorem comp_core {use : Option (Value -> Sem Unit)} {ppos : Pos} {pins : List (Addr × Obj)} {s : Shared} {σ : St} {H : Hp} {Q : V -> Hp -> Prop} {R : Value -> Shared -> Prop} (hc : X.calm = true) (S : CompOk X.N X.env.scope sc cap own) (hi : PI X tg iter wi)
  (hg : ∀ cl C s₀ H₀ ex, PG (compCx X sc cl C cap own s₀ H₀ ex) tg g) (ht : ∀ cl C s₀ H₀ ex, PTs (compCx X sc cl C cap own s₀ H₀ ex) ifs tt) (he : ∀ cl C s₀ H₀ ex, PE (compCx X sc cl C cap own s₀ H₀ ex) elt te)
  (hs : ∀ x, foldedSetIterable iter X.env x = pure x) (I : Inv X pins σ H s) (h : tComp cap own wi g tt te σ H Q)
  (fin : ∀ (D C : Addr) (H' : Hp) (s' : Shared) (m : Str -> Option Value), Inv X pins σ H' s' -> s'.heap.Ns C m -> FpOk X pins H' C -> Q (.ref D) H' -> compPost (model X.prog X.w) X.A X.xe use R (.ref D) C (.ok .next) s') :
  wpAny (model X.prog X.w) X.A (comprehension (.ListComp elt [⟨tg, iter, ifs, 0⟩] sc pos) sc X.env ppos (newList []) false (eval iter X.env) use) R X.xe s := by
 obtain ⟨cl, hclos, hc1, hc2⟩ := closure_of (env := X.env) (scope := sc) fun n hn => X.env.cells.lookup n |> fun _ => I.ok.has n (S.frees _ hn rfl)
 refine wpAny_comprehension_free (use := use) rfl hs hclos S.kind S.locs (thn (hi pins s σ H _ I h) fun v s1 h1 => thn h1 fun itv s2 h2 => ?_)
 obtain ⟨it, fp, tn, J, H2, rfl, I2, T, st2, f2, q⟩ := h2
 refine wpAny_newObj_type ?_
 obtain ⟨D, hD⟩ : ∃ D, D = s2.heap.objs.size := ⟨_, rfl⟩
 have hfr : H2 D = none := by rw [hD]; exact I2.hok.fresh (Nat.le_refl _)
 have I3 : Inv X pins σ (upd H2 D (.lst [])) { s2 with heap := s2.heap.push { cls := .type "list", dict := none, data := .seq ([] : List Value).toArray } } := by
  rw [hD]
  exact I2.laid (t' := s2.toks) (fun b u e => Heap.get?_push_of_some _ e) (Nat.le_refl _) ⟨Nat.zero_le _, [], _, .nil, Heap.get?_push_size _ rfl⟩
 have fpne : ∀ b ∈ fp, b ≠ D := fun b hb z => by
  obtain ⟨o, ho, _⟩ := T.obj _ _ st2 b hb
  exact absurd (Heap.lt_size ho) (by rw [z, hD]; exact Nat.lt_irrefl _)
 have f3 : ∀ b ∈ fp, FpOk X pins (upd H2 D (.lst [])) b := fun b hb => ⟨by rw [upd_ne (fpne b hb)]; exact (f2 b hb).1, (f2 b hb).2⟩
 have st3 : tn 0 (s2.heap.push { cls := .type "list", dict := none, data := .seq ([] : List Value).toArray }) := T.keep _ _ _ st2 fun b _ o e => Heap.get?_push_of_some _ e
 rw [<- hD]
 obtain ⟨W, ⟨m0, w0⟩, turn⟩ := q D hfr
 generalize hs3 : ({ s2 with heap := s2.heap.push { cls := .type "list", dict := none, data := .seq ([] : List Value).toArray } } : Shared) = s3 at I3 ⊢
 have st3' : tn 0 s3.heap := by rw [<- hs3]; exact st3
 refine wpAny_newFunctionEnv S.nocell (by intro y hy; simp at hy) (fun h1 hns hsb => ?_) S.kind
 have hk : ∀ b u, s3.heap.get? b = some u -> h1.get? b = some u := fun b u e => hsb.extBut b u (Nat.ne_of_lt (Heap.lt_size e)) (Heap.get?_push_of_some _ e)
 have fplt : ∀ b ∈ fp, b < s3.heap.objs.size := fun b hb => by
  obtain ⟨o, ho, _⟩ := T.obj _ _ st3' b hb
  exact Heap.lt_size ho
 have I4 := I3.block (t' := s3.toks + ([] : List (Str × Value)).length) S hc1 hc2 f3 fplt hns hk
 have fC : ∀ H', H' s3.heap.objs.size = none -> FpOk X pins H' s3.heap.objs.size := fun H' hn => I3.fpOk (Nat.le_refl _) hn
 obtain ⟨C, hC⟩ : ∃ C, C = s3.heap.objs.size := ⟨_, rfl⟩
 rw [<- hC] at I4 fC
 rw [<- hC]
 obtain ⟨Xc, hXc⟩ : ∃ Xc, Xc = compCx X sc cl C cap own s3 (upd H2 D (.lst [])) fp := ⟨_, rfl⟩
 rw [<- hXc] at I4
 have gX : PG Xc tg g := hXc ▸ hg cl C s3 _ fp
 have tX : PTs Xc ifs tt := hXc ▸ ht cl C s3 _ fp
 have eX : PE Xc elt te := hXc ▸ he cl C s3 _ fp
 have x1 : Xc.prog = X.prog := by rw [hXc]; rfl
 have x2 : Xc.w = X.w := by rw [hXc]; rfl
 have x3 : Xc.K = X.K := by rw [hXc]; rfl
 have x4 : Xc.calm = true := by rw [hXc]; exact hc
 have x5 : Xc.A = X.A := by rw [hXc]; rfl
 have x6 : Xc.env = compEnvC sc cl C X.env := by rw [hXc]; rfl
 have x7 : Xc.xe = fun _ _ => False := by rw [hXc]; rfl
 have stat : ∀ {H' : Hp}, (∀ b ∈ fp, H' b = none) -> ∀ b ∈ fp, FpOk Xc [] H' b := fun hn b hb => by
  rw [hXc]
  refine ⟨hn b hb, ?_, ?_, .inl hb, fun x c e => (f3 b hb).2.2.2.2.1 x c (hc1 x c e), fun p hp => absurd hp (by show p ∉ ([] ++ [] : List (Addr × Obj)); simp)⟩
  ·show b ≠ C
   rw [hC]
   exact Nat.ne_of_lt (fplt b hb)
  ·intro z
   rcases List.mem_cons.mp (I3.stkSub b z) with q | q
   ·exact (f3 b hb).2.1 q
   ·exact (f3 b hb).2.2.1 q
 have st4 : tn 0 h1 := T.keep _ _ _ st3' fun b _ o e => hk b o e
 have loop : ∀ s4 : Shared, s4 = { s3 with heap := h1, toks := s3.toks + ([] : List (Str × Value)).length } →
   codeAny (model X.prog X.w) X.A (.compLoop (.ListComp elt [⟨tg, iter, ifs, 0⟩] sc pos) 0 (.ref it) (.ref D) (compEnvC sc cl C X.env)) (compPost (model X.prog X.w) X.A X.xe use R (.ref D) C) s4 := by
  rintro s4 rfl
  refine comp_loop (fun n s' => ∃ i σ' H' ys, Inv Xc [] σ' H' s' /\ tn i s'.heap /\ (∀ b ∈ fp, H' b = none) /\ H' D = some (.lst ys) /\ W i n ys σ' H') ?_ m0 ⟨0, _, _, [], I4, st4, fun b hb => (f3 b hb).1, upd_same, w0⟩
  rintro n s5 ⟨i, σ5, H5, ys, I5, st5, fr5, hD5, w5⟩
  obtain ⟨_, cases5⟩ := turn i n ys σ5 H5 w5
  rcases cases5 with ⟨stop, qq⟩ | ⟨go, step⟩
  ·have td := T.done Xc x1 x2 x3 x4 i [] s5 σ5 H5 (fun _ _ => False) I5 (stat fr5) st5 stop
   rw [x5] at td
   refine thn td fun r s6 ⟨hr, I6⟩ => ?_
   subst hr
   show compPost _ _ _ _ _ _ _ (.ok .next) s6
   obtain ⟨m6, hn6, _⟩ := id I6.loc
   rw [x6] at hn6
   have u6 := I6.base
   have ok6 := I6.hok
   have fr6 : H5 C = none := by have := I6.free; rw [x6] at this; exact this
   have os6 : s6.os = s3.os := by have := I6.os; rw [hXc] at this; exact this
   rw [hXc] at u6 ok6
   have IX : Inv X pins σ H5 s6 := I3.call' (s' := s6) os6 u6 ok6 I6.bare fun b hb => ⟨(f3 b hb).2.2.2.1, (f3 b hb).2.1, (f3 b hb).2.2.2.2.1, (f3 b hb).2.2.2.2.2⟩
   exact fin D C H5 s6 m6 IX hn6 (fC H5 fr6) qq
  ·have ti := T.item Xc x1 x2 x3 x4 i [] s5 σ5 H5 (fun _ _ => False) I5 (stat fr5) st5 go
   rw [x5] at ti
   refine thn ti fun r s6 ⟨u, hr, h6⟩ => ?_
   subst hr
   refine thn h6 fun _ s7 ⟨x, H7, I7, r7, y7, st7, fr7⟩ => ?_
   have I7' := I7.pinned (stat fr7) (T.obj _ _ st7)
   have a7 := gX _ s7 σ5 H7 x u _ I7' r7 (step x H7 y7)
   rw [x1, x2, x5, x6, x7] at a7
   refine thn a7 fun _ s8 ⟨σ8, H8, I8, q8⟩ => ?_
   have a8 := tX _ s8 σ8 H8 _ I8 q8
   rw [x1, x2, x5, x6, x7] at a8
   have again : ∀ {σ9 : St} {H9 : Hp} {s9 : Shared} {zs : List V} {m' : Nat}, Inv Xc ([] ++ pinsAt fp s7.heap) σ9 H9 s9 -> H9 D = some (.lst zs) -> m' < n -> W (i + 1) m' zs σ9 H9 →
     ∃ m, m < n /\ ∃ i σ' H' ys, Inv Xc [] σ' H' s9 /\ tn i s9.heap /\ (∀ b ∈ fp, H' b = none) /\ H' D = some (.lst ys) /\ W i m ys σ' H' := fun {σ9 H9 s9 zs m'} I9 hz hm w9 => by
    refine ⟨m', hm, i + 1, σ9, H9, zs, I9.unpinned, T.keep _ _ _ st7 fun b hb o e => (I9.pin (b, o) (List.mem_append_right _ (List.mem_append_right _ (mem_pinsAt hb e)))).1, fun b hb => ?_, hz, w9⟩
    obtain ⟨o, e, d⟩ := T.obj _ _ st7 b hb
    exact (I9.pin (b, o) (List.mem_append_right _ (List.mem_append_right _ (mem_pinsAt hb e)))).2.1
   refine thn a8 fun ok s9 ⟨H9, I9, q9⟩ => ?_
   cases ok with
   | false =>
    rw [if_neg Bool.false_ne_true] at q9 ⊢
    obtain ⟨m', hm, w9⟩ := q9
    exact again I9 (turn _ _ _ _ _ w9).1 hm w9
   | true =>
    rw [if_pos rfl] at q9 ⊢
    have a9 := eX _ s9 σ8 H9 _ I9 q9
    rw [x1, x2, x5, x6, x7] at a9
    refine thn a9 fun v s10 ⟨y, H10, I10, r10, hD10, hlen, m', hm, w10⟩ => ?_
    have a10 := mt_append (X := Xc) ([] ++ pinsAt fp s7.heap) s10 σ8 H10 (.ref D) [y] (.ref D) [v] (fun _ H11 => H11 = upd H10 D (.lst (ys ++ [y]))) I10 rfl (.cons r10 .nil) ⟨D, ys, y, rfl, rfl, hD10, hlen, rfl⟩
    rw [x1, x2, x5, x7] at a10
    refine thn a10 fun _ s11 ⟨_, H11, I11, _, e11⟩ => ?_
    subst e11
    exact again I11 upd_same hm w10
 exact codeAny_compStart_list (loop _ rfl) (T.self _ 0 _ _ _ st4 (loop _ rfl))
theorem pe_comp (S : CompOk X.N X.env.scope sc cap own) (hc : X.calm = true) (hi : PI X tg iter wi)
  (hg : ∀ cl C s₀ H₀ ex, PG (compCx X sc cl C cap own s₀ H₀ ex) tg g) (ht : ∀ cl C s₀ H₀ ex, PTs (compCx X sc cl C cap own s₀ H₀ ex) ifs tt) (he : ∀ cl C s₀ H₀ ex, PE (compCx X sc cl C cap own s₀ H₀ ex) elt te)
  (hs : ∀ x, foldedSetIterable iter X.env x = pure x := by intro _; rfl) : PE X (.ListComp elt [⟨tg, iter, ifs, 0⟩] sc pos) (tComp cap own wi g tt te) := by
 intro pins s σ H Q I h
 rw [eval_ListComp]
 refine comp_core (use := none) hc S hi hg ht he hs I h fun D C H' s' m I' hn hf q => ?_
 refine ⟨m, hn, fun h' sb => ?_⟩
 obtain ⟨f0, f1, f2, f3, f4, f5⟩ := hf
 exact ⟨.ref D, H', I'.turned (t' := s'.toks) (fun b o hb e => (sb.2 b hb).trans e) f0 f1 f3 f4 f5, rfl, q⟩
end
end L2
set_option linter.all false
set_option maxRecDepth 100000
set_option maxHeartbeats 1000000
namespace L2
open PySem PySem.Spec PyProof.Rows
section
variable {X : Cx} {pins : List (Addr × Obj)} {σ : St} {H : Hp} {s : Shared} {h' : Heap}
theorem Inv.turnedUp {fp : List Addr} {a : Addr} {o : HO} {t' : Nat} (I : Inv X pins σ H s) (hf : ∀ b ∈ fp, FpOk X pins H b) (k : ∀ b u, b ∉ fp -> s.heap.get? b = some u -> h'.get? b = some u) (ha : s.heap.objs.size <= a)
  (new : ObjOk X.prog X.w (upd H a o) h' a o) : Inv X pins σ (upd H a o) { s with heap := h', toks := t' } := by
 have ne : ∀ b u, s.heap.get? b = some u -> b ≠ a := fun b u e => Nat.ne_of_lt (Nat.lt_of_lt_of_le (Heap.lt_size e) ha)
 have nH : H a = none := I.hok.fresh ha
 have nb : ∀ b u, H b = some u -> b ≠ a := fun b u e z => by rw [z, nH] at e; cases e
 have nf : ∀ b u, H b = some u -> b ∉ fp := fun b u e z => by rw [(hf b z).1] at e; cases e
 refine I.step (g' := s.gens) (d' := s.drawn) (ch := fp) (fun b hb => ⟨(hf b hb).2.2.2.1, (hf b hb).2.1, (hf b hb).2.2.2.2.1, (hf b hb).2.2.2.2.2⟩) (fun b o _ _ hc e _ => k b o hc e) (fun b o _ _ hc e _ => ⟨o.slots, k b o hc e⟩)
  (fun b o _ e n => by rw [upd_ne (ne b o e)]; exact n) (fun b o hc e => ?_) (fun b xs e => by rw [upd_ne (nb b _ e)]; exact e) (fun b o u e => by rw [upd_ne (nb b _ e)]; exact e) (fun b ps e => ⟨#[], by rw [upd_ne (nb b _ e), e]; simp⟩)
  (fun m hm => by
   obtain ⟨oL, es, ep, ho, r⟩ := hm
   exact ⟨oL, es, ep, k _ oL (fun z => (hf _ z).2.1 rfl) ho, r⟩) (fun b u e => ?_) I.bare
 ·exact ⟨o, k b o hc e⟩
 ·by_cases hb : b = a
  ·subst hb; rw [upd_same] at e; cases e; exact new
  ·rw [upd_ne hb] at e
   refine (I.hok b u e).stay (fun c v hc q => k c v ?_ q) (fun c q => by rw [upd_ne (nb c _ q)]; exact q) fun c xs q => by rw [upd_ne (nb c _ q)]; exact q
   rcases hc with z | z
   ·rw [z]; exact nf b u e
   ·exact nf c _ z
theorem Inv.turnedL {fp : List Addr} {t' : Nat} (I : Inv X pins σ H s) (hf : ∀ b ∈ fp, FpOk X pins H b) (k : ∀ b u, b ∉ fp -> s.heap.get? b = some u -> h'.get? b = some u) : Inv X pins σ H { s with heap := h', toks := t' } := by
 have nf : ∀ b u, H b = some u -> b ∉ fp := fun b u e z => by rw [(hf b z).1] at e; cases e
 refine I.step (g' := s.gens) (d' := s.drawn) (ch := fp) (fun b hb => ⟨(hf b hb).2.2.2.1, (hf b hb).2.1, (hf b hb).2.2.2.2.1, (hf b hb).2.2.2.2.2⟩) (fun b o _ _ hc e _ => k b o hc e) (fun b o _ _ hc e _ => ⟨o.slots, k b o hc e⟩)
  (fun b o _ e n => n) (fun b o hc e => ⟨o, k b o hc e⟩) (fun b xs e => e) (fun b o u e => e) (fun b ps e => ⟨#[], by rw [e]; simp⟩)
  (fun m hm => by
   obtain ⟨oL, es, ep, ho, r⟩ := hm
   exact ⟨oL, es, ep, k _ oL (fun z => (hf _ z).2.1 rfl) ho, r⟩) (fun b u e => ?_) I.bare
 refine (I.hok b u e).stay (fun c v hc q => k c v ?_ q) (fun _ q => q) fun _ _ q => q
 rcases hc with z | z
 ·rw [z]; exact nf b u e
 ·exact nf c _ z
end
def Itz (K : PySem.W.Frag) (l1 l2 : Addr) (xs ys : List V) : It :=
 ⟨fun i H => SqL K H l1 xs /\ SqL K H l2 ys /\ i < xs.length /\ i < ys.length, fun i H x H' => ∃ T u v, H T = none /\ x = .ref T /\ xs[i]? = some u /\ ys[i]? = some v /\ H' = upd H T (.tup [u, v]),
  fun i H => SqL K H l1 xs /\ SqL K H l2 ys /\ (xs.length <= i \/ ys.length <= i)⟩
structure Five (z TI TO i1 i2 : Addr) : Prop where
 TIz : TI ≠ z
 TOz : TO ≠ z
 i1z : i1 ≠ z
 i2z : i2 ≠ z
 TITO : TI ≠ TO
 TIi1 : TI ≠ i1
 TIi2 : TI ≠ i2
 TOi1 : TO ≠ i1
 TOi2 : TO ≠ i2
 i12 : i1 ≠ i2
section
variable {X : Cx}
def iZip (K : PySem.W.Frag) (ta : TA) : TI := fun σ H R => ta σ H fun vs H1 => ∃ l1 l2 xs ys, vs = [.ref l1, .ref l2] /\ SqL K H1 l1 xs /\ SqL K H1 l2 ys /\ R (Itz K l1 l2 xs ys) H1
end
end L2
set_option linter.all false
set_option maxRecDepth 100000
set_option maxHeartbeats 1000000
namespace L2
open PySem PySem.Spec PyProof.Rows
inductive Dt where
 | non | bl (b : Bool) | int (i : Int) | str (x : Str) | lst (l : List Dt) | tup (l : List Dt)
mutual
def eqD : Dt -> Dt -> Bool
 | .non, .non => true
 | .bl a, .bl b => a == b
 | .bl a, .int b => (if a then 1 else 0) == b
 | .int a, .bl b => a == (if b then 1 else 0)
 | .int a, .int b => a == b
 | .str a, .str b => a == b
 | .lst a, .lst b => eqDs a b
 | .tup a, .tup b => eqDs a b
 | _, _ => false
def eqDs : List Dt -> List Dt -> Bool
 | [], [] => true
 | a :: as, b :: bs => eqD a b && eqDs as bs
 | [], _ :: _ => false
 | _ :: _, [] => false
end
mutual
def depD : Dt -> Nat
 | .lst a => depDs a + 1
 | .tup a => depDs a + 1
 | _ => 0
def depDs : List Dt -> Nat
 | [] => 0
 | a :: as => max (depD a) (depDs as)
end
mutual
def Sees (K : PySem.W.Frag) (H : Hp) : V -> Dt -> Prop
 | v, .non => v = .non
 | v, .bl b => v = .bl b
 | v, .int i => v = .int i
 | v, .str x => v = .str x
 | v, .lst ds => ∃ a xs, v = .ref a /\ SqL K H a xs /\ SeesL K H xs ds
 | v, .tup ds => ∃ a xs, v = .ref a /\ SqT K H a xs /\ SeesL K H xs ds
def SeesL (K : PySem.W.Frag) (H : Hp) : List V -> List Dt -> Prop
 | xs, [] => xs = []
 | xs, d :: ds => ∃ v vs, xs = v :: vs /\ Sees K H v d /\ SeesL K H vs ds
end
theorem eqDs_length : ∀ {a b : List Dt}, eqDs a b = true -> a.length = b.length
 | [], [], _ => rfl
 | x :: a, y :: b, h => by
  rw [eqDs, Bool.and_eq_true] at h
  rw [List.length_cons, List.length_cons, eqDs_length h.2]
 | [], _ :: _, h => by rw [eqDs] at h; cases h
 | _ :: _, [], h => by rw [eqDs] at h; cases h
theorem SeesL.length {K : PySem.W.Frag} {H : Hp} : ∀ {ds : List Dt} {xs : List V}, SeesL K H xs ds -> xs.length = ds.length
 | [], xs, h => by rw [SeesL] at h; rw [h]; rfl
 | d :: ds, xs, h => by
  rw [SeesL] at h
  obtain ⟨v, vs, rfl, _, t⟩ := h
  rw [List.length_cons, List.length_cons, SeesL.length t]
theorem SeesL.get {K : PySem.W.Frag} {H : Hp} : ∀ {ds : List Dt} {xs : List V} (j : Nat) (h1 : j < xs.length) (h2 : j < ds.length), SeesL K H xs ds -> Sees K H xs[j] ds[j]
 | d :: ds, xs, j, h1, h2, h => by
  rw [SeesL] at h
  obtain ⟨v, vs, rfl, s, t⟩ := h
  cases j with
  | zero => exact s
  | succ j => exact SeesL.get j (by simpa using h1) (by simpa using h2) t
theorem eqDs_all : ∀ {a b : List Dt}, a.length = b.length -> eqDs a b = (List.range a.length).all fun j => eqD (a.getD j .non) (b.getD j .non)
 | [], [], _ => by rw [eqDs]; rfl
 | x :: a, y :: b, h => by
  have ih := eqDs_all (a := a) (b := b) (by simpa using h)
  rw [eqDs, ih, List.length_cons, List.range_succ_eq_map, List.all_cons, List.all_map]
  rfl
theorem dep_get : ∀ {ds : List Dt} {j : Nat} (h : j < ds.length), depD ds[j] <= depDs ds
 | d :: ds, j, h => by
  rw [depDs]
  cases j with
  | zero => exact Nat.le_max_left _ _
  | succ j =>
   have h' : j < ds.length := by simpa using h
   exact Nat.le_trans (dep_get (ds := ds) (j := j) h') (Nat.le_max_right _ _)
mutual
theorem eqD_refl : ∀ d : Dt, eqD d d = true
 | .non => by rw [eqD]
 | .bl b => by rw [eqD]; exact beq_self_eq_true _
 | .int b => by rw [eqD]; exact beq_self_eq_true _
 | .str b => by rw [eqD]; exact beq_self_eq_true _
 | .lst l => by rw [eqD]; exact eqDs_refl l
 | .tup l => by rw [eqD]; exact eqDs_refl l
theorem eqDs_refl : ∀ l : List Dt, eqDs l l = true
 | [] => by rw [eqDs]
 | d :: l => by rw [eqDs, eqD_refl d, eqDs_refl l]; rfl
end
section
variable {X : Cx} {pins : List (Addr × Obj)} {σ : St} {H : Hp} {s : Shared}
mutual
theorem sees_inj (I : Inv X pins σ H s) : ∀ {d d' : Dt} {v : V}, Sees X.K H v d -> Sees X.K H v d' -> d = d'
 | .non, d', v, h, h' => by
  rw [Sees] at h; subst h
  cases d' <;> rw [Sees] at h' <;> first | (obtain ⟨a, xs, z, _⟩ := h'; cases z) | rfl | cases h'
 | .bl b, d', v, h, h' => by
  rw [Sees] at h; subst h
  cases d' <;> rw [Sees] at h' <;> first | (obtain ⟨a, xs, z, _⟩ := h'; cases z) | (cases h'; rfl) | cases h'
 | .int b, d', v, h, h' => by
  rw [Sees] at h; subst h
  cases d' <;> rw [Sees] at h' <;> first | (obtain ⟨a, xs, z, _⟩ := h'; cases z) | (cases h'; rfl) | cases h'
 | .str b, d', v, h, h' => by
  rw [Sees] at h; subst h
  cases d' <;> rw [Sees] at h' <;> first | (obtain ⟨a, xs, z, _⟩ := h'; cases z) | (cases h'; rfl) | cases h'
 | .lst ds, d', v, h, h' => by
  rw [Sees] at h
  obtain ⟨a, xs, rfl, q, t⟩ := h
  cases d' with
  | lst ds' =>
   rw [Sees] at h'
   obtain ⟨a', xs', z, q', t'⟩ := h'
   cases z
   have := I.list_inj q q'
   subst this
   rw [seesL_inj I t t']
  | tup ds' =>
   rw [Sees] at h'
   obtain ⟨a', xs', z, q', t'⟩ := h'
   cases z
   obtain ⟨its, _, p, _⟩ := I.list q
   obtain ⟨its', _, p', _⟩ := I.tuple q'
   exact absurd rfl (SeqAt.ne_of_list_tuple p.isList p')
  | _ => rw [Sees] at h'; cases h'
 | .tup ds, d', v, h, h' => by
  rw [Sees] at h
  obtain ⟨a, xs, rfl, q, t⟩ := h
  cases d' with
  | tup ds' =>
   rw [Sees] at h'
   obtain ⟨a', xs', z, q', t'⟩ := h'
   cases z
   have := I.tuple_inj q q'
   subst this
   rw [seesL_inj I t t']
  | lst ds' =>
   rw [Sees] at h'
   obtain ⟨a', xs', z, q', t'⟩ := h'
   cases z
   obtain ⟨its, _, p, _⟩ := I.tuple q
   obtain ⟨its', _, p', _⟩ := I.list q'
   exact absurd rfl (SeqAt.ne_of_list_tuple p'.isList p)
  | _ => rw [Sees] at h'; cases h'
theorem seesL_inj (I : Inv X pins σ H s) : ∀ {ds ds' : List Dt} {xs : List V}, SeesL X.K H xs ds -> SeesL X.K H xs ds' -> ds = ds'
 | [], ds', xs, h, h' => by
  rw [SeesL] at h; subst h
  cases ds' with
  | nil => rfl
  | cons d' ds' => rw [SeesL] at h'; obtain ⟨_, _, z, _⟩ := h'; cases z
 | d :: ds, ds', xs, h, h' => by
  rw [SeesL] at h
  obtain ⟨v, vs, rfl, q, t⟩ := h
  cases ds' with
  | nil => rw [SeesL] at h'; cases h'
  | cons d' ds' =>
   rw [SeesL] at h'
   obtain ⟨v', vs', z, q', t'⟩ := h'
   cases z
   rw [sees_inj I q q', seesL_inj I t t']
end
def flatD : Dt -> Bool
 | .lst _ => false
 | .tup _ => false
 | _ => true
theorem flat_eq (I : Inv X pins σ H s) {A : Around} {d d' : Dt} {v v' : V} {u u' : Value} (h : Sees X.K H v d) (h' : Sees X.K H v' d') (r : RelV v u) (r' : RelV v' u') (f : flatD d = true) (hu : A.units < cLine) : SeqAt.EqAt A s u u' (eqD d d') := by
 have ends : ∀ (T : SeqAt.EqAt A s u u' (eqD d d')), SeqAt.EqAt A s u u' (eqD d d') := fun T => T
 cases d with
 | lst l => exact absurd (show false = true from f) Bool.false_ne_true
 | tup l => exact absurd (show false = true from f) Bool.false_ne_true
 | non =>
  simp only [Sees] at h; subst h; cases r
  cases d' with
  | lst l => simp only [Sees] at h'; obtain ⟨a, xs, rfl, q, t⟩ := h'; cases r'; obtain ⟨its, rv, p, _⟩ := I.list q; simp only [eqD]; exact SeqAt.EqAt.none_list p.isList hu
  | tup l => simp only [Sees] at h'; obtain ⟨a, xs, rfl, q, t⟩ := h'; cases r'; obtain ⟨its, rv, p, _⟩ := I.tuple q; simp only [eqD]; exact SeqAt.EqAt.none_tuple p hu
  | non => simp only [Sees] at h'; subst h'; simp only [eqD]; exact eqAt_V (y := .non) (x := .non) rfl r' rfl rfl
  | bl b => simp only [Sees] at h'; subst h'; simp only [eqD]; exact eqAt_V (y := .non) (x := .bl b) rfl r' rfl rfl
  | int b => simp only [Sees] at h'; subst h'; simp only [eqD]; exact eqAt_V (y := .non) (x := .int b) rfl r' rfl rfl
  | str b => simp only [Sees] at h'; subst h'; simp only [eqD]; exact eqAt_V (y := .non) (x := .str b) rfl r' rfl rfl
 | bl c =>
  simp only [Sees] at h; subst h
  cases d' with
  | lst l => cases r; simp only [Sees] at h'; obtain ⟨a, xs, rfl, q, t⟩ := h'; cases r'; obtain ⟨its, rv, p, _⟩ := I.list q; simp only [eqD]; exact SeqAt.EqAt.bool_list c p.isList hu
  | tup l => cases r; simp only [Sees] at h'; obtain ⟨a, xs, rfl, q, t⟩ := h'; cases r'; obtain ⟨its, rv, p, _⟩ := I.tuple q; simp only [eqD]; exact SeqAt.EqAt.bool_tuple c p hu
  | non => simp only [Sees] at h'; subst h'; simp only [eqD]; exact eqAt_V (y := .bl c) (x := .non) r r' rfl rfl
  | bl b => simp only [Sees] at h'; subst h'; simp only [eqD]; exact eqAt_V (y := .bl c) (x := .bl b) r r' rfl rfl
  | int b => simp only [Sees] at h'; subst h'; simp only [eqD]; exact eqAt_V (y := .bl c) (x := .int b) r r' rfl rfl
  | str b => simp only [Sees] at h'; subst h'; simp only [eqD]; exact eqAt_V (y := .bl c) (x := .str b) r r' rfl rfl
 | int c =>
  simp only [Sees] at h; subst h
  cases d' with
  | lst l => obtain ⟨t, rfl⟩ := r; simp only [Sees] at h'; obtain ⟨a, xs, rfl, q, t⟩ := h'; cases r'; obtain ⟨its, rv, p, _⟩ := I.list q; simp only [eqD]; exact SeqAt.EqAt.int_list c _ p.isList hu
  | tup l => obtain ⟨t, rfl⟩ := r; simp only [Sees] at h'; obtain ⟨a, xs, rfl, q, t⟩ := h'; cases r'; obtain ⟨its, rv, p, _⟩ := I.tuple q; simp only [eqD]; exact SeqAt.EqAt.int_tuple c _ p hu
  | non => simp only [Sees] at h'; subst h'; simp only [eqD]; exact eqAt_V (y := .int c) (x := .non) r r' rfl rfl
  | bl b => simp only [Sees] at h'; subst h'; simp only [eqD]; exact eqAt_V (y := .int c) (x := .bl b) r r' rfl rfl
  | int b => simp only [Sees] at h'; subst h'; simp only [eqD]; exact eqAt_V (y := .int c) (x := .int b) r r' rfl rfl
  | str b => simp only [Sees] at h'; subst h'; simp only [eqD]; exact eqAt_V (y := .int c) (x := .str b) r r' rfl rfl
 | str c =>
  simp only [Sees] at h; subst h
  cases d' with
  | lst l => obtain ⟨t, rfl⟩ := r; simp only [Sees] at h'; obtain ⟨a, xs, rfl, q, t⟩ := h'; cases r'; obtain ⟨its, rv, p, _⟩ := I.list q; simp only [eqD]; exact SeqAt.EqAt.str_list c _ p.isList hu
  | tup l => obtain ⟨t, rfl⟩ := r; simp only [Sees] at h'; obtain ⟨a, xs, rfl, q, t⟩ := h'; cases r'; obtain ⟨its, rv, p, _⟩ := I.tuple q; simp only [eqD]; exact SeqAt.EqAt.str_tuple c _ p hu
  | non => simp only [Sees] at h'; subst h'; simp only [eqD]; exact eqAt_V (y := .str c) (x := .non) r r' rfl rfl
  | bl b => simp only [Sees] at h'; subst h'; simp only [eqD]; exact eqAt_V (y := .str c) (x := .bl b) r r' rfl rfl
  | int b => simp only [Sees] at h'; subst h'; simp only [eqD]; exact eqAt_V (y := .str c) (x := .int b) r r' rfl rfl
  | str b => simp only [Sees] at h'; subst h'; simp only [eqD]; exact eqAt_V (y := .str c) (x := .str b) r r' rfl rfl
def eJ (ds ds' : List Dt) (j : Nat) : Bool := eqD (ds.getD j .non) (ds'.getD j .non)
theorem items_eq {A : Around} {ds ds' : List Dt} {xs xs' : List V} {its its' : List Value} (t : SeesL X.K H xs ds) (t' : SeesL X.K H xs' ds') (rv : Vals xs its) (rv' : Vals xs' its')
  (ih : ∀ (d d' : Dt) (v v' : V) (u u' : Value), depD d <= depDs ds -> Sees X.K H v d -> Sees X.K H v' d' -> RelV v u -> RelV v' u' -> SeqAt.EqAt A s u u' (eqD d d')) :
  ∀ j (h1 : j < its.toArray.size) (h2 : j < its'.toArray.size), SeqAt.EqAt A s its.toArray[j] its'.toArray[j] (eJ ds ds' j) := by
 intro j h1 h2
 have l1 := rv.length
 have l2 := rv'.length
 have k1 := t.length
 have k2 := t'.length
 simp only [List.size_toArray] at h1 h2
 have b1 : j < xs.length := by omega
 have b2 : j < xs'.length := by omega
 have c1 : j < ds.length := by omega
 have c2 : j < ds'.length := by omega
 obtain ⟨u, hu, ru⟩ := rv.get (List.getElem?_eq_getElem b1)
 obtain ⟨u', hu', ru'⟩ := rv'.get (List.getElem?_eq_getElem b2)
 have e1 : its.toArray[j] = u := by
  have := (List.getElem?_eq_some_iff.mp hu).2
  simpa using this
 have e2 : its'.toArray[j] = u' := by
  have := (List.getElem?_eq_some_iff.mp hu').2
  simpa using this
 rw [e1, e2]
 have g1 : ds.getD j .non = ds[j] := by rw [List.getD_eq_getElem?_getD, List.getElem?_eq_getElem c1]; rfl
 have g2 : ds'.getD j .non = ds'[j] := by rw [List.getD_eq_getElem?_getD, List.getElem?_eq_getElem c2]; rfl
 unfold eJ
 rw [g1, g2]
 exact ih _ _ _ _ _ _ (dep_get c1) (SeesL.get j b1 c1 t) (SeesL.get j b2 c2 t') ru ru'
theorem eqDs_len {ds ds' : List Dt} (h : ds.length ≠ ds'.length) : eqDs ds ds' = false := by
 cases q : eqDs ds ds' with
 | false => rfl
 | true => exact absurd (eqDs_length q) h
theorem min_all {ds ds' : List Dt} : ((List.range (min ds.length ds'.length)).all (eJ ds ds') && ds.length == ds'.length) = eqDs ds ds' := by
 by_cases h : ds.length = ds'.length
 ·rw [h, Nat.min_self, beq_self_eq_true, Bool.and_true, eqDs_all h, h]
  rfl
 ·rw [eqDs_len h, beq_eq_false_iff_ne.mpr h, Bool.and_false]
theorem sees_eq (I : Inv X pins σ H s) : ∀ (n : Nat) (A : Around) (d d' : Dt) (v v' : V) (u u' : Value), depD d <= n -> Sees X.K H v d -> Sees X.K H v' d' -> RelV v u -> RelV v' u' -> A.units + n < cLine -> SeqAt.EqAt A s u u' (eqD d d') := by
 intro n
 induction n with
 | zero =>
  intro A d d' v v' u u' hn h h' r r' hu
  refine flat_eq I h h' r r' ?_ hu
  cases d with
  | lst l => simp only [depD] at hn; omega
  | tup l => simp only [depD] at hn; omega
  | _ => rfl
 | succ n ih =>
  intro A d d' v v' u u' hn h h' r r' hu
  have hu0 : A.units < cLine := by omega
  have hin : A.in1.units + n < cLine := by
   have : A.in1.units = A.units + 1 := rfl
   omega
  cases fd : flatD d with
  | true => exact flat_eq I h h' r r' fd hu0
  | false =>
   cases d with
   | lst l =>
    simp only [depD] at hn
    simp only [Sees] at h
    obtain ⟨a, xs, rfl, q, t⟩ := h
    cases r
    obtain ⟨its, rv, p, _⟩ := I.list q
    cases d' with
    | non => simp only [Sees] at h'; subst h'; cases r'; simp only [eqD]; exact SeqAt.EqAt.list_none p.isList hu0
    | bl b => simp only [Sees] at h'; subst h'; cases r'; simp only [eqD]; exact SeqAt.EqAt.list_bool b p.isList hu0
    | int b => simp only [Sees] at h'; subst h'; obtain ⟨t', rfl⟩ := r'; simp only [eqD]; exact SeqAt.EqAt.list_int b _ p.isList hu0
    | str b => simp only [Sees] at h'; subst h'; obtain ⟨t', rfl⟩ := r'; simp only [eqD]; exact SeqAt.EqAt.list_str b _ p.isList hu0
    | tup l' =>
     simp only [Sees] at h'
     obtain ⟨a', xs', rfl, q', t'⟩ := h'
     cases r'
     obtain ⟨its', rv', p', _⟩ := I.tuple q'
     simp only [eqD]
     exact SeqAt.EqAt.list_tuple p.isList p' hu0
    | lst l' =>
     have h2 := h'
     simp only [Sees] at h'
     obtain ⟨a', xs', rfl, q', t'⟩ := h'
     cases r'
     obtain ⟨its', rv', p', _⟩ := I.list q'
     by_cases e : a = a'
     ·subst e
      have : xs = xs' := I.list_inj q q'
      subst this
      have := seesL_inj I t t'
      subst this
      rw [eqD_refl]
      exact SeqAt.EqAt.same _
     ·refine SeqAt.EqAt.of_refs e ?_
      have le1 := rv.length
      have le2 := rv'.length
      have k1 := t.length
      have k2 := t'.length
      simp only [eqD]
      by_cases hl : l.length = l'.length
      ·have := SeqAt.RcAt.lists (A := A) (e := eJ l l') p.isList p'.isList (by simp only [List.size_toArray]; omega) hu0 (items_eq t t' rv rv' fun d d' v v' u u' hd b1 b2 b3 b4 => ih A.in1 d d' v v' u u' (by omega) b1 b2 b3 b4 hin)
       have hs : its.toArray.size = l.length := by simp only [List.size_toArray]; omega
       rw [hs] at this
       rw [eqDs_all hl]
       exact this
      ·rw [eqDs_len hl]
       exact SeqAt.RcAt.lists_lengths p.isList p'.isList (by simp only [List.size_toArray, bne_iff_ne, ne_eq]; omega) hu0
   | tup l =>
    simp only [depD] at hn
    simp only [Sees] at h
    obtain ⟨a, xs, rfl, q, t⟩ := h
    cases r
    obtain ⟨its, rv, p, _⟩ := I.tuple q
    cases d' with
    | non => simp only [Sees] at h'; subst h'; cases r'; simp only [eqD]; exact SeqAt.EqAt.tuple_none p hu0
    | bl b => simp only [Sees] at h'; subst h'; cases r'; simp only [eqD]; exact SeqAt.EqAt.tuple_bool b p hu0
    | int b => simp only [Sees] at h'; subst h'; obtain ⟨t', rfl⟩ := r'; simp only [eqD]; exact SeqAt.EqAt.tuple_int b _ p hu0
    | str b => simp only [Sees] at h'; subst h'; obtain ⟨t', rfl⟩ := r'; simp only [eqD]; exact SeqAt.EqAt.tuple_str b _ p hu0
    | lst l' =>
     simp only [Sees] at h'
     obtain ⟨a', xs', rfl, q', t'⟩ := h'
     cases r'
     obtain ⟨its', rv', p', _⟩ := I.list q'
     simp only [eqD]
     exact SeqAt.EqAt.tuple_list p p'.isList hu0
    | tup l' =>
     simp only [Sees] at h'
     obtain ⟨a', xs', rfl, q', t'⟩ := h'
     cases r'
     obtain ⟨its', rv', p', _⟩ := I.tuple q'
     by_cases e : a = a'
     ·subst e
      have : xs = xs' := I.tuple_inj q q'
      subst this
      have := seesL_inj I t t'
      subst this
      rw [eqD_refl]
      exact SeqAt.EqAt.same _
     ·refine SeqAt.EqAt.of_refs e ?_
      have le1 := rv.length
      have le2 := rv'.length
      have k1 := t.length
      have k2 := t'.length
      simp only [eqD]
      have := SeqAt.RcAt.tuples (A := A) (e := eJ l l') p p' hu0 (items_eq t t' rv rv' fun d d' v v' u u' hd b1 b2 b3 b4 => ih A.in1 d d' v v' u u' (by omega) b1 b2 b3 b4 hin)
      have hs : its.toArray.size = l.length := by simp only [List.size_toArray]; omega
      have hs' : its'.toArray.size = l'.length := by simp only [List.size_toArray]; omega
      rw [hs, hs', min_all] at this
      exact this
   | _ => cases fd
end
section
variable {X : Cx}
def sameK : Dt -> Dt -> Bool
 | .lst _, .tup _ => false
 | .tup _, .lst _ => false
 | _, _ => true
def rEqD (K : PySem.W.Frag) (neg : Bool) : R2 := fun x y H Q => ∃ d d', Sees K H x d /\ Sees K H y d' /\ flatD d = false /\ sameK d d' = true /\ (∃ p, y = .ref p) /\ depD d <= 60 /\ Q (.bl (if neg then !eqD d d' else eqD d d')) H
theorem op_eqD (hu : X.A.units + 64 < cLine) : OpR X (compareOp .Eq) (rEqD X.K false) := by
 intro pins s σ H x y v u Q I rx ry h
 obtain ⟨d, d', h1, h2, fd, sk, ⟨p', rfl⟩, hd, q⟩ := h
 cases ry
 have hu0 : X.A.units < cLine := by omega
 have hin : X.A.in1.units + 60 < cLine := by
  have : X.A.in1.units = X.A.units + 1 := rfl
  omega
 have fin : ∀ b, b = eqD d d' -> EP X pins σ Q (.bool b) s := fun b e => ⟨.bl b, H, I, rfl, by rw [e]; exact q⟩
 cases d with
 | lst l =>
  simp only [depD] at hd
  simp only [Sees] at h1
  obtain ⟨a, xs, rfl, q1, t⟩ := h1
  cases rx
  obtain ⟨its, rv, p, _⟩ := I.list q1
  cases d' with
  | tup l' =>
   simp only [Sees] at h2
   obtain ⟨a', xs', z, q', t'⟩ := h2
   cases z
   obtain ⟨its', rv', p2, _⟩ := I.tuple q'
   exact SeqAt.RcAt.list_tuple p.isList p2 hu0 _ _ _ _ (fin _ (by simp only [eqD]))
  | lst l' =>
   simp only [Sees] at h2
   obtain ⟨a', xs', z, q', t'⟩ := h2
   cases z
   obtain ⟨its', rv', p2, _⟩ := I.list q'
   have le1 := rv.length
   have le2 := rv'.length
   have k1 := t.length
   have k2 := t'.length
   by_cases hl : l.length = l'.length
   ·have hs : its.toArray.size = l.length := by simp only [List.size_toArray]; omega
    refine SeqAt.RcAt.lists (A := X.A) (e := eJ l l') p.isList p2.isList (by simp only [List.size_toArray]; omega) hu0 (items_eq t t' rv rv' fun d d' v v' u u' hd' b1 b2 b3 b4 => sees_eq I 60 X.A.in1 d d' v v' u u' (by omega) b1 b2 b3 b4 hin) _ _ _ _ (fin _ ?_)
    simp only [eqD]
    rw [hs, eqDs_all hl]
    rfl
   ·refine SeqAt.RcAt.lists_lengths p.isList p2.isList (by simp only [List.size_toArray, bne_iff_ne, ne_eq]; omega) hu0 _ _ _ _ (fin _ ?_)
    simp only [eqD]
    rw [eqDs_len hl]
  | _ => simp only [Sees] at h2; cases h2
 | tup l =>
  simp only [depD] at hd
  simp only [Sees] at h1
  obtain ⟨a, xs, rfl, q1, t⟩ := h1
  cases rx
  obtain ⟨its, rv, p, _⟩ := I.tuple q1
  cases d' with
  | lst l' =>
   simp only [Sees] at h2
   obtain ⟨a', xs', z, q', t'⟩ := h2
   cases z
   obtain ⟨its', rv', p2, _⟩ := I.list q'
   exact SeqAt.RcAt.tuple_list p p2.isList hu0 _ _ _ _ (fin _ (by simp only [eqD]))
  | tup l' =>
   simp only [Sees] at h2
   obtain ⟨a', xs', z, q', t'⟩ := h2
   cases z
   obtain ⟨its', rv', p2, _⟩ := I.tuple q'
   have le1 := rv.length
   have le2 := rv'.length
   have k1 := t.length
   have k2 := t'.length
   have hs : its.toArray.size = l.length := by simp only [List.size_toArray]; omega
   have hs' : its'.toArray.size = l'.length := by simp only [List.size_toArray]; omega
   refine SeqAt.RcAt.tuples (A := X.A) (e := eJ l l') p p2 hu0 (items_eq t t' rv rv' fun d d' v v' u u' hd' b1 b2 b3 b4 => sees_eq I 60 X.A.in1 d d' v v' u u' (by omega) b1 b2 b3 b4 hin) _ _ _ _ (fin _ ?_)
   simp only [eqD]
   rw [hs, hs', min_all]
  | _ => simp only [Sees] at h2; cases h2
 | _ => cases fd
end
end L2
set_option linter.all false
set_option maxRecDepth 100000
set_option maxHeartbeats 1000000
namespace L2
open PySem PySem.Spec PyProof.Rows
theorem Same.up {H H' : Hp} {D : Addr} {o : HO} (s : Same H H') (n : H D = none) : Same H (upd H' D o) := fun b u e => by rw [upd_ne (ne_of_none e n)]; exact s b u e
theorem comp_map1 {J : It} {n k : Nat} {src f : Nat -> V} {te : TE} {cs : St} {H1 : Hp} {D : Addr} {Q : Hp -> Prop} (hD : H1 D = none) (hk : k = cs.length) (hn : n <= sizeLine)
  (stop : ∀ H, Same H1 H -> J.stop n H) (go : ∀ i H, i < n -> Same H1 H -> J.go i H) (yld : ∀ i H x H', i < n -> Same H1 H -> J.yld i H x H' -> x = src i /\ H' = H)
  (he : ∀ i H (R : V -> Hp -> Prop), i < n -> Same H1 H -> (∀ H4, Same H H4 -> R (f i) H4) -> te (cs ++ [some (src i)]) H R)
  (hQ : ∀ H, Same H1 H -> H D = some (.lst ((List.range n).map f)) -> Q H) : tCompQ J (gName k) tTrue te (cs ++ [none]) H1 D Q := by
 refine ⟨fun i m ys σ H => m = n - i /\ i <= n /\ Same H1 H /\ ys = (List.range i).map f /\ H D = some (.lst ys) /\ ∃ o, σ = cs ++ [o], ⟨n, rfl, Nat.zero_le _, (Same.refl _).up hD, rfl, upd_same, none, rfl⟩, ?_⟩
 rintro i m ys σ H ⟨rfl, hi, sm, rfl, hd, o, rfl⟩
 refine ⟨hd, ?_⟩
 by_cases hlt : i < n
 ·refine .inr ⟨go i H hlt sm, fun x H' y => ?_⟩
  obtain ⟨rfl, rfl⟩ := yld i H x H' hlt sm y
  have e : (cs ++ [o]).set k (some (src i)) = cs ++ [some (src i)] := by
   rw [hk, List.set_append_right _ _ (Nat.le_refl _), Nat.sub_self]
   rfl
  unfold gName
  rw [e]
  unfold tTrue
  refine iteT ?_
  refine he i H' _ hlt sm fun H4 s4 => ⟨s4 _ _ hd, ?_, n - (i + 1), by omega, rfl, hlt, (sm.trans s4).up hD, ?_, upd_same, _, rfl⟩
  ·rw [List.length_map, List.length_range]
   omega
  ·rw [List.range_succ, List.map_append]
   rfl
 ·have e : i = n := by omega
  subst e
  exact .inl ⟨stop H sm, hQ H sm hd⟩
theorem comp_range1 {lo : Int} {n : Nat} {f : Nat -> V} {k : Nat} {te : TE} {cs : St} {H1 : Hp} {D : Addr} {Q : Hp -> Prop} (hD : H1 D = none) (hk : k = cs.length) (hn : n <= sizeLine)
  (he : ∀ i H (R : V -> Hp -> Prop), i < n -> Same H1 H -> (∀ H4, Same H H4 -> R (f i) H4) -> te (cs ++ [some (.int (lo + i))]) H R)
  (hQ : ∀ H, Same H1 H -> H D = some (.lst ((List.range n).map f)) -> Q H) : tCompQ (Itr lo n) (gName k) tTrue te (cs ++ [none]) H1 D Q :=
 comp_map1 (src := fun i => .int (lo + (i : Nat))) hD hk hn (fun H _ => Nat.le_refl _) (fun i H hi _ => hi) (fun i H x H' _ _ y => ⟨y.2, y.1⟩) he hQ
end L2
namespace L2
open PySem PySem.Spec PyProof.Rows
theorem comp_range0 {n : Nat} {f : Nat -> V} {k : Nat} {te : TE} {cs : St} {H1 : Hp} {D : Addr} {Q : Hp -> Prop} (hD : H1 D = none) (hk : k = cs.length) (hn : n <= sizeLine)
  (he : ∀ i H (R : V -> Hp -> Prop), i < n -> Same H1 H -> (∀ H4, Same H H4 -> R (f i) H4) -> te (cs ++ [some (.int (i : Nat))]) H R)
  (hQ : ∀ H, Same H1 H -> H D = some (.lst ((List.range n).map f)) -> Q H) : tCompQ (Itr 0 n) (gName k) tTrue te (cs ++ [none]) H1 D Q :=
 comp_range1 hD hk hn (fun i H R hi sm r => by
  have e : (0 : Int) + (i : Nat) = (i : Nat) := by omega
  rw [e]
  exact he i H R hi sm r) hQ
end L2
namespace L2
open PySem PySem.Spec PyProof.Rows
section
variable {X : Cx} {K : PySem.W.Frag}
end
end L2
set_option linter.all false
set_option maxRecDepth 100000
namespace L2
open PySem PySem.Spec PyProof.Rows
def But (a : Addr) (H H' : Hp) : Prop := ∀ b o, b ≠ a -> H b = some o -> H' b = some o
end L2
namespace L2
open PySem PySem.Spec PyProof.Rows
def isInts : List Expr -> Option (List Int)
 | [] => some []
 | .Constant (.int i) _ _ :: r => (isInts r).map (i :: ·)
 | _ => none
theorem pa_ints {X : Cx} : ∀ {es : List Expr} {is : List Int}, isInts es = some is -> PA X es (fun _ H Q => Q (is.map V.int) H)
 | [], is, h => by
  cases h
  exact pa_nil
 | e :: es, is, h => by
  unfold isInts at h
  split at h
  ·rename_i z
   cases z
  ·rename_i i j pos r heq
   cases heq
   cases q : isInts es with
   | none => rw [q] at h; cases h
   | some js =>
    rw [q] at h
    cases h
    intro pos pins s σ H Q I hq
    exact pa_cons pe_int (pa_ints q) (by rfl) pos pins s σ H Q I hq
  ·cases h
theorem p0 {j : Int} (h : (0 : Int) < j) : (0 : Int) < j := h
end L2
namespace L2
open PySem PySem.Spec PyProof.Rows
def CDivB (_ j : Int) : Prop := 0 < j /\ j <= 340282366920938463463374607431768211456
end L2
set_option Elab.async false
set_option linter.all false
set_option maxRecDepth 100000
namespace L2
open PySem PySem.Spec PyProof.Rows
def XObj (h : Heap) (x C : Addr) (od tb : Option Addr) (fl : Value) : Prop :=
 ∃ oe vs, h.get? x = some oe /\ oe.cls = .ref C /\ oe.dict = od /\ oe.data = .fields vs ∧
  match tb with
  | none => vs[1]? = some Value.none
  | some T => vs[1]? = some (.ref T) /\ T ≠ x /\ ∃ oT ts, h.get? T = some oT /\ oT.data = .fields ts /\ ts[3]? = some fl
def Moved (S Xs : List Addr) (h h' : Heap) : Prop :=
 ∀ b o, h.get? b = some o -> b ∉ Xs -> (b ∉ S -> h'.get? b = some o) /\ ∃ sl, h'.get? b = some { o with slots := sl }
theorem mapFields_of {o : Obj} {vs : Array Value} (f : Array Value -> Array Value) (e : o.data = .fields vs) : Obj.mapFields f o = { o with data := .fields (f vs) } := by
 obtain ⟨c, d, dt, sl⟩ := o
 dsimp only at e
 subst e
 rfl
theorem fields_live {o : Obj} {vs : Array Value} (e : o.data = .fields vs) : o.isFreed = false := by
 obtain ⟨c, d, dt, sl⟩ := o
 dsimp only at e
 subst e
 rfl
theorem ne_size {h : Heap} {b : Addr} {o : Obj} (e : h.get? b = some o) : b ≠ h.objs.size := Nat.ne_of_lt (Heap.lt_size e)
theorem entry_ok {M : Model} {A : Around} {E : Value -> Shared -> Prop} {s : Shared} {base : Heap} {env : Env} {outer : List Env} {L x : Addr} {oe : Obj} {vs : Array Value} {head : Value} {had : Bool} {Q : Unit -> Shared -> Prop}
  (hA : A.frames = some (env :: outer)) (hF : s.heap.FunFrames base (env :: outer)) (hL : env.frame = some L) (he : s.heap.get? x = some oe) (hd : oe.data = .fields vs) (hz : 1 < vs.size)
  (h : ∀ (h' : Heap) (T : Addr) (sl : Array (Option Value)) (oT : Obj) (ts : Array Value), s.heap.objs.size <= T -> T ≠ x -> h'.get? x = some { oe with data := .fields (vs.setIfInBounds 1 (.ref T)), slots := sl } -> h'.get? T = some oT -> oT.data = .fields ts -> ts[3]? = some (rawInt L) →
   Moved (frs (env :: outer)) [x] s.heap h' -> Q () { s with heap := h' }) :
  wpAny M A (do
   let a ← PySem.frameOf env
   let pl ← entryPlaceOf L had
   let b ← EntryCells.newEntry head a Value.none (rawInt ↑L) Value.none pl
   setField (Value.ref x) 1 b) Q E s := by
 refine wpAny_bind (wpAny_frameOf_fun hA hF hL fun h1 so => wpAny_bind (wpAny_entryPlaceOf fun pl hpl => ?_))
 obtain ⟨sz, so1, so2⟩ := so
 obtain ⟨slx, hx1⟩ := so2 x oe he
 unfold EntryCells.newEntry newFields
 refine wpAny_bind (wpAny_newObj_type ?_ (hpl.sizeOk5 _ _ _ _ _))
 have hx2 := Heap.get?_push_of_some { cls := Value.type "traceback", data := Data.fields ([head, Value.ref L, Value.none, rawInt ↑L, Value.none] ++ if pl.isEmpty = true then List.replicate 6 Value.none else pl).toArray } hx1
 refine wpAny_setField hx2 hd hz ?_
 have live : (Obj.mapFields (fun v => v.setIfInBounds 1 (Value.ref h1.objs.size)) { oe with slots := slx }).isFreed = false := by
  rw [mapFields_of (o := { oe with slots := slx }) (vs := vs) _ hd]; rfl
 have Tx : h1.objs.size ≠ x := Ne.symm (ne_size hx1)
 refine h _ h1.objs.size slx { cls := Value.type "traceback", data := Data.fields ([head, Value.ref L, Value.none, rawInt ↑L, Value.none] ++ if pl.isEmpty = true then List.replicate 6 Value.none else pl).toArray } _ (by rw [sz]; exact Nat.le_refl _) Tx ?_ ?_ rfl ?_ ?_
 ·rw [Heap.get?_update_self _ hx2 live, mapFields_of (o := { oe with slots := slx }) (vs := vs) _ hd]
 ·rw [Heap.get?_update_ne _ _ _ _ Tx]
  exact Heap.get?_push_size _ rfl
 ·simp
 ·intro b o hb hn
  have bx : b ≠ x := fun e => hn (by simp [e])
  refine ⟨fun hS => ?_, ?_⟩
  ·rw [Heap.get?_update_ne _ _ _ _ bx]
   refine Heap.get?_push_of_some _ ?_
   rw [so1 b hS]; exact hb
  ·obtain ⟨sl, e⟩ := so2 b o hb
   refine ⟨sl, ?_⟩
   rw [Heap.get?_update_ne _ _ _ _ bx]
   exact Heap.get?_push_of_some _ e
theorem Moved.trans {S Xs : List Addr} {h h1 h2 : Heap} (a : Moved S Xs h h1) (b : Moved S Xs h1 h2) : Moved S Xs h h2 := fun c o hc hn => by
 obtain ⟨p, sl, q⟩ := a c o hc hn
 refine ⟨fun hS => (b c o (p hS) hn).1 hS, ?_⟩
 obtain ⟨_, sl', q'⟩ := b c _ q hn
 exact ⟨sl', q'⟩
theorem Moved.mono {S Xs Xs' : List Addr} {h h1 : Heap} (a : Moved S Xs h h1) (s : ∀ b ∈ Xs, b ∈ Xs') : Moved S Xs' h h1 := fun c o hc hn => a c o hc fun z => hn (s c z)
theorem note_ok {M : Model} {A : Around} {E : Value -> Shared -> Prop} {s : Shared} {base : Heap} {env : Env} {outer : List Env} {L x C : Addr} {od tb : Option Addr} {Q : Unit -> Shared -> Prop}
  (hA : A.frames = some (env :: outer)) (hF : s.heap.FunFrames base (env :: outer)) (hL : env.frame = some L) (hx : XObj s.heap x C od tb .none)
  (h : ∀ (h' : Heap) (T : Addr), s.heap.objs.size <= T -> XObj h' x C od (some T) (rawInt L) -> Moved (frs (env :: outer)) (x :: tb.toList) s.heap h' -> Q () { s with heap := h' }) :
  wpAny M A (noteFrame (.ref x) env) Q E s := by
 obtain ⟨oe, vs, e1, e2, e3, e4, e5⟩ := hx
 unfold noteFrame
 rw [hL]
 dsimp only
 cases tb with
 | none =>
  have e5 : vs[1]? = some Value.none := e5
  have hz : 1 < vs.size := (Array.getElem?_eq_some_iff.mp e5).1
  refine wpAny_bind (wpAny_field e1 e4 e5 ?_)
  rw [if_neg (by decide)]
  refine entry_ok hA hF hL e1 e4 hz fun h' T sl oT ts p1 p2 p3 p4 p5 p6 p7 => h h' T p1 ?_ (p7.mono fun b hb => by simpa using hb)
  exact ⟨_, _, p3, e2, e3, rfl, by simp [hz], p2, oT, ts, p4, p5, p6⟩
 | some T0 =>
  obtain ⟨e5, e6, oT0, ts0, e7, e8, e9⟩ := e5
  have hz : 1 < vs.size := (Array.getElem?_eq_some_iff.mp e5).1
  refine wpAny_bind (wpAny_field e1 e4 e5 ?_)
  rw [if_pos (by rfl)]
  refine wpAny_bind (wpAny_field e7 e8 e9 ?_)
  rw [if_neg (by simp [rawInt])]
  have hz3 : 3 < ts0.size := (Array.getElem?_eq_some_iff.mp e9).1
  refine wpAny_bind (wpAny_setField e7 e8 hz3 ?_)
  have mv : Moved (frs (env :: outer)) (x :: (some T0).toList) s.heap (s.heap.update T0 (Obj.mapFields fun v => v.setIfInBounds 3 Value.none)) := fun b o hb hn => by
   have bT : b ≠ T0 := fun z => hn (by simp [z])
   rw [Heap.get?_update_ne _ _ _ _ bT]
   exact ⟨fun _ => hb, o.slots, hb⟩
  have hF' : (s.heap.update T0 (Obj.mapFields fun v => v.setIfInBounds 3 Value.none)).FunFrames base (env :: outer) := Heap.FunFrames.of_keeps (fun b o hb hd => by
   have bT : b ≠ T0 := fun z => by
    rw [z, e7] at hb
    cases hb
    exact hd _ e8
   exact ⟨o, by rw [Heap.get?_update_ne _ _ _ _ bT]; exact hb, rfl⟩) hF
  refine entry_ok (base := base) hA hF' hL (oe := oe) (by rw [Heap.get?_update_ne _ _ _ _ (Ne.symm e6)]; exact e1) e4 hz fun h' T sl oT ts p1 p2 p3 p4 p5 p6 p7 => h h' T (by rw [Heap.size_update] at p1; exact p1) ?_ (mv.trans (p7.mono fun b hb => by simp at hb; simp [hb]))
  exact ⟨_, _, p3, e2, e3, rfl, by simp [hz], p2, oT, ts, p4, p5, p6⟩
theorem flight_ok {M : Model} {A : Around} {E : Value -> Shared -> Prop} {s : Shared} {x C T : Addr} {od : Option Addr} {fl : Value} {Q : Unit -> Shared -> Prop} (hx : XObj s.heap x C od (some T) fl)
  (h : ∀ h' : Heap, XObj h' x C od (some T) .none -> (∀ b o, s.heap.get? b = some o -> b ≠ T -> h'.get? b = some o) -> Q () { s with heap := h' }) : wpAny M A (setFlight (.ref x) none) Q E s := by
 obtain ⟨oe, vs, e1, e2, e3, e4, e5, e6, oT, ts, e7, e8, e9⟩ := hx
 have hz3 : 3 < ts.size := (Array.getElem?_eq_some_iff.mp e9).1
 refine wpAny_setFlight_none e1 e4 e5 e7 e8 hz3 (h _ ?_ fun b o hb hn => by rw [Heap.get?_update_ne _ _ _ _ hn]; exact hb)
 have live : (Obj.mapFields (fun v => v.setIfInBounds 3 Value.none) oT).isFreed = false := by rw [mapFields_of (vs := ts) _ e8]; rfl
 refine ⟨oe, vs, by rw [Heap.get?_update_ne _ _ _ _ (Ne.symm e6)]; exact e1, e2, e3, e4, e5, e6, _, _, Heap.get?_update_self _ e7 live, by rw [mapFields_of (vs := ts) _ e8], ?_⟩
 simp [hz3]
theorem leave_ok {M : Model} {A : Around} {E : Value -> Shared -> Prop} {s : Shared} {base : Heap} {env : Env} {outer : List Env} {L x C : Addr} {od tb : Option Addr} {Q : Unit -> Shared -> Prop}
  (hA : A.frames = some (env :: outer)) (hF : s.heap.FunFrames base (env :: outer)) (hL : env.frame = some L) (hx : XObj s.heap x C od tb .none)
  (h : ∀ (h' : Heap) (T : Addr), s.heap.objs.size <= T -> XObj h' x C od (some T) .none -> Moved (frs (env :: outer)) (x :: tb.toList) s.heap h' -> Q () { s with heap := h' }) :
  wpAny M A (leaving env (.ref x)) Q E s := by
 unfold leaving
 refine wpAny_bind (note_ok hA hF hL hx fun h1 T p1 p2 p3 => flight_ok p2 fun h2 q1 q2 => h h2 T p1 q1 fun b o hb hn => ?_)
 have bT : b ≠ T := fun z => absurd (Heap.lt_size hb) (by rw [z]; exact Nat.not_lt.mpr p1)
 obtain ⟨a, sl, c⟩ := p3 b o hb hn
 exact ⟨fun hS => q2 b o (a hS) bT, sl, q2 b _ c bT⟩
end L2
set_option Elab.async false
set_option linter.all false
set_option maxRecDepth 100000
namespace L2
open PySem PySem.Spec PyProof.Rows
theorem ObjOk.there {P : Program} {w : World} {H : Hp} {h : Heap} {a : Addr} {o : HO} (x : ObjOk P w H h a o) : ∃ ob, h.get? a = some ob := by
 induction o with
 | lst xs => obtain ⟨_, _, _, _, e⟩ := x; exact ⟨_, e⟩
 | tup xs => obtain ⟨_, _, _, o, e, _⟩ := x; exact ⟨_, e⟩
 | dK kvs => obtain ⟨_, _, _, _, o, _, _, e, _⟩ := x; exact ⟨_, e⟩
 | dT kvs => obtain ⟨_, _, _, _, o, _, _, e, _⟩ := x; exact ⟨_, e⟩
 | set S n => obtain ⟨o, _, _, _, e, _⟩ := x; exact ⟨_, e⟩
 | ins C dx fs => obtain ⟨_, _, _, e, _⟩ := x; exact ⟨_, e⟩
 | own y => obtain ⟨_, e⟩ := x; exact ⟨_, e⟩
 | xd fs => obtain ⟨_, ⟨_, _, _, e, _⟩, _⟩ := x; exact ⟨_, e⟩
 | rng lo hi => obtain ⟨_, _, _, e⟩ := x; exact ⟨_, e⟩
 | frz ob u ih => obtain ⟨e, _⟩ := x; exact ⟨_, e⟩
 | tbl ps => exact ⟨_, show h.get? a = some _ from x⟩
 | met f y => exact ⟨_, show h.get? a = some _ from x⟩
 | ext φ => obtain ⟨_, ⟨o, e⟩, _⟩ := x; exact ⟨o, e⟩
theorem HOk.nowhere {P : Program} {w : World} {H : Hp} {h : Heap} {a : Addr} (x : HOk P w H h) (e : h.get? a = none) : H a = none := by
 cases q : H a with
 | none => rfl
 | some o =>
  obtain ⟨ob, z⟩ := (x a o q).there
  rw [e] at z; cases z
def CXe (P : Program) (w : World) : CXT := fun outer H s E e s' => ∃ (x C T : Addr) (od : Option Addr) (H' : Hp), e = .ref x /\ s'.os = s.os /\ AllBare s'.gens /\ Un (frs outer) [] H H' s.heap s'.heap /\ HOk P w H' s'.heap ∧
 XObj s'.heap x C od (some T) .none /\ s.heap.get? x = none /\ s.heap.get? T = none /\ H' x = none /\ H' T = none /\ E (.ref C) od H'
def Rises (X : Cx) (E : XK) : Prop := ∀ (pins : List (Addr × Obj)) (σ : St) (H : Hp) (s : Shared) (x C : Addr) (od tb : Option Addr), Inv X pins σ H s -> XObj s.heap x C od tb .none -> X.s₀.heap.get? x = none -> (∀ T, tb = some T -> X.s₀.heap.get? T = none /\ H T = none) →
 H x = none -> E (.ref C) od H -> X.xe (.ref x) s
theorem Un.moved {X : Cx} {pins : List (Addr × Obj)} {σ : St} {H : Hp} {s : Shared} {h' : Heap} {Xs : List Addr} (I : Inv X pins σ H s) (hex : X.ex = []) (mv : Moved (frs X.stack) Xs s.heap h') (hX : ∀ b ∈ Xs, X.s₀.heap.get? b = none /\ H b = none) :
  Un X.fs [] X.H₀ H X.s₀.heap h' /\ HOk X.prog X.w H h' := by
 have nX : ∀ b o, X.s₀.heap.get? b = some o -> b ∉ Xs := fun b o e z => by
  rw [(hX b z).1] at e; cases e
 have B := I.base
 rw [hex] at B
 have nL : ∀ b o, X.s₀.heap.get? b = some o -> b ∉ X.fs -> b ∉ frs X.stack := fun b o e hb z => by
  rcases List.mem_cons.mp (I.stkSub b z) with q | q
  ·exact absurd (Nat.lt_of_lt_of_le (Heap.lt_size e) I.ok.above) (by rw [q]; exact Nat.lt_irrefl _)
  ·exact hb q
 refine ⟨⟨fun b o e n hb hx => ?_, fun b o e n hb hx => ?_, B.free, fun b o e hx => ?_, B.tups, B.frzs, B.tbls⟩, fun a o e => ?_⟩
 ·exact (mv b o (B.keep b o e n hb hx) (nX b o e)).1 (nL b o e hb)
 ·obtain ⟨sl, e1⟩ := B.slot b o e n hb hx
  obtain ⟨_, sl', e2⟩ := mv b _ e1 (nX b o e)
  exact ⟨sl', e2⟩
 ·obtain ⟨o', e1⟩ := B.there b o e hx
  obtain ⟨_, sl', e2⟩ := mv b _ e1 (nX b o e)
  exact ⟨_, e2⟩
 ·have tr : ∀ b u, H b = some u -> b ∉ Xs /\ b ∉ frs X.stack := fun b u q => ⟨fun z => absurd ((hX b z).2.symm.trans q) (by simp), fun z => absurd ((I.stkFree b z).symm.trans q) (by simp)⟩
  refine (I.hok a o e).stay (fun b u hb q => ?_) (fun _ q => q) fun _ _ q => q
  rcases hb with hb | hb
  ·obtain ⟨p1, p2⟩ := tr a o e
   rw [hb] at q ⊢
   exact (mv a u q p1).1 p2
  ·obtain ⟨p1, p2⟩ := tr b _ hb
   exact (mv b u q p1).1 p2
section
variable {P : Program} {w : World} {K : PySem.W.Frag} {mg : Str -> Option Value} {base : Heap} {N : List Str} {qual : Str} {scope : Scope} {f : Addr} {cd : Value} {A : Around} {outer : List Env} {s : Shared} {H : Hp} {E E' : XK}
theorem rises_cx : Rises (cxOf (CXe P w) P w K mg base N qual scope f cd A outer s H E) E := by
 intro pins σ H1 s1 x C od tb I hx n1 n2 n3 q
 refine leave_ok I.ok.frames I.stack rfl hx fun h' T p1 p2 p3 => ?_
 have hX : ∀ b ∈ x :: tb.toList, (cxOf (CXe P w) P w K mg base N qual scope f cd A outer s H E).s₀.heap.get? b = none /\ H1 b = none := fun b hb => by
  rcases List.mem_cons.mp hb with z | z
  ·rw [z]; exact ⟨n1, n3⟩
  ·exact n2 b (by simpa using z)
 obtain ⟨u, hok⟩ := Un.moved I rfl p3 hX
 refine ⟨x, C, T, od, H1, rfl, I.os, I.bare, u, hok, p2, n1, ?_, n3, I.hok.fresh p1, q⟩
 exact Heap.get?_none_of_le (Nat.le_trans I.sz p1)
theorem passX (hE : ∀ C od H', E' C od H' -> E C od H') : Passes (CXe P w) (cxOf (CXe P w) P w K mg base N qual scope f cd A outer s H E) E' := by
 intro pins σ H1 s1 e s' I ⟨x, C, T, od, H', ee, os, bare, un, hok, xo, fx, fT, hx, hT, q⟩
 subst ee
 have I' := I.call' os un hok bare (fun _ z => by simp at z)
 have fr : ∀ b, s1.heap.get? b = none -> s.heap.get? b = none := fun b z => by
  cases e : s.heap.get? b with
  | none => rfl
  | some o =>
   obtain ⟨o', e1⟩ := I.base.there b o e (by show b ∉ ([] : List Addr); simp)
   rw [z] at e1; cases e1
 exact rises_cx pins σ H' s' x C od (some T) I' xo (fr x fx) (fun T' z => by cases z; exact ⟨fr T fT, hT⟩) hx (hE _ _ _ q)
end
theorem passE0 {X : Cx} {P : Program} {w : World} : Passes (CXe P w) X E0 := fun _ _ _ _ _ _ _ h => by
 obtain ⟨_, _, _, _, _, _, _, _, _, _, _, _, _, _, _, q⟩ := h
 exact q.elim
section
variable {P : Program} {w : World} {K : PySem.W.Frag} {mg : Str -> Option Value} {base : Heap}
theorem Fun.okX {x qual : Str} {st : Stmt} {f : Addr} {fd : FuncData} {N ps : List Str} {k : Nat} {sp : Sp} (F : Fun K x qual st f fd) (S : FnScope N ps (defScope st)) (len : ∀ vs H Q E, sp vs H Q E -> vs.length = ps.length)
  (hbody : ∀ (cdv : Value) (A : Around) (outer : List Env) (s : Shared) (H : Hp) (vs : List V) (Q : VK) (E : XK), Room k (A.deeper (envOfC qual (defScope st) s.heap.objs.size f cdv)) -> sp vs H Q E →
   ∃ t, PSs (cxOf (CXe P w) P w K mg base N qual (defScope st) f cdv A outer s H E) (defBody st) t /\ t { nx := fun _ H' => Q .non H', rt := Q } (start N vs) H) : FnOk P w K mg base (CXe P w) (k + 1) f fd ps sp := by
 obtain ⟨oc, od, kV, doc, pm, an, cdv, ct, osl, rfl, lk, hcd⟩ := F.ex
 exact fn_of lk hcd S len fun A outer s H vs Q E hr hsp => hbody cdv A outer s H vs Q E hr hsp
end
def keysB (es : List DictEntry) : Bool := es.all fun e => match e.key with | .str _ _ => true | _ => false
def nsB (K : PySem.W.Frag) (a : Addr) (f : Array DictEntry -> Bool) : Bool := match K.lookup a with
 | some ⟨_, _, .dict es _, _⟩ => keysB es.toList && f es
 | _ => false
theorem nsB_ok {K : PySem.W.Frag} {h : Heap} {a : Addr} {f : Array DictEntry -> Bool} (X : K.In h) (e : nsB K a f = true) : ∃ es, h.Ns a (nsFind es) /\ f es = true := by
 unfold nsB at e
 split at e
 ·rename_i c d es ep sl q
  rw [Bool.and_eq_true] at e
  refine ⟨es, ⟨_, es, ep, X _ _ q, rfl, fun en hen => ?_, fun _ => rfl⟩, e.2⟩
  have z := List.all_eq_true.mp e.1 en (by simpa using hen)
  split at z
  ·rename_i n t q; exact ⟨n, t, q⟩
  ·cases z
 ·cases e
abbrev bmV : List Value := [.type "ValueError", .type "Exception", .type "BaseException", .type "object"]
def noInit (es : Array DictEntry) : Bool := (nsFind es "__init__").isNone
def xcIn (K : PySem.W.Frag) (C Pk : Addr) : Bool :=
 match K.lookup C, K.lookup Pk with
 | some ⟨.type "type", _, .cls cd, sl⟩, some ⟨_, _, .cls cp, _⟩ =>
  (match cd.mro with
  | [.ref C', .ref P', .type "ValueError", .type "Exception", .type "BaseException", .type "object"] => C' == C && P' == Pk
  | _ => false) &&
  (match sl.toList with
  | [_, _, _, _, some (.builtin id), _] => id == "ValueError.__new__"
  | _ => false) && !cd.hasDel && nsB K cd.ns noInit && nsB K cp.ns noInit
 | _, _ => false
theorem xc_ok {K : PySem.W.Frag} {h : Heap} {C Pk : Addr} (X : K.In h) (e : xcIn K C Pk = true) : ∃ nm q N bs hdct sn sub ab col dd k0 k1 k2 k3 k5 mN,
  h.get? C = some (excClassObj nm q C N bs (.ref Pk :: bmV) hdct sn sub ab col dd k0 k1 k2 k3 k5 "ValueError.__new__") ∧ h.Ns N mN ∧ mN "__init__" = none ∧ OwnTail h bmV (.ref Pk :: bmV) := by
 unfold xcIn at e
 split at e
 ·rename_i dC cd sl dP1 dP2 cp slP q1 q2
  simp only [Bool.and_eq_true] at e
  obtain ⟨⟨⟨⟨e1, e2⟩, e3⟩, e4⟩, e5⟩ := e
  split at e1
  ·rename_i C' P' qm
   rw [Bool.and_eq_true] at e1
   obtain ⟨c1, c2⟩ := e1
   have c1 := eq_of_beq c1
   have c2 := eq_of_beq c2
   subst c1 c2
   split at e2
   ·rename_i k0 k1 k2 k3 id k5 qs
    have c3 : id = "ValueError.__new__" := eq_of_beq e2
    subst c3
    obtain ⟨es, ns, ni⟩ := nsB_ok X e4
    obtain ⟨es', ns', ni'⟩ := nsB_ok X e5
    obtain ⟨nm, bs, mro, ns0, qn, hdct, sn, sub, ab, col, hdel⟩ := cd
    have qm : mro = _ := qm
    have e3' : hdel = false := by simpa using e3
    subst qm
    subst e3'
    have qs' : sl = #[k0, k1, k2, k3, some (.builtin "ValueError.__new__"), k5] := by
     have := congrArg List.toArray qs
     simpa using this
    subst qs'
    refine ⟨nm, qn, ns0, bs, hdct, sn, sub, ab, col, dC, k0, k1, k2, k3, k5, nsFind es, X _ _ q1, ns, by simpa [noInit] using ni, ?_⟩
    exact .own (X _ _ q2) ns' (by simpa [noInit] using ni') .base
   ·cases e2
  ·cases e1
 ·cases e
section
variable {X : Cx} {E : XK} {c : Str} {C Pk : Addr} {p cpos pos : Pos} {e : Expr} {es : List Expr} {t : TA}
def tRaise (C : Addr) (E : XK) (t : TA) : TS := fun _ σ H => t σ H fun vs H1 => vs.length <= sizeLine /\ E (.ref C) none H1
theorem ps_raise (hc : xcIn X.K C Pk = true) (hcalm : X.calm = true) (hex : X.ex = []) (hg : Gl X c) (hm : X.mg c = some (.ref C)) (hx : Rises X E) (ha : PA X (e :: es) t) (hdb : (c == ("__debug__" : Str)) = false := by decide)
  (he : starEach (e :: es) X.env = (false, eval e X.env) :: starEach es X.env := by rfl) (hpl : (backTo cpos (starEach (e :: es) X.env)).any (·.1) = false := by rfl) :
  PS X (.Raise (some (.Call (.Name c p) (e :: es) [] cpos)) none pos) (tRaise C E t) := by
 intro pins s σ H D I h
 obtain ⟨nm, q, N, bs, hdct, sn, sub, ab, col, dd, k0, k1, k2, k3, k5, mN, f1, f2, f3, f4⟩ := xc_ok I.ok.mod.kin hc
 refine wpAny_Raise_call_subU (nm := nm) (q := q) (C := C) (N := N) (bs := bs) (bm := .ref Pk :: bmV) (hdct := hdct) (sn := sn) (sub := sub) (ab := ab) (col := col) (dd := dd) (k0 := k0) (k1 := k1) (k2 := k2) (k3 := k3) (k5 := k5) F.excBase_ValueError (by decide +kernel) F.excBase_ValueError (mN := mN) (by rfl) (I.ok.hd hcalm) hpl f3 ?_
 refine ld_glob I hg hm ⟨rfl, ?_⟩ hdb
 have go := ha cpos pins s σ H _ I h
 rw [he] at go ⊢
 refine Calls.evalArgs_plain (thn go fun us s2 ⟨vs, H2, I2, r, z, q⟩ => ?_)
 have kp : ∀ b o, X.base.get? b = some o -> s2.heap.get? b = some o := I2.bk
 refine ⟨rfl, by rw [<- r.length]; exact z, kp _ _ f1, f2.keeps kp, f4.keeps kp, fun h' x M => ?_⟩
 obtain ⟨tt, m1, m2, m3⟩ := M.there
 have I3 : Inv X pins σ H2 { s2 with heap := h' } := I2.kept (t' := s2.toks) M.keeps
 have fr : X.s₀.heap.get? x = none := by
  cases q : X.s₀.heap.get? x with
  | none => rfl
  | some o =>
   obtain ⟨o', e1⟩ := I2.base.there x o q (by rw [hex]; simp)
   rw [M.new] at e1; cases e1
 exact hx pins σ H2 _ x C none none I3 ⟨_, _, m1, rfl, rfl, rfl, rfl⟩ fr (fun T z => nomatch z) (I2.hok.nowhere M.new) q
end
end L2
set_option Elab.async false
set_option linter.all false
set_option maxRecDepth 100000
namespace L2
open PySem PySem.Spec PyProof.Rows
section
variable {X : Cx} {pins : List (Addr × Obj)} {σ : St} {H : Hp} {s : Shared} {h' : Heap}
theorem Inv.moved {Xs : List Addr} (I : Inv X pins σ H s) (hex : X.ex = []) (mv : Moved (frs X.stack) Xs s.heap h')
  (hX : ∀ b ∈ Xs, X.s₀.heap.get? b = none /\ H b = none /\ (∃ o vs, s.heap.get? b = some o /\ o.data = .fields vs) /\ ∀ p ∈ X.pn ++ pins, p.1 ≠ b) : Inv X pins σ H { s with heap := h' } := by
 obtain ⟨u, hok⟩ := Un.moved I hex mv fun b hb => ⟨(hX b hb).1, (hX b hb).2.1⟩
 have nf : ∀ b o, s.heap.get? b = some o -> (∀ vs, o.data ≠ .fields vs) -> b ∉ Xs := fun b o e d z => by
  obtain ⟨_, _, ⟨o', vs, e1, e2⟩, _⟩ := hX b z
  rw [e] at e1; cases e1
  exact d vs e2
 have cellK : ∀ c v, s.heap.IsCell c v -> h'.IsCell c v := fun c v ⟨o, ho, hd⟩ => by
  obtain ⟨_, sl, e⟩ := mv c o ho (nf c o ho fun vs z => by rw [hd] at z; cases z)
  exact ⟨_, e, hd⟩
 refine ⟨I.ok, I.os, I.bare, by rw [hex]; exact u, ?_, fun x c e => ?_, I.free, I.freeC, fun p hp => ?_, hok, I.len⟩
 ·obtain ⟨m, ⟨o, es, ep, ho, hd, r⟩, hl⟩ := I.loc
  obtain ⟨_, sl, e⟩ := mv _ o ho (nf _ o ho fun vs z => by rw [hd] at z; cases z)
  refine ⟨m, ⟨_, es, ep, e, hd, r⟩, fun i x v e1 e2 e3 => ?_⟩
  obtain ⟨u, r, l⟩ := hl i x v e1 e2 e3
  refine ⟨u, r, ?_⟩
  rcases l with l | ⟨k, c, e, z⟩
  ·exact .inl l
  ·exact .inr ⟨k, c, e, cellK c _ z⟩
 ·obtain ⟨v, z⟩ := I.cell x c e
  exact ⟨v, cellK c v z⟩
 ·obtain ⟨e, n, ne, nf', d⟩ := I.pin p hp
  refine ⟨(mv p.1 p.2 e fun z => (hX _ z).2.2.2 p hp rfl).1 fun z => ?_, n, ne, nf', d⟩
  rcases List.mem_cons.mp (I.stkSub p.1 z) with q | q
  ·exact ne q
  ·exact nf' q
abbrev Cx.within (X : Cx) (e : Value) : Cx := { X with A := X.A.mark (some e), calm := false, xe := fun _ _ => False }
theorem Inv.within (I : Inv X pins σ H s) (e : Value) : Inv (X.within e) pins σ H s :=
 have ok := I.ok
 ⟨⟨ok.mod, ok.kind, ok.glob, ok.blt, ok.above, ok.inj, ok.has, ok.cab, (fun z => Bool.noConfusion z), ok.frames, ok.stk, ok.exf, ok.bs, ok.bsz, ok.noex, ok.exfs, ok.funs, ok.frf⟩, I.os, I.bare, I.base, I.loc, I.cell, I.free, I.freeC, I.pin, I.hok, I.len⟩
theorem Inv.without {e : Value} (I : Inv (X.within e) pins σ H s) (ok : X.Ok) : Inv X pins σ H s := ⟨ok, I.os, I.bare, I.base, I.loc, I.cell, I.free, I.freeC, I.pin, I.hok, I.len⟩
def XAtF (fl : Bool) (x C : Addr) (od : Option Addr) : Heap -> Prop := fun h => ∃ oe vs, h.get? x = some oe /\ oe.cls = .ref C /\ oe.dict = od /\ oe.data = .fields vs /\ 1 < vs.size /\ (fl = true -> vs[1]? = some Value.none)
abbrev XAt (x C : Addr) (od : Option Addr) : Heap -> Prop := XAtF false x C od
theorem Inv.track {fl : Bool} {x C : Addr} {od : Option Addr} (I : Inv X pins σ H s) (hx : XAtF fl x C od s.heap) (n1 : X.s₀.heap.get? x = none) (n2 : H x = none) (n3 : ∀ p ∈ X.pn ++ pins, p.1 ≠ x) : Inv X pins σ (upd H x (.ext (XAtF fl x C od))) s := by
 obtain ⟨oe, vs, e1, e2, e3, e4, _⟩ := id hx
 have ne0 : ∀ b o, X.s₀.heap.get? b = some o -> b ≠ x := fun b o e z => by rw [z, n1] at e; cases e
 have neH : ∀ b u, H b = some u -> b ≠ x := fun b u e z => by rw [z, n2] at e; cases e
 refine ⟨I.ok, I.os, I.bare, ⟨I.base.keep, I.base.slot, fun b o e n h => ?_, I.base.there, fun b xs e => ?_, fun b o u e => ?_, fun b ps e => ?_⟩, I.loc, I.cell, ?_, fun y c e => ?_, fun p hp => ?_, fun a o e => ?_, I.len⟩
 ·rw [upd_ne (ne0 b o e)]; exact I.base.free b o e n h
 ·have z := I.base.tups b xs e
  rw [upd_ne (neH b _ z)]; exact z
 ·have z := I.base.frzs b o u e
  rw [upd_ne (neH b _ z)]; exact z
 ·obtain ⟨m, z⟩ := I.base.tbls b ps e
  exact ⟨m, by rw [upd_ne (neH b _ z)]; exact z⟩
 ·obtain ⟨m, ⟨o, es, ep, ho, hd, _⟩, _⟩ := I.loc
  rw [upd_ne fun z => by rw [z, e1] at ho; cases ho; rw [e4] at hd; cases hd]; exact I.free
 ·obtain ⟨v, o, ho, hd⟩ := I.cell y c e
  rw [upd_ne fun z => by rw [z, e1] at ho; cases ho; rw [e4] at hd; cases hd]; exact I.freeC y c e
 ·obtain ⟨q1, q2, q3⟩ := I.pin p hp
  exact ⟨q1, by rw [upd_ne (n3 p hp)]; exact q2, q3⟩
 ·by_cases ha : a = x
  ·subst ha
   rw [upd_same] at e
   cases e
   exact ⟨hx, ⟨oe, e1⟩, fun h1 h2 ⟨o, v, p1, p2⟩ k => ⟨o, v, k o p1, p2⟩⟩
  ·rw [upd_ne ha] at e
   exact (I.hok a o e).stay (fun _ _ _ q => q) (fun b q => by rw [upd_ne (neH b _ q)]; exact q) fun b xs q => by rw [upd_ne (neH b _ q)]; exact q
def XP (X : Cx) (pins : List (Addr × Obj)) (EX : St -> XK) (e : Value) (s' : Shared) : Prop :=
 ∃ (x C T : Addr) (od : Option Addr) (σ : St) (H' : Hp), e = .ref x /\ Inv X pins σ H' s' /\ XObj s'.heap x C od (some T) .none /\ X.s₀.heap.get? x = none /\ X.s₀.heap.get? T = none /\ H' x = none /\ H' T = none ∧
  (∀ p ∈ X.pn ++ pins, p.1 ≠ x /\ p.1 ≠ T) /\ EX σ (.ref C) od H'
theorem xp_of {E : XK} {e : Value} {s' : Shared} {EX : St -> XK} (I : Inv X pins σ H s) (hex : X.ex = []) (h : CXe X.prog X.w X.stack H s E e s') (hE : ∀ C od H', E C od H' -> EX σ C od H') : XP X pins EX e s' := by
 obtain ⟨x, C, T, od, H', ee, os, bare, un, hok, xo, fx, fT, hx, hT, q⟩ := h
 subst ee
 have I' := I.call' os un hok bare (fun _ z => by simp at z)
 have fr : ∀ b, s.heap.get? b = none -> X.s₀.heap.get? b = none := fun b z => by
  cases e : X.s₀.heap.get? b with
  | none => rfl
  | some o =>
   obtain ⟨o', e1⟩ := I.base.there b o e (by rw [hex]; simp)
   rw [z] at e1; cases e1
 have np : ∀ b, s.heap.get? b = none -> ∀ p ∈ X.pn ++ pins, p.1 ≠ b := fun b z p hp e => by
  have := (I.pin p hp).1
  rw [e, z] at this; cases this
 exact ⟨x, C, T, od, σ, H', rfl, I', xo, fr x fx, fr T fT, hx, hT, fun p hp => ⟨np x fx p hp, np T fT p hp⟩, hE _ _ _ q⟩
end
abbrev TEX := St -> Hp -> VK -> XK -> Prop
def PEX (X : Cx) (e : Expr) (t : TEX) : Prop := ∀ (pins : List (Addr × Obj)) (s : Shared) (σ : St) (H : Hp) (Q : VK) (EX : St -> XK), Inv X pins σ H s -> t σ H Q (EX σ) -> wpAny (model X.prog X.w) X.A (eval e X.env) (EP X pins σ Q) (XP X pins EX) s
section
variable {X : Cx} {k : Nat} {f C : Addr} {fd : FuncData} {ps : List Str} {sp : Sp} {dvs : List V} {ds : List Value} {x m : Str} {p pos apos : Pos} {e o : Expr} {es : List Expr} {te : TE} {ta : TE} {t : TA}
def tCallX (sp : Sp) (dvs : List V) (t : TA) : TEX := fun σ H Q E => t σ H fun vs H1 => sp (vs ++ dvs) H1 Q E
def tMethX (C : Addr) (m : Str) (sp : Sp) (dvs : List V) (ta : TE) (t : TA) : TEX := fun σ H Q E => ta σ H fun x H1 => ∃ a dx fs, x = .ref a /\ H1 a = some (.ins C dx fs) /\ fs.lookup m = none ∧
 t σ H1 fun vs H2 => sp (x :: (vs ++ dvs)) H2 Q E
def tMakeX (C : Addr) (sp : Sp) (dvs : List V) (t : TA) : TEX := fun σ H Q E => t σ H fun vs H1 => ∀ x dx, H1 x = none -> H1 dx = none -> dx ≠ x →
 sp (.ref x :: (vs ++ dvs)) (upd (upd H1 dx (.own x)) x (.ins C dx [])) (fun v H2 => v = .non /\ Q (.ref x) H2) E
theorem run_fnX {pins : List (Addr × Obj)} {σ : St} {H : Hp} {s : Shared} {Q : VK} {E : XK} {EX : St -> XK} {us : List Value} {vs : List V} (F : FnOk X.prog X.w X.K X.mg X.base (CXe X.prog X.w) k f fd ps sp) (hr : Room k X.A) (hb : Binds X.K fd ps ds) (hd : Vals dvs ds) (hex : X.ex = [])
  (I : Inv X pins σ H s) (r : Vals vs us) (h : sp (vs ++ dvs) H Q E) (hE : ∀ C od H', E C od H' -> EX σ C od H') : wpAny (model X.prog X.w) X.A (call (.ref f) us) (EP X pins σ Q) (XP X pins EX) s := by
 have r2 : Vals (vs ++ dvs) (us ++ ds) := r.append hd
 have hl : (us ++ ds).length = ps.length := by rw [<- r2.length]; exact F.len _ _ _ _ h
 refine wpAny_call (codeAny_mono (F.run X.A X.stack s H ⟨us, []⟩ (us ++ ds) (vs ++ dvs) Q E hr I.env0 (hb s us I.kIn hl) r2 h) fun r s' hq => ?_)
 cases r with
 | error e => exact xp_of I hex hq hE
 | ok fl =>
  cases fl with
  | ret u => exact I.after hq
  | next => exact False.elim hq
  | brk => exact False.elim hq
  | cont => exact False.elim hq
theorem pex_call (F : FnOk X.prog X.w X.K X.mg X.base (CXe X.prog X.w) k f fd ps sp) (hr : Room k X.A) (hex : X.ex = []) (hg : Gl X x) (hm : X.mg x = some (.ref f)) (hk : PySem.W.keepIn X.K (.ref f) = true) (hb : Binds X.K fd ps ds) (hd : Vals dvs ds)
  (ha : PA X.nox (e :: es) t) (hdb : (x == ("__debug__" : Str)) = false := by decide) (he : starEach (e :: es) X.env = (false, eval e X.env) :: starEach es X.env := by rfl) (hpl : (backTo pos (starEach es X.env)).any (·.1) = false := by rfl) :
  PEX X (.Call (.Name x p) (e :: es) [] pos) (tCallX sp dvs t) := by
 intro pins s σ H Q EX I h
 refine wpAny_Call_Name_kw (ld_glob I hg hm ?_ hdb)
 refine PySem.W.callWith_K (h₀ := X.base) I.ok.mod.kin hk (wpAny_mono (ha pos pins s σ H _ (I.wish _) h) (fun us s1 ⟨vs, H1, I1, r, q⟩ => ⟨I1.unwish.kIn, ?_⟩) fun _ _ z => False.elim z) he hpl
 exact run_fnX F hr hb hd hex I1.unwish r q fun _ _ _ z => z
end
abbrev TSX := Ends -> (St -> XK) -> St -> Hp -> Prop
def PSX (X : Cx) (st : List Stmt) (t : TSX) : Prop := ∀ (pins : List (Addr × Obj)) (s : Shared) (σ : St) (H : Hp) (D : Ends) (EX : St -> XK), Inv X pins σ H s -> t D EX σ H -> wpAny (model X.prog X.w) X.A (execs st X.env) (SP X pins D) (XP X pins EX) s
section
variable {X : Cx} {e : Expr} {te : TEX} {t : TS} {u : TSX} {st : Stmt} {rest : List Stmt} {pos : Pos}
def tsxSeq (t : TSX) (u : TSX) : TSX := fun D EX σ H => t { D with nx := u D EX } EX σ H
theorem psx_nil : PSX X [] (fun D _ σ H => D.nx σ H) := fun _ _ σ H _ _ I h => wpAny_execs_nil ⟨σ, H, I, h⟩
theorem psx_expr (he : PEX X e te) (hr : PSX X rest u) (hs : swapsWith e none pos.line X.env = pure false := by rfl) : PSX X (.Expr e pos :: rest) (fun D EX σ H => te σ H (fun _ H1 => u D EX σ H1) (EX σ)) := by
 intro pins s σ H D EX I h
 refine wpAny_execs_cons (wpAny_Expr_any (wpAny_mono (he pins s σ H _ EX I h) (fun v s1 ⟨x, H1, I1, r1, q1⟩ => ?_) fun _ _ z => z) I.quiet hs)
 exact hr pins s1 σ H1 D EX I1 q1
end
end L2
set_option Elab.async false
set_option linter.all false
set_option maxRecDepth 100000
namespace L2
open PySem PySem.Spec PyProof.Rows
structure Loose (X : Cx) (pins : List (Addr × Obj)) (H : Hp) (s : Shared) (x C T : Addr) (od : Option Addr) (fl : Value) : Prop where
 obj : XObj s.heap x C od (some T) fl
 f1 : X.s₀.heap.get? x = none
 f2 : X.s₀.heap.get? T = none
 h1 : H x = none
 h2 : H T = none
 p : ∀ p ∈ X.pn ++ pins, p.1 ≠ x /\ p.1 ≠ T
section
variable {X : Cx} {pins : List (Addr × Obj)} {σ : St} {H : Hp} {s : Shared} {x C T : Addr} {od : Option Addr} {fl : Value}
theorem Loose.mem (L : Loose X pins H s x C T od fl) : ∀ b ∈ [x, T], X.s₀.heap.get? b = none /\ H b = none /\ (∃ o vs, s.heap.get? b = some o /\ o.data = .fields vs) /\ ∀ p ∈ X.pn ++ pins, p.1 ≠ b := fun b hb => by
 obtain ⟨oe, vs, e1, e2, e3, e4, e5, e6, oT, ts, e7, e8, e9⟩ := L.obj
 rcases List.mem_cons.mp hb with z | z
 ·rw [z]; exact ⟨L.f1, L.h1, ⟨oe, vs, e1, e4⟩, fun p hp => (L.p p hp).1⟩
 ·have z : b = T := by simpa using z
  rw [z]; exact ⟨L.f2, L.h2, ⟨oT, ts, e7, e8⟩, fun p hp => (L.p p hp).2⟩
theorem Loose.note {M : Model} {E : Value -> Shared -> Prop} {Q : Unit -> Shared -> Prop} (L : Loose X pins H s x C T od .none) (I : Inv X pins σ H s) (hex : X.ex = []) (hst : X.stack = X.env :: X.outer) (hfr : X.env.frame = some X.env.locals)
  (h : ∀ (s' : Shared) (T' : Addr), Inv X pins σ H s' -> Loose X pins H s' x C T' od (rawInt X.env.locals) -> Q () s') : wpAny M X.A (noteFrame (.ref x) X.env) Q E s := by
 have fr := I.ok.frames
 have st := I.stack
 rw [hst] at fr st
 refine note_ok fr st hfr L.obj fun h' T' p1 p2 p3 => ?_
 rw [<- hst] at p3
 have I' := I.moved hex p3 L.mem
 refine h _ T' I' ⟨p2, L.f1, Heap.get?_none_of_le (Nat.le_trans I.sz p1), L.h1, I.hok.fresh p1, fun p hp => ⟨(L.p p hp).1, fun z => ?_⟩⟩
 have := Heap.lt_size (I.pin p hp).1
 rw [z] at this
 exact absurd this (Nat.not_lt.mpr p1)
theorem Loose.flight {M : Model} {A : Around} {E : Value -> Shared -> Prop} {Q : Unit -> Shared -> Prop} (L : Loose X pins H s x C T od fl) (I : Inv X pins σ H s) (hex : X.ex = [])
  (h : ∀ s' : Shared, Inv X pins σ H s' -> Loose X pins H s' x C T od .none -> Q () s') : wpAny M A (setFlight (.ref x) none) Q E s := by
 refine flight_ok L.obj fun h' q1 q2 => h _ (I.moved (Xs := [x, T]) hex (fun b o hb hn => ?_) L.mem) ⟨q1, L.f1, L.f2, L.h1, L.h2, L.p⟩
 have bT : b ≠ T := fun z => hn (by simp [z])
 exact ⟨fun _ => q2 b o hb bT, o.slots, q2 b o hb bT⟩
theorem Loose.at (L : Loose X pins H s x C T od fl) : XAt x C od s.heap := by
 obtain ⟨oe, vs, e1, e2, e3, e4, e5, _⟩ := L.obj
 exact ⟨oe, vs, e1, e2, e3, e4, (Array.getElem?_eq_some_iff.mp e5).1, fun z => Bool.noConfusion z⟩
theorem XAt.type {M : Model} {h : Heap} (a : XAt x C od h) : PySem.W.Looks M h (typeOf (.ref x)) (.ref C) := by
 obtain ⟨oe, vs, e1, e2, e3, e4⟩ := a
 intro A Q E s k q
 exact wpAny_typeOf_ref (k _ _ e1) (by rw [e2]; exact q)
theorem unbind_ok {M : Model} {A : Around} {E : Value -> Shared -> Prop} {i : Nat} {n : Str} {v : V} {Q : Unit -> Shared -> Prop} (I : Inv X pins σ H s) (hN : X.N.Nodup) (hi : X.N[i]? = some n) (hk : X.env.scope.names.lookup n = some .local) (hv : σ[i]? = some (some v))
  (h : ∀ s', Inv X pins (σ.set i none) H s' -> Q () s') : wpAny M A (unbindName X.env n) Q E s := by
 obtain ⟨m, hn, hl⟩ := id I.loc
 have hcls : (X.env.scope.kind == .class || (X.env.scope.kind == .module && X.env.locals != X.env.globals)) = false := by rw [I.ok.kind]; rfl
 obtain ⟨u, r, l⟩ := hl i n v hi hv (.inl hk)
 have hm : m n = some u := by
  rcases l with l | ⟨l, _⟩
  ·exact l.2
  ·have hk' : X.env.kindOf n = some .local := hk
   rw [hk'] at l
   rcases l with l | l <;> cases l
 have hiσ : i < σ.length := by rw [I.len]; exact (List.getElem?_eq_some_iff.mp hi).1
 refine wpAny_unbindName_local hk hn hm hcls fun h' u' hn' hs => ?_
 obtain ⟨oL, _, _, hoL, _⟩ := id hn
 have tracked : HOk X.prog X.w H h' := fun b ob e => by
  refine (I.hok b ob e).stay (fun c w' hc q => (hs.2 c ?_).trans q) (fun _ q => q) fun _ _ q => q
  rintro rfl
  rcases hc with rfl | hc
  ·rw [I.free] at e; cases e
  ·rw [I.free] at hc; cases hc
 refine h _ ⟨I.ok, I.os, I.bare, ⟨fun b o e n hb hx => ?_, fun b o e n hb hx => ?_, I.base.free, fun b o e hx => ?_, I.base.tups, I.base.frzs, I.base.tbls⟩, ⟨_, hn', fun j y v' e1 e2 e3 => ?_⟩, fun y c e => ?_, I.free, I.freeC, fun p hp => ?_, tracked, by simpa using I.len⟩
 ·exact (hs.2 b (Nat.ne_of_lt (Nat.lt_of_lt_of_le (Heap.lt_size e) I.ok.above))).trans (I.base.keep b o e n hb hx)
 ·obtain ⟨sl, e1⟩ := I.base.slot b o e n hb hx
  exact ⟨sl, (hs.2 b (Nat.ne_of_lt (Nat.lt_of_lt_of_le (Heap.lt_size e) I.ok.above))).trans e1⟩
 ·obtain ⟨o', e1⟩ := I.base.there b o e hx
  exact ⟨o', (hs.2 b (Nat.ne_of_lt (Nat.lt_of_lt_of_le (Heap.lt_size e) I.ok.above))).trans e1⟩
 ·by_cases hj : j = i
  ·subst hj
   rw [List.getElem?_set_self hiσ] at e2
   cases e2
  ·rw [List.getElem?_set_ne (Ne.symm hj)] at e2
   obtain ⟨u', r', q⟩ := hl j y v' e1 e2 e3
   refine ⟨u', r', ?_⟩
   rcases q with ⟨k, e⟩ | ⟨k, c, e, z⟩
   ·refine .inl ⟨k, ?_⟩
    have : y ≠ n := fun e => hj (nodup_ix hN e1 (e ▸ hi))
    simp [this, e]
   ·exact .inr ⟨k, c, e, z.sameBut hs (I.cne y c e)⟩
 ·obtain ⟨w', z⟩ := I.cell y c e
  exact ⟨w', z.sameBut hs (I.cne y c e)⟩
 ·obtain ⟨e, n, ne, nf, d⟩ := I.pin p hp
  exact ⟨(hs.2 p.1 ne).trans e, n, ne, nf, d⟩
theorem behind_ok {i : Nat} {n : Str} {pos : Pos} {Q : Unit -> Shared -> Prop} {E : Value -> Shared -> Prop} (I : Inv X pins σ H s) (hN : X.N.Nodup) (hi : X.N[i]? = some n) (hk : X.env.scope.names.lookup n = some .local) (h : ∀ s', Inv X pins (σ.set i none) H s' -> Q () s') :
  wpAny (model X.prog X.w) X.A (do bindName X.env n Value.none; unbindBehindTheSuite X.env n pos) Q E s := by
 have hiσ : i < σ.length := by rw [I.len]; exact (List.getElem?_eq_some_iff.mp hi).1
 refine wpAny_bind (wpAny_bindName (store_ok (v := .non) I hN hi (.inl hk) rfl (fun s1 I1 => ?_) (.inr hk)))
 unfold unbindBehindTheSuite
 refine wpAny_onRaise (unbind_ok (v := .non) I1 hN hi hk (by rw [List.getElem?_set_self hiσ]) fun s2 I2 => h s2 ?_)
 rw [List.set_set] at I2
 exact I2
end
abbrev TH := Ends -> Addr -> Option Addr -> St -> Hp -> Prop
def PH (X : Cx) (hs : List ExceptHandler) (t : TH) : Prop := ∀ (pins : List (Addr × Obj)) (s : Shared) (σ : St) (H : Hp) (D : Ends) (x C T : Addr) (od : Option Addr), Inv X pins σ H s -> Loose X pins H s x C T od .none -> t D C od σ H →
 wpAny (model X.prog X.w) X.A (handleBy (.ref x) X.env hs) (SP X pins D) X.xe s
def forget (i : Nat) (D : Ends) : Ends := { nx := fun σ H => D.nx (σ.set i none) H, rt := D.rt, bk := fun σ H => D.bk (σ.set i none) H, ct := fun σ H => D.ct (σ.set i none) H }
def tHand (K : PySem.W.Frag) (C' : Addr) (i : Nat) (ts : TS) (rest : TH) : TH := fun D C od σ H => ∃ b, PySem.W.exmOne K (.ref C) (.ref C') = some b ∧
 if b = true then ∀ x, H x = none -> ts (forget i D) (σ.set i (some (.ref x))) (upd H x (.ext (XAt x C od))) else rest D C od σ H
def tHand0 (K : PySem.W.Frag) (C' : Addr) (ts : TS) (rest : TH) : TH := fun D C od σ H => ∃ b, PySem.W.exmOne K (.ref C) (.ref C') = some b ∧
 if b = true then ts D σ H else rest D C od σ H
section
variable {X : Cx} {c n : Str} {C' : Addr} {i : Nat} {p pos : Pos} {b₀ : Stmt} {suite : List Stmt} {hs : List ExceptHandler} {ts : TS} {th : TH}
theorem ph_none : PH X [] (fun _ _ _ _ _ => False) := fun _ _ _ _ _ _ _ _ _ _ _ h => False.elim h
theorem ph_as (hN : X.N.Nodup) (hi : X.N[i]? = some n) (hk : X.env.scope.names.lookup n = some .local) (hex : X.ex = []) (hg : Gl X c) (hm : X.mg c = some (.ref C')) (hb : ∀ e, PSs (X.within e) (b₀ :: suite) ts) (hr : PH X hs th) (hdb : (c == ("__debug__" : Str)) = false := by decide) :
  PH X (.ExceptHandler (some (.Name c p)) (some n) (b₀ :: suite) pos :: hs) (tHand X.K C' i ts th) := by
 intro pins s σ H D x C T od I L ⟨b, eb, h⟩
 refine wpAny_handleBy_cons (codeAny_handlers_test (ld_glob (X := X.within (.ref x)) (I.within _) hg hm ?_ hdb)) (by unfold byPass; exact fun z => nomatch z)
 refine PySem.W.exm_one I.kIn L.at.type eb _ _ _ s (fun _ _ z => z) ?_
 cases b with
 | false =>
  rw [if_neg Bool.false_ne_true] at h
  exact hr pins s σ H D x C T od I L h
 | true =>
  rw [if_pos rfl] at h
  refine codeAny_handlers_suite_as (L.flight I hex fun s1 I1 L1 => ?_)
  have I2 := I1.track L1.at L1.f1 L1.h1 fun p hp => (L1.p p hp).1
  refine store_ok (v := .ref x) I2 hN hi (.inl hk) rfl (fun s2 I3 => ?_) (.inr hk)
  refine wpAny_mono (hb (.ref x) pins s2 _ _ (forget i D) (I3.within (.ref x)) (h x L.h1)) (fun f s3 q => ?_) fun _ _ z => False.elim z
  cases f with
  | next => obtain ⟨σ', H', J, q⟩ := q; exact behind_ok (J.without I.ok) hN hi hk fun s4 J4 => ⟨_, H', J4, q⟩
  | brk => obtain ⟨σ', H', J, q⟩ := q; exact behind_ok (J.without I.ok) hN hi hk fun s4 J4 => ⟨_, H', J4, q⟩
  | cont => obtain ⟨σ', H', J, q⟩ := q; exact behind_ok (J.without I.ok) hN hi hk fun s4 J4 => ⟨_, H', J4, q⟩
  | ret u => obtain ⟨v, σ', H', J, r, q⟩ := q; exact behind_ok (J.without I.ok) hN hi hk fun s4 J4 => ⟨v, _, H', J4, r, q⟩
def tTry (tb : TSX) (th : TH) : TS := fun D σ H => tb D (fun σ' C od H' => ∃ c, C = .ref c /\ th D c od σ' H') σ H
theorem ps_try {body : List Stmt} {h₀ : ExceptHandler} {tb : TSX} (hex : X.ex = []) (hst : X.stack = X.env :: X.outer) (hfr : X.env.frame = some X.env.locals) (hb : PSX X body tb) (hh : PH X (h₀ :: hs) th) : PS X (.Try body (h₀ :: hs) [] [] pos) (tTry tb th) := by
 intro pins s σ H D I h
 refine wpAny_Try_except (wpAny_mono (hb pins s σ H D _ I h) (fun f s1 q => ?_) fun e s1 q => ?_)
 ·cases f with
  | next => exact wpAny_execs_nil q
  | brk => exact q
  | cont => exact q
  | ret u => exact q
 ·obtain ⟨x, C, T, od, σ', H', ee, I', xo, f1, f2, h1, h2, hp, c, ec, q⟩ := q
  subst ee
  cases ec
  have L : Loose X pins H' s1 x C T od .none := ⟨xo, f1, f2, h1, h2, hp⟩
  exact L.note I' hex hst hfr fun s2 T' I2 L2 => L2.flight I2 hex fun s3 I3 L3 => hh pins s3 σ' H' D x C T' od I3 L3 q
end
end L2
set_option Elab.async false
set_option linter.all false
set_option maxRecDepth 100000
namespace L2
open PySem PySem.Spec PyProof.Rows
def quietB (es : Array DictEntry) : Bool := quietNames.all fun n => (nsFind es n).isNone
def xqIn (K : PySem.W.Frag) (C Pk : Addr) : Bool :=
 match K.lookup C, K.lookup Pk with
 | some ⟨.type "type", _, .cls cd, sl⟩, some ⟨_, _, .cls cp, _⟩ =>
  (match cd.mro with
  | [.ref C', .ref P', .type "ValueError", .type "Exception", .type "BaseException", .type "object"] => C' == C && P' == Pk
  | _ => false) &&
  (match sl.toList with
  | [_, _, _, _, some (.builtin id), _] => id == "ValueError.__new__"
  | _ => false) && !cd.hasDel && nsB K cp.ns quietB
 | _, _ => false
theorem quiet_of {es : Array DictEntry} (e : quietB es = true) : ∀ n ∈ quietNames, nsFind es n = none := fun n hn => by
 have := List.all_eq_true.mp e n hn
 simpa using this
theorem xq_ok {K : PySem.W.Frag} {h : Heap} {C Pk : Addr} (X : K.In h) (e : xqIn K C Pk = true) : ∃ nm q N bs hdct sn sub ab col dd k0 k1 k2 k3 k5,
  h.get? C = some (excClassObj nm q C N bs (.ref Pk :: bmV) hdct sn sub ab col dd k0 k1 k2 k3 k5 "ValueError.__new__") ∧ OwnTailQ h bmV (.ref Pk :: bmV) ∧ OwnTail h bmV (.ref Pk :: bmV) := by
 unfold xqIn at e
 split at e
 ·rename_i dC cd sl dP1 dP2 cp slP q1 q2
  simp only [Bool.and_eq_true] at e
  obtain ⟨⟨⟨e1, e2⟩, e3⟩, e5⟩ := e
  split at e1
  ·rename_i C' P' qm
   rw [Bool.and_eq_true] at e1
   obtain ⟨c1, c2⟩ := e1
   have c1 := eq_of_beq c1
   have c2 := eq_of_beq c2
   subst c1 c2
   split at e2
   ·rename_i k0 k1 k2 k3 id k5 qs
    have c3 : id = "ValueError.__new__" := eq_of_beq e2
    subst c3
    obtain ⟨es', ns', ni'⟩ := nsB_ok X e5
    obtain ⟨nm, bs, mro, ns0, qn, hdct, sn, sub, ab, col, hdel⟩ := cd
    have qm : mro = _ := qm
    have e3' : hdel = false := by simpa using e3
    subst qm
    subst e3'
    have qs' : sl = #[k0, k1, k2, k3, some (.builtin "ValueError.__new__"), k5] := by
     have := congrArg List.toArray qs
     simpa using this
    subst qs'
    refine ⟨nm, qn, ns0, bs, hdct, sn, sub, ab, col, dC, k0, k1, k2, k3, k5, X _ _ q1, ?_, ?_⟩
    ·exact .own (X _ _ q2) ns' (quiet_of ni') .base
    ·exact .own (X _ _ q2) ns' (quiet_of ni' _ (by simp [quietNames])) .base
   ·cases e2
  ·cases e1
 ·cases e
structure XIn (K : PySem.W.Frag) (C Pk : Addr) : Prop where
 cls : xqIn K C Pk = true
 ga : PySem.W.findIn K (.ref C) "__getattribute__" = some (some (.builtin "BaseException.__getattribute__"))
 gt : PySem.W.findIn K (.ref C) "__getattr__" = some none
 ca : PySem.W.findIn K (.ref C) "__class__" = some (some (.builtin "object.__class__"))
 hn : PySem.W.specialIn K (.builtin "object.__class__") "__get__" = some (some (.builtin "getset_descriptor.__get__"))
 tk : PySem.W.takesIn K (.builtin "object.__class__") = some true
 mo : PySem.W.mroIn K C (.type "object") = some true
 kc : PySem.W.kitCls K (.ref C) (.ref C) = some true
theorem attrBase : ExcAttrBase "ValueError" bmV := ⟨F.excAttr_ValueError, F.excBase_ValueError.mroIs, by rfl, by rfl⟩
section
variable {prog : Program} {w : World} {A : Around} {E : Value -> Shared -> Prop} {s : Shared} {K : PySem.W.Frag} {x C Pk : Addr} {ox : Obj} {od : Option Obj} {name : Str} {tk : Tok} {fill expr : Bool} {r : Builtin.ObjectAttr.Found} {Q : Value -> Shared -> Prop}
theorem exc_by (KX : K.In s.heap) (J : PySem.W.InstAt s.heap x ox C od) (hx : XIn K C Pk) (hf : PySem.W.findObj K C od name = some r) (hm : r ≠ .missing)
  (h : ∀ A' : Around, wpAny (model prog w) A' (match r with
   | .value v => ret v
   | .bind g a => Builtin.ObjectAttr.bindTo g a (.ref x) (.ref C)
   | .missing => unsupported "") (fun fin s' => match fin with
    | .done (.ret v) => wpAny (model prog w) A (handedOut v) Q E s'
    | _ => False) (fun _ _ => False) s) :
  wpAny (model prog w) A (getAttrBy (.ref x) (.str name tk) fill expr) Q E s := by
 unfold getAttrBy
 refine wpAny_holding (wpAny_bind (J.type _ _ _ s (fun _ _ z => z) (wpAny_bind (PySem.W.looks_findIn KX hx.ga _ _ _ s (fun _ _ z => z) ?_))))
 dsimp only
 rw [if_neg (by show ¬ (true && (Value.builtin "BaseException.__getattribute__" == Value.builtin "object.__getattribute__")) = true; decide +kernel)]
 unfold getAttrByItsOwn
 refine wpAny_bind (PySem.W.looks_hook KX (r := none) (by exact hx.gt) _ _ _ s (fun _ _ z => z) (wpAny_bind (wpAny_attempt (wpAny_holding ?_))))
 unfold callGetattribute
 rw [if_neg (by cases expr <;> decide)]
 unfold boundAndCalled
 rw [F.excAttr_ValueError.ga.bind]
 refine wpAny_bind (wpAny_pure (wpAny_call (codeAny_call_builtin F.excAttr_ValueError.ga.plain F.entry_bexc_ga ?_)))
 obtain ⟨nm, q, N, bs, hdct, sn, sub, ab, col, dd, k0, k1, k2, k3, k5, f1, f2, f3⟩ := xq_ok KX hx.cls
 refine wpAny_check_ga_own attrBase f1 f2 J.at_ J.cls ?_
 unfold Builtin.«object.__getattribute__»
 have sa : slotArgs "__getattribute__" 1 { pos := [Value.ref x, Value.str name tk] } = pure (Value.ref x, [Value.str name tk]) := rfl
 refine wpAny_bind ?_
 show wpAny _ _ (slotArgs "__getattribute__" 1 { pos := [Value.ref x, Value.str name tk] }) _ _ _
 rw [sa]
 refine wpAny_pure ?_
 dsimp only
 refine wpAny_bind (wpAny_pure (wpAny_bind (J.type _ _ _ s (fun _ _ z => z) (wpAny_bind (PySem.W.looks_find KX J hf _ _ _ s (fun _ _ z => z) ?_)))))
 have h1 := h A.in1
 cases r with
 | value v => 
  refine wpAny_mono h1 (fun fin s' q => ?_) fun _ _ z => False.elim z
  cases fin with
  | done f => cases f with
   | ret v => exact q
   | next => exact False.elim q
   | brk => exact False.elim q
   | cont => exact False.elim q
  | again c => exact False.elim q
 | bind g a =>
  refine wpAny_mono h1 (fun fin s' q => ?_) fun _ _ z => False.elim z
  cases fin with
  | done f => cases f with
   | ret v => exact q
   | next => exact False.elim q
   | brk => exact False.elim q
   | cont => exact False.elim q
  | again c => exact False.elim q
 | missing => exact absurd rfl hm
theorem exc_value {v : Value} (KX : K.In s.heap) (J : PySem.W.InstAt s.heap x ox C od) (hx : XIn K C Pk) (hf : PySem.W.findObj K C od name = some (.value v)) (hv : PySem.W.handedIn v = true) (h : Q v { s with toks := s.toks + 1 }) :
  wpAny (model prog w) A (getAttr (.ref x) name expr) Q E s := by
 unfold getAttr
 refine wpAny_bind (wpAny_mkText ?_)
 refine exc_by (s := { s with toks := s.toks + 1 }) KX J hx hf (by simp) fun A' => ?_
 refine wpAny_pure ?_
 show wpAny _ _ (handedOut v) _ _ _
 rw [PySem.W.handedOut_of hv]
 exact wpAny_pure h
theorem find_class (hx : XIn K C Pk) : PySem.W.findObj K C od "__class__" = some (.bind (.builtin "getset_descriptor.__get__") (.builtin "object.__class__")) := by
 unfold PySem.W.findObj
 have : ∃ cd, PySem.W.clsIn K C = some cd := by
  have m := hx.mo
  unfold PySem.W.mroIn at m
  cases q : PySem.W.clsIn K C with
  | none => rw [q] at m; cases m
  | some cd => exact ⟨cd, rfl⟩
 obtain ⟨cd, e⟩ := this
 simp only [e, hx.ca, hx.hn, hx.tk, Option.bind_some]
theorem exc_class {Q : Option Value -> Shared -> Prop} (KX : K.In s.heap) (J : PySem.W.InstAt s.heap x ox C od) (hx : XIn K C Pk) (h : Q (some (.ref C)) { s with toks := s.toks + 1 }) :
  wpAny (model prog w) A (getAttr? (.ref x) "__class__") Q E s := by
 unfold getAttr?
 refine wpAny_bind (wpAny_mkText ?_)
 unfold getAttrBy?
 refine wpAny_bind (wpAny_attempt ?_)
 refine exc_by (s := { s with toks := s.toks + 1 }) KX J hx (find_class hx) (by simp) fun A' => ?_
 dsimp only
 unfold Builtin.ObjectAttr.bindTo
 dsimp only
 refine wpAny_bind (wpAny_holding (wpAny_call ?_))
 refine PySem.W.class_get (s := { s with toks := s.toks + 1 }) KX J hx.mo ?_
 refine wpAny_pure ?_
 show wpAny _ _ (handedOut (.ref C)) _ _ _
 rw [PySem.W.handedOut_of rfl]
 exact wpAny_pure (wpAny_pure h)
def XAtD (x C : Addr) (o : Option Addr) (h : Heap) : Prop := XAt x C o h /\ ∀ dx, o = some dx -> ∃ ob, h.get? dx = some ob
theorem XAtD.inst {o : Option Addr} {h : Heap} (a : XAtD x C o h) : ∃ ox od, PySem.W.InstAt h x ox C od := by
 obtain ⟨⟨oe, vs, e1, e2, e3, e4, _⟩, d⟩ := a
 have nc : PySem.W.notCls oe = true := by unfold PySem.W.notCls; rw [e4]
 cases o with
 | none => exact ⟨oe, none, e1, e2, nc, by rw [e3]; trivial⟩
 | some dx =>
  obtain ⟨ob, e⟩ := d dx rfl
  exact ⟨oe, some ob, e1, e2, nc, by rw [e3]; exact e⟩
theorem exc_kit {o : Option Addr} (hx : XIn K C Pk) : PySem.W.KitX K (.ref x) (.ref C) (XAtD x C o) where
 ty := fun M h _ a => a.1.type
 it := fun M h KX _ => (PySem.W.kit_cls KX hx.kc).2.1
 ne := fun h tp dd its n sl KX e => by
  obtain ⟨nm, q, N, bs, hdct, sn, sub, ab, col, dd, k0, k1, k2, k3, k5, f1, _⟩ := xq_ok KX hx.cls
  refine beq_eq_false_iff_ne.mpr fun z => ?_
  cases z
  rw [f1] at e
  injection e with e
  injection e with e
  exact absurd e (by decide +kernel)
 ca := fun {prog w A E Q s} KX a q => by
  obtain ⟨ox, od, J⟩ := a.inst
  exact exc_class KX J hx q
end
section
variable {X : Cx}
def IsX (H : Hp) (x C : Addr) (od : Option Addr) : Prop := H x = some (.ext (XAt x C od)) /\ ∀ dx, od = some dx -> ∃ o, H dx = some o
theorem IsX.at {P : Program} {w : World} {H : Hp} {h : Heap} {x C : Addr} {od : Option Addr} (a : IsX H x C od) (ok : HOk P w H h) : XAtD x C od h := by
 refine ⟨(ok x _ a.1).1, fun dx e => ?_⟩
 obtain ⟨fs, q⟩ := a.2 dx e
 exact (ok dx _ q).there
theorem call_isx {Pk : Addr} : CallR X (.builtin "isinstance") (fun xs H Q => ∃ x C od c u b, xs = [.ref x, c] ∧ IsX H x C od ∧ XIn X.K C Pk ∧ RelV c u ∧ (∀ u', RelV c u' → u' = u) ∧ PySem.W.kitOne X.K (.ref C) u = some b ∧ Q (.bl b) H) := by
 intro pins s σ H xs us Q I r h
 obtain ⟨x, C, od, c, u, b, rfl, ix, hx, ru, un, e, q⟩ := h
 obtain ⟨u1, w', rfl, r1, r2⟩ := vals2 r
 cases (show u1 = Value.ref x from r1)
 cases un _ r2
 exact PySem.W.kia_one (exc_kit hx) I.kIn (ix.at I.hok) e (fun z => nomatch z) fun tk => ⟨.bl b, H, I.tok tk, rfl, q⟩
theorem refs_inj : ∀ {cs : List Addr} {its : List Value}, Vals (cs.map V.ref) its -> its = cs.map Value.ref
 | [], _, .nil => rfl
 | c :: _, _, .cons p q => by rw [refs_inj q]; cases (show _ = Value.ref c from p); rfl
theorem call_isxT {Pk : Addr} : CallR X (.builtin "isinstance") (fun xs H Q => ∃ (x C : Addr) (od : Option Addr) (tp : Addr) (cs : List Addr) (b : Bool), xs = [.ref x, .ref tp] ∧ IsX H x C od ∧ XIn X.K C Pk ∧ H tp = some (.tup (cs.map V.ref)) ∧ PySem.W.kitAny X.K (.ref C) (cs.map Value.ref) = some b ∧ Q (.bl b) H) := by
 intro pins s σ H xs us Q I r h
 obtain ⟨x, C, od, tp, cs, b, rfl, ix, hx, et, e, q⟩ := h
 obtain ⟨u1, w', rfl, r1, r2⟩ := vals2 r
 cases (show u1 = Value.ref x from r1)
 cases (show w' = Value.ref tp from r2)
 obtain ⟨_, its, ri, o, h1, h2, n, h3⟩ := (show ObjOk X.prog X.w H s.heap tp (.tup (cs.map V.ref)) from I.hok tp _ et)
 have ei : its = cs.map Value.ref := refs_inj ri
 subst ei
 obtain ⟨oc, od', dt, sl⟩ := o
 cases (show oc = Value.type "tuple" from h2)
 cases (show dt = _ from h3)
 exact PySem.W.kia_tup (exc_kit hx) I.kIn (ix.at I.hok) h1 e (fun z => nomatch z) fun tk => ⟨.bl b, H, I.tok tk, rfl, q⟩
end
end L2
set_option Elab.async false
set_option linter.all false
set_option maxRecDepth 100000
namespace L2
open PySem PySem.Spec PyProof.Rows
theorem int_len {i : Int} (h : i.natAbs.log2 < 1920) : (Str.ofString (toString i)).length <= 1921 := by
 rw [PyProof.Rows.ofString_length]
 have b : i.natAbs < 2 ^ 1920 := by
  by_cases z : i.natAbs = 0
  ·rw [z]; exact Nat.two_pow_pos _
  ·exact (Nat.log2_lt z).mp h
 cases i with
 | ofNat n =>
  have := PySem.nat_repr_length_le (n := n) (k := 1920) (by decide) b
  show (n.repr).toList.length <= _
  rw [String.length_toList]
  omega
 | negSucc n =>
  have := PySem.nat_repr_length_le (n := n + 1) (k := 1920) (by decide) b
  show ("-" ++ (n + 1).repr).toList.length ≤ _
  rw [String.length_toList, String.length_append]
  have : ("-" : String).length = 1 := rfl
  omega
abbrev TJ := St -> Hp -> (Hp -> Prop) -> Prop
def PJ (X : Cx) (es : List Expr) (n : Nat) (t : TJ) : Prop := ∀ (pins : List (Addr × Obj)) (s : Shared) (σ : St) (H : Hp) (out : Str) (m : Nat) (Q : Hp -> Prop), Inv X pins σ H s -> out.length + n <= m -> m <= sizeLine -> t σ H Q →
 Joins (model X.prog X.w) X.A X.xe (evalEach es X.env) out (fun o s' => o.length <= m /\ ∃ H', Inv X pins σ H' s' /\ Q H') s
section
variable {X : Cx} {e v₁ v₂ : Expr} {es : List Expr} {n : Nat} {te : TE} {t : TJ} {pos : Pos}
theorem pj_nil : PJ X [] 0 (fun _ H Q => Q H) := fun pins s σ H out m Q I hl _ h => ⟨hl, H, I, h⟩
theorem pj_str {x : Str} {k : Nat} (hr : PJ X es n t) : PJ X (.Constant (.str x) k pos :: es) (x.length + n) t := by
 intro pins s σ H out m Q I hl hm h
 show wpAny _ _ (eval (.Constant (.str x) k pos) X.env) _ _ s
 refine wpAny_Constant_str ⟨x, _, rfl, by rw [Str.length_append]; omega, ?_⟩
 exact hr pins _ σ H (out ++ x) m Q (I.tok (s.toks + 1)) (by rw [Str.length_append]; omega) hm h
theorem pj_int (he : PE X e te) (hr : PJ X es n t) : PJ X (.FormattedValue e (-1) none pos :: es) (1921 + n) (fun σ H Q => te σ H fun v H1 => ∃ i, v = .int i /\ i.natAbs.log2 < 1920 /\ t σ H1 Q) := by
 intro pins s σ H out m Q I hl hm h
 show wpAny _ _ (eval (.FormattedValue e (-1) none pos) X.env) _ _ s
 refine wpAny_FormattedValue_plain (thn (he pins s σ H _ I h) fun u s1 ⟨v, H1, I1, r, i, ei, hi, q⟩ => ?_)
 subst ei
 obtain ⟨tk, rfl⟩ := r
 have b := int_len hi
 refine wpAny_formatField_int hi ⟨_, _, rfl, by rw [Str.length_append]; omega, ?_⟩
 exact hr pins _ σ H1 (out ++ Str.ofString (toString i)) m Q (I1.tok _) (by rw [Str.length_append]; omega) hm q
theorem joins_mono {M : Model} {A : Around} {E : Value -> Shared -> Prop} : ∀ {l : List (Sem Value)} {acc : Str} {Q Q' : Str -> Shared -> Prop} {s : Shared}, Joins M A E l acc Q s -> (∀ o s, Q o s -> Q' o s) -> Joins M A E l acc Q' s
 | [], _, _, _, _, j, h => h _ _ j
 | x :: l, acc, Q, Q', s, j, h => by
  have j : wpAny M A x (fun v s₁ => ∃ y t, v = Value.str y t /\ (acc ++ y).length <= sizeLine /\ Joins M A E l (acc ++ y) Q s₁) E s := j
  show wpAny M A x (fun v s₁ => ∃ y t, v = Value.str y t /\ (acc ++ y).length <= sizeLine /\ Joins M A E l (acc ++ y) Q' s₁) E s
  exact thn j fun v s1 ⟨y, t, e, z, q⟩ => ⟨y, t, e, z, joins_mono q h⟩
theorem pe_fstr (h : PJ X (v₁ :: v₂ :: es) n t) (hn : n <= sizeLine) : PE X (.JoinedStr (v₁ :: v₂ :: es) pos) (fun σ H Q => t σ H fun H1 => ∀ y, Q (.str y) H1) := by
 intro pins s σ H Q I hq
 refine wpAny_JoinedStr ?_
 have j := h pins s σ H Str.empty sizeLine _ I (by show 0 + n <= _; omega) (Nat.le_refl _) hq
 refine joins_mono j fun o s1 ⟨z, H1, I1, q⟩ => ⟨z, .str o, H1, I1.tok _, ⟨_, rfl⟩, q o⟩
end
end L2
set_option Elab.async false
set_option linter.all false
set_option maxRecDepth 100000
namespace L2
open PySem PySem.Spec PyProof.Rows
section
variable {prog : Program} {w : World} {A : Around} {E : Value -> Shared -> Prop} {s : Shared} {K : PySem.W.Frag} {C Pk f : Addr} {rest : List Value}
theorem type_call_xinit {Q : Fin → Shared → Prop} (KX : K.In s.heap) (hx : XIn K C Pk) (hi : PySem.W.findIn K (.ref C) "__init__" = some (some (.ref f))) (hf : PySem.W.typeIn K (.ref f) = some (.type "function")) (hrest : rest.length ≤ sizeLine)
  (hq : ∀ (h' : Heap) (e : Addr), s.heap.MadeExcOf h' e (.ref C) rest -> wpAny (model prog w) A (call (.ref f) (.ref e :: rest)) (fun r s' => r = .none /\ Q (.done (.ret (.ref e))) s') E { s with heap := h' }) :
  wpAny (model prog w) A (Builtin.«type.__call__» { pos := .ref C :: rest }) Q E s := by
 obtain ⟨h, g, d, t, os⟩ := s
 obtain ⟨nm, q, N, bs, hdct, sn, sub, ab, col, dd, k0, k1, k2, k3, k5, hC, T1, T2⟩ := xq_ok KX hx.cls
 have V := F.excBase_ValueError
 unfold Builtin.«type.__call__»
 dsimp only
 refine wpAny_ite_false rfl ?_
 refine wpAny_bind ?_
 unfold mroOf
 dsimp only
 unfold classData
 refine wpAny_bind (wpAny_bind (wpAny_load' hC ?_))
 dsimp only
 refine wpAny_pure (wpAny_pure ?_)
 refine wpAny_ite_false rfl ?_
 refine wpAny_bind (wpAny_madeBy_exc hC (wpAny_bind (wpAny_pure ?_)))
 refine wpAny_bind (wpAny_holding (wpAny_call (codeAny_call_builtin_code (Code.quiet_builtin { pos := Value.ref C :: rest } V.quiet) (wpAny_check_new_subU V (by decide +kernel) T2 hC (codeAny_exc_new_subU V (by decide +kernel) V T2 hC ?_ hrest)))))
 have k2 : ∀ b o, h.get? b = some o → ((h.push { cls := Value.type "tuple", data := Data.seq rest.toArray }).push { cls := Value.ref C, data := Data.fields #[Value.ref h.objs.size, Value.none, Value.none, Value.none, Value.bool false, Value.none] }).get? b = some o := fun b o e => Heap.get?_push_of_some _ (Heap.get?_push_of_some _ e)
 have hget : ((h.push { cls := Value.type "tuple", data := Data.seq rest.toArray }).push { cls := Value.ref C, data := Data.fields #[Value.ref h.objs.size, Value.none, Value.none, Value.none, Value.bool false, Value.none] }).get? (h.objs.size + 1) = some { cls := Value.ref C, data := Data.fields #[Value.ref h.objs.size, Value.none, Value.none, Value.none, Value.bool false, Value.none] } :=
  Heap.get?_push_at (by rw [Heap.size_push]) rfl
 have hgt : ((h.push { cls := Value.type "tuple", data := Data.seq rest.toArray }).push { cls := Value.ref C, data := Data.fields #[Value.ref h.objs.size, Value.none, Value.none, Value.none, Value.bool false, Value.none] }).get? h.objs.size = some { cls := Value.type "tuple", data := Data.seq rest.toArray } :=
  Heap.get?_push_of_some _ (Heap.get?_push_size _ rfl)
 have mk : h.MadeExcOf ((h.push { cls := Value.type "tuple", data := Data.seq rest.toArray }).push { cls := Value.ref C, data := Data.fields #[Value.ref h.objs.size, Value.none, Value.none, Value.none, Value.bool false, Value.none] }) (h.objs.size + 1) (.ref C) rest :=
  ⟨k2, Heap.get?_none_of_le (Nat.le_succ _), h.objs.size, hget, Heap.get?_none_of_le (Nat.le_refl _), hgt⟩
 have go := hq _ _ mk
 generalize ((h.push { cls := Value.type "tuple", data := Data.seq rest.toArray }).push { cls := Value.ref C, data := Data.fields #[Value.ref h.objs.size, Value.none, Value.none, Value.none, Value.bool false, Value.none] }) = h2 at k2 hget hgt mk go
 have KX2 : K.In h2 := fun b o e => k2 b o (KX b o e)
 have J : PySem.W.InstAt h2 (h.objs.size + 1) _ C none := ⟨hget, rfl, rfl, trivial⟩
 dsimp only
 unfold isInstance
 refine wpAny_bind (wpAny_bind (J.type _ _ _ _ (fun _ _ z => z) ?_))
 refine (PySem.W.kit_cls KX2 hx.kc).2.2 _ _ _ _ (fun _ _ z => z) ?_
 refine wpAny_ite_false rfl ?_
 refine wpAny_bind (wpAny_holding (PySem.W.special_fn (s := ⟨h2, g, d, t, os⟩) KX2 J hi hf ?_))
 refine wpAny_mono go (fun r s' z => ?_) fun _ _ z => z
 obtain ⟨rfl, z⟩ := z
 exact wpAny_ite_false rfl (wpAny_pure z)
theorem call_xinit {Q : Value → Shared → Prop} (KX : K.In s.heap) (hx : XIn K C Pk) (hi : PySem.W.findIn K (.ref C) "__init__" = some (some (.ref f))) (hf : PySem.W.typeIn K (.ref f) = some (.type "function")) (hrest : rest.length ≤ sizeLine)
  (hq : ∀ (h' : Heap) (e : Addr), s.heap.MadeExcOf h' e (.ref C) rest → wpAny (model prog w) (A.under (.builtin "type.__call__" { pos := .ref C :: rest })) (call (.ref f) (.ref e :: rest)) (fun r s' => r = .none ∧ Q (.ref e) s') E { s with heap := h' }) :
  wpAny (model prog w) A (call (.ref C) rest) Q E s := by
 obtain ⟨h, g, d, t, os⟩ := s
 obtain ⟨nm, q, N, bs, hdct, sn, sub, ab, col, dd, k0, k1, k2, k3, k5, hC, T1, T2⟩ := xq_ok KX hx.cls
 have f1 := tc_lookup
 have f2 := tc_bind (Value.ref C)
 have hT : (⟨h, g, d, t, os⟩ : Shared).TypeIs (.ref C) "type" := ⟨_, hC, rfl⟩
 exact wpAny_call (codeAny_of_tree (id (id (wpAny_bind (wpAny_load' hC (id (id (wpAny_bind (wpAny_specialOf hT f1 (wpAny_bind (wpAny_of_eq f2 (wpAny_bind (id (wpAny_pure (wpAny_ite_true (Eq.refl (decide (("type.__call__" == "type.__call__") = true)))
  (id (wpAny_pure ⟨rfl, codeAny_call_builtin_at (Code.quiet_builtin { pos := [Value.ref C] ++ { pos := rest : Args }.pos } (by decide +kernel)) entry_typeCall (wpAny_check_type_call_sub hC (type_call_xinit (s := ⟨h, g, d, t, os⟩) KX hx hi hf hrest hq))⟩)))))))))))))))))
end
end L2
set_option Elab.async false
set_option linter.all false
set_option maxRecDepth 100000
namespace L2
open PySem PySem.Spec PyProof.Rows
theorem refuse_exc (self : Value) (C Pk : Addr) : refuseLoop self (Str.ofString "__setattr__") [.ref C, .ref Pk, .type "ValueError", .type "Exception", .type "BaseException", .type "object"] = pure () := by rfl
structure XSet (K : PySem.W.Frag) (C : Addr) : Prop where
 sa : PySem.W.findIn K (.ref C) "__setattr__" = some (some (.builtin "object.__setattr__"))
 hd : PySem.W.hasDictIn K C = true
section
variable {prog : Program} {w : World} {A : Around} {E : Value -> Shared -> Prop} {s : Shared} {K : PySem.W.Frag} {x C Pk : Addr} {ox : Obj} {od : Option Obj} {name : Str} {v : Value} {Q : Unit -> Shared -> Prop}
theorem setx_open (KX : K.In s.heap) (J : PySem.W.InstAt s.heap x ox C od) (hx : XIn K C Pk) (hs : XSet K C) (na : PySem.W.findIn K (.ref C) name = some none)
  (h : ∀ A' : Around, wpAny (model prog w) A' (Builtin.ObjectAttr.storeInOwnDict (.ref x) (.ref C) (.str name s.toks) name v false) (fun fin s' => match fin with
   | .done (.ret _) => Q () s'
   | _ => False) (fun _ _ => False) { s with toks := s.toks + 1 }) : wpAny (model prog w) A (setAttr (.ref x) name v) Q E s := by
 have SF := F.store_object
 obtain ⟨hh, g, d, t, os⟩ := s
 obtain ⟨nm, q, N, bs, hdct, sn, sub, ab, col, dd, k0, k1, k2, k3, k5, hC, T1, T2⟩ := xq_ok KX hx.cls
 have su : PySem.W.Looks (model prog w) hh (isInstance (Value.ref x) (Value.type "object")) true := PySem.W.Looks.andThen J.type (PySem.W.looks_mroIn KX hx.mo)
 refine PySem.W.set_plain KX J hs.sa ?_
 refine codeAny_call_builtin SF.slot.plain SF.entry ?_
 have ar := @PySem.StoreFacts.args _ _ _ _ SF
 have sp := @PySem.StoreFacts.split _ _ _ _ SF
 refine @PySem.W.check_slot _ _ _ _ "object.__setattr__" "object" _ (Value.ref x) [Value.str name t, v] [] _ SF.kind sp su (@ar (Value.ref x) (Value.str name t) v) ?_
 rw [PySem.W.osa_eq]
 refine wpAny_bind ?_
 show wpAny _ _ (do
  let tp ← typeOf (Value.ref x)
  let l ← mroOf tp
  refuseLoop (Value.ref x) (Str.ofString "__setattr__") l) _ _ _
 refine wpAny_bind (J.type _ _ _ _ (fun _ _ z => z) (wpAny_bind ?_))
 unfold mroOf
 dsimp only
 unfold classData
 refine wpAny_bind (wpAny_bind (wpAny_load' hC ?_))
 dsimp only
 refine wpAny_pure (wpAny_pure ?_)
 rw [refuse_exc]
 refine wpAny_pure (wpAny_bind (J.type _ _ _ _ (fun _ _ z => z) (wpAny_bind (PySem.W.looks_findIn KX na _ _ _ _ (fun _ _ z => z) ?_))))
 refine wpAny_bind (wpAny_pure ?_)
 refine wpAny_mono (h _) (fun fin s' z => ?_) fun _ _ z => False.elim z
 cases fin with
 | again c => exact False.elim z
 | done fl => cases fl with
  | ret u => exact z
  | next => exact False.elim z
  | brk => exact False.elim z
  | cont => exact False.elim z
theorem storex_none {A' : Around} {tk : Tok} {vs : Array Value} {Q : Fin -> Shared -> Prop} {E : Value -> Shared -> Prop} (KX : K.In s.heap) (hs : XSet K C) (h1 : s.heap.get? x = some ox) (h2 : ox.cls = .ref C) (h3 : ox.dict = none) (h4 : ox.data = .fields vs)
  (h : ∀ h', h'.get? x = some { ox with dict := some s.heap.objs.size } -> (h'.Ns1 s.heap.objs.size fun y => if y = name then some v else none) -> (∀ b o, b ≠ x -> s.heap.get? b = some o -> h'.get? b = some o) -> Q (.done (.ret .none)) { s with heap := h', toks := s.toks + 1 }) :
  wpAny (model prog w) A' (Builtin.ObjectAttr.storeInOwnDict (.ref x) (.ref C) (.str name tk) name v false) Q E s := by
 obtain ⟨cd, hc, hd'⟩ := PySem.W.any_some hs.hd
 have xs : x ≠ s.heap.objs.size := ne_size h1
 refine wpAny_bind (wpAny_pure (wpAny_bind (wpAny_bind (wpAny_loadPart h1 ?_))))
 rw [h2]
 refine wpAny_bind (PySem.W.Looks.here (PySem.W.looks_clsIn KX hc) ?_)
 rw [hd', h3]
 dsimp only
 rw [h4]
 refine wpAny_ite_false rfl (wpAny_ite_false rfl ?_)
 refine wpAny_bind (wpAny_alloc (wpAny_bind (wpAny_update (Heap.get?_push_of_some _ h1) ?_)))
 refine wpAny_pure (a := some s.heap.objs.size) (wpAny_bind (wpAny_pure (wpAny_bind ?_)))
 have live : ({ cls := ox.cls, dict := some s.heap.objs.size, data := ox.data, slots := ox.slots } : Obj).isFreed = false := fields_live (vs := vs) h4
 have e1 : ((s.heap.push { cls := Value.type "dict", data := Data.dict #[] }).update x fun o => { cls := o.cls, dict := some s.heap.objs.size, data := o.data, slots := o.slots }).get? x = some { ox with dict := some s.heap.objs.size } :=
  Heap.get?_update_self _ (Heap.get?_push_of_some _ h1) live
 have e2 : ((s.heap.push { cls := Value.type "dict", data := Data.dict #[] }).update x fun o => { cls := o.cls, dict := some s.heap.objs.size, data := o.data, slots := o.slots }).get? s.heap.objs.size = some { cls := Value.type "dict", data := Data.dict #[] } := by
  rw [Heap.get?_update_ne _ _ _ _ (Ne.symm xs)]
  exact Heap.get?_push_size _ rfl
 have kp : ∀ b o, b ≠ x → s.heap.get? b = some o → ((s.heap.push { cls := Value.type "dict", data := Data.dict #[] }).update x fun o => { cls := o.cls, dict := some s.heap.objs.size, data := o.data, slots := o.slots }).get? b = some o := fun b o hb e => by
  rw [Heap.get?_update_ne _ _ _ _ hb]
  exact Heap.get?_push_of_some _ e
 have e3 : ((s.heap.push { cls := Value.type "dict", data := Data.dict #[] }).update x fun o => { cls := o.cls, dict := some s.heap.objs.size, data := o.data, slots := o.slots }).Ns s.heap.objs.size (fun _ => none) := ⟨_, #[], _, e2, rfl, (fun e he => absurd he (by simp)), fun _ => rfl⟩
 refine wpAny_nsSet1 (Heap.Ns1.of_empty e3) fun h' hn2 hs2 => ?_
 have wi : PySem.Within (fun _ => (none : Option Value)) [] := fun y hy => absurd rfl hy
 obtain ⟨oD, esD, epD, hoD, hdD, hcD⟩ := hn2.count (PySem.Within.cons name v wi)
 refine wpAny_bind (wpAny_lookBehind hoD (by rw [hdD]; exact pastItsLine_dict (Nat.le_trans hcD (by show 1 <= sizeLine + 1; decide))) ?_)
 exact wpAny_pure (h _ ((hs2.2 x xs).trans e1) hn2 fun b o hb e => (hs2.2 b (ne_size e)).trans (kp b o hb e))
end
end L2
set_option Elab.async false
set_option linter.all false
set_option maxRecDepth 100000
namespace L2
open PySem PySem.Spec PyProof.Rows
def XDict (dx : Addr) (fs : List (Str × V)) (h : Heap) : Prop := ∃ mA, h.Ns1 dx mA /\ (∀ f, RelO (fs.lookup f) (mA f)) /\ PySem.Within mA (fs.map (·.1))
theorem XDict.stay {dx : Addr} {fs : List (Str × V)} {h1 h2 : Heap} (x : XDict dx fs h1) (k : ∀ o, h1.get? dx = some o -> h2.get? dx = some o) : XDict dx fs h2 := by
 obtain ⟨mA, ⟨o, es, ep, e, r⟩, q⟩ := x
 exact ⟨mA, ⟨o, es, ep, k o e, r⟩, q⟩
theorem XDict.ok {P : Program} {w : World} {H : Hp} {h : Heap} {dx : Addr} {fs : List (Str × V)} (x : XDict dx fs h) : ObjOk P w H h dx (.ext (XDict dx fs)) := by
 refine ⟨x, ?_, fun h1 h2 y k => y.stay k⟩
 obtain ⟨mA, ⟨o, es, ep, e, r⟩, q⟩ := x
 exact ⟨o, e⟩
theorem XAtF.ok {fl : Bool} {P : Program} {w : World} {H : Hp} {h : Heap} {x C : Addr} {od : Option Addr} (a : XAtF fl x C od h) : ObjOk P w H h x (.ext (XAtF fl x C od)) := by
 obtain ⟨oe, vs, e1, e2, e3, e4⟩ := id a
 exact ⟨a, ⟨oe, e1⟩, fun h1 h2 ⟨o, v, p1, p2⟩ k => ⟨o, v, k o p1, p2⟩⟩
section
variable {fl : Bool} {X : Cx} {pins : List (Addr × Obj)} {σ : St} {H : Hp} {s : Shared} {x C Pk : Addr} {f : Str} {A : Around} {E : Value -> Shared -> Prop}
theorem setx_first {y : V} {u : Value} {Q : Unit -> Shared -> Prop} (I : Inv X pins σ H s) (e : H x = some (.ext (XAtF fl x C none))) (hx : XIn X.K C Pk) (hs : XSet X.K C) (n : NoAttr X.K C f) (ry : RelV y u)
  (h : ∀ s' dx, H dx = none -> dx ≠ x -> Inv X pins σ (upd (upd H dx (.ext (XDict dx [(f, y)]))) x (.ext (XAtF fl x C (some dx)))) s' -> Q () s') : wpAny (model X.prog X.w) A (setAttr (.ref x) f u) Q E s := by
 obtain ⟨⟨oe, vs, e1, e2, e3, e4, e5⟩, _⟩ := (show ObjOk X.prog X.w H s.heap x (.ext (XAtF fl x C none)) from I.hok x _ e)
 have J : PySem.W.InstAt s.heap x oe C none := ⟨e1, e2, by unfold PySem.W.notCls; rw [e4], by rw [e3]; trivial⟩
 refine setx_open I.kIn J hx hs n fun A' => storex_none (s := { s with toks := s.toks + 1 }) I.kIn hs e1 e2 e3 e4 fun h' p1 p2 p3 => ?_
 have nd : H s.heap.objs.size = none := I.hok.fresh (Nat.le_refl _)
 have nx : s.heap.objs.size ≠ x := Ne.symm (ne_size e1)
 have neH : ∀ b o, s.heap.get? b = some o -> H b = none -> b ≠ x /\ b ≠ s.heap.objs.size := fun b o z q => ⟨fun w => (by rw [w, e] at q; cases q), ne_size z⟩
 have neT : ∀ b t, H b = some t -> (∀ φ, t ≠ .ext φ) -> b ≠ x /\ b ≠ s.heap.objs.size := fun b t z q => ⟨fun w => (by rw [w, e] at z; cases z; exact q _ rfl), fun w => (by rw [w, nd] at z; cases z)⟩
 refine h _ s.heap.objs.size nd nx (I.un (t' := s.toks + 1 + 1) (h' := h') ⟨fun b o z q _ _ => p3 b o (neH b o z q).1 z, fun b o z q _ _ => ⟨o.slots, p3 b o (neH b o z q).1 z⟩, fun b o z q _ => ?_, fun b o z _ => ?_, fun b xs z => ?_, fun b o t z => ?_, fun b ps z => ?_⟩ fun a o z => ?_)
 ·rw [upd_ne (neH b o z q).1, upd_ne (neH b o z q).2]; exact q
 ·by_cases w : b = x
  ·rw [w]; exact ⟨_, p1⟩
  ·exact ⟨o, p3 b o w z⟩
 ·have q := neT b _ z fun φ w => nomatch w
  rw [upd_ne q.1, upd_ne q.2]; exact z
 ·have q := neT b _ z fun φ w => nomatch w
  rw [upd_ne q.1, upd_ne q.2]; exact z
 ·have q := neT b _ z fun φ w => nomatch w
  exact ⟨#[], by rw [upd_ne q.1, upd_ne q.2, z]; simp⟩
 ·by_cases w : a = x
  ·subst w
   rw [upd_same] at z
   cases z
   exact XAtF.ok ⟨_, vs, p1, e2, rfl, e4, e5⟩
  ·rw [upd_ne w] at z
   by_cases w2 : a = s.heap.objs.size
   ·subst w2
    rw [upd_same] at z
    cases z
    refine XDict.ok ⟨_, p2, fun g => ?_, fun g hg => ?_⟩
    ·show RelO (([(f, y)] : List (Str × V)).lookup g) (if g = f then some u else none)
     rw [List.lookup_cons]
     by_cases q : g = f
     ·rw [if_pos q, q, beq_self_eq_true]; exact ry
     ·rw [if_neg q, beq_eq_false_iff_ne.mpr q]; trivial
    ·by_cases q : g = f
     ·rw [q]; simp
     ·exact absurd (by show (if g = f then some u else none) = none; rw [if_neg q]) hg
   ·rw [upd_ne w2] at z
    refine (I.hok a o z).stay (fun b t hb q => p3 b t ?_ q) (fun b q => ?_) fun b xs q => ?_
    ·rcases hb with hb | hb
     ·rw [hb]; exact w
     ·exact (neT b _ hb fun φ w => nomatch w).1
    ·have r := neT b _ q fun φ w => nomatch w
     rw [upd_ne r.1, upd_ne r.2]; exact q
    ·have r := neT b _ q fun φ w => nomatch w
     rw [upd_ne r.1, upd_ne r.2]; exact q
theorem getx_ok {v : V} {dx : Addr} {fs : List (Str × V)} {b : Bool} {Q : Value -> Shared -> Prop} (I : Inv X pins σ H s) (e : H x = some (.ext (XAtF fl x C (some dx)))) (ed : H dx = some (.ext (XDict dx fs))) (hx : XIn X.K C Pk) (hs : XSet X.K C) (n : NoAttr X.K C f) (l : fs.lookup f = some v)
  (h : ∀ u s', Inv X pins σ H s' -> RelV v u -> Q u s') : wpAny (model X.prog X.w) A (getAttr (.ref x) f b) Q E s := by
 obtain ⟨⟨oe, vs, e1, e2, e3, e4, e5⟩, _⟩ := (show ObjOk X.prog X.w H s.heap x (.ext (XAtF fl x C (some dx))) from I.hok x _ e)
 obtain ⟨⟨mA, ns, r, wi⟩, _⟩ := (show ObjOk X.prog X.w H s.heap dx (.ext (XDict dx fs)) from I.hok dx _ ed)
 obtain ⟨ob, eo, lk⟩ := lookIn_ns ns
 have J : PySem.W.InstAt s.heap x oe C (some ob) := ⟨e1, e2, by unfold PySem.W.notCls; rw [e4], by rw [e3]; exact eo⟩
 obtain ⟨u, hu, ru⟩ := RelO.some_of (v := v) (o := mA f) (by rw [<- l]; exact r f)
 exact exc_value I.kIn J hx (PySem.W.findObj_own hs.hd n rfl (by rw [lk, hu])) (handed_of ru) (h u _ (I.tok _) ru)
end
section
variable {X : Cx} {o e value : Expr} {f : Str} {pos pos' : Pos} {ta tv : TE}
def tFldX (K : PySem.W.Frag) (ta : TE) (f : Str) : TE := fun σ H Q => ta σ H fun x H1 => ∃ fl a C Pk dx fs v, x = .ref a /\ H1 a = some (.ext (XAtF fl a C (some dx))) /\ H1 dx = some (.ext (XDict dx fs)) /\ XIn K C Pk /\ XSet K C /\ NoAttr K C f /\ fs.lookup f = some v /\ Q v H1
theorem pe_fldX (he : PE X e ta) (hb : attributeBase e f X.env (eval e X.env) = eval e X.env) : PE X (.Attribute e f pos) (tFldX X.K ta f) := by
 intro pins s σ H Q I h
 refine attr_of hb (thn (he pins s σ H _ I h) fun u s1 ⟨x, H1, I1, rx, fl, a, C, Pk, dx, fs, v, ex, ea, ed, c, c2, n, l, q⟩ => ?_)
 subst ex
 obtain rfl : u = Value.ref a := rx
 exact getx_ok I1 ea ed c c2 n l fun u' s2 I2 ru => ⟨v, H1, I2, ru, q⟩
def sFldX1 (K : PySem.W.Frag) (ta tv : TE) (f : Str) : TS := fun D σ H => tv σ H fun y H1 => ta σ H1 fun x H2 => ∃ fl a C Pk, x = .ref a /\ H2 a = some (.ext (XAtF fl a C none)) /\ XIn K C Pk /\ XSet K C /\ NoAttr K C f ∧
 ∀ dx, H2 dx = none -> dx ≠ a -> D.nx σ (upd (upd H2 dx (.ext (XDict dx [(f, y)]))) a (.ext (XAtF fl a C (some dx))))
theorem ps_fldX1 (ha : PE X o ta) (hv : PE X value tv) (hs : swapsWith value (some (.Attribute o f pos')) pos.line X.env = pure false) : PS X (.Assign [.Attribute o f pos'] value pos) (sFldX1 X.K ta tv f) := by
 intro pins s σ H D I h
 refine plainObj_wpAny_Assign_Attribute (thn (hv pins s σ H _ I h) fun u s1 ⟨y, H1, I1, ry, q⟩ => thn (ha pins s1 σ H1 _ I1 q) fun ov s2 ⟨x, H2, I2, rx, fl, a, C, Pk, ex, ea, c, c2, n, q2⟩ => ?_) hs
 subst ex
 obtain rfl : ov = Value.ref a := rx
 exact setx_first I2 ea c c2 n ry fun s3 dx n1 n2 I3 => ⟨σ, _, I3, q2 dx n1 n2⟩
def sFldX2 (K : PySem.W.Frag) (ta tv : TE) (f : Str) : TS := fun D σ H => tv σ H fun y H1 => ta σ H1 fun x H2 => ∃ fl a C Pk dx fs, x = .ref a /\ H2 a = some (.ext (XAtF fl a C (some dx))) /\ H2 dx = some (.ext (XDict dx fs)) /\ fs.length < 1000 /\ XIn K C Pk /\ XSet K C /\ NoAttr K C f ∧
 D.nx σ (upd H2 dx (.ext (XDict dx (putF f y fs))))
end
end L2
set_option Elab.async false
set_option linter.all false
set_option maxRecDepth 100000
namespace L2
open PySem PySem.Spec PyProof.Rows
structure XUp (K : PySem.W.Frag) (Pk : Addr) : Prop where
 sp : PySem.W.specialIn K (.ref Pk) "__getattribute__" = some (some (.builtin "type.__getattribute__"))
 rd : PySem.W.readsIn K Pk (.type "type") = true
 fc : PySem.W.findCls K (.ref Pk) (.type "type") "__init__" = some (.val (.builtin "ValueError.__init__"))
section
variable {prog : Program} {w : World} {A : Around} {E : Value -> Shared -> Prop} {s : Shared} {K : PySem.W.Frag} {x C Pk : Addr} {oe : Obj} {vs : Array Value} {us : List Value} {Q : Value -> Shared -> Prop}
theorem binit_ok (KX : K.In s.heap) (hx : XIn K C Pk) (h1 : s.heap.get? x = some oe) (h2 : oe.cls = .ref C) (h3 : oe.data = .fields vs) (h4 : 0 < vs.size) (hu : us.length <= sizeLine)
  (h : ∀ h' vs', h'.get? x = some { oe with data := .fields vs' } -> vs'.size = vs.size -> vs'[1]? = vs[1]? -> (∀ b o, b ≠ x -> s.heap.get? b = some o -> h'.get? b = some o) -> Q .none { s with heap := h' }) :
  wpAny (model prog w) A (call (.builtin "ValueError.__init__") (.ref x :: us)) Q E s := by
 have V := F.excBase_ValueError
 obtain ⟨hh, g, d, t, os⟩ := s
 obtain ⟨nm, q, N, bs, hdct, sn, sub, ab, col, dd, k0, k1, k2, k3, k5, hC, T1, T2⟩ := xq_ok KX hx.cls
 refine wpAny_call (codeAny_call_builtin V.init.plain V.initEntry (wpAny_check_init_subU V T2 hC h1 h2 ?_))
 unfold Builtin.«BaseException.__init__»
 dsimp only
 refine wpAny_ite_false rfl ?_
 refine wpAny_bind (wpAny_newTuple ?_ hu)
 unfold Builtin.BaseException.bexcPut
 have h1' := Heap.get?_push_of_some { cls := Value.type "tuple", data := Data.seq us.toArray } h1
 have hv : vs[0]? = some vs[0] := Array.getElem?_eq_getElem h4
 refine wpAny_bind (wpAny_bind (wpAny_field h1' h3 hv (wpAny_bind (wpAny_setField h1' h3 h4 ?_))))
 have live : (Obj.mapFields (fun v => v.setIfInBounds 0 (Value.ref hh.objs.size)) oe).isFreed = false := by rw [mapFields_of (vs := vs) _ h3]; rfl
 have fin : Q Value.none { heap := (hh.push { cls := Value.type "tuple", data := Data.seq us.toArray }).update x (Obj.mapFields fun v => v.setIfInBounds 0 (Value.ref hh.objs.size)), gens := g, drawn := d, toks := t, os := os } :=
  h _ (vs.setIfInBounds 0 (Value.ref hh.objs.size)) (by rw [Heap.get?_update_self _ h1' live, mapFields_of (vs := vs) _ h3]) (by simp) (by simp) fun b o hb e => by
   rw [Heap.get?_update_ne _ _ _ _ hb]; exact Heap.get?_push_of_some _ e
 cases vs[0] with
 | ref a => exact wpAny_letGo (wpAny_pure fin)
 | _ => exact wpAny_pure (wpAny_pure fin)
end
section
variable {X : Cx} {P c : Str} {p pos apos : Pos} {e : Expr} {es : List Expr} {t : TA} {Pk : Addr}
def tBinit (K : PySem.W.Frag) (Pk : Addr) (t : TA) : TE := fun σ H Q => t σ H fun vs H1 => ∃ fl a C od r, vs = .ref a :: r /\ r.length <= 1000 /\ H1 a = some (.ext (XAtF fl a C od)) /\ XIn K C Pk /\ Q .non H1
theorem pe_binit {pl : Sem Bool} (hg : Gl X c) (hm : X.mg c = some (.ref Pk)) (hu : XUp X.K Pk) (ha : PA X (e :: es) t) (hdb : (c == ("__debug__" : Str)) = false := by decide)
  (hst : starEach (e :: es) X.env = (false, eval e X.env) :: starEach es X.env := by rfl) (hpl : (backTo pos (starEach es X.env)).any (·.1) = false := by rfl)
  (ht : eval (.Call (.Attribute (.Name c p) "__init__" apos) (e :: es) [] pos) X.env = (do
   let ov ← eval (.Name c p) X.env
   standAt apos.atName
   let (f, first) ← holding [ov] (getMethod ov "__init__" pl)
   callWith pos f first (backTo pos (starEach (e :: es) X.env)) (backToKw pos (keywordEach [] X.env))) := by rfl) :
  PE X (.Call (.Attribute (.Name c p) "__init__" apos) (e :: es) [] pos) (tBinit X.K Pk t) := by
 intro pins s σ H Q I h
 refine PySem.W.methodCall_KW (pl := pl) (ld_glob I hg hm ?_ hdb) ht
 refine PySem.W.method_cls I.kIn hu.sp (PySem.W.cls_value I.kIn hu.rd hu.fc rfl ?_)
 have I0 := I.tok (s.toks + 1)
 refine PyProof.Rows.callWith_builtin1 (thn (ha pos pins _ σ H _ I0 h) fun us s1 ⟨vs, H1, I1, r, fl, a, C, od, rr, ev, hl, ea, hx, q⟩ => ?_) hst hpl
 subst ev
 cases r with
 | cons r1 r2 =>
  cases (show _ = Value.ref a from r1)
  obtain ⟨⟨oe, vs, e1, e2, e3, e4, e5⟩, _⟩ := (show ObjOk X.prog X.w H1 s1.heap a (.ext (XAtF fl a C od)) from I1.hok a _ ea)
  refine binit_ok I1.kIn hx e1 e2 e4 (Nat.lt_trans Nat.zero_lt_one e5.1) (by rw [<- Vals.length r2]; exact Nat.le_of_lt (small1000 hl)) fun h' vs' p1 p3 p4 p2 => ?_
  have up : upd H1 a (.ext (XAtF fl a C od)) = H1 := by
   funext b
   unfold upd
   split
   ·rename_i z; rw [z, ea]
   ·rfl
  refine ⟨.non, _, I1.write (x := a) (e := a) (o := .ext (XAtF fl a C od)) (t' := s1.toks) (by rw [ea]; exact True.intro) (.inl rfl) (fun b u hb z => p2 b u hb z) ⟨_, p1⟩ (XAtF.ok ⟨_, vs', p1, e2, e3, rfl, ?_⟩), rfl, ?_⟩
  ·exact ⟨by rw [p3]; exact e5.1, fun z => by rw [p4]; exact e5.2 z⟩
  ·rw [up]; exact q
end
end L2
set_option Elab.async false
set_option linter.all false
set_option maxRecDepth 100000
namespace L2
open PySem PySem.Spec PyProof.Rows
theorem raise_own {prog : Program} {w : World} {A : Around} {E : Value -> Shared -> Prop} {s : Shared} {env : Env} {K : PySem.W.Frag} {C Pk : Addr} {x : Sem Value} {Q : Flow -> Shared -> Prop} (hx : XIn K C Pk) (hh : A.handled = none)
  (h : wpAny (model prog w) A x (fun v s₁ => ∃ e oe vs, v = .ref e /\ K.In s₁.heap /\ s₁.heap.get? e = some oe /\ oe.cls = .ref C /\ oe.data = .fields vs /\ vs[1]? = some Value.none /\ E (.ref e) s₁) E s) :
  wpAny (model prog w) A (raiseStmt env (some x) none) Q E s := by
 unfold raiseStmt
 dsimp only
 refine wpAny_bind (thn h fun v s1 ⟨e, oe, vs, ev, KX, h1, h2, h3, h4, q⟩ => ?_)
 subst ev
 obtain ⟨hp, g, d, t, os⟩ := s1
 obtain ⟨nm, qn, N, bs, hdct, sn, sub, ab, col, dd, k0, k1, k2, k3, k5, hC, T1, T2⟩ := xq_ok KX hx.cls
 have ist : ∀ {Q' : Bool -> Shared -> Prop} {E' : Value -> Shared -> Prop}, Q' false ⟨hp, g, d, t, os⟩ -> wpAny (model prog w) A (isType (.ref e)) Q' E' ⟨hp, g, d, t, os⟩ := fun {Q' E'} q' => by
  unfold isType
  refine wpAny_bind (wpAny_loadPart_at h1 (wpAny_pure ?_))
  rw [h3]
  exact q'
 refine wpAny_bind (wpAny_pure (wpAny_bind (wpAny_holding ?_)))
 unfold excFromValue isExcClass
 refine wpAny_bind (wpAny_bind (ist ?_))
 refine wpAny_ite_false rfl (wpAny_pure ?_)
 refine wpAny_ite_false rfl ?_
 unfold isInstance
 refine wpAny_bind (wpAny_bind (wpAny_typeOf_ref h1 ?_))
 rw [h2]
 refine wpAny_isSubtype_exc hC ?_
 refine wpAny_ite_true rfl (wpAny_pure ?_)
 refine wpAny_bind (ist ?_)
 refine wpAny_ite_false rfl ?_
 unfold raisedInstance
 refine wpAny_bind (wpAny_bind (wpAny_typeOf_ref h1 ?_))
 rw [h2]
 refine wpAny_bind (wpAny_typeOf_ref hC ?_)
 refine wpAny_ite_true (by show decide ((Value.type "type" == Value.type "type") = true) = true; decide +kernel) (wpAny_pure ?_)
 unfold setFlight
 refine wpAny_bind (wpAny_bind (wpAny_field h1 h3 h4 (wpAny_ite_false rfl (wpAny_pure ?_))))
 exact wpAny_raiseNew_none hh q
end L2
set_option Elab.async false
set_option linter.all false
set_option maxRecDepth 100000
namespace L2
open PySem PySem.Spec PyProof.Rows
def drop (H : Hp) (x : Addr) : Hp := fun b => if b = x then none else H b
theorem drop_same (H : Hp) (x : Addr) : drop H x x = none := by unfold drop; rw [if_pos rfl]
theorem drop_ne {H : Hp} {x b : Addr} (h : b ≠ x) : drop H x b = H b := by unfold drop; rw [if_neg h]
theorem drop_none {H : Hp} {x b : Addr} (h : H b = none) : drop H x b = none := by
 unfold drop
 split
 ·rfl
 ·exact h
section
variable {X : Cx} {pins : List (Addr × Obj)} {σ : St} {H : Hp} {s : Shared} {x : Addr} {φ : Heap -> Prop}
theorem Inv.untrack (I : Inv X pins σ H s) (e : H x = some (.ext φ)) : Inv X pins σ (drop H x) s := by
 have ne : ∀ b t, H b = some t -> (∀ ψ, t ≠ .ext ψ) -> b ≠ x := fun b t z q w => by rw [w, e] at z; cases z; exact q _ rfl
 refine ⟨I.ok, I.os, I.bare, ⟨I.base.keep, I.base.slot, fun b o z n h => drop_none (I.base.free b o z n h), I.base.there, fun b xs z => ?_, fun b o u z => ?_, fun b ps z => ?_⟩, I.loc, I.cell, drop_none I.free, fun y c z => drop_none (I.freeC y c z), fun p hp => ?_, fun a o z => ?_, I.len⟩
 ·have q := I.base.tups b xs z
  rw [drop_ne (ne b _ q fun ψ w => nomatch w)]; exact q
 ·have q := I.base.frzs b o u z
  rw [drop_ne (ne b _ q fun ψ w => nomatch w)]; exact q
 ·obtain ⟨m, q⟩ := I.base.tbls b ps z
  exact ⟨m, by rw [drop_ne (ne b _ q fun ψ w => nomatch w)]; exact q⟩
 ·obtain ⟨q1, q2, q3⟩ := I.pin p hp
  exact ⟨q1, drop_none q2, q3⟩
 ·have ax : a ≠ x := fun w => by rw [w, drop_same] at z; cases z
  rw [drop_ne ax] at z
  exact (I.hok a o z).stay (fun _ _ _ q => q) (fun b q => by rw [drop_ne (ne b _ q fun ψ w => nomatch w)]; exact q) fun b xs q => by rw [drop_ne (ne b _ q fun ψ w => nomatch w)]; exact q
end
structure XMk (K : PySem.W.Frag) (C f : Addr) : Prop where
 init : PySem.W.findIn K (.ref C) "__init__" = some (some (.ref f))
 fn : PySem.W.typeIn K (.ref f) = some (.type "function")
 kp : PySem.W.keepIn K (.ref C) = true
section
variable {X : Cx} {E : XK} {c : Str} {C Pk f : Addr} {fd : FuncData} {ps : List Str} {sp : Sp} {k : Nat} {p cpos pos : Pos} {e : Expr} {es : List Expr} {t : TA}
def tRaiseI (C : Addr) (sp : Sp) (E : XK) (t : TA) : TS := fun _ σ H => t σ H fun vs H1 => vs.length <= 1000 /\ ∀ x, H1 x = none →
 sp (.ref x :: vs) (upd H1 x (.ext (XAtF true x C none))) (fun v H2 => v = .non /\ ∃ od, H2 x = some (.ext (XAtF true x C od)) /\ E (.ref C) od (drop H2 x)) E0
theorem ps_raiseI (M : XMk X.K C f) (hxi : XIn X.K C Pk) (F : FnOk X.prog X.w X.K X.mg X.base CX0 k f fd ps sp) (hr : Room (k + 1) X.A) (hb : Binds X.K fd ps []) (hcalm : X.calm = true) (hex : X.ex = []) (hg : Gl X c) (hm : X.mg c = some (.ref C)) (hx : Rises X E) (ha : PA X (e :: es) t)
  (hdb : (c == ("__debug__" : Str)) = false := by decide) (he : starEach (e :: es) X.env = (false, eval e X.env) :: starEach es X.env := by rfl) (hpl : (backTo cpos (starEach es X.env)).any (·.1) = false := by rfl) :
  PS X (.Raise (some (.Call (.Name c p) (e :: es) [] cpos)) none pos) (tRaiseI C sp E t) := by
 intro pins s σ H D I h
 rw [arm_exec_Raise]
 refine wpAny_bind (wpAny_standAt (raise_own (K := X.K) hxi (I.ok.hd hcalm) (wpAny_bind ?_)))
 refine wpAny_Call_Name_kw (ld_glob I hg hm ?_ hdb)
 refine PySem.W.callWith_K (h₀ := X.base) I.ok.mod.kin M.kp (thn (ha cpos pins s σ H _ I h) fun us s1 ⟨vs, H1, I1, r, hl, q⟩ => ⟨I1.kIn, ?_⟩) he hpl
 refine call_xinit I1.kIn hxi M.init M.fn (by rw [List.nil_append, ← r.length]; exact Nat.le_of_lt (small1000 hl)) fun h' x Md => ?_
 obtain ⟨tt, m1, m2, m3⟩ := Md.there
 have I2 : Inv X pins σ H1 { s1 with heap := h' } := I1.kept (t' := s1.toks) Md.keeps
 have fr : X.s₀.heap.get? x = none := by
  cases q : X.s₀.heap.get? x with
  | none => rfl
  | some o =>
   obtain ⟨o', e1⟩ := I1.base.there x o q (by rw [hex]; simp)
   rw [Md.new] at e1; cases e1
 have hn : H1 x = none := I1.hok.nowhere Md.new
 have at0 : XAtF true x C none h' := ⟨_, _, m1, rfl, rfl, rfl, (by show 1 < 6; decide), fun _ => rfl⟩
 have I3 := I2.track at0 fr hn fun p hp z => by
  have := (I1.pin p hp).1
  rw [z, Md.new] at this; cases this
 have r2 : Vals (V.ref x :: vs) (Value.ref x :: us) := .cons rfl r
 have hq := q x hn
 have hlen : (Value.ref x :: us ++ []).length = ps.length := by
  rw [List.append_nil, ← r2.length]; exact F.len _ _ _ _ hq
 have hb2 := hb { s1 with heap := h' } (Value.ref x :: us) I3.kIn hlen
 rw [List.append_nil] at hb2
 refine wpAny_call (codeAny_mono (F.run _ X.stack _ _ ⟨Value.ref x :: us, []⟩ (Value.ref x :: us) _ _ _ (hr.make C us []) (I3.env0.make C us []) hb2 r2 hq) fun r s' z => ?_)
 cases r with
 | error e => exact False.elim z
 | ok fl =>
  cases fl with
  | ret u =>
   obtain ⟨v, H4, I4, rv, ev, od, e4, q4⟩ := I3.after z
   subst ev
   refine ⟨rv, ?_⟩
   obtain ⟨⟨oe, ws, o1, o2, o3, o4, o5, o6⟩, _⟩ := (show ObjOk X.prog X.w H4 s'.heap x (.ext (XAtF true x C od)) from I4.hok x _ e4)
   refine wpAny_bind (wpAny_standAt (wpAny_pure ?_))
   exact ⟨x, oe, ws, rfl, I4.kIn, o1, o2, o4, o6 rfl, hx pins σ (drop H4 x) s' x C od none (I4.untrack e4) ⟨oe, ws, o1, o2, o3, o4, o6 rfl⟩ fr (fun T z => nomatch z) (drop_same _ _) q4⟩
  | next => exact False.elim z
  | brk => exact False.elim z
  | cont => exact False.elim z
end
end L2
set_option linter.all false
set_option maxRecDepth 100000
set_option maxHeartbeats 1000000
namespace L2
open PySem PySem.Spec PyProof.Rows
structure RowsAt (H : Hp) (ps : List Addr) (n : Nat) (row : Nat -> List V) : Prop where
 len : ps.length = n
 nd : ps.Nodup
 on : ∀ j p, ps[j]? = some p -> H p = some (.lst (row j))
section
variable {H H' : Hp} {ps : List Addr} {n : Nat} {row : Nat -> List V} {p : Addr}
end
abbrev rowsD (n : Nat) (f : Nat -> List Int) : Dt := .lst ((List.range n).map fun j => Dt.lst ((f j).map Dt.int))
theorem call_isxK {X : Cx} {K : PySem.W.Frag} {Pk : Addr} (hK : X.K = K) : CallR X (.builtin "isinstance") (fun xs H Q => ∃ x C od c u b, xs = [.ref x, c] ∧ IsX H x C od ∧ XIn K C Pk ∧ RelV c u ∧ (∀ u', RelV c u' → u' = u) ∧ PySem.W.kitOne K (.ref C) u = some b ∧ Q (.bl b) H) := by
 subst hK
 exact call_isx
theorem pe_fldXK {X : Cx} {K : PySem.W.Frag} {e : Expr} {f : Str} {pos : Pos} {ta : TE} (hK : X.K = K) (he : PE X e ta) (hb : attributeBase e f X.env (eval e X.env) = eval e X.env) : PE X (.Attribute e f pos) (tFldX K ta f) := by
 subst hK
 exact pe_fldX he hb
theorem cutD {α : Type} (xs : List V) {k : Nat} (h : k <= xs.length) : cutV xs (some (k : Int)) none = xs.drop k := by
 unfold cutV
 rw [HT.sIx_none, HT.sIx_nat, Nat.min_eq_left h]
 apply List.take_of_length_le
 rw [List.length_drop]
 exact Nat.le_refl _
end L2
set_option linter.all false
set_option maxRecDepth 100000
set_option maxHeartbeats 1000000
namespace L2
open PySem PySem.Spec PyProof.Rows
variable {X : Cx}
def RngAt (r : Addr) (lo hi : Int) (h : Heap) : Prop := ∃ t u v, IsRange h r lo hi 1 t u v
section
variable {K : PySem.W.Frag}
end
end L2
set_option linter.all false
set_option maxRecDepth 100000
set_option maxHeartbeats 1000000
namespace L2
open PySem PySem.Spec PyProof.Rows
variable {X : Cx}
def rInsert : V -> List V -> Hp -> VK -> Prop := fun x vs H Q => ∃ (l : Addr) (xs : List V) (i : Int) (y : V), x = .ref l /\ vs = [.int i, y] /\ H l = some (.lst xs) /\ 0 <= i /\ i <= xs.length /\ xs.length < 1000 /\ Q .non (upd H l (.lst (xs.take i.toNat ++ y :: xs.drop i.toNat)))
def rIndexI : V -> List V -> Hp -> VK -> Prop := fun x vs H Q => ∃ (l : Addr) (ns : List Int) (i : Int) (j : Nat), x = .ref l /\ vs = [.int i] /\ H l = some (.lst (ns.map V.int)) /\ ns[j]? = some i /\ (∀ m, m < j -> ns[m]? ≠ some i) /\ ns.length < 1000 /\ Q (.int j) H
theorem psx_if {c : Expr} {b o : List Stmt} {tc : TT} {tb to : TSX} {pos : Pos} (hc : PT X.nox c tc) (hb : PSX X b tb) (ho : PSX X o to) : PSX X [.If c b o pos] (fun D EX σ H => tc σ H fun k H1 => if k = true then tb D EX σ H1 else to D EX σ H1) := by
 intro pins s σ H D EX I h
 refine wpAny_execs_cons (wpAny_If (wpAny_mono (hc pins s σ H _ (I.wish _) h) (fun d s1 ⟨H1, I1, q1⟩ => ?_) fun _ _ z => False.elim z))
 have I2 := I1.unwish
 cases d with
 | true => exact wpAny_mono (hb pins s1 σ H1 D EX I2 q1) (fun f s2 q => by cases f <;> first | exact wpAny_execs_nil q | exact q) fun _ _ z => z
 | false => exact wpAny_mono (ho pins s1 σ H1 D EX I2 q1) (fun f s2 q => by cases f <;> first | exact wpAny_execs_nil q | exact q) fun _ _ z => z
end L2
set_option linter.all false
set_option maxRecDepth 100000
set_option maxHeartbeats 1000000
namespace L2
open PySem PySem.Spec PyProof.Rows
section
variable {κ : Type} [DecidableEq κ]
def valV (kvs : List (κ × V)) (k : κ) : Option V := (kvs.find? fun kv => decide (kv.1 = k)).map (·.2)
def putK (kvs : List (κ × V)) (k : κ) (v : V) : List (κ × V) :=
 if (kvs.any fun kv => decide (kv.1 = k)) = true then kvs.map (fun kv => if kv.1 = k then (kv.1, v) else kv) else kvs ++ [(k, v)]
def dropK (kvs : List (κ × V)) (k : κ) : List (κ × V) := kvs.filter fun kv => decide (kv.1 ≠ k)
end
abbrev KT (H : Hp) : List (List Key × V) -> List (List Key × Addr × Value) -> Prop := Paired fun p q => p.1 = q.1 /\ H q.2.1 = some (.tup (p.1.map kV)) /\ RelV p.2 q.2.2
section
variable {P : Program} {w : World} {H : Hp} {h : Heap} {a : Addr}
end
def DGet (H : Hp) (a : Addr) (y : V) (r : Option V) : Prop :=
 (∃ kvs k, Rd H a (.dK kvs) /\ y = kV k /\ r = valV kvs k) \/ ∃ kvs k b, Rd H a (.dT kvs) /\ y = .ref b /\ H b = some (.tup (k.map kV)) /\ r = valV kvs k
def DPut (H : Hp) (a : Addr) (y v : V) (H' : Hp) : Prop :=
 (∃ kvs k, H a = some (.dK kvs) /\ y = kV k /\ kvs.length < sizeLine /\ H' = upd H a (.dK (putK kvs k v))) ∨
 ∃ kvs k b, H a = some (.dT kvs) /\ y = .ref b /\ H b = some (.tup (k.map kV)) /\ kvs.length < sizeLine /\ H' = upd H a (.dT (putK kvs k v))
section
variable {X : Cx} {pins : List (Addr × Obj)} {σ : St} {H : Hp} {s : Shared} {a : Addr} {y v : V} {u r : Value} {o : Option V} {A : Around} {E : Value -> Shared -> Prop}
end
section
variable {X : Cx} {pins : List (Addr × Obj)} {σ : St} {H : Hp} {s : Shared} {a : Addr} {kvs : List (Key × V)} {k : Key} {u : Value} {A : Around} {E : Value -> Shared -> Prop}
end
def NoSl (i : Expr) : Prop := ∀ ov iv, subscripted i false ov iv = operate [ov, iv] (getItem ov iv)
def tDGet (td ty : TE) : TE := fun σ H Q => td σ H fun x H1 => ty σ H1 fun y H2 => ∃ a v, x = .ref a /\ DGet H2 a y (some v) /\ Q v H2
def tDIn (ty td : TE) : TE := fun σ H Q => ty σ H fun y H1 => td σ H1 fun x H2 => ∃ a o, x = .ref a /\ DGet H2 a y o /\ Q (.bl o.isSome) H2
def tDNotIn (ty td : TE) : TE := fun σ H Q => ty σ H fun y H1 => td σ H1 fun x H2 => ∃ a o, x = .ref a /\ DGet H2 a y o /\ Q (.bl (!o.isSome)) H2
def sDPut (td ty tv : TE) : TS := fun D σ H => tv σ H fun v H1 => td σ H1 fun x H2 => ty σ H2 fun y H3 => ∃ a H4, x = .ref a /\ DPut H3 a y v H4 /\ D.nx σ H4
def sDAug (td ty tv : TE) (rd : V -> V -> Hp -> VK -> Prop) : TS := fun D σ H => td σ H fun x H1 => ty σ H1 fun y H2 => ∃ a v, x = .ref a /\ DGet H2 a y (some v) ∧
 tv σ H2 fun y2 H3 => rd v y2 H3 fun z H4 => ∃ H5, DPut H4 a y z H5 /\ D.nx σ H5
def sDDel (td ty : TE) : TS := fun D σ H => td σ H fun x H1 => ty σ H1 fun y H2 => ∃ a kvs k, x = .ref a /\ H2 a = some (.dK kvs) /\ y = kV k /\ (valV kvs k).isSome = true /\ D.nx σ (upd H2 a (.dK (dropK kvs k)))
section
variable {X : Cx} {o i e value : Expr} {pos pos' tpos : Pos} {td ty tv : TE}
end
def tDNewK : TE := fun _ H Q => ∀ p, H p = none -> Q (.ref p) (upd H p (.dK []))
def tDNewT : TE := fun _ H Q => ∀ p, H p = none -> Q (.ref p) (upd H p (.dT []))
section
variable {X : Cx} {pos : Pos}
end
def tPairs : List (TE × TE) -> St -> Hp -> (List (V × V) -> Hp -> Prop) -> Prop
 | [], _, H, Q => Q [] H
 | (tk, tv) :: r, σ, H, Q => tk σ H fun x H1 => tv σ H1 fun y H2 => tPairs r σ H2 fun ps H3 => Q ((x, y) :: ps) H3
abbrev VV : List (V × V) -> List (Value × Value) -> Prop := Paired fun p q => RelV p.1 q.1 /\ RelV p.2 q.2
def PPs (X : Cx) (pos : Pos) (keys : List (Option Expr)) (values : List Expr) (trs : List (TE × TE)) : Prop :=
 ∀ (pins : List (Addr × Obj)) (s : Shared) (σ : St) (H : Hp) (Q : List (V × V) -> Hp -> Prop), Inv X pins σ H s -> tPairs trs σ H Q →
  wpAny (model X.prog X.w) X.A (evalPairs (pairTrees keys values X.env pos)) (fun vs s' => ∃ ps H', Inv X pins σ H' s' /\ VV ps vs /\ Q ps H') X.xe s
def mergeK (kvs more : List (Key × V)) : List (Key × V) := more.foldl (fun acc kv => putK acc kv.1 kv.2) kvs
def tDisp (trs : List (TE × TE)) : TE := fun σ H Q => ∀ p, H p = none -> tPairs trs σ (upd H p (.dK [])) fun ps H2 => H2 p = some (.dK []) /\ ∃ kvs : List (Key × V), ps = kvs.map (fun kv => (kV kv.1, kv.2)) /\ kvs.length <= 15 /\ Q (.ref p) (upd H2 p (.dK (mergeK [] kvs)))
structure M1 (X : Cx) (o : Expr) (m : Str) (apos : Pos) (e : Expr) (cpos : Pos) : Prop where
 base : attributeBase o m X.env (eval o X.env) = eval o X.env
 few : ((backTo cpos (starEach [e] X.env)).all (fun x => !x.1) && (backToKw cpos (keywordEach [] X.env)).all (fun x => x.1.isSome)
  && decide (([e] : List Expr).length + ([] : List Keyword).length + (if ([] : List Keyword).isEmpty then 0 else 1) < 30)) = true
 line : (apos.endLine == cpos.line) = true
 trees : backTo cpos (starEach [e] X.env) = [(false, eval e X.env)]
structure M2 (X : Cx) (o : Expr) (m : Str) (apos : Pos) (e f : Expr) (cpos : Pos) : Prop where
 base : attributeBase o m X.env (eval o X.env) = eval o X.env
 few : ((backTo cpos (starEach [e, f] X.env)).all (fun x => !x.1) && (backToKw cpos (keywordEach [] X.env)).all (fun x => x.1.isSome)
  && decide (([e, f] : List Expr).length + ([] : List Keyword).length + (if ([] : List Keyword).isEmpty then 0 else 1) < 30)) = true
 line : (apos.endLine == cpos.line) = true
 trees : backTo cpos (starEach [e, f] X.env) = [(false, eval e X.env), (false, eval f X.env)]
def IsD (H : Hp) (a : Addr) : Prop := (∃ kvs, Rd H a (.dK kvs)) \/ ∃ kvs, Rd H a (.dT kvs)
section
variable {X : Cx} {pins : List (Addr × Obj)} {σ : St} {H : Hp} {s : Shared} {a : Addr} {y d : V} {u r : Value} {o : Option V} {A : Around} {E : Value -> Shared -> Prop}
end
def tDGet1 (td ty : TE) : TE := fun σ H Q => td σ H fun x H1 => ∃ a, x = .ref a /\ IsD H1 a /\ ty σ H1 fun y H2 => ∃ o, DGet H2 a y o /\ Q (o.getD .non) H2
def tDGet2 (td ty tx : TE) : TE := fun σ H Q => td σ H fun x H1 => ∃ a, x = .ref a /\ IsD H1 a /\ ty σ H1 fun y H2 => tx σ H2 fun z H3 => ∃ o, DGet H3 a y o /\ Q (o.getD z) H3
def tDPop1 (td ty : TE) : TE := fun σ H Q => td σ H fun x H1 => ∃ a, x = .ref a /\ IsD H1 a /\ ty σ H1 fun y H2 => ∃ kvs k v, H2 a = some (.dK kvs) /\ y = kV k /\ valV kvs k = some v /\ Q v (upd H2 a (.dK (dropK kvs k)))
def tDPop2 (td ty tx : TE) : TE := fun σ H Q => td σ H fun x H1 => ∃ a, x = .ref a /\ IsD H1 a /\ ty σ H1 fun y H2 => tx σ H2 fun z H3 => ∃ kvs k, H3 a = some (.dK kvs) /\ y = kV k ∧
 (∀ v, valV kvs k = some v -> Q v (upd H3 a (.dK (dropK kvs k)))) /\ (valV kvs k = none -> Q z H3)
section
variable {X : Cx} {o e f : Expr} {apos cpos : Pos} {td ty tx : TE}
end
section
variable {X : Cx} {pins : List (Addr × Obj)} {σ : St} {H : Hp} {s : Shared} {a : Addr} {kvs : List (Key × V)} {A : Around} {E : Value -> Shared -> Prop}
end
section
variable {X : Cx} {pins : List (Addr × Obj)} {σ : St} {H : Hp} {s : Shared} {a : Addr} {y : V} {u : Value} {A : Around} {E : Value -> Shared -> Prop}
end
section
variable {X : Cx}
end
section
variable {κ : Type} [DecidableEq κ]
end
end L2
set_option linter.all false
set_option maxRecDepth 100000
set_option maxHeartbeats 1000000
namespace L2
open PySem PySem.Spec PyProof.Rows
section
variable {X : Cx} {pins : List (Addr × Obj)} {σ : St} {H : Hp} {s : Shared}
def Itd (d : Addr) (o : Obj) (kvs : List (Key × V)) : It where
 go i H := H d = some (.frz o (.dK kvs)) /\ i < kvs.length
 yld i H x H' := H' = H /\ ∃ k v, kvs[i]? = some (k, v) /\ x = kV k
 stop i H := H d = some (.frz o (.dK kvs)) /\ kvs.length <= i
def iDict (td : TE) : TI := fun σ H R => td σ H fun x H1 => ∃ a kvs, x = .ref a /\ H1 a = some (.dK kvs) /\ ∀ o, R (Itd a o kvs) (upd H1 a (.frz o (.dK kvs)))
end
end L2
set_option linter.all false
set_option maxRecDepth 100000
set_option maxHeartbeats 1000000
namespace L2
open PySem PySem.Spec PyProof.Rows
structure UCls (K : PySem.W.Frag) (Pk : Addr) (m : Str) (f : Addr) : Prop where
 sp : PySem.W.specialIn K (.ref Pk) "__getattribute__" = some (some (.builtin "type.__getattribute__"))
 rd : PySem.W.readsIn K Pk (.type "type") = true
 fc : PySem.W.findCls K (.ref Pk) (.type "type") m = some (.val (.ref f))
 kp : PySem.W.keepIn K (.ref f) = true
structure TyIn (K : PySem.W.Frag) (C : Addr) : Prop where
 ha : PySem.W.findIn K (.ref C) "__class__" = some (some (.builtin "object.__class__"))
 hn : PySem.W.specialIn K (.builtin "object.__class__") "__get__" = some (some (.builtin "getset_descriptor.__get__"))
 htk : PySem.W.takesIn K (.builtin "object.__class__") = some true
 hm : PySem.W.mroIn K C (.type "object") = some true
theorem TyIn.of {K : PySem.W.Frag} {C a dx : Addr} {H : Hp} {fs : List (Str × V)} (t : TyIn K C) (c : Cls K C) (e : H a = some (.ins C dx fs)) : TyOf K H (.ref a) (.ref C) := .ins e c t.ha t.hn t.htk t.hm
section
variable {X : Cx} {CX : CXT} {k : Nat} {f Pk : Addr} {fd : FuncData} {ps : List Str} {sp : Sp} {dvs : List V} {ds : List Value} {E : XK} {c m : Str} {p pos apos : Pos} {e : Expr} {es : List Expr} {t : TA}
theorem pe_ucls {pl : Sem Bool} (hg : Gl X c) (hm : X.mg c = some (.ref Pk)) (hu : UCls X.K Pk m f) (F : FnOk X.prog X.w X.K X.mg X.base CX k f fd ps sp) (hr : Room k X.A) (hb : Binds X.K fd ps ds) (hd : Vals dvs ds) (hx : Passes CX X E) (ha : PA X (e :: es) t)
  (hdb : (c == ("__debug__" : Str)) = false := by decide) (hst : starEach (e :: es) X.env = (false, eval e X.env) :: starEach es X.env := by rfl) (hpl : (backTo pos (starEach es X.env)).any (·.1) = false := by rfl)
  (ht : eval (.Call (.Attribute (.Name c p) m apos) (e :: es) [] pos) X.env = (do
   let ov ← eval (.Name c p) X.env
   standAt apos.atName
   let (f, first) ← holding [ov] (getMethod ov m pl)
   callWith pos f first (backTo pos (starEach (e :: es) X.env)) (backToKw pos (keywordEach [] X.env))) := by rfl) :
  PE X (.Call (.Attribute (.Name c p) m apos) (e :: es) [] pos) (tCall sp dvs E t) := by
 intro pins s σ H Q I h
 refine PySem.W.methodCall_KW (pl := pl) (ld_glob I hg hm ?_ hdb) ht
 refine PySem.W.method_cls I.kIn hu.sp (PySem.W.cls_value I.kIn hu.rd hu.fc rfl ?_)
 have I0 := I.tok (s.toks + 1)
 refine PySem.W.callWith_K (h₀ := X.base) I.ok.mod.kin hu.kp (thn (ha pos pins _ σ H _ I0 h) fun us s1 ⟨vs, H1, I1, r, q⟩ => ⟨I1.kIn, ?_⟩) hst hpl
 exact run_fn F hr hb hd hx I1 r q
theorem call_isiC : CallR X (.builtin "isinstance") (fun xs H Q => ∃ x Cp t b, xs = [x, .ref Cp] ∧ TyOf X.K H x t ∧ PySem.W.kitOne X.K t (.ref Cp) = some b ∧ Q (.bl b) H) := by
 intro pins s σ H xs us Q I r h
 obtain ⟨x, c, t, b, rfl, ty, e, q⟩ := h
 obtain ⟨u, w', rfl, ru, rw'⟩ := vals2 r
 cases (show w' = Value.ref c from rw')
 exact isinst_ok I ru ty e fun tk => ⟨.bl b, H, I.tok tk, rfl, q⟩
theorem PE.or {x : Expr} {t1 t2 : TE} (h1 : PE X x t1) (h2 : PE X x t2) : PE X x (fun σ H Q => t1 σ H Q \/ t2 σ H Q) := by
 intro pins s σ H Q I h
 rcases h with h | h
 ·exact h1 pins s σ H Q I h
 ·exact h2 pins s σ H Q I h
end
end L2
set_option linter.all false
set_option maxRecDepth 100000
set_option maxHeartbeats 1000000
namespace L2
open PySem PySem.Spec PyProof.Rows
def Ite (K : PySem.W.Frag) (l : Addr) (xs : List V) : It :=
 ⟨fun i H => SqL K H l xs /\ i < xs.length, fun i H x H' => ∃ T u, H T = none /\ x = .ref T /\ xs[i]? = some u /\ H' = upd H T (.tup [.int (i : Nat), u]), fun i H => SqL K H l xs /\ xs.length <= i⟩
theorem turn_enum {P : Program} {w : World} {K : PySem.W.Frag} {elts : List Expr} {x1} {tp : Pos} {z it l : Addr} (zi : z ≠ it) (xs : List V) :
  Turn P w K (.Tuple elts x1 tp) (Ite K l xs) [z, it] z (fun i h => (∃ old, PySem.IsEnum h z it (i : Nat) old) /\ h.IsListIter it l i) where
 mem := by simp
 obj := fun i h st b hb => by
  obtain ⟨⟨old, hz⟩, o1, e1, c1, d1⟩ := st
  simp only [List.mem_cons, List.not_mem_nil, or_false] at hb
  rcases hb with rfl | rfl
  ·exact ⟨_, hz, fun v q => by have q' : Data.fields _ = Data.cell v := q; cases q'⟩
  ·exact ⟨o1, e1, fun v q => by rw [d1] at q; cases q⟩
 keep := fun i h h' st k => by
  obtain ⟨⟨old, hz⟩, h1⟩ := st
  exact ⟨⟨old, k z (by simp) _ hz⟩, h1.at fun o e => k it (by simp) o e⟩
 item := by
  intro X hP hw hK hc i pins s σ H E I hf st hg
  subst hP hw hK
  obtain ⟨⟨old, hz⟩, h1⟩ := st
  obtain ⟨q1, b1⟩ := hg
  obtain ⟨its1, rv1, p1, _⟩ := I.list q1
  have hx : xs[i]? = some xs[i] := List.getElem?_eq_getElem b1
  obtain ⟨u, hu, ru⟩ := rv1.get hx
  have lt : ∀ {c o}, s.heap.get? c = some o -> c ≠ s.heap.objs.size := fun e => Nat.ne_of_lt (Heap.lt_size e)
  refine PySem.wpAny_pyNext_enum_item hz h1 p1.isList (x := u) (by simpa using hu) zi fun h' a1 a2 a3 a4 hk => ?_
  refine ⟨_, rfl, PySem.wpAny_letOwnedTupleGo_enum a1 fun h'' hz'' sb => ?_⟩
  have zne : s.heap.objs.size ≠ z := (lt hz).symm
  have kk : ∀ b u, b ∉ [z, it] -> s.heap.get? b = some u -> h''.get? b = some u := fun b u hb e => by
   simp only [List.mem_cons, List.not_mem_nil, or_false, not_or] at hb
   exact sb.extBut _ _ hb.1 (hk b u hb.1 hb.2 e)
  refine ⟨.ref s.heap.objs.size, upd H s.heap.objs.size (.tup [.int (i : Nat), xs[i]]), I.turnedUp (t' := s.toks + 1) hf kk (Nat.le_refl _) ⟨by show 2 <= sizeLine; decide, [.int (i : Nat) s.toks, u], .cons ⟨_, rfl⟩ (.cons ru .nil), ⟨_, sb.extBut _ _ zne a3, rfl, _, rfl⟩⟩, rfl,
   ⟨_, _, I.hok.fresh (Nat.le_refl _), rfl, hx, rfl⟩, ⟨⟨_, hz''⟩, a2.at fun o e => sb.extBut _ _ zi.symm e⟩, fun b hb => ?_⟩
  have : b ≠ s.heap.objs.size := by
   obtain ⟨o1, e1, _⟩ := id h1
   simp only [List.mem_cons, List.not_mem_nil, or_false] at hb
   rcases hb with rfl | rfl
   ·exact lt hz
   ·exact lt e1
  rw [upd_ne this]
  exact (hf b hb).1
 done := by
  intro X hP hw hK hc i pins s σ H E I hf st hg
  subst hP hw hK
  obtain ⟨⟨old, hz⟩, h1⟩ := st
  obtain ⟨q1, hend⟩ := hg
  obtain ⟨its1, rv1, p1, _⟩ := I.list q1
  have l1 := rv1.length
  refine PySem.wpAny_pyNext_enum_end (I.ok.hd hc) hz h1 p1.isList (by rw [Array.getElem?_eq_none]; simp; omega) fun h' hk => ⟨rfl, I.turnedL (t' := s.toks) hf fun b u hb e => ?_⟩
  simp only [List.mem_cons, List.not_mem_nil, or_false, not_or] at hb
  exact hk b u hb.2 e
 self := fun _ _ _ _ _ ⟨⟨_, hz⟩, _⟩ h => PySem.wpAny_pyIter_enum hz h
section
variable {X : Cx}
def iEnum (K : PySem.W.Frag) (ta : TA) : TI := fun σ H R => ta σ H fun vs H1 => ∃ l xs, vs = [.ref l] /\ SqL K H1 l xs /\ R (Ite K l xs) H1
theorem boot_enumerate : bootBuiltins "enumerate" = some (.type "enumerate") := by decide +kernel
theorem pi_enum {elts : List Expr} {x1} {tp : Pos} {a : Expr} {ta : TA} {p pos : Pos} (hg : Gl X "enumerate") (hm : X.mg "enumerate" = none) (ha : PA X [a] ta) (hs : starEach [a] X.env = [(false, eval a X.env)] := by rfl) :
  PI X (.Tuple elts x1 tp) (.Call (.Name "enumerate" p) [a] [] pos) (iEnum X.K ta) := by
 intro pins s σ H R I h
 refine Call_ (ld_blt I hg hm boot_enumerate (PyProof.Rows.callWith_type1 (thn (ha pos pins s σ H _ I h) fun us s1 ⟨vs, H1, I1, r1, q1⟩ => ?_) hs rfl))
 obtain ⟨l, xs, e, h1, q⟩ := q1
 subst e
 obtain ⟨u, rfl, ru⟩ := vals1 r1
 cases ru
 obtain ⟨its1, rv1, p1, _⟩ := I1.list h1
 refine PySem.call_enumerate_list p1.isList fun h' a1 a2 a3 a4 => ?_
 refine PySem.wpAny_pyIter_enum a1 ?_
 refine ⟨s1.heap.objs.size + 1, [s1.heap.objs.size + 1, s1.heap.objs.size], _, _, H1, rfl, I1.kept (t' := s1.toks) fun b o e => a4 b o e, turn_enum (Nat.succ_ne_self _) xs, ⟨⟨_, a1⟩, a2⟩, fun b hb => ?_, q⟩
 have : s1.heap.objs.size <= b := by
  simp only [List.mem_cons, List.not_mem_nil, or_false] at hb
  rcases hb with rfl | rfl
  ·exact Nat.le_add_right _ 1
  ·exact Nat.le_refl _
 exact I1.fpOk this (I1.hok.fresh this)
end
theorem for_enum {K : PySem.W.Frag} {l : Addr} {xs : List V} {g : TG} {tb : TS} {D : Ends} {σ : St} {H : Hp} (Pv : Nat -> St -> Hp -> Prop) (h0 : Pv 0 σ H) (hl : ∀ i σ H, i <= xs.length -> Pv i σ H -> SqL K H l xs)
  (hs : ∀ i u T σ H, i < xs.length -> xs[i]? = some u -> H T = none -> Pv i σ H -> g (.ref T) σ (upd H T (.tup [.int (i : Nat), u])) fun σ2 H2 => tb { D with nx := Pv (i + 1), ct := Pv (i + 1), bk := D.nx } σ2 H2) (hd : ∀ σ H, Pv xs.length σ H -> D.nx σ H) :
  ∃ W : Nat -> Nat -> St -> Hp -> Prop, (∃ m, W 0 m σ H) /\ ∀ i m σ H, W i m σ H →
   ((Ite K l xs).stop i H /\ D.nx σ H) \/ ((Ite K l xs).go i H /\ ∃ N : St -> Hp -> Prop, (∀ σ' H', N σ' H' -> ∃ m', m' < m /\ W (i + 1) m' σ' H') /\ ∀ x H', (Ite K l xs).yld i H x H' -> g x σ H' fun σ2 H2 => tb { D with nx := N, ct := N, bk := D.nx } σ2 H2) := by
 refine ⟨fun i m σ H => m = xs.length - i /\ i <= xs.length /\ Pv i σ H, ⟨xs.length, by simp, Nat.zero_le _, h0⟩, ?_⟩
 rintro i m σ H ⟨rfl, hi, p⟩
 have q1 := hl i σ H hi p
 by_cases hlt : i < xs.length
 ·refine .inr ⟨⟨q1, hlt⟩, Pv (i + 1), fun σ' H' p' => ⟨xs.length - (i + 1), by omega, rfl, hlt, p'⟩, fun x H' y => ?_⟩
  obtain ⟨T, u, hT, rfl, hu, rfl⟩ := y
  exact hs i u T σ H hlt hu hT p
 ·have e : i = xs.length := by omega
  exact .inl ⟨⟨q1, by omega⟩, hd σ H (e ▸ p)⟩
end L2
set_option linter.all false
set_option maxRecDepth 100000
set_option maxHeartbeats 1000000
namespace L2
open PySem PySem.Spec PyProof.Rows
end L2
set_option Elab.async false
set_option linter.all false
set_option maxRecDepth 100000
namespace L2
open PySem PySem.Spec PyProof.Rows
section
variable {X : Cx} {pos : Pos}
def gTupL (K : PySem.W.Frag) (n : Nat) (t : TGs) : TG := fun v σ H Q => ∃ a xs, v = .ref a /\ SqL K H a xs /\ xs.length = n /\ t xs σ H Q
end
section
variable {X : Cx} {e : Expr} {es : List Expr} {n : Nat} {te : TE} {t : TJ} {pos : Pos}
end
end L2
set_option Elab.async false
set_option linter.all false
set_option maxRecDepth 100000
namespace L2
open PySem PySem.Spec PyProof.Rows
section
variable {X : Cx}
end
end L2
set_option Elab.async false
set_option linter.all false
set_option maxRecDepth 100000
namespace L2
open PySem PySem.Spec PyProof.Rows
end L2
set_option Elab.async false
set_option linter.all false
set_option maxRecDepth 100000
set_option maxHeartbeats 1000000
namespace L2
open PySem PySem.Spec PyProof.Rows
variable {X : Cx}
def backV : Value -> V
 | .bool b => .bl b
 | .int i _ => .int i
 | .str x _ => .str x
 | .bytes b _ => .byt b
 | .float b _ => .flt b
 | .ref a => .ref a
 | .type n => .ty n
 | _ => .non
def rCount : V -> List V -> Hp -> VK -> Prop := fun x vs H Q => ∃ (l : Addr) (xs : List V) (y : V), x = .ref l /\ vs = [y] /\ H l = some (.lst xs) /\ flatV y = true /\ (∀ z ∈ xs, flatV z = true) /\ Q (.int ((xs.countP fun z => eqV z y : Nat) : Int)) H
end L2
set_option Elab.async false
set_option linter.all false
set_option maxRecDepth 100000
set_option maxHeartbeats 1000000
namespace L2
open PySem PySem.Spec PyProof.Rows
def SameBut (D : Addr) (H H' : Hp) : Prop := ∀ y o, y ≠ D -> H y = some o -> H' y = some o
theorem comp_invR {n k : Nat} {te : TE} {cs : St} {H1 : Hp} {D : Addr} {Q : Hp -> Prop} (Z : Nat -> List V -> Hp -> Prop) (hD : H1 D = none) (hk : k = cs.length) (hn : n <= sizeLine)
  (h0 : ∀ H, Same H1 H -> Z 0 [] H)
  (he : ∀ i ys H (R : V -> Hp -> Prop), i < n -> Same H1 H -> H D = some (.lst ys) -> Z i ys H -> (∀ v H4, Same H H4 -> (∀ H5, SameBut D H4 H5 -> Z (i + 1) (ys ++ [v]) H5) -> R v H4) -> te (cs ++ [some (.int (i : Nat))]) H R)
  (hQ : ∀ ys H, Same H1 H -> H D = some (.lst ys) -> Z n ys H -> Q H) : tCompQ (Itr 0 n) (gName k) tTrue te (cs ++ [none]) H1 D Q := by
 refine ⟨fun i m ys σ H => m = n - i /\ i <= n /\ Same H1 H /\ Z i ys H /\ ys.length = i /\ H D = some (.lst ys) /\ ∃ o, σ = cs ++ [o],
  ⟨n, rfl, Nat.zero_le _, (Same.refl _).up hD, h0 _ ((Same.refl _).up hD), rfl, upd_same, none, rfl⟩, ?_⟩
 rintro i m ys σ H ⟨rfl, hi, sm, hz, hl, hd, o, rfl⟩
 refine ⟨hd, ?_⟩
 by_cases hlt : i < n
 ·refine .inr ⟨hlt, fun x H' y => ?_⟩
  obtain ⟨rfl, rfl⟩ : x = .int (0 + (i : Nat)) /\ H' = H := ⟨y.2, y.1⟩
  have e0 : (0 : Int) + (i : Nat) = (i : Nat) := by omega
  have e : (cs ++ [o]).set k (some (.int (0 + (i : Nat)))) = cs ++ [some (.int (i : Nat))] := by
   rw [hk, List.set_append_right _ _ (Nat.le_refl _), Nat.sub_self, e0]
   rfl
  unfold gName
  rw [e]
  unfold tTrue
  refine iteT ?_
  refine he i ys H' _ hlt sm hd hz fun v H4 s4 z4 => ⟨s4 _ _ hd, ?_, n - (i + 1), by omega, rfl, hlt, (sm.trans s4).up hD, z4 _ (fun y o ny e => by rw [upd_ne ny]; exact e), by rw [List.length_append, hl]; rfl, upd_same, _, rfl⟩
  rw [hl]
  omega
 ·have e : i = n := by omega
  subst e
  exact .inl ⟨Nat.le_refl _, hQ ys H sm hd hz⟩
end L2
namespace GF
end GF
set_option Elab.async false
set_option linter.all false
set_option maxRecDepth 100000
set_option maxHeartbeats 1000000
namespace L2
open PySem PySem.Spec PyProof.Rows
end L2
set_option Elab.async false
set_option linter.all false
set_option maxRecDepth 100000
set_option maxHeartbeats 1000000
namespace L2
open PySem PySem.Spec PyProof.Rows
section
variable {X : Cx}
end
end L2
namespace L2
open PySem PyProof.Rows
structure FunD (K : PySem.W.Frag) (x qual : Str) (st : Stmt) (f : Addr) (fd : FuncData) (ds : List Value) : Prop where
 ex : ∃ (oc : Value) (od : Option Addr) (T : Addr) (kV doc pm : Value) (an : Option Addr) (cdv ct : Value) (osl : Array (Option Value)),
  fd = PySem.W.fnOf x qual (defArgs st) (defBody st) (defScope st) (.ref T) kV doc pm an cdv ct /\ K.lookup f = some ⟨oc, od, .func fd, osl⟩ /\ PySem.W.codeIn K cdv qual = true /\ ∃ tc td n ts, K.lookup T = some ⟨tc, td, .seq ds.toArray n, ts⟩
 kp : PySem.W.keepIn K (.ref f) = true
section
variable {P : Program} {w : World} {K : PySem.W.Frag} {mg : Str -> Option Value} {base : Heap}
theorem FunD.ok {x qual : Str} {st : Stmt} {f : Addr} {fd : FuncData} {ds : List Value} {N ps : List Str} {k : Nat} {sp : Sp} (F : FunD K x qual st f fd ds) (S : FnScope N ps (defScope st)) (len : ∀ vs H Q E, sp vs H Q E -> vs.length = ps.length)
  (hbody : ∀ (cdv : Value) (A : Around) (outer : List Env) (s : Shared) (H : Hp) (vs : List V) (Q : VK) (E : XK), Room k (A.deeper (envOfC qual (defScope st) s.heap.objs.size f cdv)) -> sp vs H Q E →
   ∃ t, PSs (cxOf CX0 P w K mg base N qual (defScope st) f cdv A outer s H E).nox (defBody st) t /\ t { nx := fun _ H' => Q .non H', rt := Q } (start N vs) H) : FnOk P w K mg base CX0 (k + 1) f fd ps sp := by
 obtain ⟨oc, od, T, kV, doc, pm, an, cdv, ct, osl, rfl, lk, hcd, _⟩ := F.ex
 refine fn_of lk hcd S len fun A outer s H vs Q E hr hsp => ?_
 obtain ⟨t, h, q⟩ := hbody cdv A outer s H vs Q E hr hsp
 exact ⟨t, h.nox, q⟩
theorem FunD.okX {x qual : Str} {st : Stmt} {f : Addr} {fd : FuncData} {ds : List Value} {N ps : List Str} {k : Nat} {sp : Sp} (F : FunD K x qual st f fd ds) (S : FnScope N ps (defScope st)) (len : ∀ vs H Q E, sp vs H Q E -> vs.length = ps.length)
  (hbody : ∀ (cdv : Value) (A : Around) (outer : List Env) (s : Shared) (H : Hp) (vs : List V) (Q : VK) (E : XK), Room k (A.deeper (envOfC qual (defScope st) s.heap.objs.size f cdv)) -> sp vs H Q E →
   ∃ t, PSs (cxOf (CXe P w) P w K mg base N qual (defScope st) f cdv A outer s H E) (defBody st) t /\ t { nx := fun _ H' => Q .non H', rt := Q } (start N vs) H) : FnOk P w K mg base (CXe P w) (k + 1) f fd ps sp := by
 obtain ⟨oc, od, T, kV, doc, pm, an, cdv, ct, osl, rfl, lk, hcd, _⟩ := F.ex
 exact fn_of lk hcd S len fun A outer s H vs Q E hr hsp => hbody cdv A outer s H vs Q E hr hsp
theorem FunD.binds {x qual : Str} {st : Stmt} {f : Addr} {fd : FuncData} {ds ws : List Value} {ps : List Str} (F : FunD K x qual st f fd ds) (m : Nat) (hm : m + ws.length = ps.length)
  (h : ∀ (T : Addr) (kV doc pm : Value) (an : Option Addr) (cdv ct : Value) (us : List Value), us.length = m -> ∃ k : Option (Array Value) -> Sem (List (Str × Value)),
   bindArgs (PySem.W.fnOf x qual (defArgs st) (defBody st) (defScope st) (.ref T) kV doc pm an cdv ct) ⟨us, []⟩ = seqItems? (.ref T) >>= k /\ k (some ds.toArray) = pure (ps.zip (us ++ ws))) : Binds K fd ps ws := by
 obtain ⟨oc, od, T, kV, doc, pm, an, cdv, ct, osl, rfl, lk, hcd, tc, td, n, ts, hT⟩ := F.ex
 intro s us X hl
 obtain ⟨k, h1, h2⟩ := h T kV doc pm an cdv ct us (by rw [List.length_append] at hl; omega)
 exact PySem.W.binds_K X rfl hT rfl h1 h2
theorem fun_mkD {x qual : Str} {st : Stmt} {f T : Addr} {oc : Value} {od an : Option Addr} {osl : Array (Option Value)} {kV doc pm cdv ct : Value} {tc : Value} {td : Option Addr} {ds : List Value} {n : Nat} {ts : Array (Option Value)}
  (l : K.lookup f = some ⟨oc, od, .func (PySem.W.fnOf x qual (defArgs st) (defBody st) (defScope st) (.ref T) kV doc pm an cdv ct), osl⟩) (lt : K.lookup T = some ⟨tc, td, .seq ds.toArray n, ts⟩)
  (c : PySem.W.codeIn K cdv qual = true) (k : PySem.W.keepIn K (.ref f) = true) : FunD K x qual st f (PySem.W.fnOf x qual (defArgs st) (defBody st) (defScope st) (.ref T) kV doc pm an cdv ct) ds := ⟨⟨oc, od, T, kV, doc, pm, an, cdv, ct, osl, rfl, l, c, tc, td, n, ts, lt⟩, k⟩
end
end L2
set_option linter.all false
set_option maxRecDepth 100000
namespace L2
open PySem PySem.Spec PyProof.Rows
section
variable {X : Cx}
theorem call_isiCT : CallR X (.builtin "isinstance") (fun xs H Q => ∃ (x C dx : Addr) (fs : List (Str × V)) (tp : Addr) (cs : List Addr) (b : Bool), xs = [.ref x, .ref tp] ∧ H x = some (.ins C dx fs) ∧ Cls X.K C ∧ TyIn X.K C ∧ H tp = some (.tup (cs.map V.ref)) ∧ PySem.W.kitAny X.K (.ref C) (cs.map Value.ref) = some b ∧ Q (.bl b) H) := by
 intro pins s σ H xs us Q I r h
 obtain ⟨x, C, dx, fs, tp, cs, b, rfl, ex, cl, ty, et, e, q⟩ := h
 obtain ⟨u1, w', rfl, r1, r2⟩ := vals2 r
 cases (show u1 = Value.ref x from r1)
 cases (show w' = Value.ref tp from r2)
 obtain ⟨_, its, ri, o, h1, h2, n, h3⟩ := (show ObjOk X.prog X.w H s.heap tp (.tup (cs.map V.ref)) from I.hok tp _ et)
 have ei : its = cs.map Value.ref := refs_inj ri
 subst ei
 obtain ⟨oc, od', dt, sl⟩ := o
 cases (show oc = Value.type "tuple" from h2)
 cases (show dt = _ from h3)
 obtain ⟨mA, O, _⟩ := ins_get I.hok ex
 obtain ⟨od, J, _⟩ := O.look
 exact PySem.W.kia_tup (PySem.W.kitx_own (cl.get _) cl.hd ty.ha ty.hn ty.htk ty.hm) I.kIn J h1 e (fun z => nomatch z) fun tk => ⟨.bl b, H, I.tok tk, rfl, q⟩
end
end L2
set_option Elab.async false
set_option linter.all false
set_option maxRecDepth 100000
namespace L2
open PySem PySem.Spec PyProof.Rows
structure RoomU (k : Nat) (A : Around) : Prop where
 dp : A.depth + 3 * k + 5 < recursionLimit
 un : A.units + 16 * k + 200 < cLine
 gd : A.guards = some [] := by rfl
theorem Room.umark {j k : Nat} {A : Around} (r : Room k A) (h : j <= k) (v : Option Value) : RoomU j (A.mark v) := ⟨(r.mono h).dp, (r.mono h).un, (r.mono h).gd⟩
theorem RoomU.calm {k : Nat} {A : Around} (r : RoomU k A) : Room k { A with handled := none } := ⟨rfl, r.dp, r.un, r.gd⟩
structure FnOkU (P : Program) (w : World) (K : PySem.W.Frag) (mg : Str -> Option Value) (base : Heap) (k : Nat) (f : Addr) (fd : FuncData) (ps : List Str) (sp : Sp) : Prop where
 len : ∀ vs H Q E, sp vs H Q E -> vs.length = ps.length
 run : ∀ (A : Around) (outer : List Env) (s : Shared) (H : Hp) (args : Args) (us : List Value) (vs : List V) (Q : VK) (E : XK), RoomU k A -> Env0 P w K mg base A outer s H -> BindsTo s fd args (ps.zip us) -> Vals vs us -> sp vs H Q E →
  codeAny (model P w) A (.call (.ref f) args) (CR CX0 outer P w H s Q E) s
def cxU (P : Program) (w : World) (K : PySem.W.Frag) (mg : Str -> Option Value) (base : Heap) (N : List Str) (qual : Str) (scope : Scope) (f : Addr) (cd : Value) (A : Around) (outer : List Env) (s : Shared) (H : Hp) (E : XK) : Cx :=
 { cxOf CX0 P w K mg base N qual scope f cd A outer s H E with calm := false, xe := fun _ _ => False }
theorem Fun.okU {P : Program} {w : World} {K : PySem.W.Frag} {mg : Str -> Option Value} {base : Heap} {x qual : Str} {st : Stmt} {f : Addr} {fd : FuncData} {N ps : List Str} {k : Nat} {sp : Sp} (F : Fun K x qual st f fd) (S : FnScope N ps (defScope st)) (len : ∀ vs H Q E, sp vs H Q E -> vs.length = ps.length)
  (hbody : ∀ (cdv : Value) (A : Around) (outer : List Env) (s : Shared) (H : Hp) (vs : List V) (Q : VK) (E : XK), RoomU k (A.deeper (envOfC qual (defScope st) s.heap.objs.size f cdv)) -> sp vs H Q E →
   ∃ t, PSs (cxU P w K mg base N qual (defScope st) f cdv A outer s H E) (defBody st) t /\ t { nx := fun _ H' => Q .non H', rt := Q } (start N vs) H) : FnOkU P w K mg base (k + 1) f fd ps sp := by
 obtain ⟨oc, od, kV, doc, pm, an, cdv, ct, osl, rfl, lk, hcd⟩ := F.ex
 refine ⟨len, fun A outer s H args us vs Q E hr e0 hb r hsp => ?_⟩
 have hl := len _ _ _ _ hsp
 have KX : K.In s.heap := e0.mod.kin.keeps fun b o e => (e0.bs b o e).1
 have lim : s.heap.NoLimit := e0.mod.nolimit.keeps fun b o e => (e0.bs b o e).1
 have hkind : ∀ y ∈ ps.zip us, (defScope st).names.lookup y.1 = some .local \/ ((defScope st).names.lookup y.1 = some .cell /\ ((cellsFrom (s.heap.objs.size + 1) (defScope st).names []).lookup y.1).isSome = true) := fun ⟨n, v⟩ hy => by
  rcases S.par n (List.of_mem_zip hy).1 with q | q
  ·exact .inl q
  ·exact .inr ⟨q, PySem.W.cellsFrom_some _ _ _ (.inl q)⟩
 refine codeAny_call_function hr.calm.depth (KX _ _ lk) rfl S.co S.gen rfl (PySem.W.codeRec_of KX hcd) (hb _ _ _ _ ?_)
 refine wpAny_newFunctionEnv_cells S.kind hkind fun env he s1 x => ?_
 subst he
 refine ⟨lim.keeps x.toInCall.keep, codeAny_func ?_⟩
 have rd := (Room.deeper hr.calm (envOfC qual (defScope st) s.heap.objs.size f cdv))
 obtain ⟨t, ht, hq⟩ := hbody cdv A outer s H vs Q E ⟨rd.dp, rd.un, rd.gd⟩ hsp
 have e1 : Env0 P w K mg base { A with handled := none } outer s H := ⟨e0.frames, e0.mod, e0.bs, e0.bsz, e0.funs, e0.frf, e0.hok, e0.bare⟩
 have I0 : Inv (cxOf CX0 P w K mg base N qual (defScope st) f cdv { A with handled := none } outer s H E) [] (start N vs) H s1 := inv_start S rfl e1 hl r x
 have ok := I0.ok
 have I : Inv (cxU P w K mg base N qual (defScope st) f cdv A outer s H E) [] (start N vs) H s1 :=
  ⟨⟨ok.mod, ok.kind, ok.glob, ok.blt, ok.above, ok.inj, ok.has, ok.cab, (fun z => Bool.noConfusion z), Around.frames_deeper e0.frames, ok.stk, ok.exf, ok.bs, ok.bsz, ok.noex, ok.exfs, ok.funs, ok.frf⟩, I0.os, I0.bare, I0.base, I0.loc, I0.cell, I0.free, I0.freeC, I0.pin, I0.hok, I0.len⟩
 refine wpAny_mono (ht [] s1 (start N vs) H _ I hq) (fun fl s' hs => ?_) fun e s' hs => False.elim hs
 have fin : ∀ {σ' : St} {H' : Hp} {v : V} {u : Value}, Inv (cxU P w K mg base N qual (defScope st) f cdv A outer s H E) [] σ' H' s' -> RelV v u -> Q v H' -> CE outer P w H s Q u s' :=
  fun {σ' H' v u} J rv q => ⟨v, H', J.os, J.bare, J.base, J.hok, rv, q⟩
 cases fl with
 | ret u =>
  obtain ⟨v, σ', H', J, rv, q⟩ := hs
  exact fin J rv q
 | next =>
  obtain ⟨σ', H', J, q⟩ := hs
  exact fin (v := V.non) (u := Value.none) J rfl q
 | brk =>
  obtain ⟨_, _, _, q⟩ := hs
  exact False.elim q
 | cont =>
  obtain ⟨_, _, _, q⟩ := hs
  exact False.elim q
theorem call_isxTK {X : Cx} {K : PySem.W.Frag} {Pk : Addr} (hK : X.K = K) : CallR X (.builtin "isinstance") (fun xs H Q => ∃ (x C : Addr) (od : Option Addr) (tp : Addr) (cs : List Addr) (b : Bool), xs = [.ref x, .ref tp] ∧ IsX H x C od ∧ XIn K C Pk ∧ H tp = some (.tup (cs.map V.ref)) ∧ PySem.W.kitAny K (.ref C) (cs.map Value.ref) = some b ∧ Q (.bl b) H) := by
 subst hK
 exact call_isxT
section
variable {X : Cx} {k : Nat} {f : Addr} {fd : FuncData} {ps : List Str} {sp : Sp} {x : Str} {p pos : Pos} {e : Expr} {es : List Expr} {t : TA}
theorem pe_callU (F : FnOkU X.prog X.w X.K X.mg X.base k f fd ps sp) (hr : RoomU k X.A) (hg : Gl X x) (hm : X.mg x = some (.ref f)) (hk : PySem.W.keepIn X.K (.ref f) = true) (hb : Binds X.K fd ps [])
  (ha : PA X (e :: es) t) (hdb : (x == ("__debug__" : Str)) = false := by decide) (he : starEach (e :: es) X.env = (false, eval e X.env) :: starEach es X.env := by rfl) (hpl : (backTo pos (starEach es X.env)).any (·.1) = false := by rfl) :
  PE X (.Call (.Name x p) (e :: es) [] pos) (tCall sp [] E0 t) := by
 intro pins s σ H Q I h
 refine wpAny_Call_Name_kw (ld_glob I hg hm ?_ hdb)
 refine PySem.W.callWith_K (h₀ := X.base) I.ok.mod.kin hk (thn (ha pos pins s σ H _ I h) fun us s1 ⟨vs, H1, I1, r, q⟩ => ⟨I1.kIn, ?_⟩) he hpl
 have q : sp (vs ++ []) H1 Q E0 := q
 rw [List.append_nil] at q
 have hl : us.length = ps.length := by rw [<- r.length]; exact F.len _ _ _ _ q
 have hbb := hb s1 us I1.kIn (by rw [List.append_nil]; exact hl)
 rw [List.append_nil] at hbb
 refine wpAny_call (codeAny_mono (F.run X.A X.stack s1 H1 ⟨us, []⟩ us vs Q E0 hr I1.env0 hbb r q) fun r s' hq => ?_)
 cases r with
 | error e => exact False.elim hq
 | ok fl =>
  cases fl with
  | ret u => exact I1.after hq
  | next => exact False.elim hq
  | brk => exact False.elim hq
  | cont => exact False.elim hq
end
end L2
namespace My
open PySem L2 PyProof.Rows
set_option maxRecDepth 100000
set_option maxHeartbeats 1000000
def top (i : Nat) : Stmt := PySem.Challenge.pw_spareplank_k36_what_is_refused_first.main.body.getD i (.Pass ⟨0, 0, 0, 0⟩)
abbrev s_NoPlace_init : Stmt := inClass (top 6) 0
abbrev s_WrongPlank_init : Stmt := inClass (top 11) 0
abbrev s_Plank_init : Stmt := inClass (top 14) 0
abbrev s_Plank_there : Stmt := inClass (top 14) 1
abbrev s_Plank_price : Stmt := inClass (top 14) 2
abbrev s_Plank_word : Stmt := inClass (top 14) 3
abbrev s_Plank_look_at : Stmt := inClass (top 14) 4
abbrev s_Plank_lay_at : Stmt := inClass (top 14) 5
abbrev s_SlowPlank_init : Stmt := inClass (top 15) 0
abbrev s_SlowPlank_price : Stmt := inClass (top 15) 1
abbrev s_SlowPlank_word : Stmt := inClass (top 15) 2
abbrev s_LostPlank_init : Stmt := inClass (top 16) 0
abbrev s_LostPlank_there : Stmt := inClass (top 16) 1
abbrev s_LostPlank_word : Stmt := inClass (top 16) 2
abbrev s_LostPlank_lay_at : Stmt := inClass (top 16) 3
abbrev s_SparePlank_init : Stmt := inClass (top 17) 0
abbrev s_SparePlank_there : Stmt := inClass (top 17) 1
abbrev s_SparePlank_word : Stmt := inClass (top 17) 2
abbrev s_SparePlank_move : Stmt := inClass (top 17) 3
abbrev s_check_bounds : Stmt := top 25
abbrev s_Rack_init : Stmt := inClass (top 26) 0
abbrev s_Rack_lose : Stmt := inClass (top 26) 1
abbrev s_Rack_put_spare : Stmt := inClass (top 26) 2
abbrev s_Rack_make_slow : Stmt := inClass (top 26) 3
abbrev s_Rack_spoil : Stmt := inClass (top 26) 4
abbrev s_Rack_lie : Stmt := inClass (top 26) 5
abbrev s_Rack_supply : Stmt := inClass (top 26) 6
abbrev s_Rack_peek : Stmt := inClass (top 26) 7
abbrev s_Rack_kind_of : Stmt := inClass (top 26) 8
abbrev s_Rack_cost_of : Stmt := inClass (top 26) 9
abbrev s_Rack_mark_of : Stmt := inClass (top 26) 10
abbrev s_Rack_there : Stmt := inClass (top 26) 11
abbrev s_Rack_has_power : Stmt := inClass (top 26) 12
abbrev s_Rack_intents : Stmt := inClass (top 26) 13
abbrev s_Rack_events : Stmt := inClass (top 26) 14
abbrev s_Rack_look : Stmt := inClass (top 26) 15
abbrev s_Rack_lay : Stmt := inClass (top 26) 16
abbrev s_Rack_note : Stmt := inClass (top 26) 17
abbrev s_Rack_strike : Stmt := inClass (top 26) 18
abbrev s_Rack_move_mark : Stmt := inClass (top 26) 19
abbrev s_Rack_need_write : Stmt := inClass (top 26) 20
abbrev s_Rack_spend : Stmt := inClass (top 26) 21
abbrev s_Rack_check_slot : Stmt := inClass (top 26) 22
abbrev s_Rack_check_plank : Stmt := inClass (top 26) 23
abbrev s_Rack_check_stripe : Stmt := inClass (top 26) 24
abbrev s_Rack_check_both : Stmt := inClass (top 26) 25
abbrev s_Rack_check_there : Stmt := inClass (top 26) 26
abbrev s_cell_at : Stmt := top 28
abbrev s_mixed : Stmt := top 29
abbrev s_stream : Stmt := top 30
abbrev s_whole : Stmt := top 31
abbrev s_place : Stmt := top 32
abbrev s_cost : Stmt := top 33
abbrev s_do_one : Stmt := top 34
abbrev s_do_other : Stmt := top 35
abbrev s_under : Stmt := top 36
abbrev s_told : Stmt := top 37
abbrev s_built : Stmt := top 38
abbrev s_wrong : Stmt := top 39
abbrev s_due : Stmt := top 40
abbrev s_seen : Stmt := top 41
abbrev s_right : Stmt := top 42
abbrev s_one : Stmt := top 43
abbrev s_made : Stmt := top 44
abbrev s_law : Stmt := top 45
theorem sc_NoPlace_init : FnScope ["self", "place"] ["self", "place"] (defScope s_NoPlace_init) := ⟨rfl, rfl, rfl, by decide +kernel, rfl, by decide +kernel, by decide +kernel⟩
theorem sc_WrongPlank_init : FnScope ["self", "plank"] ["self", "plank"] (defScope s_WrongPlank_init) := ⟨rfl, rfl, rfl, by decide +kernel, rfl, by decide +kernel, by decide +kernel⟩
theorem sc_Plank_init : FnScope ["self", "held"] ["self", "held"] (defScope s_Plank_init) := ⟨rfl, rfl, rfl, by decide +kernel, rfl, by decide +kernel, by decide +kernel⟩
theorem sc_Plank_there : FnScope ["self", "at"] ["self", "at"] (defScope s_Plank_there) := ⟨rfl, rfl, rfl, by decide +kernel, rfl, by decide +kernel, by decide +kernel⟩
theorem sc_Plank_price : FnScope ["self"] ["self"] (defScope s_Plank_price) := ⟨rfl, rfl, rfl, by decide +kernel, rfl, by decide +kernel, by decide +kernel⟩
theorem sc_Plank_word : FnScope ["self"] ["self"] (defScope s_Plank_word) := ⟨rfl, rfl, rfl, by decide +kernel, rfl, by decide +kernel, by decide +kernel⟩
theorem sc_Plank_look_at : FnScope ["self", "at"] ["self", "at"] (defScope s_Plank_look_at) := ⟨rfl, rfl, rfl, by decide +kernel, rfl, by decide +kernel, by decide +kernel⟩
theorem sc_Plank_lay_at : FnScope ["self", "at", "block"] ["self", "at", "block"] (defScope s_Plank_lay_at) := ⟨rfl, rfl, rfl, by decide +kernel, rfl, by decide +kernel, by decide +kernel⟩
theorem sc_SlowPlank_init : FnScope ["self", "held", "cost"] ["self", "held", "cost"] (defScope s_SlowPlank_init) := ⟨rfl, rfl, rfl, by decide +kernel, rfl, by decide +kernel, by decide +kernel⟩
theorem sc_SlowPlank_price : FnScope ["self"] ["self"] (defScope s_SlowPlank_price) := ⟨rfl, rfl, rfl, by decide +kernel, rfl, by decide +kernel, by decide +kernel⟩
theorem sc_SlowPlank_word : FnScope ["self"] ["self"] (defScope s_SlowPlank_word) := ⟨rfl, rfl, rfl, by decide +kernel, rfl, by decide +kernel, by decide +kernel⟩
theorem sc_LostPlank_init : FnScope ["self", "many"] ["self", "many"] (defScope s_LostPlank_init) := ⟨rfl, rfl, rfl, by decide +kernel, rfl, by decide +kernel, by decide +kernel⟩
theorem sc_LostPlank_there : FnScope ["self", "at"] ["self", "at"] (defScope s_LostPlank_there) := ⟨rfl, rfl, rfl, by decide +kernel, rfl, by decide +kernel, by decide +kernel⟩
theorem sc_LostPlank_word : FnScope ["self"] ["self"] (defScope s_LostPlank_word) := ⟨rfl, rfl, rfl, by decide +kernel, rfl, by decide +kernel, by decide +kernel⟩
theorem sc_LostPlank_lay_at : FnScope ["self", "at", "block"] ["self", "at", "block"] (defScope s_LostPlank_lay_at) := ⟨rfl, rfl, rfl, by decide +kernel, rfl, by decide +kernel, by decide +kernel⟩
theorem sc_SparePlank_init : FnScope ["self", "held"] ["self", "held"] (defScope s_SparePlank_init) := ⟨rfl, rfl, rfl, by decide +kernel, rfl, by decide +kernel, by decide +kernel⟩
theorem sc_SparePlank_there : FnScope ["self", "at"] ["self", "at"] (defScope s_SparePlank_there) := ⟨rfl, rfl, rfl, by decide +kernel, rfl, by decide +kernel, by decide +kernel⟩
theorem sc_SparePlank_word : FnScope ["self"] ["self"] (defScope s_SparePlank_word) := ⟨rfl, rfl, rfl, by decide +kernel, rfl, by decide +kernel, by decide +kernel⟩
theorem sc_SparePlank_move : FnScope ["self"] ["self"] (defScope s_SparePlank_move) := ⟨rfl, rfl, rfl, by decide +kernel, rfl, by decide +kernel, by decide +kernel⟩
theorem sc_check_bounds : FnScope ["planks", "stripes", "slots"] ["planks", "stripes", "slots"] (defScope s_check_bounds) := ⟨rfl, rfl, rfl, by decide +kernel, rfl, by decide +kernel, by decide +kernel⟩
theorem sc_Rack_init : FnScope ["self", "planks", "stripes", "slots"] ["self", "planks", "stripes", "slots"] (defScope s_Rack_init) := ⟨rfl, rfl, rfl, by decide +kernel, rfl, by decide +kernel, by decide +kernel⟩
theorem sc_Rack_lose : FnScope ["self", "plank"] ["self", "plank"] (defScope s_Rack_lose) := ⟨rfl, rfl, rfl, by decide +kernel, rfl, by decide +kernel, by decide +kernel⟩
theorem sc_Rack_put_spare : FnScope ["self", "plank", "some"] ["self", "plank", "some"] (defScope s_Rack_put_spare) := ⟨rfl, rfl, rfl, by decide +kernel, rfl, by decide +kernel, by decide +kernel⟩
theorem sc_Rack_make_slow : FnScope ["self", "plank", "cost"] ["self", "plank", "cost"] (defScope s_Rack_make_slow) := ⟨rfl, rfl, rfl, by decide +kernel, rfl, by decide +kernel, by decide +kernel⟩
theorem sc_Rack_spoil : FnScope ["self", "plank", "stripe"] ["self", "plank", "stripe"] (defScope s_Rack_spoil) := ⟨rfl, rfl, rfl, by decide +kernel, rfl, by decide +kernel, by decide +kernel⟩
theorem sc_Rack_lie : FnScope ["self", "plank", "stripe", "block"] ["self", "plank", "stripe", "block"] (defScope s_Rack_lie) := ⟨rfl, rfl, rfl, by decide +kernel, rfl, by decide +kernel, by decide +kernel⟩
theorem sc_Rack_supply : FnScope ["self", "left"] ["self", "left"] (defScope s_Rack_supply) := ⟨rfl, rfl, rfl, by decide +kernel, rfl, by decide +kernel, by decide +kernel⟩
theorem sc_Rack_peek : FnScope ["self", "plank", "stripe"] ["self", "plank", "stripe"] (defScope s_Rack_peek) := ⟨rfl, rfl, rfl, by decide +kernel, rfl, by decide +kernel, by decide +kernel⟩
theorem sc_Rack_kind_of : FnScope ["self", "plank"] ["self", "plank"] (defScope s_Rack_kind_of) := ⟨rfl, rfl, rfl, by decide +kernel, rfl, by decide +kernel, by decide +kernel⟩
theorem sc_Rack_cost_of : FnScope ["self", "plank"] ["self", "plank"] (defScope s_Rack_cost_of) := ⟨rfl, rfl, rfl, by decide +kernel, rfl, by decide +kernel, by decide +kernel⟩
theorem sc_Rack_mark_of : FnScope ["self", "plank"] ["self", "plank"] (defScope s_Rack_mark_of) := ⟨rfl, rfl, rfl, by decide +kernel, rfl, by decide +kernel, by decide +kernel⟩
theorem sc_Rack_there : FnScope ["self", "plank", "stripe"] ["self", "plank", "stripe"] (defScope s_Rack_there) := ⟨rfl, rfl, rfl, by decide +kernel, rfl, by decide +kernel, by decide +kernel⟩
theorem sc_Rack_has_power : FnScope ["self"] ["self"] (defScope s_Rack_has_power) := ⟨rfl, rfl, rfl, by decide +kernel, rfl, by decide +kernel, by decide +kernel⟩
theorem sc_Rack_intents : FnScope ["self", "some", "slot", "note"] ["self"] (defScope s_Rack_intents) := ⟨rfl, rfl, rfl, by decide +kernel, rfl, by decide +kernel, by decide +kernel⟩
theorem sc_Rack_events : FnScope ["self"] ["self"] (defScope s_Rack_events) := ⟨rfl, rfl, rfl, by decide +kernel, rfl, by decide +kernel, by decide +kernel⟩
theorem sc_Rack_look : FnScope ["self", "plank", "stripe"] ["self", "plank", "stripe"] (defScope s_Rack_look) := ⟨rfl, rfl, rfl, by decide +kernel, rfl, by decide +kernel, by decide +kernel⟩
theorem sc_Rack_lay : FnScope ["self", "plank", "stripe", "block"] ["self", "plank", "stripe", "block"] (defScope s_Rack_lay) := ⟨rfl, rfl, rfl, by decide +kernel, rfl, by decide +kernel, by decide +kernel⟩
theorem sc_Rack_note : FnScope ["self", "slot", "stripe", "pairs"] ["self", "slot", "stripe", "pairs"] (defScope s_Rack_note) := ⟨rfl, rfl, rfl, by decide +kernel, rfl, by decide +kernel, by decide +kernel⟩
theorem sc_Rack_strike : FnScope ["self", "slot"] ["self", "slot"] (defScope s_Rack_strike) := ⟨rfl, rfl, rfl, by decide +kernel, rfl, by decide +kernel, by decide +kernel⟩
theorem sc_Rack_move_mark : FnScope ["self", "plank", "spare"] ["self", "plank"] (defScope s_Rack_move_mark) := ⟨rfl, rfl, rfl, by decide +kernel, rfl, by decide +kernel, by decide +kernel⟩
theorem sc_Rack_need_write : FnScope ["self"] ["self"] (defScope s_Rack_need_write) := ⟨rfl, rfl, rfl, by decide +kernel, rfl, by decide +kernel, by decide +kernel⟩
theorem sc_Rack_spend : FnScope ["self", "event"] ["self", "event"] (defScope s_Rack_spend) := ⟨rfl, rfl, rfl, by decide +kernel, rfl, by decide +kernel, by decide +kernel⟩
theorem sc_Rack_check_slot : FnScope ["self", "slot"] ["self", "slot"] (defScope s_Rack_check_slot) := ⟨rfl, rfl, rfl, by decide +kernel, rfl, by decide +kernel, by decide +kernel⟩
theorem sc_Rack_check_plank : FnScope ["self", "plank"] ["self", "plank"] (defScope s_Rack_check_plank) := ⟨rfl, rfl, rfl, by decide +kernel, rfl, by decide +kernel, by decide +kernel⟩
theorem sc_Rack_check_stripe : FnScope ["self", "stripe"] ["self", "stripe"] (defScope s_Rack_check_stripe) := ⟨rfl, rfl, rfl, by decide +kernel, rfl, by decide +kernel, by decide +kernel⟩
theorem sc_Rack_check_both : FnScope ["self", "plank", "stripe"] ["self", "plank", "stripe"] (defScope s_Rack_check_both) := ⟨rfl, rfl, rfl, by decide +kernel, rfl, by decide +kernel, by decide +kernel⟩
theorem sc_Rack_check_there : FnScope ["self", "plank", "stripe"] ["self", "plank", "stripe"] (defScope s_Rack_check_there) := ⟨rfl, rfl, rfl, by decide +kernel, rfl, by decide +kernel, by decide +kernel⟩
theorem sc_cell_at : FnScope ["_law_script", "_law_k"] ["_law_script", "_law_k"] (defScope s_cell_at) := ⟨rfl, rfl, rfl, by decide +kernel, rfl, by decide +kernel, by decide +kernel⟩
theorem sc_mixed : FnScope ["_law_cell", "_law_k", "_law_number"] ["_law_cell", "_law_k"] (defScope s_mixed) := ⟨rfl, rfl, rfl, by decide +kernel, rfl, by decide +kernel, by decide +kernel⟩
theorem sc_stream : FnScope ["_law_cell", "_law_many", "_law_found", "_law_number", "_law_k"] ["_law_cell", "_law_many"] (defScope s_stream) := ⟨rfl, rfl, rfl, by decide +kernel, rfl, by decide +kernel, by decide +kernel⟩
theorem sc_whole : FnScope ["_law_found"] ["_law_found"] (defScope s_whole) := ⟨rfl, rfl, rfl, by decide +kernel, rfl, by decide +kernel, by decide +kernel⟩
theorem sc_place : FnScope ["_law_number", "_law_many", "_law_way"] ["_law_number", "_law_many"] (defScope s_place) := ⟨rfl, rfl, rfl, by decide +kernel, rfl, by decide +kernel, by decide +kernel⟩
theorem sc_cost : FnScope ["_law_number"] ["_law_number"] (defScope s_cost) := ⟨rfl, rfl, rfl, by decide +kernel, rfl, by decide +kernel, by decide +kernel⟩
theorem sc_do_one : FnScope ["_law_rack", "_law_way", "_law_a"] ["_law_rack", "_law_way", "_law_a"] (defScope s_do_one) := ⟨rfl, rfl, rfl, by decide +kernel, rfl, by decide +kernel, by decide +kernel⟩
theorem sc_do_other : FnScope ["_law_rack", "_law_way", "_law_a"] ["_law_rack", "_law_way", "_law_a"] (defScope s_do_other) := ⟨rfl, rfl, rfl, by decide +kernel, rfl, by decide +kernel, by decide +kernel⟩
theorem sc_under : FnScope ["_law_error", "_law_others"] ["_law_error"] (defScope s_under) := ⟨rfl, rfl, rfl, by decide +kernel, rfl, by decide +kernel, by decide +kernel⟩
theorem sc_told : FnScope ["_law_rack", "_law_way", "_law_a", "_law_told_here", "e"] ["_law_rack", "_law_way", "_law_a"] (defScope s_told) := ⟨rfl, rfl, rfl, by decide +kernel, rfl, by decide +kernel, by decide +kernel⟩
theorem sc_built : FnScope ["_law_xs", "_law_sizes", "_law_rack", "_law_boards", "_law_plank", "_law_way", "_law_mark", "_law_k"] ["_law_xs", "_law_sizes"] (defScope s_built) := ⟨rfl, rfl, rfl, by decide +kernel, rfl, by decide +kernel, by decide +kernel⟩
theorem sc_wrong : FnScope ["_law_board", "_law_way", "_law_stripe", "_law_word"] ["_law_board", "_law_way", "_law_stripe"] (defScope s_wrong) := ⟨rfl, rfl, rfl, by decide +kernel, rfl, by decide +kernel, by decide +kernel⟩
theorem sc_due : FnScope ["_law_boards", "_law_sizes", "_law_way", "_law_a", "_law_power"] ["_law_boards", "_law_sizes", "_law_way", "_law_a", "_law_power"] (defScope s_due) := ⟨rfl, rfl, rfl, by decide +kernel, rfl, by decide +kernel, by decide +kernel⟩
theorem sc_seen : FnScope ["_law_rack", "_law_sizes", "_law_rows", "_law_plank"] ["_law_rack", "_law_sizes"] (defScope s_seen) := ⟨rfl, rfl, rfl, by decide +kernel, rfl, by decide +kernel, by decide +kernel⟩
theorem sc_right : FnScope ["_law_told_here", "_law_due_here"] ["_law_told_here", "_law_due_here"] (defScope s_right) := ⟨rfl, rfl, rfl, by decide +kernel, rfl, by decide +kernel, by decide +kernel⟩
theorem sc_one : FnScope ["_law_number", "_law_xs", "_law_sizes", "_law_rack", "_law_boards", "_law_power", "_law_way", "_law_a", "_law_due_here", "_law_before", "_law_goes"] ["_law_number"] (defScope s_one) := ⟨rfl, rfl, rfl, by decide +kernel, rfl, by decide +kernel, by decide +kernel⟩
theorem sc_made : FnScope ["_law_number", "_law_a", "_law_far", "_law_due_here"] ["_law_number"] (defScope s_made) := ⟨rfl, rfl, rfl, by decide +kernel, rfl, by decide +kernel, by decide +kernel⟩
theorem sc_law : FnScope ["_law_script", "_law_k", "_law_number"] ["_law_script"] (defScope s_law) := ⟨rfl, rfl, rfl, by decide +kernel, rfl, by decide +kernel, by decide +kernel⟩
structure Adr where
 C_Plank : Addr
 C_SlowPlank : Addr
 C_LostPlank : Addr
 C_SparePlank : Addr
 C_Rack : Addr
 C_PlankError : Addr
 C_NoField : Addr
 C_NoBack : Addr
 C_NoCode : Addr
 C_NoShape : Addr
 C_NoPlace : Addr
 C_NoBlock : Addr
 C_Gone : Addr
 C_Standing : Addr
 C_NoPower : Addr
 C_WrongPlank : Addr
 C_NoLine : Addr
 f_NoPlace_init : Addr
 d_NoPlace_init : FuncData
 f_WrongPlank_init : Addr
 d_WrongPlank_init : FuncData
 f_Plank_init : Addr
 d_Plank_init : FuncData
 f_Plank_there : Addr
 d_Plank_there : FuncData
 f_Plank_price : Addr
 d_Plank_price : FuncData
 f_Plank_word : Addr
 d_Plank_word : FuncData
 f_Plank_look_at : Addr
 d_Plank_look_at : FuncData
 f_Plank_lay_at : Addr
 d_Plank_lay_at : FuncData
 f_SlowPlank_init : Addr
 d_SlowPlank_init : FuncData
 f_SlowPlank_price : Addr
 d_SlowPlank_price : FuncData
 f_SlowPlank_word : Addr
 d_SlowPlank_word : FuncData
 f_LostPlank_init : Addr
 d_LostPlank_init : FuncData
 f_LostPlank_there : Addr
 d_LostPlank_there : FuncData
 f_LostPlank_word : Addr
 d_LostPlank_word : FuncData
 f_LostPlank_lay_at : Addr
 d_LostPlank_lay_at : FuncData
 f_SparePlank_init : Addr
 d_SparePlank_init : FuncData
 f_SparePlank_there : Addr
 d_SparePlank_there : FuncData
 f_SparePlank_word : Addr
 d_SparePlank_word : FuncData
 f_SparePlank_move : Addr
 d_SparePlank_move : FuncData
 f_check_bounds : Addr
 d_check_bounds : FuncData
 f_Rack_init : Addr
 d_Rack_init : FuncData
 f_Rack_lose : Addr
 d_Rack_lose : FuncData
 f_Rack_put_spare : Addr
 d_Rack_put_spare : FuncData
 f_Rack_make_slow : Addr
 d_Rack_make_slow : FuncData
 f_Rack_spoil : Addr
 d_Rack_spoil : FuncData
 f_Rack_lie : Addr
 d_Rack_lie : FuncData
 f_Rack_supply : Addr
 d_Rack_supply : FuncData
 f_Rack_peek : Addr
 d_Rack_peek : FuncData
 f_Rack_kind_of : Addr
 d_Rack_kind_of : FuncData
 f_Rack_cost_of : Addr
 d_Rack_cost_of : FuncData
 f_Rack_mark_of : Addr
 d_Rack_mark_of : FuncData
 f_Rack_there : Addr
 d_Rack_there : FuncData
 f_Rack_has_power : Addr
 d_Rack_has_power : FuncData
 f_Rack_intents : Addr
 d_Rack_intents : FuncData
 f_Rack_events : Addr
 d_Rack_events : FuncData
 f_Rack_look : Addr
 d_Rack_look : FuncData
 f_Rack_lay : Addr
 d_Rack_lay : FuncData
 f_Rack_note : Addr
 d_Rack_note : FuncData
 f_Rack_strike : Addr
 d_Rack_strike : FuncData
 f_Rack_move_mark : Addr
 d_Rack_move_mark : FuncData
 f_Rack_need_write : Addr
 d_Rack_need_write : FuncData
 f_Rack_spend : Addr
 d_Rack_spend : FuncData
 f_Rack_check_slot : Addr
 d_Rack_check_slot : FuncData
 f_Rack_check_plank : Addr
 d_Rack_check_plank : FuncData
 f_Rack_check_stripe : Addr
 d_Rack_check_stripe : FuncData
 f_Rack_check_both : Addr
 d_Rack_check_both : FuncData
 f_Rack_check_there : Addr
 d_Rack_check_there : FuncData
 f_cell_at : Addr
 d_cell_at : FuncData
 f_mixed : Addr
 d_mixed : FuncData
 f_stream : Addr
 d_stream : FuncData
 f_whole : Addr
 d_whole : FuncData
 f_place : Addr
 d_place : FuncData
 f_cost : Addr
 d_cost : FuncData
 f_do_one : Addr
 d_do_one : FuncData
 f_do_other : Addr
 d_do_other : FuncData
 f_under : Addr
 d_under : FuncData
 f_told : Addr
 d_told : FuncData
 f_built : Addr
 d_built : FuncData
 f_wrong : Addr
 d_wrong : FuncData
 f_due : Addr
 d_due : FuncData
 f_seen : Addr
 d_seen : FuncData
 f_right : Addr
 d_right : FuncData
 f_one : Addr
 d_one : FuncData
 f_made : Addr
 d_made : FuncData
 f_law : Addr
 d_law : FuncData
 t_MOST_COST : Tok
 t_LEAST_COST : Tok
 t_MOST_SLOTS : Tok
 t_MOST_STRIPES : Tok
 t_MOST_PLANKS : Tok
 t_LEAST_PLANKS : Tok
structure Txt (K : W.Frag) (mg : Str -> Option Value) (a : Adr) : Prop where
 cl_Plank : Cls K a.C_Plank
 m_Plank : mg "Plank" = some (.ref a.C_Plank)
 no_Plank_held : NoAttr K a.C_Plank "held"
 mk_Plank : Mk K a.C_Plank a.f_Plank_init
 cl_SlowPlank : Cls K a.C_SlowPlank
 m_SlowPlank : mg "SlowPlank" = some (.ref a.C_SlowPlank)
 no_SlowPlank_held : NoAttr K a.C_SlowPlank "held"
 no_SlowPlank_cost : NoAttr K a.C_SlowPlank "cost"
 mk_SlowPlank : Mk K a.C_SlowPlank a.f_SlowPlank_init
 cl_LostPlank : Cls K a.C_LostPlank
 m_LostPlank : mg "LostPlank" = some (.ref a.C_LostPlank)
 no_LostPlank_held : NoAttr K a.C_LostPlank "held"
 mk_LostPlank : Mk K a.C_LostPlank a.f_LostPlank_init
 cl_SparePlank : Cls K a.C_SparePlank
 m_SparePlank : mg "SparePlank" = some (.ref a.C_SparePlank)
 no_SparePlank_held : NoAttr K a.C_SparePlank "held"
 no_SparePlank_mark : NoAttr K a.C_SparePlank "mark"
 mk_SparePlank : Mk K a.C_SparePlank a.f_SparePlank_init
 cl_Rack : Cls K a.C_Rack
 m_Rack : mg "Rack" = some (.ref a.C_Rack)
 no_Rack_planks : NoAttr K a.C_Rack "planks"
 no_Rack_stripes : NoAttr K a.C_Rack "stripes"
 no_Rack_slots : NoAttr K a.C_Rack "slots"
 no_Rack_shelf : NoAttr K a.C_Rack "shelf"
 no_Rack_slate : NoAttr K a.C_Rack "slate"
 no_Rack_left : NoAttr K a.C_Rack "left"
 no_Rack_gone : NoAttr K a.C_Rack "gone"
 no_Rack_done : NoAttr K a.C_Rack "done"
 mk_Rack : Mk K a.C_Rack a.f_Rack_init
 F_NoPlace_init : Fun K "__init__" "NoPlace.__init__" s_NoPlace_init a.f_NoPlace_init a.d_NoPlace_init
 b_NoPlace_init : Binds K a.d_NoPlace_init ["self", "place"] []
 k_NoPlace_init : W.keepIn K (.ref a.f_NoPlace_init) = true
 me_NoPlace_init : Meth K a.C_NoPlace "__init__" a.f_NoPlace_init
 F_WrongPlank_init : Fun K "__init__" "WrongPlank.__init__" s_WrongPlank_init a.f_WrongPlank_init a.d_WrongPlank_init
 b_WrongPlank_init : Binds K a.d_WrongPlank_init ["self", "plank"] []
 k_WrongPlank_init : W.keepIn K (.ref a.f_WrongPlank_init) = true
 me_WrongPlank_init : Meth K a.C_WrongPlank "__init__" a.f_WrongPlank_init
 F_Plank_init : Fun K "__init__" "Plank.__init__" s_Plank_init a.f_Plank_init a.d_Plank_init
 b_Plank_init : Binds K a.d_Plank_init ["self", "held"] []
 k_Plank_init : W.keepIn K (.ref a.f_Plank_init) = true
 me_Plank_init : Meth K a.C_Plank "__init__" a.f_Plank_init
 F_Plank_there : Fun K "there" "Plank.there" s_Plank_there a.f_Plank_there a.d_Plank_there
 b_Plank_there : Binds K a.d_Plank_there ["self", "at"] []
 k_Plank_there : W.keepIn K (.ref a.f_Plank_there) = true
 me_Plank_there : Meth K a.C_Plank "there" a.f_Plank_there
 F_Plank_price : Fun K "price" "Plank.price" s_Plank_price a.f_Plank_price a.d_Plank_price
 b_Plank_price : Binds K a.d_Plank_price ["self"] []
 k_Plank_price : W.keepIn K (.ref a.f_Plank_price) = true
 me_Plank_price : Meth K a.C_Plank "price" a.f_Plank_price
 F_Plank_word : Fun K "word" "Plank.word" s_Plank_word a.f_Plank_word a.d_Plank_word
 b_Plank_word : Binds K a.d_Plank_word ["self"] []
 k_Plank_word : W.keepIn K (.ref a.f_Plank_word) = true
 me_Plank_word : Meth K a.C_Plank "word" a.f_Plank_word
 F_Plank_look_at : Fun K "look_at" "Plank.look_at" s_Plank_look_at a.f_Plank_look_at a.d_Plank_look_at
 b_Plank_look_at : Binds K a.d_Plank_look_at ["self", "at"] []
 k_Plank_look_at : W.keepIn K (.ref a.f_Plank_look_at) = true
 me_Plank_look_at : Meth K a.C_Plank "look_at" a.f_Plank_look_at
 F_Plank_lay_at : Fun K "lay_at" "Plank.lay_at" s_Plank_lay_at a.f_Plank_lay_at a.d_Plank_lay_at
 b_Plank_lay_at : Binds K a.d_Plank_lay_at ["self", "at", "block"] []
 k_Plank_lay_at : W.keepIn K (.ref a.f_Plank_lay_at) = true
 me_Plank_lay_at : Meth K a.C_Plank "lay_at" a.f_Plank_lay_at
 F_SlowPlank_init : Fun K "__init__" "SlowPlank.__init__" s_SlowPlank_init a.f_SlowPlank_init a.d_SlowPlank_init
 b_SlowPlank_init : Binds K a.d_SlowPlank_init ["self", "held", "cost"] []
 k_SlowPlank_init : W.keepIn K (.ref a.f_SlowPlank_init) = true
 me_SlowPlank_init : Meth K a.C_SlowPlank "__init__" a.f_SlowPlank_init
 F_SlowPlank_price : Fun K "price" "SlowPlank.price" s_SlowPlank_price a.f_SlowPlank_price a.d_SlowPlank_price
 b_SlowPlank_price : Binds K a.d_SlowPlank_price ["self"] []
 k_SlowPlank_price : W.keepIn K (.ref a.f_SlowPlank_price) = true
 me_SlowPlank_price : Meth K a.C_SlowPlank "price" a.f_SlowPlank_price
 F_SlowPlank_word : Fun K "word" "SlowPlank.word" s_SlowPlank_word a.f_SlowPlank_word a.d_SlowPlank_word
 b_SlowPlank_word : Binds K a.d_SlowPlank_word ["self"] []
 k_SlowPlank_word : W.keepIn K (.ref a.f_SlowPlank_word) = true
 me_SlowPlank_word : Meth K a.C_SlowPlank "word" a.f_SlowPlank_word
 F_LostPlank_init : Fun K "__init__" "LostPlank.__init__" s_LostPlank_init a.f_LostPlank_init a.d_LostPlank_init
 b_LostPlank_init : Binds K a.d_LostPlank_init ["self", "many"] []
 k_LostPlank_init : W.keepIn K (.ref a.f_LostPlank_init) = true
 me_LostPlank_init : Meth K a.C_LostPlank "__init__" a.f_LostPlank_init
 F_LostPlank_there : Fun K "there" "LostPlank.there" s_LostPlank_there a.f_LostPlank_there a.d_LostPlank_there
 b_LostPlank_there : Binds K a.d_LostPlank_there ["self", "at"] []
 k_LostPlank_there : W.keepIn K (.ref a.f_LostPlank_there) = true
 me_LostPlank_there : Meth K a.C_LostPlank "there" a.f_LostPlank_there
 F_LostPlank_word : Fun K "word" "LostPlank.word" s_LostPlank_word a.f_LostPlank_word a.d_LostPlank_word
 b_LostPlank_word : Binds K a.d_LostPlank_word ["self"] []
 k_LostPlank_word : W.keepIn K (.ref a.f_LostPlank_word) = true
 me_LostPlank_word : Meth K a.C_LostPlank "word" a.f_LostPlank_word
 F_LostPlank_lay_at : Fun K "lay_at" "LostPlank.lay_at" s_LostPlank_lay_at a.f_LostPlank_lay_at a.d_LostPlank_lay_at
 b_LostPlank_lay_at : Binds K a.d_LostPlank_lay_at ["self", "at", "block"] []
 k_LostPlank_lay_at : W.keepIn K (.ref a.f_LostPlank_lay_at) = true
 me_LostPlank_lay_at : Meth K a.C_LostPlank "lay_at" a.f_LostPlank_lay_at
 F_SparePlank_init : Fun K "__init__" "SparePlank.__init__" s_SparePlank_init a.f_SparePlank_init a.d_SparePlank_init
 b_SparePlank_init : Binds K a.d_SparePlank_init ["self", "held"] []
 k_SparePlank_init : W.keepIn K (.ref a.f_SparePlank_init) = true
 me_SparePlank_init : Meth K a.C_SparePlank "__init__" a.f_SparePlank_init
 F_SparePlank_there : Fun K "there" "SparePlank.there" s_SparePlank_there a.f_SparePlank_there a.d_SparePlank_there
 b_SparePlank_there : Binds K a.d_SparePlank_there ["self", "at"] []
 k_SparePlank_there : W.keepIn K (.ref a.f_SparePlank_there) = true
 me_SparePlank_there : Meth K a.C_SparePlank "there" a.f_SparePlank_there
 F_SparePlank_word : Fun K "word" "SparePlank.word" s_SparePlank_word a.f_SparePlank_word a.d_SparePlank_word
 b_SparePlank_word : Binds K a.d_SparePlank_word ["self"] []
 k_SparePlank_word : W.keepIn K (.ref a.f_SparePlank_word) = true
 me_SparePlank_word : Meth K a.C_SparePlank "word" a.f_SparePlank_word
 F_SparePlank_move : Fun K "move" "SparePlank.move" s_SparePlank_move a.f_SparePlank_move a.d_SparePlank_move
 b_SparePlank_move : Binds K a.d_SparePlank_move ["self"] []
 k_SparePlank_move : W.keepIn K (.ref a.f_SparePlank_move) = true
 me_SparePlank_move : Meth K a.C_SparePlank "move" a.f_SparePlank_move
 F_check_bounds : Fun K "check_bounds" "check_bounds" s_check_bounds a.f_check_bounds a.d_check_bounds
 b_check_bounds : Binds K a.d_check_bounds ["planks", "stripes", "slots"] []
 k_check_bounds : W.keepIn K (.ref a.f_check_bounds) = true
 m_check_bounds : mg "check_bounds" = some (.ref a.f_check_bounds)
 F_Rack_init : Fun K "__init__" "Rack.__init__" s_Rack_init a.f_Rack_init a.d_Rack_init
 b_Rack_init : Binds K a.d_Rack_init ["self", "planks", "stripes", "slots"] []
 k_Rack_init : W.keepIn K (.ref a.f_Rack_init) = true
 me_Rack_init : Meth K a.C_Rack "__init__" a.f_Rack_init
 F_Rack_lose : Fun K "lose" "Rack.lose" s_Rack_lose a.f_Rack_lose a.d_Rack_lose
 b_Rack_lose : Binds K a.d_Rack_lose ["self", "plank"] []
 k_Rack_lose : W.keepIn K (.ref a.f_Rack_lose) = true
 me_Rack_lose : Meth K a.C_Rack "lose" a.f_Rack_lose
 F_Rack_put_spare : FunD K "put_spare" "Rack.put_spare" s_Rack_put_spare a.f_Rack_put_spare a.d_Rack_put_spare [Value.none]
 b_Rack_put_spare : Binds K a.d_Rack_put_spare ["self", "plank", "some"] []
 bd_Rack_put_spare : Binds K a.d_Rack_put_spare ["self", "plank", "some"] [Value.none]
 k_Rack_put_spare : W.keepIn K (.ref a.f_Rack_put_spare) = true
 me_Rack_put_spare : Meth K a.C_Rack "put_spare" a.f_Rack_put_spare
 F_Rack_make_slow : Fun K "make_slow" "Rack.make_slow" s_Rack_make_slow a.f_Rack_make_slow a.d_Rack_make_slow
 b_Rack_make_slow : Binds K a.d_Rack_make_slow ["self", "plank", "cost"] []
 k_Rack_make_slow : W.keepIn K (.ref a.f_Rack_make_slow) = true
 me_Rack_make_slow : Meth K a.C_Rack "make_slow" a.f_Rack_make_slow
 F_Rack_spoil : Fun K "spoil" "Rack.spoil" s_Rack_spoil a.f_Rack_spoil a.d_Rack_spoil
 b_Rack_spoil : Binds K a.d_Rack_spoil ["self", "plank", "stripe"] []
 k_Rack_spoil : W.keepIn K (.ref a.f_Rack_spoil) = true
 me_Rack_spoil : Meth K a.C_Rack "spoil" a.f_Rack_spoil
 F_Rack_lie : Fun K "lie" "Rack.lie" s_Rack_lie a.f_Rack_lie a.d_Rack_lie
 b_Rack_lie : Binds K a.d_Rack_lie ["self", "plank", "stripe", "block"] []
 k_Rack_lie : W.keepIn K (.ref a.f_Rack_lie) = true
 me_Rack_lie : Meth K a.C_Rack "lie" a.f_Rack_lie
 F_Rack_supply : FunD K "supply" "Rack.supply" s_Rack_supply a.f_Rack_supply a.d_Rack_supply [Value.none]
 b_Rack_supply : Binds K a.d_Rack_supply ["self", "left"] []
 bd_Rack_supply : Binds K a.d_Rack_supply ["self", "left"] [Value.none]
 k_Rack_supply : W.keepIn K (.ref a.f_Rack_supply) = true
 me_Rack_supply : Meth K a.C_Rack "supply" a.f_Rack_supply
 F_Rack_peek : Fun K "peek" "Rack.peek" s_Rack_peek a.f_Rack_peek a.d_Rack_peek
 b_Rack_peek : Binds K a.d_Rack_peek ["self", "plank", "stripe"] []
 k_Rack_peek : W.keepIn K (.ref a.f_Rack_peek) = true
 me_Rack_peek : Meth K a.C_Rack "peek" a.f_Rack_peek
 F_Rack_kind_of : Fun K "kind_of" "Rack.kind_of" s_Rack_kind_of a.f_Rack_kind_of a.d_Rack_kind_of
 b_Rack_kind_of : Binds K a.d_Rack_kind_of ["self", "plank"] []
 k_Rack_kind_of : W.keepIn K (.ref a.f_Rack_kind_of) = true
 me_Rack_kind_of : Meth K a.C_Rack "kind_of" a.f_Rack_kind_of
 F_Rack_cost_of : Fun K "cost_of" "Rack.cost_of" s_Rack_cost_of a.f_Rack_cost_of a.d_Rack_cost_of
 b_Rack_cost_of : Binds K a.d_Rack_cost_of ["self", "plank"] []
 k_Rack_cost_of : W.keepIn K (.ref a.f_Rack_cost_of) = true
 me_Rack_cost_of : Meth K a.C_Rack "cost_of" a.f_Rack_cost_of
 F_Rack_mark_of : Fun K "mark_of" "Rack.mark_of" s_Rack_mark_of a.f_Rack_mark_of a.d_Rack_mark_of
 b_Rack_mark_of : Binds K a.d_Rack_mark_of ["self", "plank"] []
 k_Rack_mark_of : W.keepIn K (.ref a.f_Rack_mark_of) = true
 me_Rack_mark_of : Meth K a.C_Rack "mark_of" a.f_Rack_mark_of
 F_Rack_there : Fun K "there" "Rack.there" s_Rack_there a.f_Rack_there a.d_Rack_there
 b_Rack_there : Binds K a.d_Rack_there ["self", "plank", "stripe"] []
 k_Rack_there : W.keepIn K (.ref a.f_Rack_there) = true
 me_Rack_there : Meth K a.C_Rack "there" a.f_Rack_there
 F_Rack_has_power : Fun K "has_power" "Rack.has_power" s_Rack_has_power a.f_Rack_has_power a.d_Rack_has_power
 b_Rack_has_power : Binds K a.d_Rack_has_power ["self"] []
 k_Rack_has_power : W.keepIn K (.ref a.f_Rack_has_power) = true
 me_Rack_has_power : Meth K a.C_Rack "has_power" a.f_Rack_has_power
 F_Rack_intents : Fun K "intents" "Rack.intents" s_Rack_intents a.f_Rack_intents a.d_Rack_intents
 b_Rack_intents : Binds K a.d_Rack_intents ["self"] []
 k_Rack_intents : W.keepIn K (.ref a.f_Rack_intents) = true
 me_Rack_intents : Meth K a.C_Rack "intents" a.f_Rack_intents
 F_Rack_events : Fun K "events" "Rack.events" s_Rack_events a.f_Rack_events a.d_Rack_events
 b_Rack_events : Binds K a.d_Rack_events ["self"] []
 k_Rack_events : W.keepIn K (.ref a.f_Rack_events) = true
 me_Rack_events : Meth K a.C_Rack "events" a.f_Rack_events
 F_Rack_look : Fun K "look" "Rack.look" s_Rack_look a.f_Rack_look a.d_Rack_look
 b_Rack_look : Binds K a.d_Rack_look ["self", "plank", "stripe"] []
 k_Rack_look : W.keepIn K (.ref a.f_Rack_look) = true
 me_Rack_look : Meth K a.C_Rack "look" a.f_Rack_look
 F_Rack_lay : Fun K "lay" "Rack.lay" s_Rack_lay a.f_Rack_lay a.d_Rack_lay
 b_Rack_lay : Binds K a.d_Rack_lay ["self", "plank", "stripe", "block"] []
 k_Rack_lay : W.keepIn K (.ref a.f_Rack_lay) = true
 me_Rack_lay : Meth K a.C_Rack "lay" a.f_Rack_lay
 F_Rack_note : Fun K "note" "Rack.note" s_Rack_note a.f_Rack_note a.d_Rack_note
 b_Rack_note : Binds K a.d_Rack_note ["self", "slot", "stripe", "pairs"] []
 k_Rack_note : W.keepIn K (.ref a.f_Rack_note) = true
 me_Rack_note : Meth K a.C_Rack "note" a.f_Rack_note
 F_Rack_strike : Fun K "strike" "Rack.strike" s_Rack_strike a.f_Rack_strike a.d_Rack_strike
 b_Rack_strike : Binds K a.d_Rack_strike ["self", "slot"] []
 k_Rack_strike : W.keepIn K (.ref a.f_Rack_strike) = true
 me_Rack_strike : Meth K a.C_Rack "strike" a.f_Rack_strike
 F_Rack_move_mark : Fun K "move_mark" "Rack.move_mark" s_Rack_move_mark a.f_Rack_move_mark a.d_Rack_move_mark
 b_Rack_move_mark : Binds K a.d_Rack_move_mark ["self", "plank"] []
 k_Rack_move_mark : W.keepIn K (.ref a.f_Rack_move_mark) = true
 me_Rack_move_mark : Meth K a.C_Rack "move_mark" a.f_Rack_move_mark
 F_Rack_need_write : Fun K "need_write" "Rack.need_write" s_Rack_need_write a.f_Rack_need_write a.d_Rack_need_write
 b_Rack_need_write : Binds K a.d_Rack_need_write ["self"] []
 k_Rack_need_write : W.keepIn K (.ref a.f_Rack_need_write) = true
 me_Rack_need_write : Meth K a.C_Rack "need_write" a.f_Rack_need_write
 F_Rack_spend : Fun K "spend" "Rack.spend" s_Rack_spend a.f_Rack_spend a.d_Rack_spend
 b_Rack_spend : Binds K a.d_Rack_spend ["self", "event"] []
 k_Rack_spend : W.keepIn K (.ref a.f_Rack_spend) = true
 me_Rack_spend : Meth K a.C_Rack "spend" a.f_Rack_spend
 F_Rack_check_slot : Fun K "check_slot" "Rack.check_slot" s_Rack_check_slot a.f_Rack_check_slot a.d_Rack_check_slot
 b_Rack_check_slot : Binds K a.d_Rack_check_slot ["self", "slot"] []
 k_Rack_check_slot : W.keepIn K (.ref a.f_Rack_check_slot) = true
 me_Rack_check_slot : Meth K a.C_Rack "check_slot" a.f_Rack_check_slot
 F_Rack_check_plank : Fun K "check_plank" "Rack.check_plank" s_Rack_check_plank a.f_Rack_check_plank a.d_Rack_check_plank
 b_Rack_check_plank : Binds K a.d_Rack_check_plank ["self", "plank"] []
 k_Rack_check_plank : W.keepIn K (.ref a.f_Rack_check_plank) = true
 me_Rack_check_plank : Meth K a.C_Rack "check_plank" a.f_Rack_check_plank
 F_Rack_check_stripe : Fun K "check_stripe" "Rack.check_stripe" s_Rack_check_stripe a.f_Rack_check_stripe a.d_Rack_check_stripe
 b_Rack_check_stripe : Binds K a.d_Rack_check_stripe ["self", "stripe"] []
 k_Rack_check_stripe : W.keepIn K (.ref a.f_Rack_check_stripe) = true
 me_Rack_check_stripe : Meth K a.C_Rack "check_stripe" a.f_Rack_check_stripe
 F_Rack_check_both : Fun K "check_both" "Rack.check_both" s_Rack_check_both a.f_Rack_check_both a.d_Rack_check_both
 b_Rack_check_both : Binds K a.d_Rack_check_both ["self", "plank", "stripe"] []
 k_Rack_check_both : W.keepIn K (.ref a.f_Rack_check_both) = true
 me_Rack_check_both : Meth K a.C_Rack "check_both" a.f_Rack_check_both
 F_Rack_check_there : Fun K "check_there" "Rack.check_there" s_Rack_check_there a.f_Rack_check_there a.d_Rack_check_there
 b_Rack_check_there : Binds K a.d_Rack_check_there ["self", "plank", "stripe"] []
 k_Rack_check_there : W.keepIn K (.ref a.f_Rack_check_there) = true
 me_Rack_check_there : Meth K a.C_Rack "check_there" a.f_Rack_check_there
 F_cell_at : Fun K "_law_cell_at" "_law_cell_at" s_cell_at a.f_cell_at a.d_cell_at
 b_cell_at : Binds K a.d_cell_at ["_law_script", "_law_k"] []
 k_cell_at : W.keepIn K (.ref a.f_cell_at) = true
 m_cell_at : mg "_law_cell_at" = some (.ref a.f_cell_at)
 F_mixed : Fun K "_law_mixed" "_law_mixed" s_mixed a.f_mixed a.d_mixed
 b_mixed : Binds K a.d_mixed ["_law_cell", "_law_k"] []
 k_mixed : W.keepIn K (.ref a.f_mixed) = true
 m_mixed : mg "_law_mixed" = some (.ref a.f_mixed)
 F_stream : Fun K "_law_stream" "_law_stream" s_stream a.f_stream a.d_stream
 b_stream : Binds K a.d_stream ["_law_cell", "_law_many"] []
 k_stream : W.keepIn K (.ref a.f_stream) = true
 m_stream : mg "_law_stream" = some (.ref a.f_stream)
 F_whole : Fun K "_law_whole" "_law_whole" s_whole a.f_whole a.d_whole
 b_whole : Binds K a.d_whole ["_law_found"] []
 k_whole : W.keepIn K (.ref a.f_whole) = true
 m_whole : mg "_law_whole" = some (.ref a.f_whole)
 F_place : Fun K "_law_place" "_law_place" s_place a.f_place a.d_place
 b_place : Binds K a.d_place ["_law_number", "_law_many"] []
 k_place : W.keepIn K (.ref a.f_place) = true
 m_place : mg "_law_place" = some (.ref a.f_place)
 F_cost : Fun K "_law_cost" "_law_cost" s_cost a.f_cost a.d_cost
 b_cost : Binds K a.d_cost ["_law_number"] []
 k_cost : W.keepIn K (.ref a.f_cost) = true
 m_cost : mg "_law_cost" = some (.ref a.f_cost)
 F_do_one : Fun K "_law_do_one" "_law_do_one" s_do_one a.f_do_one a.d_do_one
 b_do_one : Binds K a.d_do_one ["_law_rack", "_law_way", "_law_a"] []
 k_do_one : W.keepIn K (.ref a.f_do_one) = true
 m_do_one : mg "_law_do_one" = some (.ref a.f_do_one)
 F_do_other : Fun K "_law_do_other" "_law_do_other" s_do_other a.f_do_other a.d_do_other
 b_do_other : Binds K a.d_do_other ["_law_rack", "_law_way", "_law_a"] []
 k_do_other : W.keepIn K (.ref a.f_do_other) = true
 m_do_other : mg "_law_do_other" = some (.ref a.f_do_other)
 F_under : Fun K "_law_under" "_law_under" s_under a.f_under a.d_under
 b_under : Binds K a.d_under ["_law_error"] []
 k_under : W.keepIn K (.ref a.f_under) = true
 m_under : mg "_law_under" = some (.ref a.f_under)
 F_told : Fun K "_law_told" "_law_told" s_told a.f_told a.d_told
 b_told : Binds K a.d_told ["_law_rack", "_law_way", "_law_a"] []
 k_told : W.keepIn K (.ref a.f_told) = true
 m_told : mg "_law_told" = some (.ref a.f_told)
 F_built : Fun K "_law_built" "_law_built" s_built a.f_built a.d_built
 b_built : Binds K a.d_built ["_law_xs", "_law_sizes"] []
 k_built : W.keepIn K (.ref a.f_built) = true
 m_built : mg "_law_built" = some (.ref a.f_built)
 F_wrong : Fun K "_law_wrong" "_law_wrong" s_wrong a.f_wrong a.d_wrong
 b_wrong : Binds K a.d_wrong ["_law_board", "_law_way", "_law_stripe"] []
 k_wrong : W.keepIn K (.ref a.f_wrong) = true
 m_wrong : mg "_law_wrong" = some (.ref a.f_wrong)
 F_due : Fun K "_law_due" "_law_due" s_due a.f_due a.d_due
 b_due : Binds K a.d_due ["_law_boards", "_law_sizes", "_law_way", "_law_a", "_law_power"] []
 k_due : W.keepIn K (.ref a.f_due) = true
 m_due : mg "_law_due" = some (.ref a.f_due)
 F_seen : Fun K "_law_seen" "_law_seen" s_seen a.f_seen a.d_seen
 b_seen : Binds K a.d_seen ["_law_rack", "_law_sizes"] []
 k_seen : W.keepIn K (.ref a.f_seen) = true
 m_seen : mg "_law_seen" = some (.ref a.f_seen)
 F_right : Fun K "_law_right" "_law_right" s_right a.f_right a.d_right
 b_right : Binds K a.d_right ["_law_told_here", "_law_due_here"] []
 k_right : W.keepIn K (.ref a.f_right) = true
 m_right : mg "_law_right" = some (.ref a.f_right)
 F_one : Fun K "_law_one" "_law_one" s_one a.f_one a.d_one
 b_one : Binds K a.d_one ["_law_number"] []
 k_one : W.keepIn K (.ref a.f_one) = true
 m_one : mg "_law_one" = some (.ref a.f_one)
 F_made : Fun K "_law_made" "_law_made" s_made a.f_made a.d_made
 b_made : Binds K a.d_made ["_law_number"] []
 k_made : W.keepIn K (.ref a.f_made) = true
 m_made : mg "_law_made" = some (.ref a.f_made)
 F_law : Fun K "law" "law" s_law a.f_law a.d_law
 b_law : Binds K a.d_law ["_law_script"] []
 k_law : W.keepIn K (.ref a.f_law) = true
 m_law : mg "law" = some (.ref a.f_law)
 me_SlowPlank__there : Meth K a.C_SlowPlank "there" a.f_Plank_there
 me_SlowPlank__look_at : Meth K a.C_SlowPlank "look_at" a.f_Plank_look_at
 me_SlowPlank__lay_at : Meth K a.C_SlowPlank "lay_at" a.f_Plank_lay_at
 me_LostPlank__price : Meth K a.C_LostPlank "price" a.f_Plank_price
 me_LostPlank__look_at : Meth K a.C_LostPlank "look_at" a.f_Plank_look_at
 me_SparePlank__price : Meth K a.C_SparePlank "price" a.f_Plank_price
 me_SparePlank__look_at : Meth K a.C_SparePlank "look_at" a.f_Plank_look_at
 me_SparePlank__lay_at : Meth K a.C_SparePlank "lay_at" a.f_Plank_lay_at
 uc_Plank : UCls K a.C_Plank "__init__" a.f_Plank_init
 ty_Plank : TyIn K a.C_Plank
 ty_SlowPlank : TyIn K a.C_SlowPlank
 ty_LostPlank : TyIn K a.C_LostPlank
 ty_SparePlank : TyIn K a.C_SparePlank
 ki_LostPlank_LostPlank : W.kitOne K (.ref a.C_LostPlank) (.ref a.C_LostPlank) = some true
 ki_SparePlank_SparePlank : W.kitOne K (.ref a.C_SparePlank) (.ref a.C_SparePlank) = some true
 kn_Plank_LostPlank : W.kitOne K (.ref a.C_Plank) (.ref a.C_LostPlank) = some false
 kn_Plank_SparePlank : W.kitOne K (.ref a.C_Plank) (.ref a.C_SparePlank) = some false
 kn_SlowPlank_LostPlank : W.kitOne K (.ref a.C_SlowPlank) (.ref a.C_LostPlank) = some false
 kn_SlowPlank_SparePlank : W.kitOne K (.ref a.C_SlowPlank) (.ref a.C_SparePlank) = some false
 kn_LostPlank_SparePlank : W.kitOne K (.ref a.C_LostPlank) (.ref a.C_SparePlank) = some false
 kn_SparePlank_LostPlank : W.kitOne K (.ref a.C_SparePlank) (.ref a.C_LostPlank) = some false
 kt_Plank : W.kitAny K (.ref a.C_Plank) [.ref a.C_LostPlank, .ref a.C_SparePlank] = some false
 kt_SlowPlank : W.kitAny K (.ref a.C_SlowPlank) [.ref a.C_LostPlank, .ref a.C_SparePlank] = some false
 kt_LostPlank : W.kitAny K (.ref a.C_LostPlank) [.ref a.C_LostPlank, .ref a.C_SparePlank] = some true
 kt_SparePlank : W.kitAny K (.ref a.C_SparePlank) [.ref a.C_LostPlank, .ref a.C_SparePlank] = some true
 m_PlankError : mg "PlankError" = some (.ref a.C_PlankError)
 m_NoField : mg "NoField" = some (.ref a.C_NoField)
 m_NoBack : mg "NoBack" = some (.ref a.C_NoBack)
 m_NoCode : mg "NoCode" = some (.ref a.C_NoCode)
 m_NoShape : mg "NoShape" = some (.ref a.C_NoShape)
 m_NoPlace : mg "NoPlace" = some (.ref a.C_NoPlace)
 m_NoBlock : mg "NoBlock" = some (.ref a.C_NoBlock)
 m_Gone : mg "Gone" = some (.ref a.C_Gone)
 m_Standing : mg "Standing" = some (.ref a.C_Standing)
 m_NoPower : mg "NoPower" = some (.ref a.C_NoPower)
 m_WrongPlank : mg "WrongPlank" = some (.ref a.C_WrongPlank)
 m_NoLine : mg "NoLine" = some (.ref a.C_NoLine)
 xc_NoShape : xcIn K a.C_NoShape a.C_PlankError = true
 xi_NoShape : XIn K a.C_NoShape a.C_PlankError
 ko_NoShape_PlankError : W.kitOne K (.ref a.C_NoShape) (.ref a.C_PlankError) = some true
 ex_NoShape_NoShape : W.exmOne K (.ref a.C_NoShape) (.ref a.C_NoShape) = some true
 ex_NoShape_NoPlace : W.exmOne K (.ref a.C_NoShape) (.ref a.C_NoPlace) = some false
 ex_NoShape_NoPower : W.exmOne K (.ref a.C_NoShape) (.ref a.C_NoPower) = some false
 ex_NoShape_WrongPlank : W.exmOne K (.ref a.C_NoShape) (.ref a.C_WrongPlank) = some false
 kv_NoShape : W.kitOne K (.ref a.C_NoShape) (.type "ValueError") = some true
 ka_NoShape_0 : W.kitAny K (.ref a.C_NoShape) [.ref a.C_NoField, .ref a.C_NoBack, .ref a.C_NoCode, .ref a.C_NoBlock, .ref a.C_Gone, .ref a.C_Standing, .ref a.C_NoLine] = some false
 xm_NoPlace : XMk K a.C_NoPlace a.f_NoPlace_init
 xs_NoPlace : XSet K a.C_NoPlace
 no_NoPlace_place : NoAttr K a.C_NoPlace "place"
 xi_NoPlace : XIn K a.C_NoPlace a.C_PlankError
 ko_NoPlace_PlankError : W.kitOne K (.ref a.C_NoPlace) (.ref a.C_PlankError) = some true
 ex_NoPlace_NoPlace : W.exmOne K (.ref a.C_NoPlace) (.ref a.C_NoPlace) = some true
 kv_NoPlace : W.kitOne K (.ref a.C_NoPlace) (.type "ValueError") = some true
 ka_NoPlace_0 : W.kitAny K (.ref a.C_NoPlace) [.ref a.C_NoField, .ref a.C_NoBack, .ref a.C_NoCode, .ref a.C_NoBlock, .ref a.C_Gone, .ref a.C_Standing, .ref a.C_NoLine] = some false
 ka_NoPlace_1 : W.kitAny K (.ref a.C_NoPlace) [.ref a.C_NoPower, .ref a.C_NoShape, .ref a.C_WrongPlank] = some false
 xc_NoPower : xcIn K a.C_NoPower a.C_PlankError = true
 xi_NoPower : XIn K a.C_NoPower a.C_PlankError
 ko_NoPower_PlankError : W.kitOne K (.ref a.C_NoPower) (.ref a.C_PlankError) = some true
 ko_NoPower_NoShape : W.kitOne K (.ref a.C_NoPower) (.ref a.C_NoShape) = some false
 ex_NoPower_NoPlace : W.exmOne K (.ref a.C_NoPower) (.ref a.C_NoPlace) = some false
 ex_NoPower_NoPower : W.exmOne K (.ref a.C_NoPower) (.ref a.C_NoPower) = some true
 ex_NoPower_WrongPlank : W.exmOne K (.ref a.C_NoPower) (.ref a.C_WrongPlank) = some false
 kv_NoPower : W.kitOne K (.ref a.C_NoPower) (.type "ValueError") = some true
 ka_NoPower_0 : W.kitAny K (.ref a.C_NoPower) [.ref a.C_NoField, .ref a.C_NoBack, .ref a.C_NoCode, .ref a.C_NoBlock, .ref a.C_Gone, .ref a.C_Standing, .ref a.C_NoLine] = some false
 xm_WrongPlank : XMk K a.C_WrongPlank a.f_WrongPlank_init
 xs_WrongPlank : XSet K a.C_WrongPlank
 no_WrongPlank_plank : NoAttr K a.C_WrongPlank "plank"
 xi_WrongPlank : XIn K a.C_WrongPlank a.C_PlankError
 ko_WrongPlank_PlankError : W.kitOne K (.ref a.C_WrongPlank) (.ref a.C_PlankError) = some true
 ex_WrongPlank_NoPlace : W.exmOne K (.ref a.C_WrongPlank) (.ref a.C_NoPlace) = some false
 ex_WrongPlank_WrongPlank : W.exmOne K (.ref a.C_WrongPlank) (.ref a.C_WrongPlank) = some true
 kv_WrongPlank : W.kitOne K (.ref a.C_WrongPlank) (.type "ValueError") = some true
 ka_WrongPlank_0 : W.kitAny K (.ref a.C_WrongPlank) [.ref a.C_NoField, .ref a.C_NoBack, .ref a.C_NoCode, .ref a.C_NoBlock, .ref a.C_Gone, .ref a.C_Standing, .ref a.C_NoLine] = some false
 ka_WrongPlank_1 : W.kitAny K (.ref a.C_WrongPlank) [.ref a.C_NoPower, .ref a.C_NoShape] = some false
 xu : XUp K a.C_PlankError
 n_list : mg "list" = none
 n_range : mg "range" = none
 n_isinstance : mg "isinstance" = none
 n_enumerate : mg "enumerate" = none
 n_len : mg "len" = none
 n_int : mg "int" = none
 n_bool : mg "bool" = none
 n_ValueError : mg "ValueError" = none
 n_max : mg "max" = none
 n_min : mg "min" = none
 v_LEAST_PLANKS : mg "LEAST_PLANKS" = some (.int 2 a.t_LEAST_PLANKS)
 v_MOST_PLANKS : mg "MOST_PLANKS" = some (.int 8 a.t_MOST_PLANKS)
 v_MOST_STRIPES : mg "MOST_STRIPES" = some (.int 32 a.t_MOST_STRIPES)
 v_MOST_SLOTS : mg "MOST_SLOTS" = some (.int 8 a.t_MOST_SLOTS)
 v_LEAST_COST : mg "LEAST_COST" = some (.int 2 a.t_LEAST_COST)
 v_MOST_COST : mg "MOST_COST" = some (.int 9 a.t_MOST_COST)
theorem txt_mk {K : W.Frag} {h : Heap} {mg : Str -> Option Value} {z0 z1 z2 z3 z4 z5 z6 z7 z8 z9 z10 z11 z12 z13 z14 z15 z16 z17 z18 z19 z20 z21 z22 z23 z24 z25 z26 z27 z28 z29 z30 z31 z32 z33 z34 z35 z36 z37 z38 z39 z40 z41 z42 z43 z44 z45 z46 z47 z48 z49 z50 z51 z52 z53 z54 z55 z56 z57 z58 z59 z60 z61 z62 z63 z64 z65 z66 z67 z68 z69 z70 z71 z72 z73 z74 z75 z76 z77 z78 z79 z80 z81 : Addr} (X : K.In h) (G : h.Ns mainGlobals mg)
  {z82 z83 z84 z85 z86 z87 : Tok} {z88 z89 : Option Addr} {z90 : Array (Option Value)} {z91 z92 z93 z94 z95 z96 : Value}
  {z97 z98 : Option Addr} {z99 : Array (Option Value)} {z100 z101 z102 z103 z104 z105 : Value}
  {z106 z107 : Option Addr} {z108 : Array (Option Value)} {z109 z110 z111 z112 z113 z114 : Value}
  {z115 z116 : Option Addr} {z117 : Array (Option Value)} {z118 z119 z120 z121 z122 z123 : Value}
  {z124 z125 : Option Addr} {z126 : Array (Option Value)} {z127 z128 z129 z130 z131 z132 : Value}
  {z133 z134 : Option Addr} {z135 : Array (Option Value)} {z136 z137 z138 z139 z140 z141 : Value}
  {z142 z143 : Option Addr} {z144 : Array (Option Value)} {z145 z146 z147 z148 z149 z150 : Value}
  {z151 z152 : Option Addr} {z153 : Array (Option Value)} {z154 z155 z156 z157 z158 z159 : Value}
  {z160 z161 : Option Addr} {z162 : Array (Option Value)} {z163 z164 z165 z166 z167 z168 : Value}
  {z169 z170 : Option Addr} {z171 : Array (Option Value)} {z172 z173 z174 z175 z176 z177 : Value}
  {z178 z179 : Option Addr} {z180 : Array (Option Value)} {z181 z182 z183 z184 z185 z186 : Value}
  {z187 z188 : Option Addr} {z189 : Array (Option Value)} {z190 z191 z192 z193 z194 z195 : Value}
  {z196 z197 : Option Addr} {z198 : Array (Option Value)} {z199 z200 z201 z202 z203 z204 : Value}
  {z205 z206 : Option Addr} {z207 : Array (Option Value)} {z208 z209 z210 z211 z212 z213 : Value}
  {z214 z215 : Option Addr} {z216 : Array (Option Value)} {z217 z218 z219 z220 z221 z222 : Value}
  {z223 z224 : Option Addr} {z225 : Array (Option Value)} {z226 z227 z228 z229 z230 z231 : Value}
  {z232 z233 : Option Addr} {z234 : Array (Option Value)} {z235 z236 z237 z238 z239 z240 : Value}
  {z241 z242 : Option Addr} {z243 : Array (Option Value)} {z244 z245 z246 z247 z248 z249 : Value}
  {z250 z251 : Option Addr} {z252 : Array (Option Value)} {z253 z254 z255 z256 z257 z258 : Value}
  {z259 z260 : Option Addr} {z261 : Array (Option Value)} {z262 z263 z264 z265 z266 z267 : Value}
  {z268 z269 : Option Addr} {z270 : Array (Option Value)} {z271 z272 z273 z274 z275 z276 : Value}
  {z277 z278 : Option Addr} {z279 : Array (Option Value)} {z280 z281 z282 z283 z284 z285 : Value}
  {z286 : Addr} {z287 : Value} {z288 : Option Addr} {z289 : Nat} {z290 : Array (Option Value)}
  {z291 z292 : Option Addr} {z293 : Array (Option Value)} {z294 z295 z296 z297 z298 z299 : Value}
  {z300 z301 : Option Addr} {z302 : Array (Option Value)} {z303 z304 z305 z306 z307 z308 : Value}
  {z309 z310 : Option Addr} {z311 : Array (Option Value)} {z312 z313 z314 z315 z316 z317 : Value}
  {z318 z319 : Option Addr} {z320 : Array (Option Value)} {z321 z322 z323 z324 z325 z326 : Value}
  {z327 : Addr} {z328 : Value} {z329 : Option Addr} {z330 : Nat} {z331 : Array (Option Value)}
  {z332 z333 : Option Addr} {z334 : Array (Option Value)} {z335 z336 z337 z338 z339 z340 : Value}
  {z341 z342 : Option Addr} {z343 : Array (Option Value)} {z344 z345 z346 z347 z348 z349 : Value}
  {z350 z351 : Option Addr} {z352 : Array (Option Value)} {z353 z354 z355 z356 z357 z358 : Value}
  {z359 z360 : Option Addr} {z361 : Array (Option Value)} {z362 z363 z364 z365 z366 z367 : Value}
  {z368 z369 : Option Addr} {z370 : Array (Option Value)} {z371 z372 z373 z374 z375 z376 : Value}
  {z377 z378 : Option Addr} {z379 : Array (Option Value)} {z380 z381 z382 z383 z384 z385 : Value}
  {z386 z387 : Option Addr} {z388 : Array (Option Value)} {z389 z390 z391 z392 z393 z394 : Value}
  {z395 z396 : Option Addr} {z397 : Array (Option Value)} {z398 z399 z400 z401 z402 z403 : Value}
  {z404 z405 : Option Addr} {z406 : Array (Option Value)} {z407 z408 z409 z410 z411 z412 : Value}
  {z413 z414 : Option Addr} {z415 : Array (Option Value)} {z416 z417 z418 z419 z420 z421 : Value}
  {z422 z423 : Option Addr} {z424 : Array (Option Value)} {z425 z426 z427 z428 z429 z430 : Value}
  {z431 z432 : Option Addr} {z433 : Array (Option Value)} {z434 z435 z436 z437 z438 z439 : Value}
  {z440 z441 : Option Addr} {z442 : Array (Option Value)} {z443 z444 z445 z446 z447 z448 : Value}
  {z449 z450 : Option Addr} {z451 : Array (Option Value)} {z452 z453 z454 z455 z456 z457 : Value}
  {z458 z459 : Option Addr} {z460 : Array (Option Value)} {z461 z462 z463 z464 z465 z466 : Value}
  {z467 z468 : Option Addr} {z469 : Array (Option Value)} {z470 z471 z472 z473 z474 z475 : Value}
  {z476 z477 : Option Addr} {z478 : Array (Option Value)} {z479 z480 z481 z482 z483 z484 : Value}
  {z485 z486 : Option Addr} {z487 : Array (Option Value)} {z488 z489 z490 z491 z492 z493 : Value}
  {z494 z495 : Option Addr} {z496 : Array (Option Value)} {z497 z498 z499 z500 z501 z502 : Value}
  {z503 z504 : Option Addr} {z505 : Array (Option Value)} {z506 z507 z508 z509 z510 z511 : Value}
  {z512 z513 : Option Addr} {z514 : Array (Option Value)} {z515 z516 z517 z518 z519 z520 : Value}
  {z521 z522 : Option Addr} {z523 : Array (Option Value)} {z524 z525 z526 z527 z528 z529 : Value}
  {z530 z531 : Option Addr} {z532 : Array (Option Value)} {z533 z534 z535 z536 z537 z538 : Value}
  {z539 z540 : Option Addr} {z541 : Array (Option Value)} {z542 z543 z544 z545 z546 z547 : Value}
  {z548 z549 : Option Addr} {z550 : Array (Option Value)} {z551 z552 z553 z554 z555 z556 : Value}
  {z557 z558 : Option Addr} {z559 : Array (Option Value)} {z560 z561 z562 z563 z564 z565 : Value}
  {z566 z567 : Option Addr} {z568 : Array (Option Value)} {z569 z570 z571 z572 z573 z574 : Value}
  {z575 z576 : Option Addr} {z577 : Array (Option Value)} {z578 z579 z580 z581 z582 z583 : Value}
  {z584 z585 : Option Addr} {z586 : Array (Option Value)} {z587 z588 z589 z590 z591 z592 : Value}
  {z593 z594 : Option Addr} {z595 : Array (Option Value)} {z596 z597 z598 z599 z600 z601 : Value}
  {z602 z603 : Option Addr} {z604 : Array (Option Value)} {z605 z606 z607 z608 z609 z610 : Value}
  {z611 z612 : Option Addr} {z613 : Array (Option Value)} {z614 z615 z616 z617 z618 z619 : Value}
  {z620 z621 : Option Addr} {z622 : Array (Option Value)} {z623 z624 z625 z626 z627 z628 : Value}
  {z629 z630 : Option Addr} {z631 : Array (Option Value)} {z632 z633 z634 z635 z636 z637 : Value}
  {z638 z639 : Option Addr} {z640 : Array (Option Value)} {z641 z642 z643 z644 z645 z646 : Value}
  {z647 z648 : Option Addr} {z649 : Array (Option Value)} {z650 z651 z652 z653 z654 z655 : Value}
  {z656 z657 : Option Addr} {z658 : Array (Option Value)} {z659 z660 z661 z662 z663 z664 : Value}
  {z665 z666 : Option Addr} {z667 : Array (Option Value)} {z668 z669 z670 z671 z672 z673 : Value}
  {z674 z675 : Option Addr} {z676 : Array (Option Value)} {z677 z678 z679 z680 z681 z682 : Value}
  (z683 : W.nsIn K mainGlobals "Plank" = some (some (.ref z0)))
  (z684 : W.plainGet K z0 Str.empty = true)
  (z685 : W.hasDictIn K z0 = true)
  (z686 : W.plainOver K z0 = true)
  (z687 : W.findIn K (.ref z0) "__setattr__" = some (some (.builtin "object.__setattr__")))
  (z688 : W.findIn K (.ref z0) "held" = some none)
  (z689 : W.makesIn K z0 = true)
  (z690 : W.keepIn K (.ref z0) = true)
  (z691 : W.nsIn K mainGlobals "SlowPlank" = some (some (.ref z1)))
  (z692 : W.plainGet K z1 Str.empty = true)
  (z693 : W.hasDictIn K z1 = true)
  (z694 : W.plainOver K z1 = true)
  (z695 : W.findIn K (.ref z1) "__setattr__" = some (some (.builtin "object.__setattr__")))
  (z696 : W.findIn K (.ref z1) "held" = some none)
  (z697 : W.findIn K (.ref z1) "cost" = some none)
  (z698 : W.makesIn K z1 = true)
  (z699 : W.keepIn K (.ref z1) = true)
  (z700 : W.nsIn K mainGlobals "LostPlank" = some (some (.ref z2)))
  (z701 : W.plainGet K z2 Str.empty = true)
  (z702 : W.hasDictIn K z2 = true)
  (z703 : W.plainOver K z2 = true)
  (z704 : W.findIn K (.ref z2) "__setattr__" = some (some (.builtin "object.__setattr__")))
  (z705 : W.findIn K (.ref z2) "held" = some none)
  (z706 : W.makesIn K z2 = true)
  (z707 : W.keepIn K (.ref z2) = true)
  (z708 : W.nsIn K mainGlobals "SparePlank" = some (some (.ref z3)))
  (z709 : W.plainGet K z3 Str.empty = true)
  (z710 : W.hasDictIn K z3 = true)
  (z711 : W.plainOver K z3 = true)
  (z712 : W.findIn K (.ref z3) "__setattr__" = some (some (.builtin "object.__setattr__")))
  (z713 : W.findIn K (.ref z3) "held" = some none)
  (z714 : W.findIn K (.ref z3) "mark" = some none)
  (z715 : W.makesIn K z3 = true)
  (z716 : W.keepIn K (.ref z3) = true)
  (z717 : W.nsIn K mainGlobals "Rack" = some (some (.ref z4)))
  (z718 : W.plainGet K z4 Str.empty = true)
  (z719 : W.hasDictIn K z4 = true)
  (z720 : W.plainOver K z4 = true)
  (z721 : W.findIn K (.ref z4) "__setattr__" = some (some (.builtin "object.__setattr__")))
  (z722 : W.findIn K (.ref z4) "planks" = some none)
  (z723 : W.findIn K (.ref z4) "stripes" = some none)
  (z724 : W.findIn K (.ref z4) "slots" = some none)
  (z725 : W.findIn K (.ref z4) "shelf" = some none)
  (z726 : W.findIn K (.ref z4) "slate" = some none)
  (z727 : W.findIn K (.ref z4) "left" = some none)
  (z728 : W.findIn K (.ref z4) "gone" = some none)
  (z729 : W.findIn K (.ref z4) "done" = some none)
  (z730 : W.makesIn K z4 = true)
  (z731 : W.keepIn K (.ref z4) = true)
  (z732 : W.nsIn K mainGlobals "PlankError" = some (some (.ref z5)))
  (z733 : W.nsIn K mainGlobals "NoField" = some (some (.ref z6)))
  (z734 : W.nsIn K mainGlobals "NoBack" = some (some (.ref z7)))
  (z735 : W.nsIn K mainGlobals "NoCode" = some (some (.ref z8)))
  (z736 : W.nsIn K mainGlobals "NoShape" = some (some (.ref z9)))
  (z737 : W.nsIn K mainGlobals "NoPlace" = some (some (.ref z10)))
  (z738 : W.nsIn K mainGlobals "NoBlock" = some (some (.ref z11)))
  (z739 : W.nsIn K mainGlobals "Gone" = some (some (.ref z12)))
  (z740 : W.nsIn K mainGlobals "Standing" = some (some (.ref z13)))
  (z741 : W.nsIn K mainGlobals "NoPower" = some (some (.ref z14)))
  (z742 : W.nsIn K mainGlobals "WrongPlank" = some (some (.ref z15)))
  (z743 : W.nsIn K mainGlobals "NoLine" = some (some (.ref z16)))
  (z744 : W.findIn K (.ref z10) "__init__" = some (some (.ref z17)))
  (z745 : W.isFn K (.ref z17) = true)
  (z746 : K.lookup z17 = some ⟨z91, z88, .func (W.fnOf "__init__" "NoPlace.__init__" (defArgs s_NoPlace_init) (defBody s_NoPlace_init) (defScope s_NoPlace_init) .none z92 z93 z94 z89 z95 z96), z90⟩)
  (z747 : W.codeIn K z95 "NoPlace.__init__" = true)
  (z748 : W.keepIn K (.ref z17) = true)
  (z749 : W.findIn K (.ref z15) "__init__" = some (some (.ref z18)))
  (z750 : W.isFn K (.ref z18) = true)
  (z751 : K.lookup z18 = some ⟨z100, z97, .func (W.fnOf "__init__" "WrongPlank.__init__" (defArgs s_WrongPlank_init) (defBody s_WrongPlank_init) (defScope s_WrongPlank_init) .none z101 z102 z103 z98 z104 z105), z99⟩)
  (z752 : W.codeIn K z104 "WrongPlank.__init__" = true)
  (z753 : W.keepIn K (.ref z18) = true)
  (z754 : W.findIn K (.ref z0) "__init__" = some (some (.ref z19)))
  (z755 : W.isFn K (.ref z19) = true)
  (z756 : K.lookup z19 = some ⟨z109, z106, .func (W.fnOf "__init__" "Plank.__init__" (defArgs s_Plank_init) (defBody s_Plank_init) (defScope s_Plank_init) .none z110 z111 z112 z107 z113 z114), z108⟩)
  (z757 : W.codeIn K z113 "Plank.__init__" = true)
  (z758 : W.keepIn K (.ref z19) = true)
  (z759 : W.findIn K (.ref z0) "there" = some (some (.ref z20)))
  (z760 : W.isFn K (.ref z20) = true)
  (z761 : K.lookup z20 = some ⟨z118, z115, .func (W.fnOf "there" "Plank.there" (defArgs s_Plank_there) (defBody s_Plank_there) (defScope s_Plank_there) .none z119 z120 z121 z116 z122 z123), z117⟩)
  (z762 : W.codeIn K z122 "Plank.there" = true)
  (z763 : W.keepIn K (.ref z20) = true)
  (z764 : W.findIn K (.ref z0) "price" = some (some (.ref z21)))
  (z765 : W.isFn K (.ref z21) = true)
  (z766 : K.lookup z21 = some ⟨z127, z124, .func (W.fnOf "price" "Plank.price" (defArgs s_Plank_price) (defBody s_Plank_price) (defScope s_Plank_price) .none z128 z129 z130 z125 z131 z132), z126⟩)
  (z767 : W.codeIn K z131 "Plank.price" = true)
  (z768 : W.keepIn K (.ref z21) = true)
  (z769 : W.findIn K (.ref z0) "word" = some (some (.ref z22)))
  (z770 : W.isFn K (.ref z22) = true)
  (z771 : K.lookup z22 = some ⟨z136, z133, .func (W.fnOf "word" "Plank.word" (defArgs s_Plank_word) (defBody s_Plank_word) (defScope s_Plank_word) .none z137 z138 z139 z134 z140 z141), z135⟩)
  (z772 : W.codeIn K z140 "Plank.word" = true)
  (z773 : W.keepIn K (.ref z22) = true)
  (z774 : W.findIn K (.ref z0) "look_at" = some (some (.ref z23)))
  (z775 : W.isFn K (.ref z23) = true)
  (z776 : K.lookup z23 = some ⟨z145, z142, .func (W.fnOf "look_at" "Plank.look_at" (defArgs s_Plank_look_at) (defBody s_Plank_look_at) (defScope s_Plank_look_at) .none z146 z147 z148 z143 z149 z150), z144⟩)
  (z777 : W.codeIn K z149 "Plank.look_at" = true)
  (z778 : W.keepIn K (.ref z23) = true)
  (z779 : W.findIn K (.ref z0) "lay_at" = some (some (.ref z24)))
  (z780 : W.isFn K (.ref z24) = true)
  (z781 : K.lookup z24 = some ⟨z154, z151, .func (W.fnOf "lay_at" "Plank.lay_at" (defArgs s_Plank_lay_at) (defBody s_Plank_lay_at) (defScope s_Plank_lay_at) .none z155 z156 z157 z152 z158 z159), z153⟩)
  (z782 : W.codeIn K z158 "Plank.lay_at" = true)
  (z783 : W.keepIn K (.ref z24) = true)
  (z784 : W.findIn K (.ref z1) "__init__" = some (some (.ref z25)))
  (z785 : W.isFn K (.ref z25) = true)
  (z786 : K.lookup z25 = some ⟨z163, z160, .func (W.fnOf "__init__" "SlowPlank.__init__" (defArgs s_SlowPlank_init) (defBody s_SlowPlank_init) (defScope s_SlowPlank_init) .none z164 z165 z166 z161 z167 z168), z162⟩)
  (z787 : W.codeIn K z167 "SlowPlank.__init__" = true)
  (z788 : W.keepIn K (.ref z25) = true)
  (z789 : W.findIn K (.ref z1) "price" = some (some (.ref z26)))
  (z790 : W.isFn K (.ref z26) = true)
  (z791 : K.lookup z26 = some ⟨z172, z169, .func (W.fnOf "price" "SlowPlank.price" (defArgs s_SlowPlank_price) (defBody s_SlowPlank_price) (defScope s_SlowPlank_price) .none z173 z174 z175 z170 z176 z177), z171⟩)
  (z792 : W.codeIn K z176 "SlowPlank.price" = true)
  (z793 : W.keepIn K (.ref z26) = true)
  (z794 : W.findIn K (.ref z1) "word" = some (some (.ref z27)))
  (z795 : W.isFn K (.ref z27) = true)
  (z796 : K.lookup z27 = some ⟨z181, z178, .func (W.fnOf "word" "SlowPlank.word" (defArgs s_SlowPlank_word) (defBody s_SlowPlank_word) (defScope s_SlowPlank_word) .none z182 z183 z184 z179 z185 z186), z180⟩)
  (z797 : W.codeIn K z185 "SlowPlank.word" = true)
  (z798 : W.keepIn K (.ref z27) = true)
  (z799 : W.findIn K (.ref z2) "__init__" = some (some (.ref z28)))
  (z800 : W.isFn K (.ref z28) = true)
  (z801 : K.lookup z28 = some ⟨z190, z187, .func (W.fnOf "__init__" "LostPlank.__init__" (defArgs s_LostPlank_init) (defBody s_LostPlank_init) (defScope s_LostPlank_init) .none z191 z192 z193 z188 z194 z195), z189⟩)
  (z802 : W.codeIn K z194 "LostPlank.__init__" = true)
  (z803 : W.keepIn K (.ref z28) = true)
  (z804 : W.findIn K (.ref z2) "there" = some (some (.ref z29)))
  (z805 : W.isFn K (.ref z29) = true)
  (z806 : K.lookup z29 = some ⟨z199, z196, .func (W.fnOf "there" "LostPlank.there" (defArgs s_LostPlank_there) (defBody s_LostPlank_there) (defScope s_LostPlank_there) .none z200 z201 z202 z197 z203 z204), z198⟩)
  (z807 : W.codeIn K z203 "LostPlank.there" = true)
  (z808 : W.keepIn K (.ref z29) = true)
  (z809 : W.findIn K (.ref z2) "word" = some (some (.ref z30)))
  (z810 : W.isFn K (.ref z30) = true)
  (z811 : K.lookup z30 = some ⟨z208, z205, .func (W.fnOf "word" "LostPlank.word" (defArgs s_LostPlank_word) (defBody s_LostPlank_word) (defScope s_LostPlank_word) .none z209 z210 z211 z206 z212 z213), z207⟩)
  (z812 : W.codeIn K z212 "LostPlank.word" = true)
  (z813 : W.keepIn K (.ref z30) = true)
  (z814 : W.findIn K (.ref z2) "lay_at" = some (some (.ref z31)))
  (z815 : W.isFn K (.ref z31) = true)
  (z816 : K.lookup z31 = some ⟨z217, z214, .func (W.fnOf "lay_at" "LostPlank.lay_at" (defArgs s_LostPlank_lay_at) (defBody s_LostPlank_lay_at) (defScope s_LostPlank_lay_at) .none z218 z219 z220 z215 z221 z222), z216⟩)
  (z817 : W.codeIn K z221 "LostPlank.lay_at" = true)
  (z818 : W.keepIn K (.ref z31) = true)
  (z819 : W.findIn K (.ref z3) "__init__" = some (some (.ref z32)))
  (z820 : W.isFn K (.ref z32) = true)
  (z821 : K.lookup z32 = some ⟨z226, z223, .func (W.fnOf "__init__" "SparePlank.__init__" (defArgs s_SparePlank_init) (defBody s_SparePlank_init) (defScope s_SparePlank_init) .none z227 z228 z229 z224 z230 z231), z225⟩)
  (z822 : W.codeIn K z230 "SparePlank.__init__" = true)
  (z823 : W.keepIn K (.ref z32) = true)
  (z824 : W.findIn K (.ref z3) "there" = some (some (.ref z33)))
  (z825 : W.isFn K (.ref z33) = true)
  (z826 : K.lookup z33 = some ⟨z235, z232, .func (W.fnOf "there" "SparePlank.there" (defArgs s_SparePlank_there) (defBody s_SparePlank_there) (defScope s_SparePlank_there) .none z236 z237 z238 z233 z239 z240), z234⟩)
  (z827 : W.codeIn K z239 "SparePlank.there" = true)
  (z828 : W.keepIn K (.ref z33) = true)
  (z829 : W.findIn K (.ref z3) "word" = some (some (.ref z34)))
  (z830 : W.isFn K (.ref z34) = true)
  (z831 : K.lookup z34 = some ⟨z244, z241, .func (W.fnOf "word" "SparePlank.word" (defArgs s_SparePlank_word) (defBody s_SparePlank_word) (defScope s_SparePlank_word) .none z245 z246 z247 z242 z248 z249), z243⟩)
  (z832 : W.codeIn K z248 "SparePlank.word" = true)
  (z833 : W.keepIn K (.ref z34) = true)
  (z834 : W.findIn K (.ref z3) "move" = some (some (.ref z35)))
  (z835 : W.isFn K (.ref z35) = true)
  (z836 : K.lookup z35 = some ⟨z253, z250, .func (W.fnOf "move" "SparePlank.move" (defArgs s_SparePlank_move) (defBody s_SparePlank_move) (defScope s_SparePlank_move) .none z254 z255 z256 z251 z257 z258), z252⟩)
  (z837 : W.codeIn K z257 "SparePlank.move" = true)
  (z838 : W.keepIn K (.ref z35) = true)
  (z839 : W.nsIn K mainGlobals "check_bounds" = some (some (.ref z36)))
  (z840 : K.lookup z36 = some ⟨z262, z259, .func (W.fnOf "check_bounds" "check_bounds" (defArgs s_check_bounds) (defBody s_check_bounds) (defScope s_check_bounds) .none z263 z264 z265 z260 z266 z267), z261⟩)
  (z841 : W.codeIn K z266 "check_bounds" = true)
  (z842 : W.keepIn K (.ref z36) = true)
  (z843 : W.findIn K (.ref z4) "__init__" = some (some (.ref z37)))
  (z844 : W.isFn K (.ref z37) = true)
  (z845 : K.lookup z37 = some ⟨z271, z268, .func (W.fnOf "__init__" "Rack.__init__" (defArgs s_Rack_init) (defBody s_Rack_init) (defScope s_Rack_init) .none z272 z273 z274 z269 z275 z276), z270⟩)
  (z846 : W.codeIn K z275 "Rack.__init__" = true)
  (z847 : W.keepIn K (.ref z37) = true)
  (z848 : W.findIn K (.ref z4) "lose" = some (some (.ref z38)))
  (z849 : W.isFn K (.ref z38) = true)
  (z850 : K.lookup z38 = some ⟨z280, z277, .func (W.fnOf "lose" "Rack.lose" (defArgs s_Rack_lose) (defBody s_Rack_lose) (defScope s_Rack_lose) .none z281 z282 z283 z278 z284 z285), z279⟩)
  (z851 : W.codeIn K z284 "Rack.lose" = true)
  (z852 : W.keepIn K (.ref z38) = true)
  (z853 : W.findIn K (.ref z4) "put_spare" = some (some (.ref z39)))
  (z854 : W.isFn K (.ref z39) = true)
  (z855 : K.lookup z39 = some ⟨z294, z291, .func (W.fnOf "put_spare" "Rack.put_spare" (defArgs s_Rack_put_spare) (defBody s_Rack_put_spare) (defScope s_Rack_put_spare) (.ref z286) z295 z296 z297 z292 z298 z299), z293⟩)
  (z856 : K.lookup z286 = some ⟨z287, z288, .seq [Value.none].toArray z289, z290⟩)
  (z857 : W.codeIn K z298 "Rack.put_spare" = true)
  (z858 : W.keepIn K (.ref z39) = true)
  (z859 : W.findIn K (.ref z4) "make_slow" = some (some (.ref z40)))
  (z860 : W.isFn K (.ref z40) = true)
  (z861 : K.lookup z40 = some ⟨z303, z300, .func (W.fnOf "make_slow" "Rack.make_slow" (defArgs s_Rack_make_slow) (defBody s_Rack_make_slow) (defScope s_Rack_make_slow) .none z304 z305 z306 z301 z307 z308), z302⟩)
  (z862 : W.codeIn K z307 "Rack.make_slow" = true)
  (z863 : W.keepIn K (.ref z40) = true)
  (z864 : W.findIn K (.ref z4) "spoil" = some (some (.ref z41)))
  (z865 : W.isFn K (.ref z41) = true)
  (z866 : K.lookup z41 = some ⟨z312, z309, .func (W.fnOf "spoil" "Rack.spoil" (defArgs s_Rack_spoil) (defBody s_Rack_spoil) (defScope s_Rack_spoil) .none z313 z314 z315 z310 z316 z317), z311⟩)
  (z867 : W.codeIn K z316 "Rack.spoil" = true)
  (z868 : W.keepIn K (.ref z41) = true)
  (z869 : W.findIn K (.ref z4) "lie" = some (some (.ref z42)))
  (z870 : W.isFn K (.ref z42) = true)
  (z871 : K.lookup z42 = some ⟨z321, z318, .func (W.fnOf "lie" "Rack.lie" (defArgs s_Rack_lie) (defBody s_Rack_lie) (defScope s_Rack_lie) .none z322 z323 z324 z319 z325 z326), z320⟩)
  (z872 : W.codeIn K z325 "Rack.lie" = true)
  (z873 : W.keepIn K (.ref z42) = true)
  (z874 : W.findIn K (.ref z4) "supply" = some (some (.ref z43)))
  (z875 : W.isFn K (.ref z43) = true)
  (z876 : K.lookup z43 = some ⟨z335, z332, .func (W.fnOf "supply" "Rack.supply" (defArgs s_Rack_supply) (defBody s_Rack_supply) (defScope s_Rack_supply) (.ref z327) z336 z337 z338 z333 z339 z340), z334⟩)
  (z877 : K.lookup z327 = some ⟨z328, z329, .seq [Value.none].toArray z330, z331⟩)
  (z878 : W.codeIn K z339 "Rack.supply" = true)
  (z879 : W.keepIn K (.ref z43) = true)
  (z880 : W.findIn K (.ref z4) "peek" = some (some (.ref z44)))
  (z881 : W.isFn K (.ref z44) = true)
  (z882 : K.lookup z44 = some ⟨z344, z341, .func (W.fnOf "peek" "Rack.peek" (defArgs s_Rack_peek) (defBody s_Rack_peek) (defScope s_Rack_peek) .none z345 z346 z347 z342 z348 z349), z343⟩)
  (z883 : W.codeIn K z348 "Rack.peek" = true)
  (z884 : W.keepIn K (.ref z44) = true)
  (z885 : W.findIn K (.ref z4) "kind_of" = some (some (.ref z45)))
  (z886 : W.isFn K (.ref z45) = true)
  (z887 : K.lookup z45 = some ⟨z353, z350, .func (W.fnOf "kind_of" "Rack.kind_of" (defArgs s_Rack_kind_of) (defBody s_Rack_kind_of) (defScope s_Rack_kind_of) .none z354 z355 z356 z351 z357 z358), z352⟩)
  (z888 : W.codeIn K z357 "Rack.kind_of" = true)
  (z889 : W.keepIn K (.ref z45) = true)
  (z890 : W.findIn K (.ref z4) "cost_of" = some (some (.ref z46)))
  (z891 : W.isFn K (.ref z46) = true)
  (z892 : K.lookup z46 = some ⟨z362, z359, .func (W.fnOf "cost_of" "Rack.cost_of" (defArgs s_Rack_cost_of) (defBody s_Rack_cost_of) (defScope s_Rack_cost_of) .none z363 z364 z365 z360 z366 z367), z361⟩)
  (z893 : W.codeIn K z366 "Rack.cost_of" = true)
  (z894 : W.keepIn K (.ref z46) = true)
  (z895 : W.findIn K (.ref z4) "mark_of" = some (some (.ref z47)))
  (z896 : W.isFn K (.ref z47) = true)
  (z897 : K.lookup z47 = some ⟨z371, z368, .func (W.fnOf "mark_of" "Rack.mark_of" (defArgs s_Rack_mark_of) (defBody s_Rack_mark_of) (defScope s_Rack_mark_of) .none z372 z373 z374 z369 z375 z376), z370⟩)
  (z898 : W.codeIn K z375 "Rack.mark_of" = true)
  (z899 : W.keepIn K (.ref z47) = true)
  (z900 : W.findIn K (.ref z4) "there" = some (some (.ref z48)))
  (z901 : W.isFn K (.ref z48) = true)
  (z902 : K.lookup z48 = some ⟨z380, z377, .func (W.fnOf "there" "Rack.there" (defArgs s_Rack_there) (defBody s_Rack_there) (defScope s_Rack_there) .none z381 z382 z383 z378 z384 z385), z379⟩)
  (z903 : W.codeIn K z384 "Rack.there" = true)
  (z904 : W.keepIn K (.ref z48) = true)
  (z905 : W.findIn K (.ref z4) "has_power" = some (some (.ref z49)))
  (z906 : W.isFn K (.ref z49) = true)
  (z907 : K.lookup z49 = some ⟨z389, z386, .func (W.fnOf "has_power" "Rack.has_power" (defArgs s_Rack_has_power) (defBody s_Rack_has_power) (defScope s_Rack_has_power) .none z390 z391 z392 z387 z393 z394), z388⟩)
  (z908 : W.codeIn K z393 "Rack.has_power" = true)
  (z909 : W.keepIn K (.ref z49) = true)
  (z910 : W.findIn K (.ref z4) "intents" = some (some (.ref z50)))
  (z911 : W.isFn K (.ref z50) = true)
  (z912 : K.lookup z50 = some ⟨z398, z395, .func (W.fnOf "intents" "Rack.intents" (defArgs s_Rack_intents) (defBody s_Rack_intents) (defScope s_Rack_intents) .none z399 z400 z401 z396 z402 z403), z397⟩)
  (z913 : W.codeIn K z402 "Rack.intents" = true)
  (z914 : W.keepIn K (.ref z50) = true)
  (z915 : W.findIn K (.ref z4) "events" = some (some (.ref z51)))
  (z916 : W.isFn K (.ref z51) = true)
  (z917 : K.lookup z51 = some ⟨z407, z404, .func (W.fnOf "events" "Rack.events" (defArgs s_Rack_events) (defBody s_Rack_events) (defScope s_Rack_events) .none z408 z409 z410 z405 z411 z412), z406⟩)
  (z918 : W.codeIn K z411 "Rack.events" = true)
  (z919 : W.keepIn K (.ref z51) = true)
  (z920 : W.findIn K (.ref z4) "look" = some (some (.ref z52)))
  (z921 : W.isFn K (.ref z52) = true)
  (z922 : K.lookup z52 = some ⟨z416, z413, .func (W.fnOf "look" "Rack.look" (defArgs s_Rack_look) (defBody s_Rack_look) (defScope s_Rack_look) .none z417 z418 z419 z414 z420 z421), z415⟩)
  (z923 : W.codeIn K z420 "Rack.look" = true)
  (z924 : W.keepIn K (.ref z52) = true)
  (z925 : W.findIn K (.ref z4) "lay" = some (some (.ref z53)))
  (z926 : W.isFn K (.ref z53) = true)
  (z927 : K.lookup z53 = some ⟨z425, z422, .func (W.fnOf "lay" "Rack.lay" (defArgs s_Rack_lay) (defBody s_Rack_lay) (defScope s_Rack_lay) .none z426 z427 z428 z423 z429 z430), z424⟩)
  (z928 : W.codeIn K z429 "Rack.lay" = true)
  (z929 : W.keepIn K (.ref z53) = true)
  (z930 : W.findIn K (.ref z4) "note" = some (some (.ref z54)))
  (z931 : W.isFn K (.ref z54) = true)
  (z932 : K.lookup z54 = some ⟨z434, z431, .func (W.fnOf "note" "Rack.note" (defArgs s_Rack_note) (defBody s_Rack_note) (defScope s_Rack_note) .none z435 z436 z437 z432 z438 z439), z433⟩)
  (z933 : W.codeIn K z438 "Rack.note" = true)
  (z934 : W.keepIn K (.ref z54) = true)
  (z935 : W.findIn K (.ref z4) "strike" = some (some (.ref z55)))
  (z936 : W.isFn K (.ref z55) = true)
  (z937 : K.lookup z55 = some ⟨z443, z440, .func (W.fnOf "strike" "Rack.strike" (defArgs s_Rack_strike) (defBody s_Rack_strike) (defScope s_Rack_strike) .none z444 z445 z446 z441 z447 z448), z442⟩)
  (z938 : W.codeIn K z447 "Rack.strike" = true)
  (z939 : W.keepIn K (.ref z55) = true)
  (z940 : W.findIn K (.ref z4) "move_mark" = some (some (.ref z56)))
  (z941 : W.isFn K (.ref z56) = true)
  (z942 : K.lookup z56 = some ⟨z452, z449, .func (W.fnOf "move_mark" "Rack.move_mark" (defArgs s_Rack_move_mark) (defBody s_Rack_move_mark) (defScope s_Rack_move_mark) .none z453 z454 z455 z450 z456 z457), z451⟩)
  (z943 : W.codeIn K z456 "Rack.move_mark" = true)
  (z944 : W.keepIn K (.ref z56) = true)
  (z945 : W.findIn K (.ref z4) "need_write" = some (some (.ref z57)))
  (z946 : W.isFn K (.ref z57) = true)
  (z947 : K.lookup z57 = some ⟨z461, z458, .func (W.fnOf "need_write" "Rack.need_write" (defArgs s_Rack_need_write) (defBody s_Rack_need_write) (defScope s_Rack_need_write) .none z462 z463 z464 z459 z465 z466), z460⟩)
  (z948 : W.codeIn K z465 "Rack.need_write" = true)
  (z949 : W.keepIn K (.ref z57) = true)
  (z950 : W.findIn K (.ref z4) "spend" = some (some (.ref z58)))
  (z951 : W.isFn K (.ref z58) = true)
  (z952 : K.lookup z58 = some ⟨z470, z467, .func (W.fnOf "spend" "Rack.spend" (defArgs s_Rack_spend) (defBody s_Rack_spend) (defScope s_Rack_spend) .none z471 z472 z473 z468 z474 z475), z469⟩)
  (z953 : W.codeIn K z474 "Rack.spend" = true)
  (z954 : W.keepIn K (.ref z58) = true)
  (z955 : W.findIn K (.ref z4) "check_slot" = some (some (.ref z59)))
  (z956 : W.isFn K (.ref z59) = true)
  (z957 : K.lookup z59 = some ⟨z479, z476, .func (W.fnOf "check_slot" "Rack.check_slot" (defArgs s_Rack_check_slot) (defBody s_Rack_check_slot) (defScope s_Rack_check_slot) .none z480 z481 z482 z477 z483 z484), z478⟩)
  (z958 : W.codeIn K z483 "Rack.check_slot" = true)
  (z959 : W.keepIn K (.ref z59) = true)
  (z960 : W.findIn K (.ref z4) "check_plank" = some (some (.ref z60)))
  (z961 : W.isFn K (.ref z60) = true)
  (z962 : K.lookup z60 = some ⟨z488, z485, .func (W.fnOf "check_plank" "Rack.check_plank" (defArgs s_Rack_check_plank) (defBody s_Rack_check_plank) (defScope s_Rack_check_plank) .none z489 z490 z491 z486 z492 z493), z487⟩)
  (z963 : W.codeIn K z492 "Rack.check_plank" = true)
  (z964 : W.keepIn K (.ref z60) = true)
  (z965 : W.findIn K (.ref z4) "check_stripe" = some (some (.ref z61)))
  (z966 : W.isFn K (.ref z61) = true)
  (z967 : K.lookup z61 = some ⟨z497, z494, .func (W.fnOf "check_stripe" "Rack.check_stripe" (defArgs s_Rack_check_stripe) (defBody s_Rack_check_stripe) (defScope s_Rack_check_stripe) .none z498 z499 z500 z495 z501 z502), z496⟩)
  (z968 : W.codeIn K z501 "Rack.check_stripe" = true)
  (z969 : W.keepIn K (.ref z61) = true)
  (z970 : W.findIn K (.ref z4) "check_both" = some (some (.ref z62)))
  (z971 : W.isFn K (.ref z62) = true)
  (z972 : K.lookup z62 = some ⟨z506, z503, .func (W.fnOf "check_both" "Rack.check_both" (defArgs s_Rack_check_both) (defBody s_Rack_check_both) (defScope s_Rack_check_both) .none z507 z508 z509 z504 z510 z511), z505⟩)
  (z973 : W.codeIn K z510 "Rack.check_both" = true)
  (z974 : W.keepIn K (.ref z62) = true)
  (z975 : W.findIn K (.ref z4) "check_there" = some (some (.ref z63)))
  (z976 : W.isFn K (.ref z63) = true)
  (z977 : K.lookup z63 = some ⟨z515, z512, .func (W.fnOf "check_there" "Rack.check_there" (defArgs s_Rack_check_there) (defBody s_Rack_check_there) (defScope s_Rack_check_there) .none z516 z517 z518 z513 z519 z520), z514⟩)
  (z978 : W.codeIn K z519 "Rack.check_there" = true)
  (z979 : W.keepIn K (.ref z63) = true)
  (z980 : W.nsIn K mainGlobals "_law_cell_at" = some (some (.ref z64)))
  (z981 : K.lookup z64 = some ⟨z524, z521, .func (W.fnOf "_law_cell_at" "_law_cell_at" (defArgs s_cell_at) (defBody s_cell_at) (defScope s_cell_at) .none z525 z526 z527 z522 z528 z529), z523⟩)
  (z982 : W.codeIn K z528 "_law_cell_at" = true)
  (z983 : W.keepIn K (.ref z64) = true)
  (z984 : W.nsIn K mainGlobals "_law_mixed" = some (some (.ref z65)))
  (z985 : K.lookup z65 = some ⟨z533, z530, .func (W.fnOf "_law_mixed" "_law_mixed" (defArgs s_mixed) (defBody s_mixed) (defScope s_mixed) .none z534 z535 z536 z531 z537 z538), z532⟩)
  (z986 : W.codeIn K z537 "_law_mixed" = true)
  (z987 : W.keepIn K (.ref z65) = true)
  (z988 : W.nsIn K mainGlobals "_law_stream" = some (some (.ref z66)))
  (z989 : K.lookup z66 = some ⟨z542, z539, .func (W.fnOf "_law_stream" "_law_stream" (defArgs s_stream) (defBody s_stream) (defScope s_stream) .none z543 z544 z545 z540 z546 z547), z541⟩)
  (z990 : W.codeIn K z546 "_law_stream" = true)
  (z991 : W.keepIn K (.ref z66) = true)
  (z992 : W.nsIn K mainGlobals "_law_whole" = some (some (.ref z67)))
  (z993 : K.lookup z67 = some ⟨z551, z548, .func (W.fnOf "_law_whole" "_law_whole" (defArgs s_whole) (defBody s_whole) (defScope s_whole) .none z552 z553 z554 z549 z555 z556), z550⟩)
  (z994 : W.codeIn K z555 "_law_whole" = true)
  (z995 : W.keepIn K (.ref z67) = true)
  (z996 : W.nsIn K mainGlobals "_law_place" = some (some (.ref z68)))
  (z997 : K.lookup z68 = some ⟨z560, z557, .func (W.fnOf "_law_place" "_law_place" (defArgs s_place) (defBody s_place) (defScope s_place) .none z561 z562 z563 z558 z564 z565), z559⟩)
  (z998 : W.codeIn K z564 "_law_place" = true)
  (z999 : W.keepIn K (.ref z68) = true)
  (z1000 : W.nsIn K mainGlobals "_law_cost" = some (some (.ref z69)))
  (z1001 : K.lookup z69 = some ⟨z569, z566, .func (W.fnOf "_law_cost" "_law_cost" (defArgs s_cost) (defBody s_cost) (defScope s_cost) .none z570 z571 z572 z567 z573 z574), z568⟩)
  (z1002 : W.codeIn K z573 "_law_cost" = true)
  (z1003 : W.keepIn K (.ref z69) = true)
  (z1004 : W.nsIn K mainGlobals "_law_do_one" = some (some (.ref z70)))
  (z1005 : K.lookup z70 = some ⟨z578, z575, .func (W.fnOf "_law_do_one" "_law_do_one" (defArgs s_do_one) (defBody s_do_one) (defScope s_do_one) .none z579 z580 z581 z576 z582 z583), z577⟩)
  (z1006 : W.codeIn K z582 "_law_do_one" = true)
  (z1007 : W.keepIn K (.ref z70) = true)
  (z1008 : W.nsIn K mainGlobals "_law_do_other" = some (some (.ref z71)))
  (z1009 : K.lookup z71 = some ⟨z587, z584, .func (W.fnOf "_law_do_other" "_law_do_other" (defArgs s_do_other) (defBody s_do_other) (defScope s_do_other) .none z588 z589 z590 z585 z591 z592), z586⟩)
  (z1010 : W.codeIn K z591 "_law_do_other" = true)
  (z1011 : W.keepIn K (.ref z71) = true)
  (z1012 : W.nsIn K mainGlobals "_law_under" = some (some (.ref z72)))
  (z1013 : K.lookup z72 = some ⟨z596, z593, .func (W.fnOf "_law_under" "_law_under" (defArgs s_under) (defBody s_under) (defScope s_under) .none z597 z598 z599 z594 z600 z601), z595⟩)
  (z1014 : W.codeIn K z600 "_law_under" = true)
  (z1015 : W.keepIn K (.ref z72) = true)
  (z1016 : W.nsIn K mainGlobals "_law_told" = some (some (.ref z73)))
  (z1017 : K.lookup z73 = some ⟨z605, z602, .func (W.fnOf "_law_told" "_law_told" (defArgs s_told) (defBody s_told) (defScope s_told) .none z606 z607 z608 z603 z609 z610), z604⟩)
  (z1018 : W.codeIn K z609 "_law_told" = true)
  (z1019 : W.keepIn K (.ref z73) = true)
  (z1020 : W.nsIn K mainGlobals "_law_built" = some (some (.ref z74)))
  (z1021 : K.lookup z74 = some ⟨z614, z611, .func (W.fnOf "_law_built" "_law_built" (defArgs s_built) (defBody s_built) (defScope s_built) .none z615 z616 z617 z612 z618 z619), z613⟩)
  (z1022 : W.codeIn K z618 "_law_built" = true)
  (z1023 : W.keepIn K (.ref z74) = true)
  (z1024 : W.nsIn K mainGlobals "_law_wrong" = some (some (.ref z75)))
  (z1025 : K.lookup z75 = some ⟨z623, z620, .func (W.fnOf "_law_wrong" "_law_wrong" (defArgs s_wrong) (defBody s_wrong) (defScope s_wrong) .none z624 z625 z626 z621 z627 z628), z622⟩)
  (z1026 : W.codeIn K z627 "_law_wrong" = true)
  (z1027 : W.keepIn K (.ref z75) = true)
  (z1028 : W.nsIn K mainGlobals "_law_due" = some (some (.ref z76)))
  (z1029 : K.lookup z76 = some ⟨z632, z629, .func (W.fnOf "_law_due" "_law_due" (defArgs s_due) (defBody s_due) (defScope s_due) .none z633 z634 z635 z630 z636 z637), z631⟩)
  (z1030 : W.codeIn K z636 "_law_due" = true)
  (z1031 : W.keepIn K (.ref z76) = true)
  (z1032 : W.nsIn K mainGlobals "_law_seen" = some (some (.ref z77)))
  (z1033 : K.lookup z77 = some ⟨z641, z638, .func (W.fnOf "_law_seen" "_law_seen" (defArgs s_seen) (defBody s_seen) (defScope s_seen) .none z642 z643 z644 z639 z645 z646), z640⟩)
  (z1034 : W.codeIn K z645 "_law_seen" = true)
  (z1035 : W.keepIn K (.ref z77) = true)
  (z1036 : W.nsIn K mainGlobals "_law_right" = some (some (.ref z78)))
  (z1037 : K.lookup z78 = some ⟨z650, z647, .func (W.fnOf "_law_right" "_law_right" (defArgs s_right) (defBody s_right) (defScope s_right) .none z651 z652 z653 z648 z654 z655), z649⟩)
  (z1038 : W.codeIn K z654 "_law_right" = true)
  (z1039 : W.keepIn K (.ref z78) = true)
  (z1040 : W.nsIn K mainGlobals "_law_one" = some (some (.ref z79)))
  (z1041 : K.lookup z79 = some ⟨z659, z656, .func (W.fnOf "_law_one" "_law_one" (defArgs s_one) (defBody s_one) (defScope s_one) .none z660 z661 z662 z657 z663 z664), z658⟩)
  (z1042 : W.codeIn K z663 "_law_one" = true)
  (z1043 : W.keepIn K (.ref z79) = true)
  (z1044 : W.nsIn K mainGlobals "_law_made" = some (some (.ref z80)))
  (z1045 : K.lookup z80 = some ⟨z668, z665, .func (W.fnOf "_law_made" "_law_made" (defArgs s_made) (defBody s_made) (defScope s_made) .none z669 z670 z671 z666 z672 z673), z667⟩)
  (z1046 : W.codeIn K z672 "_law_made" = true)
  (z1047 : W.keepIn K (.ref z80) = true)
  (z1048 : W.nsIn K mainGlobals "law" = some (some (.ref z81)))
  (z1049 : K.lookup z81 = some ⟨z677, z674, .func (W.fnOf "law" "law" (defArgs s_law) (defBody s_law) (defScope s_law) .none z678 z679 z680 z675 z681 z682), z676⟩)
  (z1050 : W.codeIn K z681 "law" = true)
  (z1051 : W.keepIn K (.ref z81) = true)
  (z1052 : W.findIn K (.ref z1) "there" = some (some (.ref z20)))
  (z1053 : W.findIn K (.ref z1) "look_at" = some (some (.ref z23)))
  (z1054 : W.findIn K (.ref z1) "lay_at" = some (some (.ref z24)))
  (z1055 : W.findIn K (.ref z2) "price" = some (some (.ref z21)))
  (z1056 : W.findIn K (.ref z2) "look_at" = some (some (.ref z23)))
  (z1057 : W.findIn K (.ref z3) "price" = some (some (.ref z21)))
  (z1058 : W.findIn K (.ref z3) "look_at" = some (some (.ref z23)))
  (z1059 : W.findIn K (.ref z3) "lay_at" = some (some (.ref z24)))
  (z1060 : W.specialIn K (.ref z0) "__getattribute__" = some (some (.builtin "type.__getattribute__")))
  (z1061 : W.readsIn K z0 (.type "type") = true)
  (z1062 : W.findCls K (.ref z0) (.type "type") "__init__" = some (.val (.ref z19)))
  (z1063 : W.findIn K (.ref z0) "__class__" = some (some (.builtin "object.__class__")))
  (z1064 : W.specialIn K (.builtin "object.__class__") "__get__" = some (some (.builtin "getset_descriptor.__get__")))
  (z1065 : W.takesIn K (.builtin "object.__class__") = some true)
  (z1066 : W.mroIn K z0 (.type "object") = some true)
  (z1067 : W.findIn K (.ref z1) "__class__" = some (some (.builtin "object.__class__")))
  (z1068 : W.specialIn K (.builtin "object.__class__") "__get__" = some (some (.builtin "getset_descriptor.__get__")))
  (z1069 : W.takesIn K (.builtin "object.__class__") = some true)
  (z1070 : W.mroIn K z1 (.type "object") = some true)
  (z1071 : W.findIn K (.ref z2) "__class__" = some (some (.builtin "object.__class__")))
  (z1072 : W.specialIn K (.builtin "object.__class__") "__get__" = some (some (.builtin "getset_descriptor.__get__")))
  (z1073 : W.takesIn K (.builtin "object.__class__") = some true)
  (z1074 : W.mroIn K z2 (.type "object") = some true)
  (z1075 : W.findIn K (.ref z3) "__class__" = some (some (.builtin "object.__class__")))
  (z1076 : W.specialIn K (.builtin "object.__class__") "__get__" = some (some (.builtin "getset_descriptor.__get__")))
  (z1077 : W.takesIn K (.builtin "object.__class__") = some true)
  (z1078 : W.mroIn K z3 (.type "object") = some true)
  (z1079 : W.kitOne K (.ref z2) (.ref z2) = some true)
  (z1080 : W.kitOne K (.ref z3) (.ref z3) = some true)
  (z1081 : W.kitOne K (.ref z0) (.ref z2) = some false)
  (z1082 : W.kitOne K (.ref z0) (.ref z3) = some false)
  (z1083 : W.kitOne K (.ref z1) (.ref z2) = some false)
  (z1084 : W.kitOne K (.ref z1) (.ref z3) = some false)
  (z1085 : W.kitOne K (.ref z2) (.ref z3) = some false)
  (z1086 : W.kitOne K (.ref z3) (.ref z2) = some false)
  (z1087 : W.kitAny K (.ref z0) [.ref z2, .ref z3] = some false)
  (z1088 : W.kitAny K (.ref z1) [.ref z2, .ref z3] = some false)
  (z1089 : W.kitAny K (.ref z2) [.ref z2, .ref z3] = some true)
  (z1090 : W.kitAny K (.ref z3) [.ref z2, .ref z3] = some true)
  (z1091 : xcIn K z9 z5 = true)
  (z1092 : xqIn K z9 z5 = true)
  (z1093 : W.findIn K (.ref z9) "__getattribute__" = some (some (.builtin "BaseException.__getattribute__")))
  (z1094 : W.findIn K (.ref z9) "__getattr__" = some none)
  (z1095 : W.findIn K (.ref z9) "__class__" = some (some (.builtin "object.__class__")))
  (z1096 : W.specialIn K (.builtin "object.__class__") "__get__" = some (some (.builtin "getset_descriptor.__get__")))
  (z1097 : W.takesIn K (.builtin "object.__class__") = some true)
  (z1098 : W.mroIn K z9 (.type "object") = some true)
  (z1099 : W.kitCls K (.ref z9) (.ref z9) = some true)
  (z1100 : W.kitOne K (.ref z9) (.ref z5) = some true)
  (z1101 : W.exmOne K (.ref z9) (.ref z9) = some true)
  (z1102 : W.exmOne K (.ref z9) (.ref z10) = some false)
  (z1103 : W.exmOne K (.ref z9) (.ref z14) = some false)
  (z1104 : W.exmOne K (.ref z9) (.ref z15) = some false)
  (z1105 : W.kitOne K (.ref z9) (.type "ValueError") = some true)
  (z1106 : W.kitAny K (.ref z9) [.ref z6, .ref z7, .ref z8, .ref z11, .ref z12, .ref z13, .ref z16] = some false)
  (z1107 : W.typeIn K (.ref z17) = some (.type "function"))
  (z1108 : W.keepIn K (.ref z10) = true)
  (z1109 : W.findIn K (.ref z10) "__setattr__" = some (some (.builtin "object.__setattr__")))
  (z1110 : W.hasDictIn K z10 = true)
  (z1111 : W.findIn K (.ref z10) "place" = some none)
  (z1112 : xqIn K z10 z5 = true)
  (z1113 : W.findIn K (.ref z10) "__getattribute__" = some (some (.builtin "BaseException.__getattribute__")))
  (z1114 : W.findIn K (.ref z10) "__getattr__" = some none)
  (z1115 : W.findIn K (.ref z10) "__class__" = some (some (.builtin "object.__class__")))
  (z1116 : W.specialIn K (.builtin "object.__class__") "__get__" = some (some (.builtin "getset_descriptor.__get__")))
  (z1117 : W.takesIn K (.builtin "object.__class__") = some true)
  (z1118 : W.mroIn K z10 (.type "object") = some true)
  (z1119 : W.kitCls K (.ref z10) (.ref z10) = some true)
  (z1120 : W.kitOne K (.ref z10) (.ref z5) = some true)
  (z1121 : W.exmOne K (.ref z10) (.ref z10) = some true)
  (z1122 : W.kitOne K (.ref z10) (.type "ValueError") = some true)
  (z1123 : W.kitAny K (.ref z10) [.ref z6, .ref z7, .ref z8, .ref z11, .ref z12, .ref z13, .ref z16] = some false)
  (z1124 : W.kitAny K (.ref z10) [.ref z14, .ref z9, .ref z15] = some false)
  (z1125 : xcIn K z14 z5 = true)
  (z1126 : xqIn K z14 z5 = true)
  (z1127 : W.findIn K (.ref z14) "__getattribute__" = some (some (.builtin "BaseException.__getattribute__")))
  (z1128 : W.findIn K (.ref z14) "__getattr__" = some none)
  (z1129 : W.findIn K (.ref z14) "__class__" = some (some (.builtin "object.__class__")))
  (z1130 : W.specialIn K (.builtin "object.__class__") "__get__" = some (some (.builtin "getset_descriptor.__get__")))
  (z1131 : W.takesIn K (.builtin "object.__class__") = some true)
  (z1132 : W.mroIn K z14 (.type "object") = some true)
  (z1133 : W.kitCls K (.ref z14) (.ref z14) = some true)
  (z1134 : W.kitOne K (.ref z14) (.ref z5) = some true)
  (z1135 : W.kitOne K (.ref z14) (.ref z9) = some false)
  (z1136 : W.exmOne K (.ref z14) (.ref z10) = some false)
  (z1137 : W.exmOne K (.ref z14) (.ref z14) = some true)
  (z1138 : W.exmOne K (.ref z14) (.ref z15) = some false)
  (z1139 : W.kitOne K (.ref z14) (.type "ValueError") = some true)
  (z1140 : W.kitAny K (.ref z14) [.ref z6, .ref z7, .ref z8, .ref z11, .ref z12, .ref z13, .ref z16] = some false)
  (z1141 : W.typeIn K (.ref z18) = some (.type "function"))
  (z1142 : W.keepIn K (.ref z15) = true)
  (z1143 : W.findIn K (.ref z15) "__setattr__" = some (some (.builtin "object.__setattr__")))
  (z1144 : W.hasDictIn K z15 = true)
  (z1145 : W.findIn K (.ref z15) "plank" = some none)
  (z1146 : xqIn K z15 z5 = true)
  (z1147 : W.findIn K (.ref z15) "__getattribute__" = some (some (.builtin "BaseException.__getattribute__")))
  (z1148 : W.findIn K (.ref z15) "__getattr__" = some none)
  (z1149 : W.findIn K (.ref z15) "__class__" = some (some (.builtin "object.__class__")))
  (z1150 : W.specialIn K (.builtin "object.__class__") "__get__" = some (some (.builtin "getset_descriptor.__get__")))
  (z1151 : W.takesIn K (.builtin "object.__class__") = some true)
  (z1152 : W.mroIn K z15 (.type "object") = some true)
  (z1153 : W.kitCls K (.ref z15) (.ref z15) = some true)
  (z1154 : W.kitOne K (.ref z15) (.ref z5) = some true)
  (z1155 : W.exmOne K (.ref z15) (.ref z10) = some false)
  (z1156 : W.exmOne K (.ref z15) (.ref z15) = some true)
  (z1157 : W.kitOne K (.ref z15) (.type "ValueError") = some true)
  (z1158 : W.kitAny K (.ref z15) [.ref z6, .ref z7, .ref z8, .ref z11, .ref z12, .ref z13, .ref z16] = some false)
  (z1159 : W.kitAny K (.ref z15) [.ref z14, .ref z9] = some false)
  (xusp : W.specialIn K (.ref z5) "__getattribute__" = some (some (.builtin "type.__getattribute__")))
  (xurd : W.readsIn K z5 (.type "type") = true)
  (xufc : W.findCls K (.ref z5) (.type "type") "__init__" = some (.val (.builtin "ValueError.__init__")))
  (z1160 : W.nsIn K mainGlobals "list" = some none)
  (z1161 : W.nsIn K mainGlobals "range" = some none)
  (z1162 : W.nsIn K mainGlobals "isinstance" = some none)
  (z1163 : W.nsIn K mainGlobals "enumerate" = some none)
  (z1164 : W.nsIn K mainGlobals "len" = some none)
  (z1165 : W.nsIn K mainGlobals "int" = some none)
  (z1166 : W.nsIn K mainGlobals "bool" = some none)
  (z1167 : W.nsIn K mainGlobals "ValueError" = some none)
  (z1168 : W.nsIn K mainGlobals "max" = some none)
  (z1169 : W.nsIn K mainGlobals "min" = some none)
  (z1170 : W.nsIn K mainGlobals "LEAST_PLANKS" = some (some (.int 2 z82)))
  (z1171 : W.nsIn K mainGlobals "MOST_PLANKS" = some (some (.int 8 z83)))
  (z1172 : W.nsIn K mainGlobals "MOST_STRIPES" = some (some (.int 32 z84)))
  (z1173 : W.nsIn K mainGlobals "MOST_SLOTS" = some (some (.int 8 z85)))
  (z1174 : W.nsIn K mainGlobals "LEAST_COST" = some (some (.int 2 z86)))
  (z1175 : W.nsIn K mainGlobals "MOST_COST" = some (some (.int 9 z87))) :
  ∃ a : Adr, Txt K mg a ∧ (∀ (s : Shared) (v : Value), BindsTo s a.d_law ⟨[v], []⟩ [("_law_script", v)]) := by
 have y0 := fun_mk (st := s_NoPlace_init) z746 z747 z748
 have y1 := fun_mk (st := s_WrongPlank_init) z751 z752 z753
 have y2 := fun_mk (st := s_Plank_init) z756 z757 z758
 have y3 := fun_mk (st := s_Plank_there) z761 z762 z763
 have y4 := fun_mk (st := s_Plank_price) z766 z767 z768
 have y5 := fun_mk (st := s_Plank_word) z771 z772 z773
 have y6 := fun_mk (st := s_Plank_look_at) z776 z777 z778
 have y7 := fun_mk (st := s_Plank_lay_at) z781 z782 z783
 have y8 := fun_mk (st := s_SlowPlank_init) z786 z787 z788
 have y9 := fun_mk (st := s_SlowPlank_price) z791 z792 z793
 have y10 := fun_mk (st := s_SlowPlank_word) z796 z797 z798
 have y11 := fun_mk (st := s_LostPlank_init) z801 z802 z803
 have y12 := fun_mk (st := s_LostPlank_there) z806 z807 z808
 have y13 := fun_mk (st := s_LostPlank_word) z811 z812 z813
 have y14 := fun_mk (st := s_LostPlank_lay_at) z816 z817 z818
 have y15 := fun_mk (st := s_SparePlank_init) z821 z822 z823
 have y16 := fun_mk (st := s_SparePlank_there) z826 z827 z828
 have y17 := fun_mk (st := s_SparePlank_word) z831 z832 z833
 have y18 := fun_mk (st := s_SparePlank_move) z836 z837 z838
 have y19 := fun_mk (st := s_check_bounds) z840 z841 z842
 have y20 := fun_mk (st := s_Rack_init) z845 z846 z847
 have y21 := fun_mk (st := s_Rack_lose) z850 z851 z852
 have y22 := fun_mkD (st := s_Rack_put_spare) z855 z856 z857 z858
 have y23 := fun_mk (st := s_Rack_make_slow) z861 z862 z863
 have y24 := fun_mk (st := s_Rack_spoil) z866 z867 z868
 have y25 := fun_mk (st := s_Rack_lie) z871 z872 z873
 have y26 := fun_mkD (st := s_Rack_supply) z876 z877 z878 z879
 have y27 := fun_mk (st := s_Rack_peek) z882 z883 z884
 have y28 := fun_mk (st := s_Rack_kind_of) z887 z888 z889
 have y29 := fun_mk (st := s_Rack_cost_of) z892 z893 z894
 have y30 := fun_mk (st := s_Rack_mark_of) z897 z898 z899
 have y31 := fun_mk (st := s_Rack_there) z902 z903 z904
 have y32 := fun_mk (st := s_Rack_has_power) z907 z908 z909
 have y33 := fun_mk (st := s_Rack_intents) z912 z913 z914
 have y34 := fun_mk (st := s_Rack_events) z917 z918 z919
 have y35 := fun_mk (st := s_Rack_look) z922 z923 z924
 have y36 := fun_mk (st := s_Rack_lay) z927 z928 z929
 have y37 := fun_mk (st := s_Rack_note) z932 z933 z934
 have y38 := fun_mk (st := s_Rack_strike) z937 z938 z939
 have y39 := fun_mk (st := s_Rack_move_mark) z942 z943 z944
 have y40 := fun_mk (st := s_Rack_need_write) z947 z948 z949
 have y41 := fun_mk (st := s_Rack_spend) z952 z953 z954
 have y42 := fun_mk (st := s_Rack_check_slot) z957 z958 z959
 have y43 := fun_mk (st := s_Rack_check_plank) z962 z963 z964
 have y44 := fun_mk (st := s_Rack_check_stripe) z967 z968 z969
 have y45 := fun_mk (st := s_Rack_check_both) z972 z973 z974
 have y46 := fun_mk (st := s_Rack_check_there) z977 z978 z979
 have y47 := fun_mk (st := s_cell_at) z981 z982 z983
 have y48 := fun_mk (st := s_mixed) z985 z986 z987
 have y49 := fun_mk (st := s_stream) z989 z990 z991
 have y50 := fun_mk (st := s_whole) z993 z994 z995
 have y51 := fun_mk (st := s_place) z997 z998 z999
 have y52 := fun_mk (st := s_cost) z1001 z1002 z1003
 have y53 := fun_mk (st := s_do_one) z1005 z1006 z1007
 have y54 := fun_mk (st := s_do_other) z1009 z1010 z1011
 have y55 := fun_mk (st := s_under) z1013 z1014 z1015
 have y56 := fun_mk (st := s_told) z1017 z1018 z1019
 have y57 := fun_mk (st := s_built) z1021 z1022 z1023
 have y58 := fun_mk (st := s_wrong) z1025 z1026 z1027
 have y59 := fun_mk (st := s_due) z1029 z1030 z1031
 have y60 := fun_mk (st := s_seen) z1033 z1034 z1035
 have y61 := fun_mk (st := s_right) z1037 z1038 z1039
 have y62 := fun_mk (st := s_one) z1041 z1042 z1043
 have y63 := fun_mk (st := s_made) z1045 z1046 z1047
 have y64 := fun_mk (st := s_law) z1049 z1050 z1051
 refine ⟨⟨z0, z1, z2, z3, z4, z5, z6, z7, z8, z9, z10, z11, z12, z13, z14, z15, z16, z17, W.fnOf "__init__" "NoPlace.__init__" (defArgs s_NoPlace_init) (defBody s_NoPlace_init) (defScope s_NoPlace_init) .none z92 z93 z94 z89 z95 z96, z18, W.fnOf "__init__" "WrongPlank.__init__" (defArgs s_WrongPlank_init) (defBody s_WrongPlank_init) (defScope s_WrongPlank_init) .none z101 z102 z103 z98 z104 z105, z19, W.fnOf "__init__" "Plank.__init__" (defArgs s_Plank_init) (defBody s_Plank_init) (defScope s_Plank_init) .none z110 z111 z112 z107 z113 z114, z20, W.fnOf "there" "Plank.there" (defArgs s_Plank_there) (defBody s_Plank_there) (defScope s_Plank_there) .none z119 z120 z121 z116 z122 z123, z21, W.fnOf "price" "Plank.price" (defArgs s_Plank_price) (defBody s_Plank_price) (defScope s_Plank_price) .none z128 z129 z130 z125 z131 z132, z22, W.fnOf "word" "Plank.word" (defArgs s_Plank_word) (defBody s_Plank_word) (defScope s_Plank_word) .none z137 z138 z139 z134 z140 z141, z23, W.fnOf "look_at" "Plank.look_at" (defArgs s_Plank_look_at) (defBody s_Plank_look_at) (defScope s_Plank_look_at) .none z146 z147 z148 z143 z149 z150, z24, W.fnOf "lay_at" "Plank.lay_at" (defArgs s_Plank_lay_at) (defBody s_Plank_lay_at) (defScope s_Plank_lay_at) .none z155 z156 z157 z152 z158 z159, z25, W.fnOf "__init__" "SlowPlank.__init__" (defArgs s_SlowPlank_init) (defBody s_SlowPlank_init) (defScope s_SlowPlank_init) .none z164 z165 z166 z161 z167 z168, z26, W.fnOf "price" "SlowPlank.price" (defArgs s_SlowPlank_price) (defBody s_SlowPlank_price) (defScope s_SlowPlank_price) .none z173 z174 z175 z170 z176 z177, z27, W.fnOf "word" "SlowPlank.word" (defArgs s_SlowPlank_word) (defBody s_SlowPlank_word) (defScope s_SlowPlank_word) .none z182 z183 z184 z179 z185 z186, z28, W.fnOf "__init__" "LostPlank.__init__" (defArgs s_LostPlank_init) (defBody s_LostPlank_init) (defScope s_LostPlank_init) .none z191 z192 z193 z188 z194 z195, z29, W.fnOf "there" "LostPlank.there" (defArgs s_LostPlank_there) (defBody s_LostPlank_there) (defScope s_LostPlank_there) .none z200 z201 z202 z197 z203 z204, z30, W.fnOf "word" "LostPlank.word" (defArgs s_LostPlank_word) (defBody s_LostPlank_word) (defScope s_LostPlank_word) .none z209 z210 z211 z206 z212 z213, z31, W.fnOf "lay_at" "LostPlank.lay_at" (defArgs s_LostPlank_lay_at) (defBody s_LostPlank_lay_at) (defScope s_LostPlank_lay_at) .none z218 z219 z220 z215 z221 z222, z32, W.fnOf "__init__" "SparePlank.__init__" (defArgs s_SparePlank_init) (defBody s_SparePlank_init) (defScope s_SparePlank_init) .none z227 z228 z229 z224 z230 z231, z33, W.fnOf "there" "SparePlank.there" (defArgs s_SparePlank_there) (defBody s_SparePlank_there) (defScope s_SparePlank_there) .none z236 z237 z238 z233 z239 z240, z34, W.fnOf "word" "SparePlank.word" (defArgs s_SparePlank_word) (defBody s_SparePlank_word) (defScope s_SparePlank_word) .none z245 z246 z247 z242 z248 z249, z35, W.fnOf "move" "SparePlank.move" (defArgs s_SparePlank_move) (defBody s_SparePlank_move) (defScope s_SparePlank_move) .none z254 z255 z256 z251 z257 z258, z36, W.fnOf "check_bounds" "check_bounds" (defArgs s_check_bounds) (defBody s_check_bounds) (defScope s_check_bounds) .none z263 z264 z265 z260 z266 z267, z37, W.fnOf "__init__" "Rack.__init__" (defArgs s_Rack_init) (defBody s_Rack_init) (defScope s_Rack_init) .none z272 z273 z274 z269 z275 z276, z38, W.fnOf "lose" "Rack.lose" (defArgs s_Rack_lose) (defBody s_Rack_lose) (defScope s_Rack_lose) .none z281 z282 z283 z278 z284 z285, z39, W.fnOf "put_spare" "Rack.put_spare" (defArgs s_Rack_put_spare) (defBody s_Rack_put_spare) (defScope s_Rack_put_spare) (.ref z286) z295 z296 z297 z292 z298 z299, z40, W.fnOf "make_slow" "Rack.make_slow" (defArgs s_Rack_make_slow) (defBody s_Rack_make_slow) (defScope s_Rack_make_slow) .none z304 z305 z306 z301 z307 z308, z41, W.fnOf "spoil" "Rack.spoil" (defArgs s_Rack_spoil) (defBody s_Rack_spoil) (defScope s_Rack_spoil) .none z313 z314 z315 z310 z316 z317, z42, W.fnOf "lie" "Rack.lie" (defArgs s_Rack_lie) (defBody s_Rack_lie) (defScope s_Rack_lie) .none z322 z323 z324 z319 z325 z326, z43, W.fnOf "supply" "Rack.supply" (defArgs s_Rack_supply) (defBody s_Rack_supply) (defScope s_Rack_supply) (.ref z327) z336 z337 z338 z333 z339 z340, z44, W.fnOf "peek" "Rack.peek" (defArgs s_Rack_peek) (defBody s_Rack_peek) (defScope s_Rack_peek) .none z345 z346 z347 z342 z348 z349, z45, W.fnOf "kind_of" "Rack.kind_of" (defArgs s_Rack_kind_of) (defBody s_Rack_kind_of) (defScope s_Rack_kind_of) .none z354 z355 z356 z351 z357 z358, z46, W.fnOf "cost_of" "Rack.cost_of" (defArgs s_Rack_cost_of) (defBody s_Rack_cost_of) (defScope s_Rack_cost_of) .none z363 z364 z365 z360 z366 z367, z47, W.fnOf "mark_of" "Rack.mark_of" (defArgs s_Rack_mark_of) (defBody s_Rack_mark_of) (defScope s_Rack_mark_of) .none z372 z373 z374 z369 z375 z376, z48, W.fnOf "there" "Rack.there" (defArgs s_Rack_there) (defBody s_Rack_there) (defScope s_Rack_there) .none z381 z382 z383 z378 z384 z385, z49, W.fnOf "has_power" "Rack.has_power" (defArgs s_Rack_has_power) (defBody s_Rack_has_power) (defScope s_Rack_has_power) .none z390 z391 z392 z387 z393 z394, z50, W.fnOf "intents" "Rack.intents" (defArgs s_Rack_intents) (defBody s_Rack_intents) (defScope s_Rack_intents) .none z399 z400 z401 z396 z402 z403, z51, W.fnOf "events" "Rack.events" (defArgs s_Rack_events) (defBody s_Rack_events) (defScope s_Rack_events) .none z408 z409 z410 z405 z411 z412, z52, W.fnOf "look" "Rack.look" (defArgs s_Rack_look) (defBody s_Rack_look) (defScope s_Rack_look) .none z417 z418 z419 z414 z420 z421, z53, W.fnOf "lay" "Rack.lay" (defArgs s_Rack_lay) (defBody s_Rack_lay) (defScope s_Rack_lay) .none z426 z427 z428 z423 z429 z430, z54, W.fnOf "note" "Rack.note" (defArgs s_Rack_note) (defBody s_Rack_note) (defScope s_Rack_note) .none z435 z436 z437 z432 z438 z439, z55, W.fnOf "strike" "Rack.strike" (defArgs s_Rack_strike) (defBody s_Rack_strike) (defScope s_Rack_strike) .none z444 z445 z446 z441 z447 z448, z56, W.fnOf "move_mark" "Rack.move_mark" (defArgs s_Rack_move_mark) (defBody s_Rack_move_mark) (defScope s_Rack_move_mark) .none z453 z454 z455 z450 z456 z457, z57, W.fnOf "need_write" "Rack.need_write" (defArgs s_Rack_need_write) (defBody s_Rack_need_write) (defScope s_Rack_need_write) .none z462 z463 z464 z459 z465 z466, z58, W.fnOf "spend" "Rack.spend" (defArgs s_Rack_spend) (defBody s_Rack_spend) (defScope s_Rack_spend) .none z471 z472 z473 z468 z474 z475, z59, W.fnOf "check_slot" "Rack.check_slot" (defArgs s_Rack_check_slot) (defBody s_Rack_check_slot) (defScope s_Rack_check_slot) .none z480 z481 z482 z477 z483 z484, z60, W.fnOf "check_plank" "Rack.check_plank" (defArgs s_Rack_check_plank) (defBody s_Rack_check_plank) (defScope s_Rack_check_plank) .none z489 z490 z491 z486 z492 z493, z61, W.fnOf "check_stripe" "Rack.check_stripe" (defArgs s_Rack_check_stripe) (defBody s_Rack_check_stripe) (defScope s_Rack_check_stripe) .none z498 z499 z500 z495 z501 z502, z62, W.fnOf "check_both" "Rack.check_both" (defArgs s_Rack_check_both) (defBody s_Rack_check_both) (defScope s_Rack_check_both) .none z507 z508 z509 z504 z510 z511, z63, W.fnOf "check_there" "Rack.check_there" (defArgs s_Rack_check_there) (defBody s_Rack_check_there) (defScope s_Rack_check_there) .none z516 z517 z518 z513 z519 z520, z64, W.fnOf "_law_cell_at" "_law_cell_at" (defArgs s_cell_at) (defBody s_cell_at) (defScope s_cell_at) .none z525 z526 z527 z522 z528 z529, z65, W.fnOf "_law_mixed" "_law_mixed" (defArgs s_mixed) (defBody s_mixed) (defScope s_mixed) .none z534 z535 z536 z531 z537 z538, z66, W.fnOf "_law_stream" "_law_stream" (defArgs s_stream) (defBody s_stream) (defScope s_stream) .none z543 z544 z545 z540 z546 z547, z67, W.fnOf "_law_whole" "_law_whole" (defArgs s_whole) (defBody s_whole) (defScope s_whole) .none z552 z553 z554 z549 z555 z556, z68, W.fnOf "_law_place" "_law_place" (defArgs s_place) (defBody s_place) (defScope s_place) .none z561 z562 z563 z558 z564 z565, z69, W.fnOf "_law_cost" "_law_cost" (defArgs s_cost) (defBody s_cost) (defScope s_cost) .none z570 z571 z572 z567 z573 z574, z70, W.fnOf "_law_do_one" "_law_do_one" (defArgs s_do_one) (defBody s_do_one) (defScope s_do_one) .none z579 z580 z581 z576 z582 z583, z71, W.fnOf "_law_do_other" "_law_do_other" (defArgs s_do_other) (defBody s_do_other) (defScope s_do_other) .none z588 z589 z590 z585 z591 z592, z72, W.fnOf "_law_under" "_law_under" (defArgs s_under) (defBody s_under) (defScope s_under) .none z597 z598 z599 z594 z600 z601, z73, W.fnOf "_law_told" "_law_told" (defArgs s_told) (defBody s_told) (defScope s_told) .none z606 z607 z608 z603 z609 z610, z74, W.fnOf "_law_built" "_law_built" (defArgs s_built) (defBody s_built) (defScope s_built) .none z615 z616 z617 z612 z618 z619, z75, W.fnOf "_law_wrong" "_law_wrong" (defArgs s_wrong) (defBody s_wrong) (defScope s_wrong) .none z624 z625 z626 z621 z627 z628, z76, W.fnOf "_law_due" "_law_due" (defArgs s_due) (defBody s_due) (defScope s_due) .none z633 z634 z635 z630 z636 z637, z77, W.fnOf "_law_seen" "_law_seen" (defArgs s_seen) (defBody s_seen) (defScope s_seen) .none z642 z643 z644 z639 z645 z646, z78, W.fnOf "_law_right" "_law_right" (defArgs s_right) (defBody s_right) (defScope s_right) .none z651 z652 z653 z648 z654 z655, z79, W.fnOf "_law_one" "_law_one" (defArgs s_one) (defBody s_one) (defScope s_one) .none z660 z661 z662 z657 z663 z664, z80, W.fnOf "_law_made" "_law_made" (defArgs s_made) (defBody s_made) (defScope s_made) .none z669 z670 z671 z666 z672 z673, z81, W.fnOf "law" "law" (defArgs s_law) (defBody s_law) (defScope s_law) .none z678 z679 z680 z675 z681 z682, z87, z86, z85, z84, z83, z82⟩, ?_, fun s v => .of_eq rfl⟩
 exact {
  cl_Plank := ⟨z684, z685, z686, z687⟩
  m_Plank := W.mg_of X G z683
  no_Plank_held := z688
  mk_Plank := ⟨z689, z754, z755, z690⟩
  cl_SlowPlank := ⟨z692, z693, z694, z695⟩
  m_SlowPlank := W.mg_of X G z691
  no_SlowPlank_held := z696
  no_SlowPlank_cost := z697
  mk_SlowPlank := ⟨z698, z784, z785, z699⟩
  cl_LostPlank := ⟨z701, z702, z703, z704⟩
  m_LostPlank := W.mg_of X G z700
  no_LostPlank_held := z705
  mk_LostPlank := ⟨z706, z799, z800, z707⟩
  cl_SparePlank := ⟨z709, z710, z711, z712⟩
  m_SparePlank := W.mg_of X G z708
  no_SparePlank_held := z713
  no_SparePlank_mark := z714
  mk_SparePlank := ⟨z715, z819, z820, z716⟩
  cl_Rack := ⟨z718, z719, z720, z721⟩
  m_Rack := W.mg_of X G z717
  no_Rack_planks := z722
  no_Rack_stripes := z723
  no_Rack_slots := z724
  no_Rack_shelf := z725
  no_Rack_slate := z726
  no_Rack_left := z727
  no_Rack_gone := z728
  no_Rack_done := z729
  mk_Rack := ⟨z730, z843, z844, z731⟩
  F_NoPlace_init := y0
  b_NoPlace_init := y0.binds (ps := ["self", "place"]) fun _ _ _ _ _ _ us hl => match us, hl with | [_, _], _ => rfl
  k_NoPlace_init := z748
  me_NoPlace_init := ⟨z744, z745, z748⟩
  F_WrongPlank_init := y1
  b_WrongPlank_init := y1.binds (ps := ["self", "plank"]) fun _ _ _ _ _ _ us hl => match us, hl with | [_, _], _ => rfl
  k_WrongPlank_init := z753
  me_WrongPlank_init := ⟨z749, z750, z753⟩
  F_Plank_init := y2
  b_Plank_init := y2.binds (ps := ["self", "held"]) fun _ _ _ _ _ _ us hl => match us, hl with | [_, _], _ => rfl
  k_Plank_init := z758
  me_Plank_init := ⟨z754, z755, z758⟩
  F_Plank_there := y3
  b_Plank_there := y3.binds (ps := ["self", "at"]) fun _ _ _ _ _ _ us hl => match us, hl with | [_, _], _ => rfl
  k_Plank_there := z763
  me_Plank_there := ⟨z759, z760, z763⟩
  F_Plank_price := y4
  b_Plank_price := y4.binds (ps := ["self"]) fun _ _ _ _ _ _ us hl => match us, hl with | [_], _ => rfl
  k_Plank_price := z768
  me_Plank_price := ⟨z764, z765, z768⟩
  F_Plank_word := y5
  b_Plank_word := y5.binds (ps := ["self"]) fun _ _ _ _ _ _ us hl => match us, hl with | [_], _ => rfl
  k_Plank_word := z773
  me_Plank_word := ⟨z769, z770, z773⟩
  F_Plank_look_at := y6
  b_Plank_look_at := y6.binds (ps := ["self", "at"]) fun _ _ _ _ _ _ us hl => match us, hl with | [_, _], _ => rfl
  k_Plank_look_at := z778
  me_Plank_look_at := ⟨z774, z775, z778⟩
  F_Plank_lay_at := y7
  b_Plank_lay_at := y7.binds (ps := ["self", "at", "block"]) fun _ _ _ _ _ _ us hl => match us, hl with | [_, _, _], _ => rfl
  k_Plank_lay_at := z783
  me_Plank_lay_at := ⟨z779, z780, z783⟩
  F_SlowPlank_init := y8
  b_SlowPlank_init := y8.binds (ps := ["self", "held", "cost"]) fun _ _ _ _ _ _ us hl => match us, hl with | [_, _, _], _ => rfl
  k_SlowPlank_init := z788
  me_SlowPlank_init := ⟨z784, z785, z788⟩
  F_SlowPlank_price := y9
  b_SlowPlank_price := y9.binds (ps := ["self"]) fun _ _ _ _ _ _ us hl => match us, hl with | [_], _ => rfl
  k_SlowPlank_price := z793
  me_SlowPlank_price := ⟨z789, z790, z793⟩
  F_SlowPlank_word := y10
  b_SlowPlank_word := y10.binds (ps := ["self"]) fun _ _ _ _ _ _ us hl => match us, hl with | [_], _ => rfl
  k_SlowPlank_word := z798
  me_SlowPlank_word := ⟨z794, z795, z798⟩
  F_LostPlank_init := y11
  b_LostPlank_init := y11.binds (ps := ["self", "many"]) fun _ _ _ _ _ _ us hl => match us, hl with | [_, _], _ => rfl
  k_LostPlank_init := z803
  me_LostPlank_init := ⟨z799, z800, z803⟩
  F_LostPlank_there := y12
  b_LostPlank_there := y12.binds (ps := ["self", "at"]) fun _ _ _ _ _ _ us hl => match us, hl with | [_, _], _ => rfl
  k_LostPlank_there := z808
  me_LostPlank_there := ⟨z804, z805, z808⟩
  F_LostPlank_word := y13
  b_LostPlank_word := y13.binds (ps := ["self"]) fun _ _ _ _ _ _ us hl => match us, hl with | [_], _ => rfl
  k_LostPlank_word := z813
  me_LostPlank_word := ⟨z809, z810, z813⟩
  F_LostPlank_lay_at := y14
  b_LostPlank_lay_at := y14.binds (ps := ["self", "at", "block"]) fun _ _ _ _ _ _ us hl => match us, hl with | [_, _, _], _ => rfl
  k_LostPlank_lay_at := z818
  me_LostPlank_lay_at := ⟨z814, z815, z818⟩
  F_SparePlank_init := y15
  b_SparePlank_init := y15.binds (ps := ["self", "held"]) fun _ _ _ _ _ _ us hl => match us, hl with | [_, _], _ => rfl
  k_SparePlank_init := z823
  me_SparePlank_init := ⟨z819, z820, z823⟩
  F_SparePlank_there := y16
  b_SparePlank_there := y16.binds (ps := ["self", "at"]) fun _ _ _ _ _ _ us hl => match us, hl with | [_, _], _ => rfl
  k_SparePlank_there := z828
  me_SparePlank_there := ⟨z824, z825, z828⟩
  F_SparePlank_word := y17
  b_SparePlank_word := y17.binds (ps := ["self"]) fun _ _ _ _ _ _ us hl => match us, hl with | [_], _ => rfl
  k_SparePlank_word := z833
  me_SparePlank_word := ⟨z829, z830, z833⟩
  F_SparePlank_move := y18
  b_SparePlank_move := y18.binds (ps := ["self"]) fun _ _ _ _ _ _ us hl => match us, hl with | [_], _ => rfl
  k_SparePlank_move := z838
  me_SparePlank_move := ⟨z834, z835, z838⟩
  F_check_bounds := y19
  b_check_bounds := y19.binds (ps := ["planks", "stripes", "slots"]) fun _ _ _ _ _ _ us hl => match us, hl with | [_, _, _], _ => rfl
  k_check_bounds := z842
  m_check_bounds := W.mg_of X G z839
  F_Rack_init := y20
  b_Rack_init := y20.binds (ps := ["self", "planks", "stripes", "slots"]) fun _ _ _ _ _ _ us hl => match us, hl with | [_, _, _, _], _ => rfl
  k_Rack_init := z847
  me_Rack_init := ⟨z843, z844, z847⟩
  F_Rack_lose := y21
  b_Rack_lose := y21.binds (ps := ["self", "plank"]) fun _ _ _ _ _ _ us hl => match us, hl with | [_, _], _ => rfl
  k_Rack_lose := z852
  me_Rack_lose := ⟨z848, z849, z852⟩
  F_Rack_put_spare := y22
  b_Rack_put_spare := y22.binds (ws := []) (ps := ["self", "plank", "some"]) 3 rfl fun _ _ _ _ _ _ _ us hl => match us, hl with | [_, _, _], _ => ⟨_, rfl, rfl⟩
  bd_Rack_put_spare := y22.binds (ws := [Value.none]) (ps := ["self", "plank", "some"]) 2 rfl fun _ _ _ _ _ _ _ us hl => match us, hl with | [_, _], _ => ⟨_, rfl, rfl⟩
  k_Rack_put_spare := z858
  me_Rack_put_spare := ⟨z853, z854, z858⟩
  F_Rack_make_slow := y23
  b_Rack_make_slow := y23.binds (ps := ["self", "plank", "cost"]) fun _ _ _ _ _ _ us hl => match us, hl with | [_, _, _], _ => rfl
  k_Rack_make_slow := z863
  me_Rack_make_slow := ⟨z859, z860, z863⟩
  F_Rack_spoil := y24
  b_Rack_spoil := y24.binds (ps := ["self", "plank", "stripe"]) fun _ _ _ _ _ _ us hl => match us, hl with | [_, _, _], _ => rfl
  k_Rack_spoil := z868
  me_Rack_spoil := ⟨z864, z865, z868⟩
  F_Rack_lie := y25
  b_Rack_lie := y25.binds (ps := ["self", "plank", "stripe", "block"]) fun _ _ _ _ _ _ us hl => match us, hl with | [_, _, _, _], _ => rfl
  k_Rack_lie := z873
  me_Rack_lie := ⟨z869, z870, z873⟩
  F_Rack_supply := y26
  b_Rack_supply := y26.binds (ws := []) (ps := ["self", "left"]) 2 rfl fun _ _ _ _ _ _ _ us hl => match us, hl with | [_, _], _ => ⟨_, rfl, rfl⟩
  bd_Rack_supply := y26.binds (ws := [Value.none]) (ps := ["self", "left"]) 1 rfl fun _ _ _ _ _ _ _ us hl => match us, hl with | [_], _ => ⟨_, rfl, rfl⟩
  k_Rack_supply := z879
  me_Rack_supply := ⟨z874, z875, z879⟩
  F_Rack_peek := y27
  b_Rack_peek := y27.binds (ps := ["self", "plank", "stripe"]) fun _ _ _ _ _ _ us hl => match us, hl with | [_, _, _], _ => rfl
  k_Rack_peek := z884
  me_Rack_peek := ⟨z880, z881, z884⟩
  F_Rack_kind_of := y28
  b_Rack_kind_of := y28.binds (ps := ["self", "plank"]) fun _ _ _ _ _ _ us hl => match us, hl with | [_, _], _ => rfl
  k_Rack_kind_of := z889
  me_Rack_kind_of := ⟨z885, z886, z889⟩
  F_Rack_cost_of := y29
  b_Rack_cost_of := y29.binds (ps := ["self", "plank"]) fun _ _ _ _ _ _ us hl => match us, hl with | [_, _], _ => rfl
  k_Rack_cost_of := z894
  me_Rack_cost_of := ⟨z890, z891, z894⟩
  F_Rack_mark_of := y30
  b_Rack_mark_of := y30.binds (ps := ["self", "plank"]) fun _ _ _ _ _ _ us hl => match us, hl with | [_, _], _ => rfl
  k_Rack_mark_of := z899
  me_Rack_mark_of := ⟨z895, z896, z899⟩
  F_Rack_there := y31
  b_Rack_there := y31.binds (ps := ["self", "plank", "stripe"]) fun _ _ _ _ _ _ us hl => match us, hl with | [_, _, _], _ => rfl
  k_Rack_there := z904
  me_Rack_there := ⟨z900, z901, z904⟩
  F_Rack_has_power := y32
  b_Rack_has_power := y32.binds (ps := ["self"]) fun _ _ _ _ _ _ us hl => match us, hl with | [_], _ => rfl
  k_Rack_has_power := z909
  me_Rack_has_power := ⟨z905, z906, z909⟩
  F_Rack_intents := y33
  b_Rack_intents := y33.binds (ps := ["self"]) fun _ _ _ _ _ _ us hl => match us, hl with | [_], _ => rfl
  k_Rack_intents := z914
  me_Rack_intents := ⟨z910, z911, z914⟩
  F_Rack_events := y34
  b_Rack_events := y34.binds (ps := ["self"]) fun _ _ _ _ _ _ us hl => match us, hl with | [_], _ => rfl
  k_Rack_events := z919
  me_Rack_events := ⟨z915, z916, z919⟩
  F_Rack_look := y35
  b_Rack_look := y35.binds (ps := ["self", "plank", "stripe"]) fun _ _ _ _ _ _ us hl => match us, hl with | [_, _, _], _ => rfl
  k_Rack_look := z924
  me_Rack_look := ⟨z920, z921, z924⟩
  F_Rack_lay := y36
  b_Rack_lay := y36.binds (ps := ["self", "plank", "stripe", "block"]) fun _ _ _ _ _ _ us hl => match us, hl with | [_, _, _, _], _ => rfl
  k_Rack_lay := z929
  me_Rack_lay := ⟨z925, z926, z929⟩
  F_Rack_note := y37
  b_Rack_note := y37.binds (ps := ["self", "slot", "stripe", "pairs"]) fun _ _ _ _ _ _ us hl => match us, hl with | [_, _, _, _], _ => rfl
  k_Rack_note := z934
  me_Rack_note := ⟨z930, z931, z934⟩
  F_Rack_strike := y38
  b_Rack_strike := y38.binds (ps := ["self", "slot"]) fun _ _ _ _ _ _ us hl => match us, hl with | [_, _], _ => rfl
  k_Rack_strike := z939
  me_Rack_strike := ⟨z935, z936, z939⟩
  F_Rack_move_mark := y39
  b_Rack_move_mark := y39.binds (ps := ["self", "plank"]) fun _ _ _ _ _ _ us hl => match us, hl with | [_, _], _ => rfl
  k_Rack_move_mark := z944
  me_Rack_move_mark := ⟨z940, z941, z944⟩
  F_Rack_need_write := y40
  b_Rack_need_write := y40.binds (ps := ["self"]) fun _ _ _ _ _ _ us hl => match us, hl with | [_], _ => rfl
  k_Rack_need_write := z949
  me_Rack_need_write := ⟨z945, z946, z949⟩
  F_Rack_spend := y41
  b_Rack_spend := y41.binds (ps := ["self", "event"]) fun _ _ _ _ _ _ us hl => match us, hl with | [_, _], _ => rfl
  k_Rack_spend := z954
  me_Rack_spend := ⟨z950, z951, z954⟩
  F_Rack_check_slot := y42
  b_Rack_check_slot := y42.binds (ps := ["self", "slot"]) fun _ _ _ _ _ _ us hl => match us, hl with | [_, _], _ => rfl
  k_Rack_check_slot := z959
  me_Rack_check_slot := ⟨z955, z956, z959⟩
  F_Rack_check_plank := y43
  b_Rack_check_plank := y43.binds (ps := ["self", "plank"]) fun _ _ _ _ _ _ us hl => match us, hl with | [_, _], _ => rfl
  k_Rack_check_plank := z964
  me_Rack_check_plank := ⟨z960, z961, z964⟩
  F_Rack_check_stripe := y44
  b_Rack_check_stripe := y44.binds (ps := ["self", "stripe"]) fun _ _ _ _ _ _ us hl => match us, hl with | [_, _], _ => rfl
  k_Rack_check_stripe := z969
  me_Rack_check_stripe := ⟨z965, z966, z969⟩
  F_Rack_check_both := y45
  b_Rack_check_both := y45.binds (ps := ["self", "plank", "stripe"]) fun _ _ _ _ _ _ us hl => match us, hl with | [_, _, _], _ => rfl
  k_Rack_check_both := z974
  me_Rack_check_both := ⟨z970, z971, z974⟩
  F_Rack_check_there := y46
  b_Rack_check_there := y46.binds (ps := ["self", "plank", "stripe"]) fun _ _ _ _ _ _ us hl => match us, hl with | [_, _, _], _ => rfl
  k_Rack_check_there := z979
  me_Rack_check_there := ⟨z975, z976, z979⟩
  F_cell_at := y47
  b_cell_at := y47.binds (ps := ["_law_script", "_law_k"]) fun _ _ _ _ _ _ us hl => match us, hl with | [_, _], _ => rfl
  k_cell_at := z983
  m_cell_at := W.mg_of X G z980
  F_mixed := y48
  b_mixed := y48.binds (ps := ["_law_cell", "_law_k"]) fun _ _ _ _ _ _ us hl => match us, hl with | [_, _], _ => rfl
  k_mixed := z987
  m_mixed := W.mg_of X G z984
  F_stream := y49
  b_stream := y49.binds (ps := ["_law_cell", "_law_many"]) fun _ _ _ _ _ _ us hl => match us, hl with | [_, _], _ => rfl
  k_stream := z991
  m_stream := W.mg_of X G z988
  F_whole := y50
  b_whole := y50.binds (ps := ["_law_found"]) fun _ _ _ _ _ _ us hl => match us, hl with | [_], _ => rfl
  k_whole := z995
  m_whole := W.mg_of X G z992
  F_place := y51
  b_place := y51.binds (ps := ["_law_number", "_law_many"]) fun _ _ _ _ _ _ us hl => match us, hl with | [_, _], _ => rfl
  k_place := z999
  m_place := W.mg_of X G z996
  F_cost := y52
  b_cost := y52.binds (ps := ["_law_number"]) fun _ _ _ _ _ _ us hl => match us, hl with | [_], _ => rfl
  k_cost := z1003
  m_cost := W.mg_of X G z1000
  F_do_one := y53
  b_do_one := y53.binds (ps := ["_law_rack", "_law_way", "_law_a"]) fun _ _ _ _ _ _ us hl => match us, hl with | [_, _, _], _ => rfl
  k_do_one := z1007
  m_do_one := W.mg_of X G z1004
  F_do_other := y54
  b_do_other := y54.binds (ps := ["_law_rack", "_law_way", "_law_a"]) fun _ _ _ _ _ _ us hl => match us, hl with | [_, _, _], _ => rfl
  k_do_other := z1011
  m_do_other := W.mg_of X G z1008
  F_under := y55
  b_under := y55.binds (ps := ["_law_error"]) fun _ _ _ _ _ _ us hl => match us, hl with | [_], _ => rfl
  k_under := z1015
  m_under := W.mg_of X G z1012
  F_told := y56
  b_told := y56.binds (ps := ["_law_rack", "_law_way", "_law_a"]) fun _ _ _ _ _ _ us hl => match us, hl with | [_, _, _], _ => rfl
  k_told := z1019
  m_told := W.mg_of X G z1016
  F_built := y57
  b_built := y57.binds (ps := ["_law_xs", "_law_sizes"]) fun _ _ _ _ _ _ us hl => match us, hl with | [_, _], _ => rfl
  k_built := z1023
  m_built := W.mg_of X G z1020
  F_wrong := y58
  b_wrong := y58.binds (ps := ["_law_board", "_law_way", "_law_stripe"]) fun _ _ _ _ _ _ us hl => match us, hl with | [_, _, _], _ => rfl
  k_wrong := z1027
  m_wrong := W.mg_of X G z1024
  F_due := y59
  b_due := y59.binds (ps := ["_law_boards", "_law_sizes", "_law_way", "_law_a", "_law_power"]) fun _ _ _ _ _ _ us hl => match us, hl with | [_, _, _, _, _], _ => rfl
  k_due := z1031
  m_due := W.mg_of X G z1028
  F_seen := y60
  b_seen := y60.binds (ps := ["_law_rack", "_law_sizes"]) fun _ _ _ _ _ _ us hl => match us, hl with | [_, _], _ => rfl
  k_seen := z1035
  m_seen := W.mg_of X G z1032
  F_right := y61
  b_right := y61.binds (ps := ["_law_told_here", "_law_due_here"]) fun _ _ _ _ _ _ us hl => match us, hl with | [_, _], _ => rfl
  k_right := z1039
  m_right := W.mg_of X G z1036
  F_one := y62
  b_one := y62.binds (ps := ["_law_number"]) fun _ _ _ _ _ _ us hl => match us, hl with | [_], _ => rfl
  k_one := z1043
  m_one := W.mg_of X G z1040
  F_made := y63
  b_made := y63.binds (ps := ["_law_number"]) fun _ _ _ _ _ _ us hl => match us, hl with | [_], _ => rfl
  k_made := z1047
  m_made := W.mg_of X G z1044
  F_law := y64
  b_law := y64.binds (ps := ["_law_script"]) fun _ _ _ _ _ _ us hl => match us, hl with | [_], _ => rfl
  k_law := z1051
  m_law := W.mg_of X G z1048
  me_SlowPlank__there := ⟨z1052, z760, z763⟩
  me_SlowPlank__look_at := ⟨z1053, z775, z778⟩
  me_SlowPlank__lay_at := ⟨z1054, z780, z783⟩
  me_LostPlank__price := ⟨z1055, z765, z768⟩
  me_LostPlank__look_at := ⟨z1056, z775, z778⟩
  me_SparePlank__price := ⟨z1057, z765, z768⟩
  me_SparePlank__look_at := ⟨z1058, z775, z778⟩
  me_SparePlank__lay_at := ⟨z1059, z780, z783⟩
  uc_Plank := ⟨z1060, z1061, z1062, z758⟩
  ty_Plank := ⟨z1063, z1064, z1065, z1066⟩
  ty_SlowPlank := ⟨z1067, z1068, z1069, z1070⟩
  ty_LostPlank := ⟨z1071, z1072, z1073, z1074⟩
  ty_SparePlank := ⟨z1075, z1076, z1077, z1078⟩
  ki_LostPlank_LostPlank := z1079
  ki_SparePlank_SparePlank := z1080
  kn_Plank_LostPlank := z1081
  kn_Plank_SparePlank := z1082
  kn_SlowPlank_LostPlank := z1083
  kn_SlowPlank_SparePlank := z1084
  kn_LostPlank_SparePlank := z1085
  kn_SparePlank_LostPlank := z1086
  kt_Plank := z1087
  kt_SlowPlank := z1088
  kt_LostPlank := z1089
  kt_SparePlank := z1090
  m_PlankError := W.mg_of X G z732
  m_NoField := W.mg_of X G z733
  m_NoBack := W.mg_of X G z734
  m_NoCode := W.mg_of X G z735
  m_NoShape := W.mg_of X G z736
  m_NoPlace := W.mg_of X G z737
  m_NoBlock := W.mg_of X G z738
  m_Gone := W.mg_of X G z739
  m_Standing := W.mg_of X G z740
  m_NoPower := W.mg_of X G z741
  m_WrongPlank := W.mg_of X G z742
  m_NoLine := W.mg_of X G z743
  xc_NoShape := z1091
  xi_NoShape := ⟨z1092, z1093, z1094, z1095, z1096, z1097, z1098, z1099⟩
  ko_NoShape_PlankError := z1100
  ex_NoShape_NoShape := z1101
  ex_NoShape_NoPlace := z1102
  ex_NoShape_NoPower := z1103
  ex_NoShape_WrongPlank := z1104
  kv_NoShape := z1105
  ka_NoShape_0 := z1106
  xm_NoPlace := ⟨z744, z1107, z1108⟩
  xs_NoPlace := ⟨z1109, z1110⟩
  no_NoPlace_place := z1111
  xi_NoPlace := ⟨z1112, z1113, z1114, z1115, z1116, z1117, z1118, z1119⟩
  ko_NoPlace_PlankError := z1120
  ex_NoPlace_NoPlace := z1121
  kv_NoPlace := z1122
  ka_NoPlace_0 := z1123
  ka_NoPlace_1 := z1124
  xc_NoPower := z1125
  xi_NoPower := ⟨z1126, z1127, z1128, z1129, z1130, z1131, z1132, z1133⟩
  ko_NoPower_PlankError := z1134
  ko_NoPower_NoShape := z1135
  ex_NoPower_NoPlace := z1136
  ex_NoPower_NoPower := z1137
  ex_NoPower_WrongPlank := z1138
  kv_NoPower := z1139
  ka_NoPower_0 := z1140
  xm_WrongPlank := ⟨z749, z1141, z1142⟩
  xs_WrongPlank := ⟨z1143, z1144⟩
  no_WrongPlank_plank := z1145
  xi_WrongPlank := ⟨z1146, z1147, z1148, z1149, z1150, z1151, z1152, z1153⟩
  ko_WrongPlank_PlankError := z1154
  ex_WrongPlank_NoPlace := z1155
  ex_WrongPlank_WrongPlank := z1156
  kv_WrongPlank := z1157
  ka_WrongPlank_0 := z1158
  ka_WrongPlank_1 := z1159
  xu := ⟨xusp, xurd, xufc⟩
  n_list := W.mg_none_of X G z1160
  n_range := W.mg_none_of X G z1161
  n_isinstance := W.mg_none_of X G z1162
  n_enumerate := W.mg_none_of X G z1163
  n_len := W.mg_none_of X G z1164
  n_int := W.mg_none_of X G z1165
  n_bool := W.mg_none_of X G z1166
  n_ValueError := W.mg_none_of X G z1167
  n_max := W.mg_none_of X G z1168
  n_min := W.mg_none_of X G z1169
  v_LEAST_PLANKS := W.mg_of X G z1170
  v_MOST_PLANKS := W.mg_of X G z1171
  v_MOST_STRIPES := W.mg_of X G z1172
  v_MOST_SLOTS := W.mg_of X G z1173
  v_LEAST_COST := W.mg_of X G z1174
  v_MOST_COST := W.mg_of X G z1175 }
theorem Same.new {H : Hp} {p : Addr} {o : HO} (h : H p = none) : Same H (upd H p o) := fun b u e => by rw [upd_ne (ne_of_none e h)]; exact e
theorem ne_off {u v : V} (h : u = v) : ¬ (!decide (u = v)) = true := by rw [decide_eq_true h]; decide
theorem modN (c : Int) {n : Nat} (h : 0 < n) : ∃ y : Nat, y < n /\ c % (n : Int) = (y : Int) := by
 have hp : (0 : Int) < (n : Int) := by omega
 have h1 := Int.emod_lt_of_pos c hp
 have h2 := Int.emod_nonneg c (Int.ne_of_gt hp)
 exact ⟨(c % (n : Int)).toNat, by omega, by omega⟩
theorem log_small {i : Int} (h : i.natAbs < 1267650600228229401496703205376) : i.natAbs.log2 < 1920 := by
 by_cases h0 : i.natAbs = 0
 ·rw [h0]; decide
 ·exact Nat.lt_trans ((Nat.log2_lt h0).mpr (show i.natAbs < 2 ^ 100 from h)) (by decide)
theorem ixN_nat {n j : Nat} (h : j < n) : ixN n (j : Int) = some j := by
 unfold ixN
 rw [if_pos (by omega), if_pos (by omega), Int.toNat_natCast]
def cell (ns : List Int) (k : Nat) : Int := ns.getD k 0
section
variable {P : Program} {wo : World} {K : PySem.W.Frag} {mg : Str -> Option Value} {base : Heap} {a : Adr}
def spCell (K : PySem.W.Frag) : Sp := fun vs H Q _ => ∃ (s : Addr) (ns : List Int) (k : Nat), vs = [.ref s, .int k] /\ SqL K H s (ns.map V.int) /\ Q (.int (cell ns k)) H
theorem ok_cell_at (T : Txt K mg a) : FnOk P wo K mg base CX0 1 a.f_cell_at a.d_cell_at ["_law_script", "_law_k"] (spCell K) := by
 refine T.F_cell_at.ok (k := 0) sc_cell_at (fun vs H Q E h => ?_) (fun cdv A outer s H vs Q E hr h => ?_)
 ·obtain ⟨p, ns, k, rfl, _⟩ := h
  rfl
 ·obtain ⟨p, ns, k, rfl, hS, q⟩ := h
  refine ⟨_, (pss_cons (ps_if (pt_cmpR op_lt (pv 1) (pe_callB call_len_seq rfl T.n_len PySem.boot_len (pa_cons (pv 0) pa_nil)) (nomark _)) (pss_one (ps_ret (pe_ix ix_list (pv 0) (pv 1) (fun _ _ => rfl)))) pss_nil)
   (pss_one (ps_ret pe_int))), ?_⟩
  refine ⟨_, rfl, _, rfl, p, _, rfl, .inl hS, _, _, rfl, rfl, _, rfl, ?_⟩
  refine ite2 (fun h => ?_) (fun h => ?_)
  ·have hk : k < ns.length := by
    have := of_decide_eq_true h
    rw [List.length_map] at this
    omega
   have e : (ns.map V.int)[k]? = some (V.int (cell ns k)) := by
    unfold cell
    rw [List.getElem?_map, List.getD_eq_getElem?_getD, List.getElem?_eq_getElem hk]
    rfl
   exact ⟨_, rfl, _, rfl, p, _, _, _, rfl, rfl, hS, atI_nat e, q⟩
  ·have hk : ns.length <= k := by
    have : ¬ ((k : Int) < ((ns.map V.int).length : Nat)) := fun z => h (decide_eq_true z)
    rw [List.length_map] at this
    omega
   have e : cell ns k = 0 := by
    unfold cell
    rw [List.getD_eq_getElem?_getD, List.getElem?_eq_none hk]
    rfl
   rw [e] at q
   exact q
end
def ov : Option Int -> V
 | none => .non
 | some i => .int i
def dO : Option Int -> Dt
 | none => .non
 | some i => .int i
abbrev rO (r : List (Option Int)) : List V := r.map ov
def hf (l : Addr) : List (Str × V) := [("held", .ref l)]
def hcf (l : Addr) (c : Int) : List (Str × V) := [("held", .ref l), ("cost", .int c)]
def hmf (l : Addr) (m : Int) : List (Str × V) := [("held", .ref l), ("mark", .int m)]
section
variable {P : Program} {wo : World} {K : PySem.W.Frag} {mg : Str -> Option Value} {base : Heap} {a : Adr}
def spPlankInit (K : PySem.W.Frag) : Sp := fun vs H Q _ => ∃ (p L C dx : Addr) (xs : List V), vs = [.ref p, .ref L] ∧ H p = some (.ins C dx []) ∧ Cls K C ∧ NoAttr K C "held" ∧ H L = some (.lst xs) ∧ ∀ l, H l = none → Q .non (upd (upd H l (.lst xs)) p (.ins C dx (hf l)))
theorem ok_Plank_init (T : Txt K mg a) : FnOk P wo K mg base CX0 1 a.f_Plank_init a.d_Plank_init ["self", "held"] (spPlankInit K) := by
 refine T.F_Plank_init.ok (k := 0) sc_Plank_init (fun vs H Q E h => ?_) (fun cdv A outer s H vs Q E hr h => ?_)
 ·obtain ⟨p, L, C, dx, xs, rfl, _⟩ := h
  rfl
 ·obtain ⟨p, L, C, dx, xs, rfl, hp, cl, no, hL, q⟩ := h
  refine ⟨_, (pss_one (ps_fld (pv 0) (pe_callTy call_list_of rfl T.n_list (by decide +kernel) (pa_cons (pv 1) pa_nil)) rfl)), ?_⟩
  exact ⟨_, rfl, L, _, rfl, .inl (SqL.of hL), fun l nl => ⟨_, rfl, p, C, dx, _, rfl, Same.new nl _ _ hp, cl, no, (by decide), q l nl⟩⟩
def spPlank_there : Sp := fun vs H Q _ => ∃ (p : Addr) (x : V), vs = [.ref p, x] /\ Q (.bl true) H
theorem ok_Plank_there (T : Txt K mg a) : FnOk P wo K mg base CX0 1 a.f_Plank_there a.d_Plank_there ["self", "at"] spPlank_there := by
 refine T.F_Plank_there.ok (k := 0) sc_Plank_there (fun vs H Q E h => ?_) (fun cdv A outer s H vs Q E hr h => ?_)
 ·obtain ⟨p, x, rfl, _⟩ := h
  rfl
 ·obtain ⟨p, x, rfl, q⟩ := h
  refine ⟨_, (pss_one (ps_ret pe_bl)), ?_⟩
  exact q
def spPlank_price : Sp := fun vs H Q _ => ∃ (p : Addr), vs = [.ref p] /\ Q (.int 1) H
theorem ok_Plank_price (T : Txt K mg a) : FnOk P wo K mg base CX0 1 a.f_Plank_price a.d_Plank_price ["self"] spPlank_price := by
 refine T.F_Plank_price.ok (k := 0) sc_Plank_price (fun vs H Q E h => ?_) (fun cdv A outer s H vs Q E hr h => ?_)
 ·obtain ⟨p, rfl, _⟩ := h
  rfl
 ·obtain ⟨p, rfl, q⟩ := h
  refine ⟨_, (pss_one (ps_ret pe_int)), ?_⟩
  exact q
def spPlank_word : Sp := fun vs H Q _ => ∃ (p : Addr), vs = [.ref p] ∧ Q (.str "whole") H
theorem ok_Plank_word (T : Txt K mg a) : FnOk P wo K mg base CX0 1 a.f_Plank_word a.d_Plank_word ["self"] spPlank_word := by
 refine T.F_Plank_word.ok (k := 0) sc_Plank_word (fun vs H Q E h => ?_) (fun cdv A outer s H vs Q E hr h => ?_)
 ·obtain ⟨p, rfl, _⟩ := h
  rfl
 ·obtain ⟨p, rfl, q⟩ := h
  refine ⟨_, (pss_one (ps_ret pe_str)), ?_⟩
  exact q
def spSlowPlank_word : Sp := fun vs H Q _ => ∃ (p : Addr), vs = [.ref p] ∧ Q (.str "slow") H
theorem ok_SlowPlank_word (T : Txt K mg a) : FnOk P wo K mg base CX0 1 a.f_SlowPlank_word a.d_SlowPlank_word ["self"] spSlowPlank_word := by
 refine T.F_SlowPlank_word.ok (k := 0) sc_SlowPlank_word (fun vs H Q E h => ?_) (fun cdv A outer s H vs Q E hr h => ?_)
 ·obtain ⟨p, rfl, _⟩ := h
  rfl
 ·obtain ⟨p, rfl, q⟩ := h
  refine ⟨_, (pss_one (ps_ret pe_str)), ?_⟩
  exact q
def spLostPlank_there : Sp := fun vs H Q _ => ∃ (p : Addr) (x : V), vs = [.ref p, x] /\ Q (.bl false) H
theorem ok_LostPlank_there (T : Txt K mg a) : FnOk P wo K mg base CX0 1 a.f_LostPlank_there a.d_LostPlank_there ["self", "at"] spLostPlank_there := by
 refine T.F_LostPlank_there.ok (k := 0) sc_LostPlank_there (fun vs H Q E h => ?_) (fun cdv A outer s H vs Q E hr h => ?_)
 ·obtain ⟨p, x, rfl, _⟩ := h
  rfl
 ·obtain ⟨p, x, rfl, q⟩ := h
  refine ⟨_, (pss_one (ps_ret pe_bl)), ?_⟩
  exact q
def spLostPlank_word : Sp := fun vs H Q _ => ∃ (p : Addr), vs = [.ref p] ∧ Q (.str "lost") H
theorem ok_LostPlank_word (T : Txt K mg a) : FnOk P wo K mg base CX0 1 a.f_LostPlank_word a.d_LostPlank_word ["self"] spLostPlank_word := by
 refine T.F_LostPlank_word.ok (k := 0) sc_LostPlank_word (fun vs H Q E h => ?_) (fun cdv A outer s H vs Q E hr h => ?_)
 ·obtain ⟨p, rfl, _⟩ := h
  rfl
 ·obtain ⟨p, rfl, q⟩ := h
  refine ⟨_, (pss_one (ps_ret pe_str)), ?_⟩
  exact q
def spSparePlank_word : Sp := fun vs H Q _ => ∃ (p : Addr), vs = [.ref p] ∧ Q (.str "spare") H
theorem ok_SparePlank_word (T : Txt K mg a) : FnOk P wo K mg base CX0 1 a.f_SparePlank_word a.d_SparePlank_word ["self"] spSparePlank_word := by
 refine T.F_SparePlank_word.ok (k := 0) sc_SparePlank_word (fun vs H Q E h => ?_) (fun cdv A outer s H vs Q E hr h => ?_)
 ·obtain ⟨p, rfl, _⟩ := h
  rfl
 ·obtain ⟨p, rfl, q⟩ := h
  refine ⟨_, (pss_one (ps_ret pe_str)), ?_⟩
  exact q
def spLookAt (K : PySem.W.Frag) : Sp := fun vs H Q _ => ∃ (p l C dx : Addr) (fs : List (Str × V)) (xs : List V) (i : Nat) (v : V), vs = [.ref p, .int i] ∧ H p = some (.ins C dx fs) ∧ Cls K C ∧ NoAttr K C "held" ∧ fs.lookup ("held" : Str) = some (.ref l) ∧ H l = some (.lst xs) ∧ xs[i]? = some v ∧ Q v H
theorem ok_Plank_look_at (T : Txt K mg a) : FnOk P wo K mg base CX0 1 a.f_Plank_look_at a.d_Plank_look_at ["self", "at"] (spLookAt K) := by
 refine T.F_Plank_look_at.ok (k := 0) sc_Plank_look_at (fun vs H Q E h => ?_) (fun cdv A outer s H vs Q E hr h => ?_)
 ·obtain ⟨p, l, C, dx, fs, xs, i, v, rfl, _⟩ := h
  rfl
 ·obtain ⟨p, l, C, dx, fs, xs, i, v, rfl, hp, cl, no, lk, hl, hv, q⟩ := h
  refine ⟨_, (pss_one (ps_ret (pe_ix ix_list (pe_fld (pv 0) rfl) (pv 1) (fun _ _ => rfl)))), ?_⟩
  exact ⟨_, rfl, p, _, _, _, _, rfl, hp, cl, no, lk, _, rfl, l, _, _, _, rfl, rfl, SqL.of hl, atI_nat hv, q⟩
def spLayAt (K : PySem.W.Frag) : Sp := fun vs H Q _ => ∃ (p l C dx : Addr) (fs : List (Str × V)) (xs : List V) (i : Nat) (v : V), vs = [.ref p, .int i, v] ∧ H p = some (.ins C dx fs) ∧ Cls K C ∧ NoAttr K C "held" ∧ fs.lookup ("held" : Str) = some (.ref l) ∧ H l = some (.lst xs) ∧ i < xs.length ∧ Q .non (upd H l (.lst (xs.set i v)))
theorem ok_Plank_lay_at (T : Txt K mg a) : FnOk P wo K mg base CX0 1 a.f_Plank_lay_at a.d_Plank_lay_at ["self", "at", "block"] (spLayAt K) := by
 refine T.F_Plank_lay_at.ok (k := 0) sc_Plank_lay_at (fun vs H Q E h => ?_) (fun cdv A outer s H vs Q E hr h => ?_)
 ·obtain ⟨p, l, C, dx, fs, xs, i, v, rfl, _⟩ := h
  rfl
 ·obtain ⟨p, l, C, dx, fs, xs, i, v, rfl, hp, cl, no, lk, hl, hi, q⟩ := h
  refine ⟨_, (pss_one (ps_asg (pv 2) (pg_sub (pe_fld (pv 0) rfl) (pv 1) set_list))), ?_⟩
  exact ⟨_, rfl, _, rfl, p, _, _, _, _, rfl, hp, cl, no, lk, _, rfl, l, _, _, _, rfl, rfl, hl, ixN_nat hi, q⟩
def spLostLay : Sp := fun vs H Q _ => ∃ x y z : V, vs = [x, y, z] /\ Q .non H
theorem ok_LostPlank_lay_at (T : Txt K mg a) : FnOk P wo K mg base CX0 1 a.f_LostPlank_lay_at a.d_LostPlank_lay_at ["self", "at", "block"] spLostLay := by
 refine T.F_LostPlank_lay_at.ok (k := 0) sc_LostPlank_lay_at (fun vs H Q E h => ?_) (fun cdv A outer s H vs Q E hr h => ?_)
 ·obtain ⟨x, y, z, rfl, _⟩ := h
  rfl
 ·obtain ⟨x, y, z, rfl, q⟩ := h
  refine ⟨_, (pss_one ps_pass), ?_⟩
  exact q
def spSlowPrice (a : Adr) : Sp := fun vs H Q _ => ∃ (p l dx : Addr) (c : Int), vs = [.ref p] /\ H p = some (.ins a.C_SlowPlank dx (hcf l c)) /\ Q (.int c) H
theorem ok_SlowPlank_price (T : Txt K mg a) : FnOk P wo K mg base CX0 1 a.f_SlowPlank_price a.d_SlowPlank_price ["self"] (spSlowPrice a) := by
 refine T.F_SlowPlank_price.ok (k := 0) sc_SlowPlank_price (fun vs H Q E h => ?_) (fun cdv A outer s H vs Q E hr h => ?_)
 ·obtain ⟨p, l, dx, c, rfl, _⟩ := h
  rfl
 ·obtain ⟨p, l, dx, c, rfl, hp, q⟩ := h
  refine ⟨_, (pss_one (ps_ret (pe_fld (pv 0) rfl))), ?_⟩
  exact ⟨_, rfl, p, _, _, _, _, rfl, hp, T.cl_SlowPlank, T.no_SlowPlank_cost, rfl, q⟩
def spSpareThere (a : Adr) : Sp := fun vs H Q _ => ∃ (p l dx : Addr) (m i : Int), vs = [.ref p, .int i] /\ H p = some (.ins a.C_SparePlank dx (hmf l m)) /\ Q (.bl (decide (i < m))) H
theorem ok_SparePlank_there (T : Txt K mg a) : FnOk P wo K mg base CX0 1 a.f_SparePlank_there a.d_SparePlank_there ["self", "at"] (spSpareThere a) := by
 refine T.F_SparePlank_there.ok (k := 0) sc_SparePlank_there (fun vs H Q E h => ?_) (fun cdv A outer s H vs Q E hr h => ?_)
 ·obtain ⟨p, l, dx, m, i, rfl, _⟩ := h
  rfl
 ·obtain ⟨p, l, dx, m, i, rfl, hp, q⟩ := h
  refine ⟨_, (pss_one (ps_ret (pe_cmpR op_lt (pv 1) (pe_fld (pv 0) rfl) (nomark _)))), ?_⟩
  exact ⟨_, rfl, _, rfl, p, _, _, _, _, rfl, hp, T.cl_SparePlank, T.no_SparePlank_mark, rfl, _, _, rfl, rfl, q⟩
def spMove (a : Adr) : Sp := fun vs H Q _ => ∃ (p l dx : Addr) (m : Int), vs = [.ref p] /\ H p = some (.ins a.C_SparePlank dx (hmf l m)) /\ Q .non (upd H p (.ins a.C_SparePlank dx (hmf l (m + 1))))
theorem ok_SparePlank_move (T : Txt K mg a) : FnOk P wo K mg base CX0 1 a.f_SparePlank_move a.d_SparePlank_move ["self"] (spMove a) := by
 refine T.F_SparePlank_move.ok (k := 0) sc_SparePlank_move (fun vs H Q E h => ?_) (fun cdv A outer s H vs Q E hr h => ?_)
 ·obtain ⟨p, l, dx, m, rfl, _⟩ := h
  rfl
 ·obtain ⟨p, l, dx, m, rfl, hp, q⟩ := h
  refine ⟨_, (pss_one (ps_fldaug (pv 0) pe_int ip_add)), ?_⟩
  exact ⟨_, rfl, p, _, _, _, _, rfl, hp, T.cl_SparePlank, T.no_SparePlank_mark, rfl, _, _, rfl, rfl, dx, _, hp, (by show 2 < 1000; decide), q⟩
def spSlowInit (a : Adr) : Sp := fun vs H Q _ => ∃ (p L dx : Addr) (c : Int) (xs : List V), vs = [.ref p, .ref L, .int c] /\ H p = some (.ins a.C_SlowPlank dx []) /\ H L = some (.lst xs) /\ ∀ l, H l = none -> Q .non (upd (upd H l (.lst xs)) p (.ins a.C_SlowPlank dx (hcf l c)))
theorem ok_SlowPlank_init (T : Txt K mg a) : FnOk P wo K mg base CX0 2 a.f_SlowPlank_init a.d_SlowPlank_init ["self", "held", "cost"] (spSlowInit a) := by
 have G_Plank_init : FnOk P wo K mg base CX0 1 _ _ _ _ := ok_Plank_init T
 refine T.F_SlowPlank_init.ok (k := 1) sc_SlowPlank_init (fun vs H Q E h => ?_) (fun cdv A outer s H vs Q E hr h => ?_)
 ·obtain ⟨p, L, dx, c, xs, rfl, _⟩ := h
  rfl
 ·obtain ⟨p, L, dx, c, xs, rfl, hp, hL, q⟩ := h
  refine ⟨_, (pss_cons (ps_expr (pe_ucls rfl T.m_Plank T.uc_Plank G_Plank_init (hr.mono (by decide)) T.b_Plank_init .nil pass0 (pa_cons (pv 0) (pa_cons (pv 1) pa_nil))))
   (pss_one (ps_fld (pv 0) (pv 2) rfl))), ?_⟩
  refine ⟨_, rfl, _, rfl, p, L, _, dx, xs, rfl, hp, T.cl_SlowPlank, T.no_SlowPlank_held, hL, fun l nl => ?_⟩
  refine ⟨_, rfl, _, rfl, p, _, dx, _, rfl, upd_same, T.cl_SlowPlank, T.no_SlowPlank_cost, (by show 1 < 1000; decide), ?_⟩
  rw [upd_upd]
  exact q l nl
def spLostInit (a : Adr) : Sp := fun vs H Q _ => ∃ (p dx : Addr) (n : Nat), vs = [.ref p, .int n] /\ n <= 40 /\ H p = some (.ins a.C_LostPlank dx []) /\ ∀ l H', Same H H' -> H l = none -> H' l = none -> Q .non (upd (upd H' l (.lst (rO (List.replicate n none)))) p (.ins a.C_LostPlank dx (hf l)))
theorem repN (n : Nat) : (List.replicate n [V.non]).flatten = rO (List.replicate n none) := by
 induction n with
 | zero => rfl
 | succ n ih => rw [List.replicate_succ, List.flatten_cons, ih, List.replicate_succ]; rfl
theorem ok_LostPlank_init (T : Txt K mg a) : FnOk P wo K mg base CX0 2 a.f_LostPlank_init a.d_LostPlank_init ["self", "many"] (spLostInit a) := by
 have G_Plank_init : FnOk P wo K mg base CX0 1 _ _ _ _ := ok_Plank_init T
 refine T.F_LostPlank_init.ok (k := 1) sc_LostPlank_init (fun vs H Q E h => ?_) (fun cdv A outer s H vs Q E hr h => ?_)
 ·obtain ⟨p, dx, n, rfl, _⟩ := h
  rfl
 ·obtain ⟨p, dx, n, rfl, hn, hp, q⟩ := h
  refine ⟨_, (pss_one (ps_expr (pe_ucls rfl T.m_Plank T.uc_Plank G_Plank_init (hr.mono (by decide)) T.b_Plank_init .nil pass0 (pa_cons (pv 0) (pa_cons (pe_op op_rep (pe_lst (pa_cons pe_non pa_nil)) (pv 1)) pa_nil))))), ?_⟩
  refine ⟨_, rfl, (by decide), fun p1 n1 => ⟨_, rfl, p1, _, _, rfl, rfl, upd_same, by omega, by omega, ?_, fun p2 n2 => ?_⟩⟩
  ·rw [Int.toNat_natCast]
   show 1 * n <= sizeLine
   exact Nat.le_trans (by omega : 1 * n <= 40) (by decide)
  have eR : (List.replicate ((n : Int)).toNat [V.non]).flatten = rO (List.replicate n none) := by rw [Int.toNat_natCast]; exact repN n
  rw [eR]
  have s12 := (Same.new (o := .lst [V.non]) n1).trans (Same.new (o := .lst (rO (List.replicate n none))) n2)
  exact ⟨p, p2, _, dx, _, rfl, s12 _ _ hp, T.cl_LostPlank, T.no_LostPlank_held, upd_same, fun l nl => q l _ s12 (s12.free nl) nl⟩
def spSpareInit (a : Adr) : Sp := fun vs H Q _ => ∃ (p L dx : Addr) (xs : List V), vs = [.ref p, .ref L] /\ H p = some (.ins a.C_SparePlank dx []) /\ H L = some (.lst xs) /\ ∀ l, H l = none -> Q .non (upd (upd H l (.lst xs)) p (.ins a.C_SparePlank dx (hmf l 0)))
theorem ok_SparePlank_init (T : Txt K mg a) : FnOk P wo K mg base CX0 2 a.f_SparePlank_init a.d_SparePlank_init ["self", "held"] (spSpareInit a) := by
 have G_Plank_init : FnOk P wo K mg base CX0 1 _ _ _ _ := ok_Plank_init T
 refine T.F_SparePlank_init.ok (k := 1) sc_SparePlank_init (fun vs H Q E h => ?_) (fun cdv A outer s H vs Q E hr h => ?_)
 ·obtain ⟨p, L, dx, xs, rfl, _⟩ := h
  rfl
 ·obtain ⟨p, L, dx, xs, rfl, hp, hL, q⟩ := h
  refine ⟨_, (pss_cons (ps_expr (pe_ucls rfl T.m_Plank T.uc_Plank G_Plank_init (hr.mono (by decide)) T.b_Plank_init .nil pass0 (pa_cons (pv 0) (pa_cons (pv 1) pa_nil))))
   (pss_one (ps_fld (pv 0) pe_int rfl))), ?_⟩
  refine ⟨_, rfl, _, rfl, p, L, _, dx, xs, rfl, hp, T.cl_SparePlank, T.no_SparePlank_held, hL, fun l nl => ?_⟩
  refine ⟨_, rfl, p, _, dx, _, rfl, upd_same, T.cl_SparePlank, T.no_SparePlank_mark, (by show 1 < 1000; decide), ?_⟩
  rw [upd_upd]
  exact q l nl
end
structure Rk where
 rk : Addr
 sh : Addr
 sl : Addr
 dn : Addr
 ps : List Addr
 hs : List Addr
 P : Nat
 S : Nat
 L : Nat
 O : List Addr
def Rk.lists (R : Rk) : List Addr := R.dn :: R.sh :: R.sl :: R.hs
def rf (R : Rk) (left : Option Int) (gone : Bool) : List (Str × V) := [("planks", .int R.P), ("stripes", .int R.S), ("slots", .int R.L), ("shelf", .ref R.sh), ("slate", .ref R.sl), ("left", ov left), ("gone", .bl gone), ("done", .ref R.dn)]
theorem rf_planks (R : Rk) (left : Option Int) (gone : Bool) : (rf R left gone).lookup ("planks" : Str) = some (.int R.P) := rfl
theorem rf_stripes (R : Rk) (left : Option Int) (gone : Bool) : (rf R left gone).lookup ("stripes" : Str) = some (.int R.S) := rfl
theorem rf_slots (R : Rk) (left : Option Int) (gone : Bool) : (rf R left gone).lookup ("slots" : Str) = some (.int R.L) := rfl
theorem rf_shelf (R : Rk) (left : Option Int) (gone : Bool) : (rf R left gone).lookup ("shelf" : Str) = some (.ref R.sh) := rfl
theorem rf_left (R : Rk) (left : Option Int) (gone : Bool) : (rf R left gone).lookup ("left" : Str) = some (ov left) := rfl
theorem rf_gone (R : Rk) (left : Option Int) (gone : Bool) : (rf R left gone).lookup ("gone" : Str) = some (.bl gone) := rfl
theorem rf_done (R : Rk) (left : Option Int) (gone : Bool) : (rf R left gone).lookup ("done" : Str) = some (.ref R.dn) := rfl
def heldRow (S : Nat) (f : Nat -> Option Int) : List V := (List.range S).map fun j => ov (f j)
theorem heldRow_at {S j : Nat} {f : Nat -> Option Int} (h : j < S) : (heldRow S f)[j]? = some (ov (f j)) := by
 unfold heldRow
 rw [List.getElem?_map, List.getElem?_range h]
 rfl
theorem heldRow_len (S : Nat) (f : Nat -> Option Int) : (heldRow S f).length = S := by unfold heldRow; rw [List.length_map, List.length_range]
theorem heldRow_set {S j : Nat} {f : Nat -> Option Int} {o : Option Int} : (heldRow S f).set j (ov o) = heldRow S (fun k => if k = j then o else f k) := by
 unfold heldRow
 apply List.ext_getElem?
 intro k
 rw [List.getElem?_set, List.getElem?_map, List.getElem?_map, List.length_map, List.length_range]
 by_cases hk : k < S
 ·rw [List.getElem?_range hk]
  by_cases y : j = k
  ·subst y
   rw [if_pos rfl, if_pos hk]
   show _ = some (ov (if j = j then o else f j))
   rw [if_pos rfl]
  ·rw [if_neg y]
   show _ = some (ov (if k = j then o else f k))
   rw [if_neg (fun z => y z.symm)]
   rfl
 ·rw [List.getElem?_eq_none (by rw [List.length_range]; omega)]
  by_cases y : j = k
  ·rw [if_pos y, if_neg (by omega)]
   rfl
  ·rw [if_neg y]
   rfl
def KB (ms : List Addr) (H H' : Hp) : Prop := ∀ b o, b ∉ ms -> H b = some o -> H' b = some o
theorem KB.trans {ms : List Addr} {H H1 H2 : Hp} (h : KB ms H H1) (k : KB ms H1 H2) : KB ms H H2 := fun b o n e => k b o n (h b o n e)
theorem KB.of {ms : List Addr} {H H1 : Hp} (s : Same H H1) : KB ms H H1 := fun b o _ e => s _ _ e
theorem rep0 (n : Nat) : (List.replicate n [V.int 0]).flatten = heldRow n (fun _ => some 0) := by
 unfold heldRow
 show _ = (List.range n).map fun _ => V.int 0
 rw [List.map_const', List.length_range]
 induction n with
 | zero => rfl
 | succ n ih => rw [List.replicate_succ, List.flatten_cons, ih, List.replicate_succ]; rfl
theorem repNn (n : Nat) : (List.replicate n [V.non]).flatten = List.replicate n V.non := by
 induction n with
 | zero => rfl
 | succ n ih => rw [List.replicate_succ, List.flatten_cons, ih, List.replicate_succ]; rfl
def PairsAt (H : Hp) (pl : Addr) (prs : List (Int × Int)) : Prop := ∃ ts : List Addr, H pl = some (.lst (ts.map V.ref)) /\ ts.length = prs.length /\ ∀ (i : Nat) t, ts[i]? = some t -> ∃ p b, prs[i]? = some (p, b) /\ H t = some (.tup [.int p, .int b])
theorem PairsAt.same {H H' : Hp} {pl : Addr} {prs : List (Int × Int)} (h : PairsAt H pl prs) (s : Same H H') : PairsAt H' pl prs := by
 obtain ⟨ts, h1, h2, h3⟩ := h
 exact ⟨ts, s _ _ h1, h2, fun i t e => by
  obtain ⟨p, b, e1, e2⟩ := h3 i t e
  exact ⟨p, b, e1, s _ _ e2⟩⟩
theorem PairsAt.keep {H H' : Hp} {pl : Addr} {ms : List Addr} {prs : List (Int × Int)} (h : PairsAt H pl prs) (k : KB ms H H') (n : pl ∉ ms) (hm : ∀ b ∈ ms, ∀ xs, H b ≠ some (.tup xs)) : PairsAt H' pl prs := by
 obtain ⟨ts, h1, h2, h3⟩ := h
 exact ⟨ts, k _ _ n h1, h2, fun i t e => by
  obtain ⟨p, b, e1, e2⟩ := h3 i t e
  exact ⟨p, b, e1, k _ _ (fun z => hm _ z _ e2) e2⟩⟩
abbrev Sl := Nat -> Option (Int × List (Int × Int))
def NoteO (R : Rk) (H : Hp) (v : V) : Option (Int × List (Int × Int)) -> Prop
 | none => v = .non
 | some (st, prs) => ∃ t pl, v = .ref t /\ H t = some (.tup [.int st, .ref pl]) /\ PairsAt H pl prs /\ pl ∉ R.lists /\ pl ∈ R.O
inductive Kd where
 | whole
 | slow (c : Int)
 | lost
 | spare (m : Nat)
def Kd.C (a : Adr) : Kd -> Addr
 | .whole => a.C_Plank
 | .slow _ => a.C_SlowPlank
 | .lost => a.C_LostPlank
 | .spare _ => a.C_SparePlank
def Kd.fs (l : Addr) : Kd -> List (Str × V)
 | .whole => hf l
 | .slow c => hcf l c
 | .lost => hf l
 | .spare m => hmf l m
abbrev Bds := Nat -> Kd × (Nat -> Option Int)
structure Stt where
 l : Option Int
 g : Bool
 evs : List (List V)
 Y : Sl
 B : Bds
def NT (o : Option HO) : Prop := (∃ xs, o = some (.lst xs)) \/ ∃ C d f, o = some (.ins C d f)
theorem NT.up {H : Hp} {x : Addr} {o : HO} {O : List Addr} (hO : ∀ b ∈ O, NT (H b)) (ho : NT (some o)) : ∀ b ∈ O, NT (upd H x o b) := fun b hb => by
 by_cases z : b = x
 ·rw [z, upd_same]; exact ho
 ·rw [upd_ne z]; exact hO b hb
theorem NT.kb {H H' : Hp} {ms O : List Addr} (hO : ∀ b ∈ O, NT (H b)) (k : KB ms H H') (n : ∀ b ∈ O, b ∉ ms) : ∀ b ∈ O, NT (H' b) := fun b hb => by
 rcases hO b hb with ⟨xs, e⟩ | ⟨C, d, f, e⟩
 ·exact .inl ⟨xs, k _ _ (n b hb) e⟩
 ·exact .inr ⟨C, d, f, k _ _ (n b hb) e⟩
theorem NT.l (xs : List V) : NT (some (.lst xs)) := .inl ⟨xs, rfl⟩
theorem NT.i (C d : Addr) (f : List (Str × V)) : NT (some (.ins C d f)) := .inr ⟨C, d, f, rfl⟩
structure FR (a : Adr) (H : Hp) (R : Rk) (S : Stt) : Prop where
 ins : ∃ dx, H R.rk = some (.ins a.C_Rack dx (rf R S.l S.g))
 shelf : H R.sh = some (.lst (R.ps.map V.ref))
 lp : R.ps.length = R.P
 lh : R.hs.length = R.P
 pl : ∀ (i : Nat) p, R.ps[i]? = some p -> ∃ dp h, R.hs[i]? = some h /\ H p = some (.ins ((S.B i).1.C a) dp ((S.B i).1.fs h))
 hd : ∀ (i : Nat) h, R.hs[i]? = some h -> H h = some (.lst (heldRow R.S (S.B i).2))
 dn : ∃ ts : List Addr, H R.dn = some (.lst (ts.map V.ref)) /\ ts.length = S.evs.length /\ ∀ (i : Nat) t, ts[i]? = some t -> ∃ vs, S.evs[i]? = some vs /\ H t = some (.tup vs)
 sl : ∃ ss, H R.sl = some (.lst ss) /\ ss.length = R.L /\ ∀ (k : Nat) v, ss[k]? = some v -> NoteO R H v (S.Y k)
 nd : R.lists.Nodup
 np : (R.rk :: R.ps).Nodup
 ow : ∀ b ∈ R.rk :: R.ps ++ R.lists, b ∈ R.O
 ot : ∀ b ∈ R.O, NT (H b)
 p8 : R.P <= 8
 s32 : R.S <= 32
 l8 : R.L <= 8
theorem l_i {H : Hp} {b x : Addr} {xs : List V} {C d : Addr} {f : List (Str × V)} (h : H b = some (.lst xs)) (k : H x = some (.ins C d f)) : b ≠ x := fun z => by rw [z, k] at h; cases h
theorem t_l {H : Hp} {b x : Addr} {xs ys : List V} (h : H b = some (.tup xs)) (k : H x = some (.lst ys)) : b ≠ x := fun z => by rw [z, k] at h; cases h
theorem t_i {H : Hp} {b x : Addr} {xs : List V} {C d : Addr} {f : List (Str × V)} (h : H b = some (.tup xs)) (k : H x = some (.ins C d f)) : b ≠ x := fun z => by rw [z, k] at h; cases h
theorem KB.one {x : Addr} {H : Hp} {o : HO} : KB [x] H (upd H x o) := fun b u n e => by rw [upd_ne (fun z => n (by rw [z]; exact List.mem_singleton_self _))]; exact e
theorem n1 {b x : Addr} (h : b ≠ x) : b ∉ [x] := fun z => h (List.mem_singleton.mp z)
theorem FR.isL {a : Adr} {H : Hp} {R : Rk} {S : Stt} (h : FR a H R S) {b : Addr} (hb : b ∈ R.lists) : ∃ xs, H b = some (.lst xs) := by
 have hb : b ∈ (R.dn :: R.sh :: R.sl :: R.hs) := hb
 rcases List.mem_cons.mp hb with y | y
 ·obtain ⟨ts, h1, _⟩ := h.dn
  exact ⟨_, by rw [y]; exact h1⟩
 ·rcases List.mem_cons.mp y with y | y
  ·exact ⟨_, by rw [y]; exact h.shelf⟩
  ·rcases List.mem_cons.mp y with y | y
   ·obtain ⟨ss, h1, _⟩ := h.sl
    exact ⟨ss, by rw [y]; exact h1⟩
   ·obtain ⟨i, hi⟩ := List.getElem?_of_mem y
    exact ⟨_, h.hd i b hi⟩
theorem FR.isI {a : Adr} {H : Hp} {R : Rk} {S : Stt} (h : FR a H R S) {b : Addr} (hb : b ∈ R.rk :: R.ps) : ∃ C d f, H b = some (.ins C d f) := by
 rcases List.mem_cons.mp hb with y | y
 ·obtain ⟨dx, h1⟩ := h.ins
  exact ⟨_, _, _, by rw [y]; exact h1⟩
 ·obtain ⟨i, hi⟩ := List.getElem?_of_mem y
  obtain ⟨dp, l, _, h1⟩ := h.pl i b hi
  exact ⟨_, _, _, h1⟩
theorem FR.l_i {a : Adr} {H : Hp} {R : Rk} {S : Stt} (h : FR a H R S) {b x : Addr} (hb : b ∈ R.lists) (hx : x ∈ R.rk :: R.ps) : b ≠ x := by
 obtain ⟨_, h1⟩ := h.isL hb
 obtain ⟨_, _, _, h2⟩ := h.isI hx
 exact My.l_i h1 h2
theorem mdn {R : Rk} : R.dn ∈ R.lists := List.mem_cons_self
theorem msh {R : Rk} : R.sh ∈ R.lists := List.mem_cons_of_mem _ List.mem_cons_self
theorem msl {R : Rk} : R.sl ∈ R.lists := List.mem_cons_of_mem _ (List.mem_cons_of_mem _ List.mem_cons_self)
theorem mhs {R : Rk} {b : Addr} (h : b ∈ R.hs) : b ∈ R.lists := List.mem_cons_of_mem _ (List.mem_cons_of_mem _ (List.mem_cons_of_mem _ h))
theorem mrk {R : Rk} : R.rk ∈ R.rk :: R.ps := List.mem_cons_self
theorem mps {R : Rk} {b : Addr} (h : b ∈ R.ps) : b ∈ R.rk :: R.ps := List.mem_cons_of_mem _ h
theorem FR.ne {a : Adr} {H : Hp} {R : Rk} {S : Stt} (h : FR a H R S) : R.dn ≠ R.sh /\ R.dn ≠ R.sl /\ R.dn ∉ R.hs /\ R.sh ≠ R.sl /\ R.sh ∉ R.hs /\ R.sl ∉ R.hs /\ R.hs.Nodup := by
 have n1 := List.nodup_cons.mp h.nd
 have n2 := List.nodup_cons.mp n1.2
 have n3 := List.nodup_cons.mp n2.2
 exact ⟨fun z => n1.1 (by rw [z]; exact List.mem_cons_self), fun z => n1.1 (by rw [z]; exact List.mem_cons_of_mem _ List.mem_cons_self), fun z => n1.1 (List.mem_cons_of_mem _ (List.mem_cons_of_mem _ z)), fun z => n2.1 (by rw [z]; exact List.mem_cons_self), fun z => n2.1 (List.mem_cons_of_mem _ z), n3.1, n3.2⟩
theorem FR.pl' {a : Adr} {H H' : Hp} {R : Rk} {S : Stt} {ms : List Addr} (h : FR a H R S) (k : KB ms H H') (n : ∀ p ∈ R.ps, p ∉ ms) : ∀ (i : Nat) p, R.ps[i]? = some p -> ∃ dp h, R.hs[i]? = some h /\ H' p = some (.ins ((S.B i).1.C a) dp ((S.B i).1.fs h)) := fun i p e => by
 obtain ⟨dp, l, e1, e2⟩ := h.pl i p e
 exact ⟨dp, l, e1, k _ _ (n p (List.mem_of_getElem? e)) e2⟩
theorem FR.hd' {a : Adr} {H H' : Hp} {R : Rk} {S : Stt} {ms : List Addr} (h : FR a H R S) (k : KB ms H H') (n : ∀ p ∈ R.hs, p ∉ ms) : ∀ (i : Nat) h, R.hs[i]? = some h -> H' h = some (.lst (heldRow R.S (S.B i).2)) := fun i p e => k _ _ (n p (List.mem_of_getElem? e)) (h.hd i p e)
theorem FR.dn' {a : Adr} {H H' : Hp} {R : Rk} {S : Stt} {ms : List Addr} (h : FR a H R S) (k : KB ms H H') (n : R.dn ∉ ms) (ht : ∀ b ∈ ms, ∀ xs, H b ≠ some (.tup xs)) : ∃ ts : List Addr, H' R.dn = some (.lst (ts.map V.ref)) /\ ts.length = S.evs.length /\ ∀ (i : Nat) t, ts[i]? = some t -> ∃ vs, S.evs[i]? = some vs /\ H' t = some (.tup vs) := by
 obtain ⟨ts, h1, h2, h3⟩ := h.dn
 exact ⟨ts, k _ _ n h1, h2, fun i t e => by
  obtain ⟨vs, e1, e2⟩ := h3 i t e
  exact ⟨vs, e1, k _ _ (fun z => ht _ z _ e2) e2⟩⟩
theorem NoteO.keep {R R' : Rk} {ms : List Addr} {H H' : Hp} {v : V} {y : Option (Int × List (Int × Int))} (h : NoteO R H v y) (k : KB ms H H') (hl : ∀ b ∈ ms, b ∈ R.lists \/ b ∉ R.O \/ ∀ xs, H b ≠ some (.lst xs)) (hm : ∀ b ∈ ms, ∀ xs, H b ≠ some (.tup xs)) (hR : ∀ b ∈ R'.lists, b ∈ R.lists \/ H b = none) (hO : ∀ b ∈ R.O, b ∈ R'.O) : NoteO R' H' v y := by
 cases y with
 | none => exact h
 | some y =>
  obtain ⟨t, pl, e1, e2, e3, e4, e5⟩ := h
  have e3' := e3
  obtain ⟨ts, w, _⟩ := e3'
  refine ⟨t, pl, e1, k _ _ (fun z => hm _ z _ e2) e2, e3.keep k (fun z => ?_) hm, fun z => ?_, hO _ e5⟩
  ·rcases hl _ z with y | y | y
   ·exact e4 y
   ·exact y e5
   ·exact y _ w
  ·rcases hR _ z with y | y
   ·exact e4 y
   ·rw [w] at y
    cases y
theorem FR.sl' {a : Adr} {H H' : Hp} {R R' : Rk} {S : Stt} {ms : List Addr} (h : FR a H R S) (k : KB ms H H') (n : R.sl ∉ ms) (hl : ∀ b ∈ ms, b ∈ R.lists \/ b ∉ R.O \/ ∀ xs, H b ≠ some (.lst xs)) (hm : ∀ b ∈ ms, ∀ xs, H b ≠ some (.tup xs)) (hR : ∀ b ∈ R'.lists, b ∈ R.lists \/ H b = none) (hO : ∀ b ∈ R.O, b ∈ R'.O) : ∃ ss, H' R.sl = some (.lst ss) /\ ss.length = R.L /\ ∀ (k : Nat) v, ss[k]? = some v -> NoteO R' H' v (S.Y k) := by
 obtain ⟨ss, h1, h2, h3⟩ := h.sl
 exact ⟨ss, k _ _ n h1, h2, fun i v e => (h3 i v e).keep k hl hm hR hO⟩
theorem FR.keep {a : Adr} {H H' : Hp} {R : Rk} {S : Stt} {ms : List Addr} (h : FR a H R S) (k : KB ms H H') (ho : ∀ b ∈ ms, b ∉ R.O) (hm : ∀ b ∈ ms, ∀ xs, H b ≠ some (.tup xs)) : FR a H' R S := by
 have off : ∀ b ∈ R.rk :: R.ps ++ R.lists, b ∉ ms := fun b hb z => ho b z (h.ow b hb)
 have offl : ∀ {b}, b ∈ R.lists -> b ∉ ms := fun hb => off _ (List.mem_append_right _ hb)
 have offi : ∀ {b}, b ∈ R.rk :: R.ps -> b ∉ ms := fun hb => off _ (List.mem_append_left _ hb)
 obtain ⟨dx, h1⟩ := h.ins
 exact ⟨⟨dx, k _ _ (offi mrk) h1⟩, k _ _ (offl msh) h.shelf, h.lp, h.lh, h.pl' k fun p hp => offi (mps hp), h.hd' k fun p hp => offl (mhs hp), h.dn' k (offl mdn) hm, h.sl' k (offl msl) (fun b hb => .inr (.inl (ho b hb))) hm (fun b hb => .inl hb) (fun b hb => hb), h.nd, h.np, h.ow, NT.kb h.ot k (fun b hb z => ho b z hb), h.p8, h.s32, h.l8⟩
theorem FR.same {a : Adr} {H H' : Hp} {R : Rk} {S : Stt} (h : FR a H R S) (s : Same H H') : FR a H' R S := h.keep (KB.of (ms := []) s) (fun b hb => absurd hb List.not_mem_nil) (fun b hb => absurd hb List.not_mem_nil)
structure Ev (R R' : Rk) (H H' : Hp) : Prop where
 kb : KB R.O H H'
 own : ∀ b ∈ R'.O, b ∈ R.O \/ H b = none
 rk : R'.rk = R.rk
 P : R'.P = R.P
 S : R'.S = R.S
 L : R'.L = R.L
theorem Ev.of {R : Rk} {H H' : Hp} (s : Same H H') : Ev R R H H' := ⟨KB.of s, fun b hb => .inl hb, rfl, rfl, rfl, rfl⟩
theorem Ev.refl (R : Rk) (H : Hp) : Ev R R H H := Ev.of (fun _ _ e => e)
theorem Ev.trans {R R1 R2 : Rk} {H H1 H2 : Hp} (e : Ev R R1 H H1) (f : Ev R1 R2 H1 H2) : Ev R R2 H H2 := by
 have out : ∀ b o, b ∉ R.O -> H b = some o -> b ∉ R1.O := fun b o n h z => by
  rcases e.own b z with y | y
  ·exact n y
  ·rw [h] at y; cases y
 refine ⟨fun b o n h => f.kb b o (out b o n h) (e.kb b o n h), fun b hb => ?_, f.rk.trans e.rk, f.P.trans e.P, f.S.trans e.S, f.L.trans e.L⟩
 by_cases y : b ∈ R.O
 ·exact .inl y
 ·cases h : H b with
  | none => exact .inr rfl
  | some o =>
   rcases f.own b hb with z | z
   ·exact absurd z (out b o y h)
   ·rw [e.kb b o y h] at z
    cases z
theorem Ev.up {R : Rk} {H H' : Hp} {x : Addr} {o : HO} (e : Ev R R H H') (hx : x ∈ R.O) : Ev R R H (upd H' x o) := e.trans ⟨fun b u n z => by rw [upd_ne (fun y => n (by rw [y]; exact hx))]; exact z, fun b hb => .inl hb, rfl, rfl, rfl, rfl⟩
theorem Ev.ext {R R' : Rk} {H H' : Hp} {b : Addr} {o : HO} (e : Ev R R' H H') (n : b ∉ R.O) (h : H b = some o) : H' b = some o /\ b ∉ R'.O := ⟨e.kb b o n h, fun z => by
 rcases e.own b z with y | y
 ·exact n y
 ·rw [h] at y; cases y⟩
theorem FR.mem {a : Adr} {H : Hp} {R : Rk} {S : Stt} (h : FR a H R S) {b : Addr} (hb : b ∈ R.lists) : b ∈ R.O := h.ow b (List.mem_append_right _ hb)
theorem FR.memi {a : Adr} {H : Hp} {R : Rk} {S : Stt} (h : FR a H R S) {b : Addr} (hb : b ∈ R.rk :: R.ps) : b ∈ R.O := h.ow b (List.mem_append_left _ hb)
theorem FR.power {a : Adr} {H : Hp} {R : Rk} {S : Stt} {dx : Addr} (h : FR a H R S) (l : Option Int) (g : Bool) : FR a (upd H R.rk (.ins a.C_Rack dx (rf R l g))) R { S with l := l, g := g } := by
 have k : KB [R.rk] H (upd H R.rk (.ins a.C_Rack dx (rf R l g))) := KB.one
 have offl : ∀ {b}, b ∈ R.lists -> b ∉ [R.rk] := fun hb => n1 (h.l_i hb mrk)
 obtain ⟨dy, h1⟩ := h.ins
 have hm : ∀ b ∈ [R.rk], ∀ xs, H b ≠ some (.tup xs) := fun b hb xs z => by rw [List.mem_singleton.mp hb, h1] at z; cases z
 exact ⟨⟨dx, upd_same⟩, k _ _ (offl msh) h.shelf, h.lp, h.lh, h.pl' k fun p hp => n1 fun z => (List.nodup_cons.mp h.np).1 (by rw [<- z]; exact hp), h.hd' k fun p hp => offl (mhs hp), h.dn' k (offl mdn) hm, h.sl' k (offl msl) (fun b hb => .inr (.inr fun xs z => by rw [List.mem_singleton.mp hb, h1] at z; cases z)) hm (fun b hb => .inl hb) (fun b hb => hb), h.nd, h.np, h.ow, NT.up h.ot (NT.i _ _ _), h.p8, h.s32, h.l8⟩
theorem FR.lnt {a : Adr} {H : Hp} {R : Rk} {S : Stt} (h : FR a H R S) {x : Addr} (hx : x ∈ R.lists) : ∀ b ∈ [x], ∀ xs, H b ≠ some (.tup xs) := fun b hb xs z => by
 obtain ⟨ys, h1⟩ := h.isL hx
 rw [List.mem_singleton.mp hb, h1] at z
 cases z
theorem FR.told {a : Adr} {H : Hp} {R : Rk} {S : Stt} {ts : List Addr} {t : Addr} {vs : List V} (h : FR a H R S) (hd : H R.dn = some (.lst (ts.map V.ref))) (ht : H t = some (.tup vs)) : FR a (upd H R.dn (.lst (ts.map V.ref ++ [.ref t]))) R { S with evs := S.evs ++ [vs] } := by
 have k : KB [R.dn] H (upd H R.dn (.lst (ts.map V.ref ++ [.ref t]))) := KB.one
 obtain ⟨d1, d2, d3, d4, d5, d6, d7⟩ := h.ne
 obtain ⟨dx, h1⟩ := h.ins
 obtain ⟨ts', g1, g2, g3⟩ := h.dn
 have et : ts' = ts := by
  have e := Option.some.inj (g1.symm.trans hd)
  injection e with e
  exact (List.map_inj_right (fun _ _ z => V.ref.inj z)).mp e
 subst et
 have hm := h.lnt mdn
 have keep : ∀ {b : Addr} {xs : List V}, H b = some (.tup xs) -> (upd H R.dn (.lst (ts'.map V.ref ++ [.ref t]))) b = some (.tup xs) := fun {b xs} e => by rw [upd_ne (t_l e hd)]; exact e
 refine ⟨⟨dx, k _ _ (n1 fun z => h.l_i mdn mrk z.symm) h1⟩, k _ _ (n1 d1.symm) h.shelf, h.lp, h.lh, h.pl' k fun p hp => n1 fun z => h.l_i mdn (mps hp) z.symm, h.hd' k fun p hp => n1 fun z => d3 (by rw [<- z]; exact hp), ⟨ts' ++ [t], by rw [upd_same, List.map_append]; rfl, by rw [List.length_append, List.length_append, g2]; rfl, fun i t' e => ?_⟩, h.sl' k (n1 d2.symm) (fun b hb => .inl (by rw [List.mem_singleton.mp hb]; exact mdn)) hm (fun b hb => .inl hb) (fun b hb => hb), h.nd, h.np, h.ow, NT.up h.ot (NT.l _), h.p8, h.s32, h.l8⟩
 rw [List.getElem?_append] at e
 split at e
 ·obtain ⟨vs', e1, e2⟩ := g3 i t' e
  exact ⟨vs', by show (S.evs ++ [vs])[i]? = _; rw [List.getElem?_append_left (by rw [<- g2]; assumption)]; exact e1, keep e2⟩
 ·have ei : i - ts'.length = 0 := by
   have := (List.getElem?_eq_some_iff.mp e).1
   have : i - ts'.length < 1 := this
   omega
  rw [ei] at e
  cases Option.some.inj e
  exact ⟨vs, by show (S.evs ++ [vs])[i]? = _; rw [List.getElem?_append_right (by omega), ← g2, ei]; rfl, keep ht⟩
def setY (Y : Sl) (i : Nat) (y : Option (Int × List (Int × Int))) : Sl := fun k => if k = i then y else Y k
theorem FR.slot {a : Adr} {H : Hp} {R : Rk} {S : Stt} {ss : List V} {i : Nat} {v : V} {y : Option (Int × List (Int × Int))} {pl : Addr} (h : FR a H R S) (hs : H R.sl = some (.lst ss)) (hv : NoteO { R with O := pl :: R.O } H v y) (ht : NT (H pl)) : FR a (upd H R.sl (.lst (ss.set i v))) { R with O := pl :: R.O } { S with Y := setY S.Y i y } := by
 have k : KB [R.sl] H (upd H R.sl (.lst (ss.set i v))) := KB.one
 obtain ⟨d1, d2, d3, d4, d5, d6, d7⟩ := h.ne
 obtain ⟨dx, h1⟩ := h.ins
 obtain ⟨ss', g1, g2, g3⟩ := h.sl
 have et : ss' = ss := by
  have e := Option.some.inj (g1.symm.trans hs)
  injection e
 subst et
 have hm := h.lnt msl
 have hl : ∀ b ∈ [R.sl], b ∈ R.lists := fun b hb => by rw [List.mem_singleton.mp hb]; exact msl
 refine ⟨⟨dx, k _ _ (n1 fun z => h.l_i msl mrk z.symm) h1⟩, k _ _ (n1 d4) h.shelf, h.lp, h.lh, h.pl' k fun p hp => n1 fun z => h.l_i msl (mps hp) z.symm, h.hd' k fun p hp => n1 fun z => d6 (by rw [<- z]; exact hp), h.dn' k (n1 d2) hm, ⟨ss'.set i v, upd_same, by rw [List.length_set]; exact g2, fun j w e => ?_⟩, h.nd, h.np, fun b hb => List.mem_cons_of_mem _ (h.ow b hb), NT.up (O := pl :: R.O) (fun b hb => by
  rcases List.mem_cons.mp hb with y | y
  ·rw [y]; exact ht
  ·exact h.ot b y) (NT.l _), h.p8, h.s32, h.l8⟩
 rw [List.getElem?_set] at e
 show NoteO _ _ w (setY S.Y i y j)
 unfold setY
 by_cases z : i = j
 ·rw [if_pos z] at e
  rw [if_pos z.symm]
  split at e
  ·cases Option.some.inj e
   exact hv.keep k (fun b hb => .inl (hl b hb)) hm (fun b hb => .inl hb) (fun b hb => hb)
  ·cases e
 ·rw [if_neg z] at e
  rw [if_neg (fun w => z w.symm)]
  exact (g3 j w e).keep k (fun b hb => .inl (hl b hb)) hm (fun b hb => .inl hb) (fun b hb => List.mem_cons_of_mem _ hb)
def setB (B : Bds) (i : Nat) (b : Kd × (Nat -> Option Int)) : Bds := fun k => if k = i then b else B k
def setH (f : Nat -> Option Int) (j : Nat) (o : Option Int) : Nat -> Option Int := fun k => if k = j then o else f k
theorem nodup_at {α : Type} {l : List α} {i j : Nat} {x : α} (n : l.Nodup) (h : l[i]? = some x) (k : l[j]? = some x) : i = j := by
 have hi := (List.getElem?_eq_some_iff.mp h).1
 have hj := (List.getElem?_eq_some_iff.mp k).1
 rw [List.getElem?_eq_getElem hi] at h
 rw [List.getElem?_eq_getElem hj] at k
 exact (List.getElem_inj (h₀ := hi) (h₁ := hj) n).mp ((Option.some.inj h).trans (Option.some.inj k).symm)
theorem FR.held {a : Adr} {H : Hp} {R : Rk} {S : Stt} {i j : Nat} {l : Addr} {o : Option Int} (h : FR a H R S) (hl : R.hs[i]? = some l) : FR a (upd H l (.lst ((heldRow R.S (S.B i).2).set j (ov o)))) R { S with B := setB S.B i ((S.B i).1, setH (S.B i).2 j o) } := by
 have k : KB [l] H (upd H l (.lst ((heldRow R.S (S.B i).2).set j (ov o)))) := KB.one
 obtain ⟨d1, d2, d3, d4, d5, d6, d7⟩ := h.ne
 obtain ⟨dx, h1⟩ := h.ins
 have lm := List.mem_of_getElem? hl
 have hm := h.lnt (mhs lm)
 refine ⟨⟨dx, k _ _ (n1 fun z => h.l_i (mhs lm) mrk z.symm) h1⟩, k _ _ (n1 fun z => d5 (by rw [z]; exact lm)) h.shelf, h.lp, h.lh, fun i' p e => ?_, fun i' l' e => ?_, h.dn' k (n1 fun z => d3 (by rw [z]; exact lm)) hm, h.sl' k (n1 fun z => d6 (by rw [z]; exact lm)) (fun b hb => .inl (by rw [List.mem_singleton.mp hb]; exact mhs lm)) hm (fun b hb => .inl hb) (fun b hb => hb), h.nd, h.np, h.ow, NT.up h.ot (NT.l _), h.p8, h.s32, h.l8⟩
 ·obtain ⟨dp, l', e1, e2⟩ := h.pl i' p e
  refine ⟨dp, l', e1, ?_⟩
  rw [upd_ne (fun z => h.l_i (mhs lm) (mps (List.mem_of_getElem? e)) z.symm)]
  show _ = some (HO.ins ((setB S.B i ((S.B i).1, setH (S.B i).2 j o) i').1.C a) dp ((setB S.B i ((S.B i).1, setH (S.B i).2 j o) i').1.fs l'))
  unfold setB
  by_cases z : i' = i
  ·rw [if_pos z, e2, z]
  ·rw [if_neg z]
   exact e2
 ·show _ = some (HO.lst (heldRow R.S (setB S.B i ((S.B i).1, setH (S.B i).2 j o) i').2))
  unfold setB
  by_cases z : i' = i
  ·rw [z] at e
   cases Option.some.inj (e.symm.trans hl)
   rw [upd_same, if_pos z, heldRow_set]
   rfl
  ·have nl : l' ≠ l := fun y => z (nodup_at d7 (by rw [<- y]; exact e) hl)
   rw [upd_ne nl, if_neg z]
   exact h.hd i' l' e
theorem FR.plank {a : Adr} {H : Hp} {R : Rk} {S : Stt} {i : Nat} {p l dp : Addr} {kd : Kd} (h : FR a H R S) (hp : R.ps[i]? = some p) (hl : R.hs[i]? = some l) : FR a (upd H p (.ins (kd.C a) dp (kd.fs l))) R { S with B := setB S.B i (kd, (S.B i).2) } := by
 have k : KB [p] H (upd H p (.ins (kd.C a) dp (kd.fs l))) := KB.one
 have pm := List.mem_of_getElem? hp
 obtain ⟨C, d, f, h0⟩ := h.isI (mps pm)
 have hm : ∀ b ∈ [p], ∀ xs, H b ≠ some (.tup xs) := fun b hb xs z => by rw [List.mem_singleton.mp hb, h0] at z; cases z
 have offl : ∀ {b}, b ∈ R.lists -> b ∉ [p] := fun hb => n1 (h.l_i hb (mps pm))
 obtain ⟨dx, h1⟩ := h.ins
 have np := List.nodup_cons.mp h.np
 refine ⟨⟨dx, k _ _ (n1 fun z => np.1 (by rw [z]; exact pm)) h1⟩, k _ _ (offl msh) h.shelf, h.lp, h.lh, fun i' p' e => ?_, fun i' l' e => ?_, h.dn' k (offl mdn) hm, h.sl' k (offl msl) (fun b hb => .inr (.inr fun xs z => by rw [List.mem_singleton.mp hb, h0] at z; cases z)) hm (fun b hb => .inl hb) (fun b hb => hb), h.nd, h.np, h.ow, NT.up h.ot (NT.i _ _ _), h.p8, h.s32, h.l8⟩
 ·show ∃ dp h, R.hs[i']? = some h /\ _ = some (HO.ins ((setB S.B i (kd, (S.B i).2) i').1.C a) dp ((setB S.B i (kd, (S.B i).2) i').1.fs h))
  unfold setB
  by_cases z : i' = i
  ·rw [z] at e
   cases Option.some.inj (e.symm.trans hp)
   rw [if_pos z]
   exact ⟨dp, l, by rw [z]; exact hl, upd_same⟩
  ·obtain ⟨dq, l', e1, e2⟩ := h.pl i' p' e
   rw [if_neg z]
   exact ⟨dq, l', e1, by rw [upd_ne (fun y => z (nodup_at np.2 (by rw [<- y]; exact e) hp))]; exact e2⟩
 ·show _ = some (HO.lst (heldRow R.S (setB S.B i (kd, (S.B i).2) i').2))
  rw [k _ _ (offl (mhs (List.mem_of_getElem? e))) (h.hd i' l' e)]
  unfold setB
  by_cases z : i' = i
  ·rw [if_pos z, z]
  ·rw [if_neg z]
theorem FR.has {a : Adr} {H : Hp} {R : Rk} {S : Stt} (h : FR a H R S) {b : Addr} (hb : b ∈ R.rk :: R.ps ++ R.lists) : ∃ o, H b = some o := by
 rcases List.mem_append.mp hb with y | y
 ·obtain ⟨_, _, _, e⟩ := h.isI y
  exact ⟨_, e⟩
 ·obtain ⟨_, e⟩ := h.isL y
  exact ⟨_, e⟩
theorem nodup_set {α : Type} {x : α} : ∀ {l : List α} {i : Nat}, l.Nodup -> x ∉ l -> (l.set i x).Nodup
 | [], _, _, _ => List.nodup_nil
 | y :: l, 0, n, h => List.nodup_cons.mpr ⟨fun z => h (List.mem_cons_of_mem _ z), (List.nodup_cons.mp n).2⟩
 | y :: l, i + 1, n, h => by
  obtain ⟨n1, n2⟩ := List.nodup_cons.mp n
  refine List.nodup_cons.mpr ⟨fun z => ?_, nodup_set n2 fun z => h (List.mem_cons_of_mem _ z)⟩
  rcases List.mem_or_eq_of_mem_set z with w | w
  ·exact n1 w
  ·exact h (by rw [w]; exact List.mem_cons_self)
theorem FR.put {a : Adr} {H H' : Hp} {R : Rk} {S : Stt} {i : Nat} {p l dp : Addr} {kd : Kd} {f : Nat -> Option Int} (h : FR a H R S) (hi : i < R.P) (s : Same H H') (np0 : H p = none) (nl0 : H l = none) (hp : H' p = some (.ins (kd.C a) dp (kd.fs l))) (hl : H' l = some (.lst (heldRow R.S f))) :
  FR a (upd H' R.sh (.lst ((R.ps.map V.ref).set i (.ref p)))) { R with ps := R.ps.set i p, hs := R.hs.set i l, O := p :: l :: R.O } { S with B := setB S.B i (kd, f) } := by
 have hS := h.same s
 have k : KB [R.sh] H' (upd H' R.sh (.lst ((R.ps.map V.ref).set i (.ref p)))) := KB.one
 obtain ⟨d1, d2, d3, d4, d5, d6, d7⟩ := h.ne
 obtain ⟨dx, h1⟩ := hS.ins
 have hm := hS.lnt msh
 have offp : ∀ {b : Addr}, b ∈ R.rk :: R.ps ++ R.lists -> b ≠ p := fun hb z => by
  obtain ⟨o, e⟩ := h.has hb
  rw [z, np0] at e
  cases e
 have offq : ∀ {b : Addr}, b ∈ R.rk :: R.ps ++ R.lists -> b ≠ l := fun hb z => by
  obtain ⟨o, e⟩ := h.has hb
  rw [z, nl0] at e
  cases e
 have inl : ∀ {b : Addr}, b ∈ R.lists -> b ∈ R.rk :: R.ps ++ R.lists := fun hb => List.mem_append_right _ hb
 have ini : ∀ {b : Addr}, b ∈ R.rk :: R.ps -> b ∈ R.rk :: R.ps ++ R.lists := fun hb => List.mem_append_left _ hb
 have np := List.nodup_cons.mp h.np
 have hip : i < R.ps.length := by rw [h.lp]; exact hi
 have hih : i < R.hs.length := by rw [h.lh]; exact hi
 have nl : ∀ b ∈ R.dn :: R.sh :: R.sl :: R.hs.set i l, b ∈ R.lists \/ b = l := fun b hb => by
  rcases List.mem_cons.mp hb with y | y
  ·exact .inl (by rw [y]; exact mdn)
  ·rcases List.mem_cons.mp y with y | y
   ·exact .inl (by rw [y]; exact msh)
   ·rcases List.mem_cons.mp y with y | y
    ·exact .inl (by rw [y]; exact msl)
    ·rcases List.mem_or_eq_of_mem_set y with y | y
     ·exact .inl (mhs y)
     ·exact .inr y
 refine ⟨⟨dx, k _ _ (n1 fun z => hS.l_i msh mrk z.symm) h1⟩, by rw [upd_same, List.map_set], by show (R.ps.set i p).length = _; rw [List.length_set]; exact h.lp, by show (R.hs.set i l).length = _; rw [List.length_set]; exact h.lh, fun i' p' e => ?_, fun i' l' e => ?_, hS.dn' k (n1 d1) hm, ?_, ?_, ?_, fun b hb => ?_, NT.up (O := p :: l :: R.O) (fun b hb => ?_) (NT.l _), h.p8, h.s32, h.l8⟩
 ·have e : (R.ps.set i p)[i']? = some p' := e
  show ∃ dp h, (R.hs.set i l)[i']? = some h /\ _ = some (HO.ins ((setB S.B i (kd, f) i').1.C a) dp ((setB S.B i (kd, f) i').1.fs h))
  rw [List.getElem?_set] at e ⊢
  unfold setB
  by_cases z : i = i'
  ·rw [if_pos z, if_pos hip] at e
   rw [if_pos z, if_pos hih, if_pos z.symm]
   cases Option.some.inj e
   exact ⟨dp, l, rfl, by rw [upd_ne (fun y => offp (inl msh) y.symm)]; exact hp⟩
  ·rw [if_neg z] at e
   rw [if_neg z, if_neg (fun y => z y.symm)]
   obtain ⟨dq, l', e1, e2⟩ := hS.pl i' p' e
   exact ⟨dq, l', e1, k _ _ (n1 fun y => hS.l_i msh (mps (List.mem_of_getElem? e)) y.symm) e2⟩
 ·have e : (R.hs.set i l)[i']? = some l' := e
  show _ = some (HO.lst (heldRow R.S (setB S.B i (kd, f) i').2))
  rw [List.getElem?_set] at e
  unfold setB
  by_cases z : i = i'
  ·rw [if_pos z, if_pos hih] at e
   rw [if_pos z.symm]
   cases Option.some.inj e
   rw [upd_ne (fun y => offq (inl msh) y.symm)]
   exact hl
  ·rw [if_neg z] at e
   rw [if_neg (fun y => z y.symm)]
   exact k _ _ (n1 fun y => d5 (by rw [<- y]; exact List.mem_of_getElem? e)) (hS.hd i' l' e)
 ·refine h.sl' ((KB.of s).trans k) (n1 d4.symm) (fun b hb => .inl (by rw [List.mem_singleton.mp hb]; exact msh)) (h.lnt msh) (fun b hb => ?_) (fun b hb => List.mem_cons_of_mem _ (List.mem_cons_of_mem _ hb))
  rcases nl b hb with y | y
  ·exact .inl y
  ·exact .inr (by rw [y]; exact nl0)
 ·have n1 := List.nodup_cons.mp h.nd
  have n2 := List.nodup_cons.mp n1.2
  have n3 := List.nodup_cons.mp n2.2
  show (R.dn :: R.sh :: R.sl :: R.hs.set i l).Nodup
  refine List.nodup_cons.mpr ⟨fun z => ?_, List.nodup_cons.mpr ⟨fun z => ?_, List.nodup_cons.mpr ⟨fun z => ?_, nodup_set d7 fun z => offq (inl (mhs z)) rfl⟩⟩⟩
  ·rcases List.mem_cons.mp z with y | y
   ·exact d1 y
   ·rcases List.mem_cons.mp y with y | y
    ·exact d2 y
    ·rcases List.mem_or_eq_of_mem_set y with y | y
     ·exact d3 y
     ·exact offq (inl mdn) y
  ·rcases List.mem_cons.mp z with y | y
   ·exact d4 y
   ·rcases List.mem_or_eq_of_mem_set y with y | y
    ·exact d5 y
    ·exact offq (inl msh) y
  ·rcases List.mem_or_eq_of_mem_set z with y | y
   ·exact d6 y
   ·exact offq (inl msl) y
 ·show (R.rk :: R.ps.set i p).Nodup
  refine List.nodup_cons.mpr ⟨fun z => ?_, nodup_set np.2 fun z => offp (ini (mps z)) rfl⟩
  rcases List.mem_or_eq_of_mem_set z with y | y
  ·exact np.1 y
  ·exact offp (ini mrk) y
 ·show b ∈ p :: l :: R.O
  rcases List.mem_append.mp hb with y | y
  ·rcases List.mem_cons.mp y with y | y
   ·exact List.mem_cons_of_mem _ (List.mem_cons_of_mem _ (by rw [y]; exact h.memi mrk))
   ·rcases List.mem_or_eq_of_mem_set y with y | y
    ·exact List.mem_cons_of_mem _ (List.mem_cons_of_mem _ (h.memi (mps y)))
    ·rw [y]; exact List.mem_cons_self
  ·rcases nl b y with y | y
   ·exact List.mem_cons_of_mem _ (List.mem_cons_of_mem _ (h.mem y))
   ·rw [y]; exact List.mem_cons_of_mem _ List.mem_cons_self
 ·rcases List.mem_cons.mp hb with y | y
  ·rw [y, hp]; exact NT.i _ _ _
  ·rcases List.mem_cons.mp y with y | y
   ·rw [y, hl]; exact NT.l _
   ·exact hS.ot b y
theorem FR.nt {a : Adr} {H : Hp} {R : Rk} {S : Stt} (h : FR a H R S) : ∀ b ∈ R.O, ∀ xs, H b ≠ some (.tup xs) := fun b hb xs z => by
 rcases h.ot b hb with ⟨_, e⟩ | ⟨_, _, _, e⟩ <;> rw [e] at z <;> cases z
theorem FR.nO {a : Adr} {H : Hp} {R : Rk} {S : Stt} {b : Addr} (h : FR a H R S) (e : H b = none) : b ∉ R.O := fun hb => by
 rcases h.ot b hb with ⟨_, z⟩ | ⟨_, _, _, z⟩ <;> rw [e] at z <;> cases z
theorem FR.evPut {a : Adr} {H H' : Hp} {R : Rk} {S : Stt} {i : Nat} {p l : Addr} {o : HO} (h : FR a H R S) (s : Same H H') (np0 : H p = none) (nl0 : H l = none) : Ev R { R with ps := R.ps.set i p, hs := R.hs.set i l, O := p :: l :: R.O } H (upd H' R.sh o) := by
 refine ⟨fun b u n e => ?_, fun b hb => ?_, rfl, rfl, rfl, rfl⟩
 ·rw [upd_ne (fun z => n (by rw [z]; exact h.mem msh))]
  exact s _ _ e
 ·rcases List.mem_cons.mp hb with y | y
  ·exact .inr (by rw [y]; exact np0)
  ·rcases List.mem_cons.mp y with y | y
   ·exact .inr (by rw [y]; exact nl0)
   ·exact .inl y
theorem FR.at {a : Adr} {H : Hp} {R : Rk} {S : Stt} {i : Nat} (h : FR a H R S) (hi : i < R.P) : ∃ p dp l, R.ps[i]? = some p /\ R.hs[i]? = some l /\ H p = some (.ins ((S.B i).1.C a) dp ((S.B i).1.fs l)) /\ H l = some (.lst (heldRow R.S (S.B i).2)) := by
 have ep : R.ps[i]? = some (R.ps[i]'(by rw [h.lp]; exact hi)) := List.getElem?_eq_getElem (by rw [h.lp]; exact hi)
 obtain ⟨dp, l, hl, h1⟩ := h.pl i _ ep
 exact ⟨_, dp, l, ep, hl, h1, h.hd i l hl⟩
theorem refs_at {ps : List Addr} {i : Nat} {p : Addr} (h : ps[i]? = some p) : (ps.map V.ref)[i]? = some (.ref p) := by rw [List.getElem?_map, h]; rfl
def S0 : Stt := ⟨none, false, [], fun _ => none, fun _ => (.whole, fun _ => some 0)⟩
section
variable {P : Program} {wo : World} {K : PySem.W.Frag} {mg : Str -> Option Value} {base : Heap} {a : Adr}
def Bnd (p s l : Int) : Prop := 2 <= p /\ p <= 8 /\ 1 <= s /\ s <= 32 /\ 1 <= l /\ l <= 8
def spBounds (a : Adr) : Sp := fun vs H Q E => ∃ (p s l : Int), vs = [.int p, .int s, .int l] /\ p.natAbs.log2 < 1920 /\ s.natAbs.log2 < 1920 /\ l.natAbs.log2 < 1920 /\ ((Bnd p s l /\ Q .non H) \/ (¬ Bnd p s l /\ E (.ref a.C_NoShape) none H))
theorem ok_check_bounds (T : Txt K mg a) : FnOk P wo K mg base (CXe P wo) 1 a.f_check_bounds a.d_check_bounds ["planks", "stripes", "slots"] (spBounds a) := by
 refine T.F_check_bounds.okX (k := 0) sc_check_bounds (fun vs H Q E h => ?_) (fun cdv A outer s H vs Q E hr h => ?_)
 ·obtain ⟨p, s, l, rfl, _⟩ := h
  rfl
 ·obtain ⟨p, s, l, rfl, gp, gs, gl, h⟩ := h
  refine ⟨_, (pss_cons (ps_if (PW.pt (pw_or (pt_cmpR op_lt (pv 0) (pe_glob (v := .int 2) rfl T.v_LEAST_PLANKS ⟨_, rfl⟩) (nomark _)) (pw_or1 (pt_cmpR op_gt (pv 0) (pe_glob (v := .int 8) rfl T.v_MOST_PLANKS ⟨_, rfl⟩) (nomark _))))) (pss_one (ps_raise T.xc_NoShape rfl rfl rfl T.m_NoShape rises_cx (pa_cons (pe_fstr (pj_str (pj_int (pe_glob (v := .int 2) rfl T.v_LEAST_PLANKS ⟨_, rfl⟩) (pj_str (pj_int (pe_glob (v := .int 8) rfl T.v_MOST_PLANKS ⟨_, rfl⟩) (pj_str (pj_int (pv 0) pj_nil)))))) (by decide)) pa_nil))) pss_nil)
   (pss_cons (ps_if (PW.pt (pw_or (pt_cmpR op_lt (pv 1) pe_int (nomark _)) (pw_or1 (pt_cmpR op_gt (pv 1) (pe_glob (v := .int 32) rfl T.v_MOST_STRIPES ⟨_, rfl⟩) (nomark _))))) (pss_one (ps_raise T.xc_NoShape rfl rfl rfl T.m_NoShape rises_cx (pa_cons (pe_fstr (pj_str (pj_int (pe_glob (v := .int 32) rfl T.v_MOST_STRIPES ⟨_, rfl⟩) (pj_str (pj_int (pv 1) pj_nil)))) (by decide)) pa_nil))) pss_nil)
   (pss_one (ps_if (PW.pt (pw_or (pt_cmpR op_lt (pv 2) pe_int (nomark _)) (pw_or1 (pt_cmpR op_gt (pv 2) (pe_glob (v := .int 8) rfl T.v_MOST_SLOTS ⟨_, rfl⟩) (nomark _))))) (pss_one (ps_raise T.xc_NoShape rfl rfl rfl T.m_NoShape rises_cx (pa_cons (pe_fstr (pj_str (pj_int (pe_glob (v := .int 8) rfl T.v_MOST_SLOTS ⟨_, rfl⟩) (pj_str (pj_int (pv 2) pj_nil)))) (by decide)) pa_nil))) pss_nil)))), ?_⟩
  rcases h with ⟨⟨p1, p2, s1, s2, l1, l2⟩, q⟩ | ⟨hc, q⟩
  ·refine ⟨_, rfl, _, _, rfl, rfl, _, rfl, ?_⟩
   refine ite2 (fun y => absurd (of_decide_eq_true y) (by omega)) (fun _ => ?_)
   refine ⟨_, rfl, _, _, rfl, rfl, _, rfl, ?_⟩
   refine ite2 (fun y => absurd (of_decide_eq_true y) (by omega)) (fun _ => ?_)
   refine ⟨_, rfl, _, _, rfl, rfl, _, rfl, ?_⟩
   refine ite2 (fun y => absurd (of_decide_eq_true y) (by omega)) (fun _ => ?_)
   refine ⟨_, rfl, _, _, rfl, rfl, _, rfl, ?_⟩
   refine ite2 (fun y => absurd (of_decide_eq_true y) (by omega)) (fun _ => ?_)
   refine ⟨_, rfl, _, _, rfl, rfl, _, rfl, ?_⟩
   refine ite2 (fun y => absurd (of_decide_eq_true y) (by omega)) (fun _ => ?_)
   refine ⟨_, rfl, _, _, rfl, rfl, _, rfl, ?_⟩
   exact ite2 (fun y => absurd (of_decide_eq_true y) (by omega)) (fun _ => q)
  ·have fin : ∀ y : Str, [V.str y].length <= sizeLine /\ E (.ref a.C_NoShape) none H := fun y => ⟨by show 1 <= sizeLine; decide, q⟩
   refine ⟨_, rfl, _, _, rfl, rfl, _, rfl, ?_⟩
   refine ite2 (fun h => ⟨2, rfl, by decide, 8, rfl, by decide, _, rfl, p, rfl, gp, fin⟩) (fun y1 => ?_)
   refine ⟨_, rfl, _, _, rfl, rfl, _, rfl, ?_⟩
   refine ite2 (fun h => ⟨2, rfl, by decide, 8, rfl, by decide, _, rfl, p, rfl, gp, fin⟩) (fun y2 => ?_)
   refine ⟨_, rfl, _, _, rfl, rfl, _, rfl, ?_⟩
   refine ite2 (fun h => ⟨32, rfl, by decide, _, rfl, s, rfl, gs, fin⟩) (fun y3 => ?_)
   refine ⟨_, rfl, _, _, rfl, rfl, _, rfl, ?_⟩
   refine ite2 (fun h => ⟨32, rfl, by decide, _, rfl, s, rfl, gs, fin⟩) (fun y4 => ?_)
   refine ⟨_, rfl, _, _, rfl, rfl, _, rfl, ?_⟩
   refine ite2 (fun h => ⟨8, rfl, by decide, _, rfl, l, rfl, gl, fin⟩) (fun y5 => ?_)
   refine ⟨_, rfl, _, _, rfl, rfl, _, rfl, ?_⟩
   refine ite2 (fun h => ⟨8, rfl, by decide, _, rfl, l, rfl, gl, fin⟩) (fun y6 => ?_)
   simp only [decide_eq_true_eq] at y1 y2 y3 y4 y5 y6
   exact absurd (show Bnd p s l from ⟨by omega, by omega, by omega, by omega, by omega, by omega⟩) hc
def spRackInit (a : Adr) : Sp := fun vs H Q E => (∃ (rk dx : Addr) (p s l : Nat), vs = [.ref rk, .int p, .int s, .int l] /\ H rk = some (.ins a.C_Rack dx []) /\ 2 <= p /\ p <= 8 /\ 1 <= s /\ s <= 32 /\ 1 <= l /\ l <= 8 ∧
 ∀ (R : Rk) H', R.rk = rk -> R.P = p -> R.S = s -> R.L = l -> (∀ b o, b ≠ rk -> H b = some o -> H' b = some o) -> FR a H' R S0 -> (∀ b ∈ R.O, b = rk \/ H b = none) -> Q .non H') ∨
 ∃ (rk : Addr) (p s l : Int), vs = [.ref rk, .int p, .int s, .int l] /\ p.natAbs.log2 < 1920 /\ s.natAbs.log2 < 1920 /\ l.natAbs.log2 < 1920 /\ ¬ Bnd p s l /\ E (.ref a.C_NoShape) none H
theorem ok_Rack_init (T : Txt K mg a) : FnOk P wo K mg base (CXe P wo) 3 a.f_Rack_init a.d_Rack_init ["self", "planks", "stripes", "slots"] (spRackInit a) := by
 have G_check_bounds : FnOk P wo K mg base (CXe P wo) 2 _ _ _ _ := (ok_check_bounds T).mono (by decide)
 have G_Plank_init : FnOk P wo K mg base CX0 1 _ _ _ _ := ok_Plank_init T
 refine T.F_Rack_init.okX (k := 2) sc_Rack_init (fun vs H Q E h => ?_) (fun cdv A outer s H vs Q E hr h => ?_)
 ·rcases h with ⟨rk, dx, p, s, l, rfl, _⟩ | ⟨rk, p, s, l, rfl, _⟩ <;> rfl
 ·rcases h with ⟨rk, dx, p, s', l, rfl, hc, p1, p2, s1, s2, l1, l2, q⟩ | ⟨rk, p, s', l, rfl, gp, gs, gl, hb, q⟩
  rotate_left
  ·exact ⟨_, (pss_cons (ps_expr (pe_call G_check_bounds (hr.mono (by decide)) rfl T.m_check_bounds T.k_check_bounds T.b_check_bounds .nil (passX fun _ _ _ h => h) (pa_cons (pv 1) (pa_cons (pv 2) (pa_cons (pv 3) pa_nil)))))
   (pss_cons (ps_fld (pv 0) (pv 1) rfl)
   (pss_cons (ps_fld (pv 0) (pv 2) rfl)
   (pss_cons (ps_fld (pv 0) (pv 3) rfl)
   (pss_cons (ps_fld (pv 0) (pe_comp (CompOk.of (cap := [2]) (own := ["plank"]) (by kernel_rfl)) rfl (pi_range1 rfl T.n_range (pa_cons (pv 1) pa_nil)) (fun _ _ _ _ _ => (pg_name (i := 1) (of_decide_eq_true (by kernel_rfl)) rfl (Or.inl rfl))) (fun _ _ _ _ _ => pts_nil) (fun _ _ _ _ _ => by exact (pe_make T.mk_Plank G_Plank_init (hr.mono (by decide)) rfl T.m_Plank T.b_Plank_init .nil pass0 (pa_cons (pe_op op_rep (pe_lst (pa_cons pe_int pa_nil)) (pv 0)) pa_nil)))) rfl)
   (pss_cons (ps_fld (pv 0) (pe_op op_rep (pe_lst (pa_cons pe_non pa_nil)) (pv 3)) rfl)
   (pss_cons (ps_fld (pv 0) pe_non rfl)
   (pss_cons (ps_fld (pv 0) pe_bl rfl)
   (pss_one (ps_fld (pv 0) (pe_lst pa_nil) rfl)))))))))), ⟨_, rfl, _, rfl, _, rfl, p, s', l, rfl, gp, gs, gl, .inr ⟨hb, q⟩⟩⟩
  refine ⟨_, (pss_cons (ps_expr (pe_call G_check_bounds (hr.mono (by decide)) rfl T.m_check_bounds T.k_check_bounds T.b_check_bounds .nil (passX fun _ _ _ h => h) (pa_cons (pv 1) (pa_cons (pv 2) (pa_cons (pv 3) pa_nil)))))
   (pss_cons (ps_fld (pv 0) (pv 1) rfl)
   (pss_cons (ps_fld (pv 0) (pv 2) rfl)
   (pss_cons (ps_fld (pv 0) (pv 3) rfl)
   (pss_cons (ps_fld (pv 0) (pe_comp (CompOk.of (cap := [2]) (own := ["plank"]) (by kernel_rfl)) rfl (pi_range1 rfl T.n_range (pa_cons (pv 1) pa_nil)) (fun _ _ _ _ _ => (pg_name (i := 1) (of_decide_eq_true (by kernel_rfl)) rfl (Or.inl rfl))) (fun _ _ _ _ _ => pts_nil) (fun _ _ _ _ _ => by exact (pe_make T.mk_Plank G_Plank_init (hr.mono (by decide)) rfl T.m_Plank T.b_Plank_init .nil pass0 (pa_cons (pe_op op_rep (pe_lst (pa_cons pe_int pa_nil)) (pv 0)) pa_nil)))) rfl)
   (pss_cons (ps_fld (pv 0) (pe_op op_rep (pe_lst (pa_cons pe_non pa_nil)) (pv 3)) rfl)
   (pss_cons (ps_fld (pv 0) pe_non rfl)
   (pss_cons (ps_fld (pv 0) pe_bl rfl)
   (pss_one (ps_fld (pv 0) (pe_lst pa_nil) rfl)))))))))), ?_⟩
  have lg : ∀ n : Nat, n <= 32 -> ((n : Int)).natAbs.log2 < 1920 := fun n h => by
   rw [Int.natAbs_natCast]
   exact Nat.lt_of_le_of_lt (Nat.log2_le_self n) (by omega)
  refine ⟨_, rfl, _, rfl, _, rfl, p, s', l, rfl, lg p (by omega), lg s' (by omega), lg l (by omega), .inl ⟨⟨by omega, by omega, by omega, by omega, by omega, by omega⟩, ?_⟩⟩
  refine ⟨_, rfl, _, rfl, rk, a.C_Rack, dx, _, rfl, hc, T.cl_Rack, T.no_Rack_planks, (by decide), ?_⟩
  refine ⟨_, rfl, _, rfl, rk, a.C_Rack, dx, _, rfl, upd_same, T.cl_Rack, T.no_Rack_stripes, (by show (1 : Nat) < 1000; decide), ?_⟩
  refine ⟨_, rfl, _, rfl, rk, a.C_Rack, dx, _, rfl, upd_same, T.cl_Rack, T.no_Rack_slots, (by show (2 : Nat) < 1000; decide), ?_⟩
  dsimp only
  rw [upd_upd, upd_upd]
  have ef : putF "slots" (.int (l : Int)) (putF "stripes" (.int (s' : Int)) (putF "planks" (.int (p : Int)) [])) = [(("planks" : Str), V.int (p : Int)), (("stripes" : Str), V.int (s' : Int)), (("slots" : Str), V.int (l : Int))] := rfl
  rw [ef]
  have hc2 : (upd H rk (.ins a.C_Rack dx [(("planks" : Str), V.int (p : Int)), (("stripes" : Str), V.int (s' : Int)), (("slots" : Str), V.int (l : Int))])) rk = some (.ins a.C_Rack dx [(("planks" : Str), V.int (p : Int)), (("stripes" : Str), V.int (s' : Int)), (("slots" : Str), V.int (l : Int))]) := upd_same
  have k2 : ∀ b o, b ≠ rk → H b = some o → (upd H rk (.ins a.C_Rack dx [(("planks" : Str), V.int (p : Int)), (("stripes" : Str), V.int (s' : Int)), (("slots" : Str), V.int (l : Int))])) b = some o := fun b o z e => by rw [upd_ne z]; exact e
  have f2 : ∀ b, (upd H rk (.ins a.C_Rack dx [(("planks" : Str), V.int (p : Int)), (("stripes" : Str), V.int (s' : Int)), (("slots" : Str), V.int (l : Int))])) b = none → H b = none := fun b e => by
   by_cases z : b = rk
   ·rw [z, upd_same] at e; cases e
   ·rw [upd_ne z] at e; exact e
  generalize (upd H rk (.ins a.C_Rack dx [(("planks" : Str), V.int (p : Int)), (("stripes" : Str), V.int (s' : Int)), (("slots" : Str), V.int (l : Int))])) = H2 at hc2 k2 f2
  refine ⟨_, rfl, _, rfl, by omega, by omega, fun D nD => ?_⟩
  rw [Int.toNat_natCast]
  refine comp_invR (n := p) (cs := [some (.int s')]) (fun i ys H5 => ∃ ps hs : List Addr, ys = ps.map V.ref /\ ps.length = i /\ hs.length = i /\ (∀ (j : Nat) b, ps[j]? = some b -> ∃ dp h, hs[j]? = some h /\ H5 b = some (.ins a.C_Plank dp (hf h))) /\ (∀ h ∈ hs, H5 h = some (.lst (heldRow s' fun _ => some 0)) /\ H2 h = none /\ h ≠ D) /\ hs.Nodup /\ (∀ b ∈ ps, H2 b = none) /\ ps.Nodup) nD rfl (Nat.le_trans p2 (by decide)) (fun H3 _ => ⟨[], [], rfl, rfl, rfl, (fun j b e => by rw [List.getElem?_nil] at e; cases e), (fun h hh => absurd hh List.not_mem_nil), List.nodup_nil, (fun h hh => absurd hh List.not_mem_nil), List.nodup_nil⟩) (fun i ys H3 R3 hi s3 hD3 z3 hR => ?_) (fun ys H3 s3 hD3 z3 => ?_)
  ·obtain ⟨ps, hs, rfl, lp, lh, hp, hh, nd, hn, ndp⟩ := z3
   refine ⟨(show 1 <= sizeLine by decide), fun q1 n1 => ⟨_, rfl, q1, _, _, rfl, rfl, upd_same, by omega, by omega, ?_, fun q2 n2 => ?_⟩⟩
   ·rw [Int.toNat_natCast]
    show 1 * s' <= sizeLine
    exact Nat.le_trans (by omega : 1 * s' <= 32) (by decide)
   rw [Int.toNat_natCast, rep0]
   have sq := (Same.new (o := .lst [V.int 0]) n1).trans (Same.new (o := .lst (heldRow s' fun _ => some 0)) n2)
   have hq2 : (upd (upd H3 q1 (.lst [V.int 0])) q2 (.lst (heldRow s' fun _ => some 0))) q2 = some (.lst (heldRow s' fun _ => some 0)) := upd_same
   generalize (upd (upd H3 q1 (.lst [V.int 0])) q2 (.lst (heldRow s' fun _ => some 0))) = H4 at sq hq2
   intro x dp nx ndx nex
   have sx : Same H4 (upd (upd H4 dp (.own x)) x (.ins a.C_Plank dp [])) := fun y o e => by
    rw [upd_ne (ne_of_none e nx), upd_ne (ne_of_none e ndx)]
    exact e
   refine ⟨x, q2, a.C_Plank, dp, _, rfl, upd_same, T.cl_Plank, T.no_Plank_held, sx _ _ hq2, fun h nh => ⟨rfl, ?_⟩⟩
   have nh4 : H4 h = none := sx.free nh
   have sxh : Same H4 (upd (upd (upd (upd H4 dp (.own x)) x (.ins a.C_Plank dp [])) h (.lst (heldRow s' fun _ => some 0))) x (.ins a.C_Plank dp (hf h))) := fun y o e => by
    rw [upd_ne (ne_of_none e nx)]
    exact (Same.new nh) _ _ (sx _ _ e)
   have nhx : h ≠ x := fun z => by rw [z, upd_same] at nh; cases nh
   have hx6 : (upd (upd (upd (upd H4 dp (.own x)) x (.ins a.C_Plank dp [])) h (.lst (heldRow s' fun _ => some 0))) x (.ins a.C_Plank dp (hf h))) x = some (.ins a.C_Plank dp (hf h)) := upd_same
   have hh6 : (upd (upd (upd (upd H4 dp (.own x)) x (.ins a.C_Plank dp [])) h (.lst (heldRow s' fun _ => some 0))) x (.ins a.C_Plank dp (hf h))) h = some (.lst (heldRow s' fun _ => some 0)) := by
    rw [upd_ne nhx]
    exact upd_same
   generalize (upd (upd (upd (upd H4 dp (.own x)) x (.ins a.C_Plank dp [])) h (.lst (heldRow s' fun _ => some 0))) x (.ins a.C_Plank dp (hf h))) = H6 at sxh hx6 hh6
   have s36 := sq.trans sxh
   refine hR (.ref x) H6 s36 fun H5 sb => ?_
   have nD3 : ∀ b o, H3 b = none -> H6 b = some o -> b ≠ D := fun b o e _ z => by rw [z, hD3] at e; cases e
   have nx3 : H3 x = none := sq.free nx
   have nh3 : H3 h = none := sq.free nh4
   refine ⟨ps ++ [x], hs ++ [h], by rw [List.map_append]; rfl, by rw [List.length_append, lp]; rfl, by rw [List.length_append, lh]; rfl, fun j b e => ?_, fun b hb => ?_, ?_, fun b hb => ?_, ?_⟩
   ·rw [List.getElem?_append] at e
    split at e
    ·obtain ⟨dq, h', eh, hb⟩ := hp j b e
     have nb : b ≠ D := fun z => by rw [z, hD3] at hb; cases hb
     refine ⟨dq, h', ?_, sb _ _ nb (s36 _ _ hb)⟩
     rw [List.getElem?_append_left (by omega)]
     exact eh
    ·have ej : j - ps.length = 0 := by
      have := (List.getElem?_eq_some_iff.mp e).1
      have : j - ps.length < 1 := this
      omega
     rw [ej] at e
     cases Option.some.inj e
     refine ⟨dp, h, ?_, sb _ _ (nD3 _ _ nx3 hx6) hx6⟩
     rw [List.getElem?_append_right (by omega), lh, ← lp, ej]
     rfl
   ·rcases List.mem_append.mp hb with y | y
    ·obtain ⟨e1, e2, e3⟩ := hh b y
     exact ⟨sb _ _ e3 (s36 _ _ e1), e2, e3⟩
    ·rw [List.mem_singleton.mp y]
     exact ⟨sb _ _ (nD3 _ _ nh3 hh6) hh6, s3.free nh3, nD3 _ _ nh3 hh6⟩
   ·refine List.nodup_append.mpr ⟨nd, (List.nodup_cons.mpr ⟨List.not_mem_nil, List.nodup_nil⟩), fun b hb c hc z => ?_⟩
    rw [List.mem_singleton.mp hc] at z
    have := (hh b hb).1
    rw [z, nh3] at this
    cases this
   ·rcases List.mem_append.mp hb with y | y
    ·exact hn b y
    ·rw [List.mem_singleton.mp y]
     exact s3.free nx3
   ·refine List.nodup_append.mpr ⟨ndp, (List.nodup_cons.mpr ⟨List.not_mem_nil, List.nodup_nil⟩), fun b hb c hc z => ?_⟩
    rw [List.mem_singleton.mp hc] at z
    obtain ⟨j, hj⟩ := List.getElem?_of_mem hb
    obtain ⟨dq, h', _, hb'⟩ := hp j b hj
    rw [z, nx3] at hb'
    cases hb'
  ·obtain ⟨ps, hs, rfl, lp, lh, hp, hh, nd, hn, ndp⟩ := z3
   have hc3 := s3 _ _ hc2
   have nDr : D ≠ rk := fun z => by rw [z, hc2] at nD; cases nD
   refine ⟨_, rfl, rk, a.C_Rack, dx, _, rfl, hc3, T.cl_Rack, T.no_Rack_shelf, (by show (3 : Nat) < 1000; decide), ?_⟩
   have hc4 : (upd H3 rk (HO.ins a.C_Rack dx (putF "shelf" (.ref D) [(("planks" : Str), V.int (p : Int)), (("stripes" : Str), V.int (s' : Int)), (("slots" : Str), V.int (l : Int))]))) rk = some (.ins a.C_Rack dx [(("planks" : Str), V.int (p : Int)), (("stripes" : Str), V.int (s' : Int)), (("slots" : Str), V.int (l : Int)), (("shelf" : Str), V.ref D)]) := upd_same
   have k4 : ∀ b o, b ≠ rk → H3 b = some o → (upd H3 rk (HO.ins a.C_Rack dx (putF "shelf" (.ref D) [(("planks" : Str), V.int (p : Int)), (("stripes" : Str), V.int (s' : Int)), (("slots" : Str), V.int (l : Int))]))) b = some o := fun b o z e => by rw [upd_ne z]; exact e
   have f4 : ∀ b, (upd H3 rk (HO.ins a.C_Rack dx (putF "shelf" (.ref D) [(("planks" : Str), V.int (p : Int)), (("stripes" : Str), V.int (s' : Int)), (("slots" : Str), V.int (l : Int))]))) b = none → H3 b = none := fun b e => by
    by_cases z : b = rk
    ·rw [z, upd_same] at e; cases e
    ·rw [upd_ne z] at e; exact e
   generalize (upd H3 rk (HO.ins a.C_Rack dx (putF "shelf" (.ref D) [(("planks" : Str), V.int (p : Int)), (("stripes" : Str), V.int (s' : Int)), (("slots" : Str), V.int (l : Int))]))) = H4 at hc4 k4 f4
   refine ⟨(show 1 <= sizeLine by decide), fun q1 n1 => ⟨_, rfl, q1, _, _, rfl, rfl, upd_same, by omega, by omega, ?_, fun sl nsl => ?_⟩⟩
   ·rw [Int.toNat_natCast]
    show 1 * l <= sizeLine
    exact Nat.le_trans (by omega : 1 * l <= 32) (by decide)
   have sS := (Same.new (o := .lst [V.non]) n1).trans (Same.new (o := .lst (List.replicate (l : Int).toNat [V.non]).flatten) nsl)
   have hsl : (upd (upd H4 q1 (.lst [V.non])) sl (.lst (List.replicate (l : Int).toNat [V.non]).flatten)) sl = some (.lst (List.replicate (l : Int).toNat [V.non]).flatten) := upd_same
   have nsl4 : H4 sl = none := (Same.new (o := .lst [V.non]) n1).free nsl
   refine ⟨_, rfl, rk, a.C_Rack, dx, _, rfl, sS _ _ hc4, T.cl_Rack, T.no_Rack_slate, (by show (4 : Nat) < 1000; decide), ?_⟩
   generalize (upd (upd H4 q1 (.lst [V.non])) sl (.lst (List.replicate (l : Int).toNat [V.non]).flatten)) = H5 at sS hsl
   refine ⟨_, rfl, rk, a.C_Rack, dx, _, rfl, upd_same, T.cl_Rack, T.no_Rack_left, (by show (5 : Nat) < 1000; decide), ?_⟩
   refine ⟨_, rfl, rk, a.C_Rack, dx, _, rfl, upd_same, T.cl_Rack, T.no_Rack_gone, (by show (6 : Nat) < 1000; decide), ?_⟩
   rw [upd_upd, upd_upd]
   have ef6 : putF "gone" (V.bl false) (putF "left" V.non (putF "slate" (V.ref sl) [(("planks" : Str), V.int (p : Int)), (("stripes" : Str), V.int (s' : Int)), (("slots" : Str), V.int (l : Int)), (("shelf" : Str), V.ref D)])) = [(("planks" : Str), V.int (p : Int)), (("stripes" : Str), V.int (s' : Int)), (("slots" : Str), V.int (l : Int)), (("shelf" : Str), V.ref D), (("slate" : Str), V.ref sl), (("left" : Str), V.non), (("gone" : Str), V.bl false)] := rfl
   rw [ef6]
   have hc6 : (upd H5 rk (HO.ins a.C_Rack dx [(("planks" : Str), V.int (p : Int)), (("stripes" : Str), V.int (s' : Int)), (("slots" : Str), V.int (l : Int)), (("shelf" : Str), V.ref D), (("slate" : Str), V.ref sl), (("left" : Str), V.non), (("gone" : Str), V.bl false)])) rk = some (.ins a.C_Rack dx [(("planks" : Str), V.int (p : Int)), (("stripes" : Str), V.int (s' : Int)), (("slots" : Str), V.int (l : Int)), (("shelf" : Str), V.ref D), (("slate" : Str), V.ref sl), (("left" : Str), V.non), (("gone" : Str), V.bl false)]) := upd_same
   have k6 : ∀ b o, b ≠ rk → H5 b = some o → (upd H5 rk (HO.ins a.C_Rack dx [(("planks" : Str), V.int (p : Int)), (("stripes" : Str), V.int (s' : Int)), (("slots" : Str), V.int (l : Int)), (("shelf" : Str), V.ref D), (("slate" : Str), V.ref sl), (("left" : Str), V.non), (("gone" : Str), V.bl false)])) b = some o := fun b o z e => by rw [upd_ne z]; exact e
   have f6 : ∀ b, (upd H5 rk (HO.ins a.C_Rack dx [(("planks" : Str), V.int (p : Int)), (("stripes" : Str), V.int (s' : Int)), (("slots" : Str), V.int (l : Int)), (("shelf" : Str), V.ref D), (("slate" : Str), V.ref sl), (("left" : Str), V.non), (("gone" : Str), V.bl false)])) b = none → H5 b = none := fun b e => by
    by_cases z : b = rk
    ·rw [z, upd_same] at e; cases e
    ·rw [upd_ne z] at e; exact e
   generalize (upd H5 rk (HO.ins a.C_Rack dx [(("planks" : Str), V.int (p : Int)), (("stripes" : Str), V.int (s' : Int)), (("slots" : Str), V.int (l : Int)), (("shelf" : Str), V.ref D), (("slate" : Str), V.ref sl), (("left" : Str), V.non), (("gone" : Str), V.bl false)])) = H6 at hc6 k6 f6
   refine ⟨(show 0 <= sizeLine by decide), fun dn ndn => ?_⟩
   have sN := Same.new (o := .lst []) ndn
   have hdn : (upd H6 dn (.lst [])) dn = some (.lst []) := upd_same
   have ndr : dn ≠ rk := fun z => by rw [z, hc6] at ndn; cases ndn
   refine ⟨_, rfl, rk, a.C_Rack, dx, _, rfl, sN _ _ hc6, T.cl_Rack, T.no_Rack_done, (by show (7 : Nat) < 1000; decide), ?_⟩
   generalize (upd H6 dn (.lst [])) = H7 at sN hdn
   have hi : ∀ b o, b ≠ rk -> H3 b = some o -> H7 b = some o := fun b o z e => sN _ _ (k6 _ _ z (sS _ _ (k4 _ _ z e)))
   have up : ∀ b o, b ≠ rk → H3 b = some o → (upd H7 rk (HO.ins a.C_Rack dx (putF "done" (V.ref dn) [(("planks" : Str), V.int (p : Int)), (("stripes" : Str), V.int (s' : Int)), (("slots" : Str), V.int (l : Int)), (("shelf" : Str), V.ref D), (("slate" : Str), V.ref sl), (("left" : Str), V.non), (("gone" : Str), V.bl false)]))) b = some o := fun b o z e => by rw [upd_ne z]; exact hi b o z e
   have hhr : ∀ h ∈ hs, h ≠ rk := fun h hm z => by
    have := (hh h hm).1
    rw [z, hc3] at this
    cases this
   have nslr : sl ≠ rk := fun z => by rw [z, hc4] at nsl4; cases nsl4
   have nsl3 : H3 sl = none := f4 _ nsl4
   have ndn5 : H5 dn = none := f6 _ ndn
   have ndn4 : H4 dn = none := sS.free ndn5
   have ndn3 : H3 dn = none := f4 _ ndn4
   have hpr : ∀ b ∈ ps, b ≠ rk := fun b hb z => by
    obtain ⟨j, hj⟩ := List.getElem?_of_mem hb
    obtain ⟨dq, h', _, hb'⟩ := hp j b hj
    rw [z, hc3] at hb'
    have e := Option.some.inj hb'
    injection e with e1 e2 e3
    exact absurd (show (3 : Nat) = 1 from congrArg List.length e3) (by decide)
   refine q ⟨rk, D, sl, dn, ps, hs, p, s', l, rk :: ps ++ (dn :: D :: sl :: hs)⟩ _ rfl rfl rfl rfl (fun b o z e => up b o z (s3 _ _ (k2 _ _ z e))) ⟨⟨dx, upd_same⟩, up _ _ nDr hD3, lp, lh, fun j b e => ?_, fun j h e => ?_, ⟨[], by rw [upd_ne ndr]; exact hdn, rfl, fun i t e => (by rw [List.getElem?_nil] at e; cases e)⟩, ⟨List.replicate l .non, by rw [upd_ne nslr]; exact (sN _ _ (k6 _ _ nslr hsl)).trans (by rw [Int.toNat_natCast, repNn]), List.length_replicate, fun k v e => ?_⟩, ?_, ?_, fun b hb => hb, fun b hb => ?_, p2, s2, l2⟩ (fun b hb => ?_)
   ·obtain ⟨dp, h, eh, hb⟩ := hp j b e
    refine ⟨dp, h, eh, up _ _ (fun z => ?_) hb⟩
    rw [z, hc3] at hb
    have e := Option.some.inj hb
    injection e with e1 e2 e3
    exact absurd (show (3 : Nat) = 1 from congrArg List.length e3) (by decide)
   ·have hm := List.mem_of_getElem? e
    exact up _ _ (hhr h hm) (hh h hm).1
   ·rw [List.getElem?_replicate] at e
    split at e
    ·exact (Option.some.inj e).symm
    ·cases e
   ·have dne : ∀ b o, H3 b = some o -> dn ≠ b := fun b o e z => by rw [<- z, ndn3] at e; cases e
    have sne : ∀ b o, H3 b = some o -> sl ≠ b := fun b o e z => by rw [<- z, nsl3] at e; cases e
    have nds : dn ≠ sl := fun z => by rw [z, hsl] at ndn5; cases ndn5
    show (dn :: D :: sl :: hs).Nodup
    refine List.nodup_cons.mpr ⟨fun z => ?_, List.nodup_cons.mpr ⟨fun z => ?_, List.nodup_cons.mpr ⟨fun z => sne sl _ (hh sl z).1 rfl, nd⟩⟩⟩
    ·rcases List.mem_cons.mp z with y | y
     ·exact dne _ _ hD3 y
     ·rcases List.mem_cons.mp y with y | y
      ·exact nds y
      ·exact dne _ _ (hh dn y).1 rfl
    ·rcases List.mem_cons.mp z with y | y
     ·exact sne _ _ hD3 y.symm
     ·exact (hh D y).2.2 rfl
   ·exact List.nodup_cons.mpr ⟨fun z => hpr rk z rfl, ndp⟩
   ·rcases List.mem_append.mp hb with hb | hb
    ·rcases List.mem_cons.mp hb with y | y
     ·rw [y, upd_same]; exact NT.i _ _ _
     ·obtain ⟨j, hj⟩ := List.getElem?_of_mem y
      obtain ⟨dq, h', _, hb'⟩ := hp j b hj
      rw [up _ _ (hpr b y) hb']
      exact NT.i _ _ _
    ·rcases List.mem_cons.mp hb with y | y
     ·rw [y, upd_ne ndr, hdn]; exact NT.l _
     ·rcases List.mem_cons.mp y with y | y
      ·rw [y, up _ _ nDr hD3]; exact NT.l _
      ·rcases List.mem_cons.mp y with y | y
       ·rw [y, upd_ne nslr, sN _ _ (k6 _ _ nslr hsl)]; exact NT.l _
       ·rw [up _ _ (hhr b y) (hh b y).1]; exact NT.l _
   ·rcases List.mem_append.mp hb with hb | hb
    ·rcases List.mem_cons.mp hb with y | y
     ·exact .inl y
     ·exact .inr (f2 _ (hn b y))
    refine .inr ?_
    have hb : b ∈ (dn :: D :: sl :: hs) := hb
    rcases List.mem_cons.mp hb with y | y
    ·rw [y]; exact f2 _ (s3.free ndn3)
    ·rcases List.mem_cons.mp y with y | y
     ·rw [y]; exact f2 _ nD
     ·rcases List.mem_cons.mp y with y | y
      ·rw [y]; exact f2 _ (s3.free nsl3)
      ·exact f2 _ (hh b y).2.1
end
def npD (i : Int) : List (Str × V) := [("place", .int i)]
def wpD (i : Int) : List (Str × V) := [("plank", .int i)]
def XO (C : Addr) (D : List (Str × V)) (H : Hp) (E : XK) : Prop := ∀ dx H', Same H H' -> H dx = none -> H' dx = some (.ext (XDict dx D)) -> E (.ref C) (some dx) H'
theorem xo_raise {C : Addr} {D : List (Str × V)} {H : Hp} {E : XK} {x dx : Addr} (h : XO C D H E) (nx : H x = none) (nd : (upd H x (.ext (XAtF true x C none))) dx = none) (ne : dx ≠ x) :
  E (.ref C) (some dx) (drop (upd (upd (upd H x (.ext (XAtF true x C none))) dx (.ext (XDict dx D))) x (.ext (XAtF true x C (some dx)))) x) := by
 rw [upd_ne ne] at nd
 refine h dx _ (fun b o e => ?_) nd ?_
 ·have bx : b ≠ x := ne_of_none e nx
  have bd : b ≠ dx := ne_of_none e nd
  rw [drop_ne bx, upd_ne bx, upd_ne bd, upd_ne bx]
  exact e
 ·rw [drop_ne ne, upd_ne ne]
  exact upd_same
abbrev NP (a : Adr) (i : Int) (H : Hp) (E : XK) : Prop := XO a.C_NoPlace (npD i) H E
abbrev WP (a : Adr) (i : Int) (H : Hp) (E : XK) : Prop := XO a.C_WrongPlank (wpD i) H E
def BadI (a : Adr) (n : Nat) (H : Hp) (E : XK) (x : V) : Prop := ∃ i : Int, x = .int i /\ (i < 0 \/ (n : Int) <= i) /\ i.natAbs.log2 < 1920 /\ NP a i H E
def BadIJ (a : Adr) (n m : Nat) (H : Hp) (E : XK) (x y : V) : Prop := BadI a n H E x \/ ∃ i : Nat, x = .int i /\ i < n /\ BadI a m H E y
theorem small_log {i : Nat} (h : i <= 100) : ((i : Nat) : Int).natAbs.log2 < 1920 := log_small (by omega)
def Kd.isLost : Kd -> Bool
 | .lost => true
 | _ => false
def Kd.isSpare : Kd -> Bool
 | .spare _ => true
 | _ => false
def Kd.there (j : Nat) : Kd -> Bool
 | .lost => false
 | .spare m => decide ((j : Int) < (m : Int))
 | _ => true
def Kd.word : Kd -> Str
 | .whole => "whole"
 | .slow _ => "slow"
 | .lost => "lost"
 | .spare _ => "spare"
def Kd.mark : Kd -> V
 | .spare m => .int m
 | _ => .non
def Kd.price : Kd -> Int
 | .slow c => c
 | _ => 1
def Pow (S : Stt) : Prop := S.g = false /\ ∀ z, S.l = some z -> 1 <= z
def dec (left : Option Int) : Option Int := left.map fun z => z - 1
def Stt.off (S : Stt) : Stt := { S with g := true }
def Stt.spend (S : Stt) (ev : List V) : Stt := { S with l := dec S.l, evs := S.evs ++ [ev] }
def Stt.hold (S : Stt) (i j : Nat) (o : Option Int) : Stt := { S with B := setB S.B i ((S.B i).1, setH (S.B i).2 j o) }
def Stt.kind (S : Stt) (i : Nat) (kd : Kd) (f : Nat -> Option Int) : Stt := { S with B := setB S.B i (kd, f) }
def Stt.noted (S : Stt) (i : Nat) (y : Option (Int × List (Int × Int))) : Stt := { S with Y := setY S.Y i y }
theorem setLeft {R : Rk} {left : Option Int} {gone : Bool} {v : Option Int} : putF "left" (ov v) (rf R left gone) = rf R v gone := rfl
theorem setGone {R : Rk} {left : Option Int} {gone v : Bool} : putF "gone" (.bl v) (rf R left gone) = rf R left v := rfl
theorem rf_slate (R : Rk) (left : Option Int) (gone : Bool) : (rf R left gone).lookup ("slate" : Str) = some (.ref R.sl) := rfl
theorem kd_held (kd : Kd) (l : Addr) : (kd.fs l).lookup ("held" : Str) = some (.ref l) := by cases kd <;> rfl
theorem rep_held (n : Nat) : rO (List.replicate n none) = heldRow n (fun _ => none) := by
 unfold heldRow
 rw [List.map_const', List.length_range]
 show (List.replicate n none).map ov = _
 rw [List.map_replicate]
section
variable {P : Program} {wo : World} {K : PySem.W.Frag} {mg : Str -> Option Value} {base : Heap} {a : Adr}
theorem kit_lost (T : Txt K mg a) (kd : Kd) : PySem.W.kitOne K (.ref (kd.C a)) (.ref a.C_LostPlank) = some kd.isLost := by
 cases kd
 ·exact T.kn_Plank_LostPlank
 ·exact T.kn_SlowPlank_LostPlank
 ·exact T.ki_LostPlank_LostPlank
 ·exact T.kn_SparePlank_LostPlank
theorem kit_spare (T : Txt K mg a) (kd : Kd) : PySem.W.kitOne K (.ref (kd.C a)) (.ref a.C_SparePlank) = some kd.isSpare := by
 cases kd
 ·exact T.kn_Plank_SparePlank
 ·exact T.kn_SlowPlank_SparePlank
 ·exact T.kn_LostPlank_SparePlank
 ·exact T.ki_SparePlank_SparePlank
theorem kd_cls (T : Txt K mg a) (kd : Kd) : Cls K (kd.C a) := by
 cases kd
 ·exact T.cl_Plank
 ·exact T.cl_SlowPlank
 ·exact T.cl_LostPlank
 ·exact T.cl_SparePlank
theorem kd_ty (T : Txt K mg a) (kd : Kd) : TyIn K (kd.C a) := by
 cases kd
 ·exact T.ty_Plank
 ·exact T.ty_SlowPlank
 ·exact T.ty_LostPlank
 ·exact T.ty_SparePlank
theorem kd_no (T : Txt K mg a) (kd : Kd) : NoAttr K (kd.C a) "held" := by
 cases kd
 ·exact T.no_Plank_held
 ·exact T.no_SlowPlank_held
 ·exact T.no_LostPlank_held
 ·exact T.no_SparePlank_held
def spNoPlaceInit (a : Adr) : Sp := fun vs H Q _ => ∃ (x : Addr) (i : Int), vs = [.ref x, .int i] /\ i.natAbs.log2 < 1920 /\ H x = some (.ext (XAtF true x a.C_NoPlace none)) /\ ∀ dx, H dx = none -> dx ≠ x -> Q .non (upd (upd H dx (.ext (XDict dx (npD i)))) x (.ext (XAtF true x a.C_NoPlace (some dx))))
theorem ok_NoPlace_init (T : Txt K mg a) : FnOk P wo K mg base CX0 1 a.f_NoPlace_init a.d_NoPlace_init ["self", "place"] (spNoPlaceInit a) := by
 refine T.F_NoPlace_init.ok (k := 0) sc_NoPlace_init (fun vs H Q E h => ?_) (fun cdv A outer s H vs Q E hr h => ?_)
 ·obtain ⟨x, i, rfl, _⟩ := h
  rfl
 ·obtain ⟨x, i, rfl, hl, hx, q⟩ := h
  refine ⟨_, (pss_cons (ps_expr (pe_binit rfl T.m_PlankError T.xu (pa_cons (pv 0) (pa_cons (pe_fstr (pj_str (pj_int (pv 1) pj_nil)) (by decide)) pa_nil))))
   (pss_one (ps_fldX1 (pv 0) (pv 1) rfl))), ?_⟩
  refine ⟨_, rfl, _, rfl, i, rfl, hl, fun y => ⟨true, x, a.C_NoPlace, none, _, rfl, (by show 1 <= 1000; decide), hx, T.xi_NoPlace, ?_⟩⟩
  exact ⟨_, rfl, _, rfl, true, x, a.C_NoPlace, a.C_PlankError, rfl, hx, T.xi_NoPlace, T.xs_NoPlace, T.no_NoPlace_place, fun dx nd ne => q dx nd ne⟩
def spWrongInit (a : Adr) : Sp := fun vs H Q _ => ∃ (x : Addr) (i : Int), vs = [.ref x, .int i] /\ i.natAbs.log2 < 1920 /\ H x = some (.ext (XAtF true x a.C_WrongPlank none)) /\ ∀ dx, H dx = none -> dx ≠ x -> Q .non (upd (upd H dx (.ext (XDict dx (wpD i)))) x (.ext (XAtF true x a.C_WrongPlank (some dx))))
theorem ok_WrongPlank_init (T : Txt K mg a) : FnOk P wo K mg base CX0 1 a.f_WrongPlank_init a.d_WrongPlank_init ["self", "plank"] (spWrongInit a) := by
 refine T.F_WrongPlank_init.ok (k := 0) sc_WrongPlank_init (fun vs H Q E h => ?_) (fun cdv A outer s H vs Q E hr h => ?_)
 ·obtain ⟨x, i, rfl, _⟩ := h
  rfl
 ·obtain ⟨x, i, rfl, hl, hx, q⟩ := h
  refine ⟨_, (pss_cons (ps_expr (pe_binit rfl T.m_PlankError T.xu (pa_cons (pv 0) (pa_cons (pe_fstr (pj_str (pj_int (pv 1) (pj_str pj_nil))) (by decide)) pa_nil))))
   (pss_one (ps_fldX1 (pv 0) (pv 1) rfl))), ?_⟩
  refine ⟨_, rfl, _, rfl, i, rfl, hl, fun y => ⟨true, x, a.C_WrongPlank, none, _, rfl, (by show 1 <= 1000; decide), hx, T.xi_WrongPlank, ?_⟩⟩
  exact ⟨_, rfl, _, rfl, true, x, a.C_WrongPlank, a.C_PlankError, rfl, hx, T.xi_WrongPlank, T.xs_WrongPlank, T.no_WrongPlank_plank, fun dx nd ne => q dx nd ne⟩
def spNeedX (a : Adr) : Sp := fun vs H Q E => ∃ (R : Rk) (S : Stt), vs = [.ref R.rk] /\ FR a H R S /\ (Pow S -> Q .non H) /\ (¬ Pow S -> ∀ H', Ev R R H H' -> FR a H' R S.off -> E (.ref a.C_NoPower) none H')
theorem ok_Rack_need_write (T : Txt K mg a) : FnOk P wo K mg base (CXe P wo) 1 a.f_Rack_need_write a.d_Rack_need_write ["self"] (spNeedX a) := by
 refine T.F_Rack_need_write.okX (k := 0) sc_Rack_need_write (fun vs H Q E h => ?_) (fun cdv A outer s H vs Q E hr h => ?_)
 ·obtain ⟨R, S, rfl, _⟩ := h
  rfl
 ·obtain ⟨R, S, rfl, hR, q, qE⟩ := h
  obtain ⟨dx, h1⟩ := id hR.ins
  have fin : ∀ H', E (.ref a.C_NoPower) none H' -> ∀ y : Str, [V.str y].length <= sizeLine /\ E (.ref a.C_NoPower) none H' := fun H' z y => ⟨by show 1 <= sizeLine; decide, z⟩
  have goneE : S.g = true -> E (.ref a.C_NoPower) none H := fun hg => by
   refine qE (fun z => absurd z.1 (by rw [hg]; decide)) H (Ev.refl _ _) ?_
   have e : S.off = S := by
    unfold Stt.off
    rw [<- hg]
   rw [e]
   exact hR
  refine ⟨_, (pss_cons (ps_if (PW.pt (pw_and (pt_cmpR op_notN (pe_fld (pv 0) rfl) pe_non (nomark _)) (pw_and1 (pt_cmpR op_lt (pe_fld (pv 0) rfl) pe_int (nomark _))))) (pss_one (ps_fld (pv 0) pe_bl rfl)) pss_nil)
   (pss_one (ps_if (pt_val (pe_fld (pv 0) rfl)) (pss_one (ps_raise T.xc_NoPower rfl rfl rfl T.m_NoPower rises_cx (pa_cons pe_str pa_nil))) pss_nil))), ?_⟩
  refine ⟨_, rfl, R.rk, _, _, _, _, rfl, h1, T.cl_Rack, T.no_Rack_left, rf_left _ _ _, rfl, _, rfl, ?_⟩
  cases hl : S.l with
  | none =>
   refine ite2 (fun z => absurd z (by decide)) (fun _ => ?_)
   refine ite2 (fun z => absurd z (by decide)) (fun _ => ?_)
   refine ⟨_, rfl, R.rk, _, _, _, _, rfl, h1, T.cl_Rack, T.no_Rack_gone, rf_gone _ _ _, _, rfl, ?_⟩
   cases hg : S.g with
   | false => exact ite2 (fun z => absurd z (by decide)) (fun _ => q ⟨hg, fun z hz => by rw [hl] at hz; cases hz⟩)
   | true =>
    refine ite2 (fun _ => ?_) (fun z => absurd rfl z)
    exact fin _ (goneE hg) _
  | some z =>
   refine ite2 (fun _ => ?_) (fun y => absurd (by rw [decide_eq_false (fun w => by cases w)]; rfl) y)
   refine ⟨_, rfl, R.rk, _, _, _, _, rfl, h1, T.cl_Rack, T.no_Rack_left, rf_left _ _ _, z, 1, (by rw [hl]; rfl), rfl, _, rfl, ?_⟩
   by_cases hz : z < 1
   ·refine ite2 (fun _ => ?_) (fun y => absurd (decide_eq_true hz) y)
    refine ⟨_, rfl, R.rk, a.C_Rack, dx, _, rfl, h1, T.cl_Rack, T.no_Rack_gone, (by show (8 : Nat) < 1000; decide), ?_⟩
    rw [setGone]
    refine ⟨_, rfl, R.rk, _, _, _, _, rfl, upd_same, T.cl_Rack, T.no_Rack_gone, rf_gone _ _ _, _, rfl, ?_⟩
    refine ite2 (fun _ => ?_) (fun z => absurd rfl z)
    exact fin _ (qE (fun y => by have := y.2 z hl; omega) _ ((Ev.refl R H).up (hR.memi mrk)) (hR.power S.l true)) _
   ·refine ite2 (fun y => absurd (of_decide_eq_true y) hz) (fun _ => ?_)
    refine ⟨_, rfl, R.rk, _, _, _, _, rfl, h1, T.cl_Rack, T.no_Rack_gone, rf_gone _ _ _, _, rfl, ?_⟩
    cases hg : S.g with
    | false => exact ite2 (fun z => absurd z (by decide)) (fun _ => q ⟨hg, fun z' hz' => by rw [hl] at hz'; cases hz'; omega⟩)
    | true =>
     refine ite2 (fun _ => ?_) (fun z => absurd rfl z)
     exact fin _ (goneE hg) _
def spSpendK (a : Adr) : Sp := fun vs H Q _ => ∃ (R : Rk) (S : Stt) (t : Addr) (ev : List V), vs = [.ref R.rk, .ref t] /\ FR a H R S /\ H t = some (.tup ev) /\ S.evs.length < 9000 /\ ∀ H', Ev R R H H' -> FR a H' R (S.spend ev) -> Q .non H'
theorem ok_Rack_spend (T : Txt K mg a) : FnOk P wo K mg base CX0 1 a.f_Rack_spend a.d_Rack_spend ["self", "event"] (spSpendK a) := by
 refine T.F_Rack_spend.ok (k := 0) sc_Rack_spend (fun vs H Q E h => ?_) (fun cdv A outer s H vs Q E hr h => ?_)
 ·obtain ⟨R, S, t, ev, rfl, _⟩ := h
  rfl
 ·obtain ⟨R, S, t, ev, rfl, hR, ht, he, q⟩ := h
  obtain ⟨dx, h1⟩ := id hR.ins
  refine ⟨_, (pss_cons (ps_if (pt_cmpR op_notN (pe_fld (pv 0) rfl) pe_non (nomark _)) (pss_one (ps_fldaug (pv 0) pe_int ip_sub)) pss_nil)
   (pss_one (ps_expr (pe_bm PySem.F.plainAttrs_list PySem.F.slot_list_append PySem.F.type_list_append mt_append (pe_fld (pv 0) rfl) (pa_cons (pv 1) pa_nil))))), ?_⟩
  refine ⟨_, rfl, R.rk, _, _, _, _, rfl, h1, T.cl_Rack, T.no_Rack_left, rf_left _ _ _, rfl, _, rfl, ?_⟩
  cases hl : S.l with
  | none =>
   refine ite2 (fun z => absurd z (by decide)) (fun _ => ?_)
   obtain ⟨ts, h2, h3, _⟩ := id hR.dn
   have fits : (ts.map V.ref).length < sizeLine := Nat.lt_of_lt_of_le (by rw [List.length_map, h3]; exact he) (by decide)
   refine ⟨_, rfl, R.rk, _, _, _, _, rfl, h1, T.cl_Rack, T.no_Rack_done, rf_done _ _ _, .inl ⟨rfl, _, SqL.of h2⟩, _, rfl, R.dn, _, _, rfl, rfl, h2, fits, ?_⟩
   refine q _ ((Ev.refl R H).up (hR.mem mdn)) ?_
   have e : S.spend ev = { S with evs := S.evs ++ [ev] } := by
    unfold Stt.spend
    rw [hl]
    obtain ⟨l, g, evs, Y, B⟩ := S
    cases (show l = none from hl)
    rfl
   rw [e]
   exact hR.told h2 ht
  | some z =>
   refine ite2 (fun _ => ?_) (fun y => absurd (by rw [decide_eq_false (fun w => by cases w)]; rfl) y)
   refine ⟨_, rfl, R.rk, _, _, _, _, rfl, h1, T.cl_Rack, T.no_Rack_left, rf_left _ _ _, z, 1, (by rw [hl]; rfl), rfl, dx, _, h1, (by show (8 : Nat) < 1000; decide), ?_⟩
   have el : putF "left" (V.int (z - 1)) (rf R S.l S.g) = rf R (dec S.l) S.g := by rw [hl]; rfl
   rw [el]
   have hR2 := hR.power (dx := dx) (dec S.l) S.g
   have ht2 : (upd H R.rk (.ins a.C_Rack dx (rf R (dec S.l) S.g))) t = some (.tup ev) := by rw [upd_ne (t_i ht h1)]; exact ht
   have ev2 := (Ev.refl R H).up (o := .ins a.C_Rack dx (rf R (dec S.l) S.g)) (hR.memi mrk)
   generalize (upd H R.rk (.ins a.C_Rack dx (rf R (dec S.l) S.g))) = H2 at hR2 ht2 ev2
   obtain ⟨ts, h2, h3, _⟩ := id hR2.dn
   obtain ⟨dx2, h12⟩ := id hR2.ins
   have fits : (ts.map V.ref).length < sizeLine := Nat.lt_of_lt_of_le (by rw [List.length_map, h3]; exact he) (by decide)
   refine ⟨_, rfl, R.rk, _, _, _, _, rfl, h12, T.cl_Rack, T.no_Rack_done, rf_done _ _ _, .inl ⟨rfl, _, SqL.of h2⟩, _, rfl, R.dn, _, _, rfl, rfl, h2, fits, ?_⟩
   exact q _ (ev2.up (hR2.mem mdn)) (hR2.told h2 ht2)
def spSupply (a : Adr) : Sp := fun vs H Q _ => ∃ (R : Rk) (S : Stt) (v : Option Int), vs = [.ref R.rk, ov v] /\ FR a H R S /\ ∀ H', Ev R R H H' -> FR a H' R { S with l := v, g := false } -> Q .non H'
theorem ok_Rack_supply (T : Txt K mg a) : FnOk P wo K mg base CX0 1 a.f_Rack_supply a.d_Rack_supply ["self", "left"] (spSupply a) := by
 refine T.F_Rack_supply.ok (k := 0) sc_Rack_supply (fun vs H Q E h => ?_) (fun cdv A outer s H vs Q E hr h => ?_)
 ·obtain ⟨R, S, v, rfl, _⟩ := h
  rfl
 ·obtain ⟨R, S, v, rfl, hR, q⟩ := h
  obtain ⟨dx, h1⟩ := id hR.ins
  refine ⟨_, (pss_cons (ps_fld (pv 0) (pv 1) rfl)
   (pss_one (ps_fld (pv 0) pe_bl rfl))), ?_⟩
  refine ⟨_, rfl, _, rfl, R.rk, a.C_Rack, dx, _, rfl, h1, T.cl_Rack, T.no_Rack_left, (by show (8 : Nat) < 1000; decide), ?_⟩
  refine ⟨_, rfl, R.rk, a.C_Rack, dx, _, rfl, upd_same, T.cl_Rack, T.no_Rack_gone, (by show (8 : Nat) < 1000; decide), ?_⟩
  rw [upd_upd, setLeft, setGone]
  exact q _ ((Ev.refl R H).up (hR.memi mrk)) (hR.power v false)
def spPower (a : Adr) : Sp := fun vs H Q _ => ∃ (R : Rk) (S : Stt), vs = [.ref R.rk] /\ FR a H R S /\ Q (.bl (!S.g)) H
theorem ok_Rack_has_power (T : Txt K mg a) : FnOk P wo K mg base CX0 1 a.f_Rack_has_power a.d_Rack_has_power ["self"] (spPower a) := by
 refine T.F_Rack_has_power.ok (k := 0) sc_Rack_has_power (fun vs H Q E h => ?_) (fun cdv A outer s H vs Q E hr h => ?_)
 ·obtain ⟨R, S, rfl, _⟩ := h
  rfl
 ·obtain ⟨R, S, rfl, hR, q⟩ := h
  obtain ⟨dx, h1⟩ := id hR.ins
  refine ⟨_, (pss_one (ps_ret (pe_not (pe_fld (pv 0) rfl)))), ?_⟩
  exact ⟨_, rfl, R.rk, _, _, _, _, rfl, h1, T.cl_Rack, T.no_Rack_gone, rf_gone _ _ _, _, rfl, q⟩
def spCheckPlank (a : Adr) : Sp := fun vs H Q E => ∃ (R : Rk) (S : Stt) (x : V), vs = [.ref R.rk, x] /\ FR a H R S /\ ((∃ i : Nat, x = .int i /\ i < R.P /\ Q .non H) \/ BadI a R.P H E x)
theorem ok_Rack_check_plank (T : Txt K mg a) : FnOk P wo K mg base (CXe P wo) 3 a.f_Rack_check_plank a.d_Rack_check_plank ["self", "plank"] (spCheckPlank a) := by
 have G_NoPlace_init : FnOk P wo K mg base CX0 1 _ _ _ _ := ok_NoPlace_init T
 refine T.F_Rack_check_plank.okX (k := 2) sc_Rack_check_plank (fun vs H Q E h => ?_) (fun cdv A outer s H vs Q E hr h => ?_)
 ·obtain ⟨R, S, x, rfl, _⟩ := h
  rfl
 ·obtain ⟨R, S, x, rfl, hR, h⟩ := h
  obtain ⟨dx, h1⟩ := hR.ins
  refine ⟨_, (pss_one (ps_if (PW.pt (pw_or (pt_cmpR op_lt (pv 1) pe_int (nomark _)) (pw_or1 (pt_cmpR op_ge (pv 1) (pe_fld (pv 0) rfl) (nomark _))))) (pss_one (ps_raiseI T.xm_NoPlace T.xi_NoPlace G_NoPlace_init (hr.mono (by decide)) T.b_NoPlace_init rfl rfl rfl T.m_NoPlace rises_cx (pa_cons (pv 1) pa_nil))) pss_nil)), ?_⟩
  rcases h with ⟨i, rfl, hi, q⟩ | ⟨i, rfl, hi, hl, q⟩
  ·refine ⟨_, rfl, _, _, rfl, rfl, _, rfl, ?_⟩
   refine ite2 (fun y => absurd (of_decide_eq_true y) (by omega)) (fun _ => ?_)
   refine ⟨_, rfl, _, rfl, R.rk, _, _, _, _, rfl, h1, T.cl_Rack, T.no_Rack_planks, rf_planks _ _ _, _, _, rfl, rfl, _, rfl, ?_⟩
   exact ite2 (fun y => absurd (of_decide_eq_true y) (by omega)) (fun _ => q)
  ·refine ⟨_, rfl, _, _, rfl, rfl, _, rfl, ?_⟩
   refine ite2 (fun h => ?_) (fun h => ?_)
   ·exact ⟨_, rfl, (by show 1 <= 1000; decide), fun x nx => ⟨x, i, rfl, hl, upd_same, fun dx nd ne => ⟨rfl, some dx, upd_same, xo_raise q nx nd ne⟩⟩⟩
   refine ⟨_, rfl, _, rfl, R.rk, _, _, _, _, rfl, h1, T.cl_Rack, T.no_Rack_planks, rf_planks _ _ _, _, _, rfl, rfl, _, rfl, ?_⟩
   refine ite2 (fun h2 => ?_) (fun h2 => ?_)
   ·exact ⟨_, rfl, (by show 1 <= 1000; decide), fun x nx => ⟨x, i, rfl, hl, upd_same, fun dx nd ne => ⟨rfl, some dx, upd_same, xo_raise q nx nd ne⟩⟩⟩
   ·have h' : ¬ i < 0 := fun z => h (decide_eq_true z)
    exact absurd (decide_eq_true (show (R.P : Int) <= i by omega)) h2
def spCheckStripe (a : Adr) : Sp := fun vs H Q E => ∃ (R : Rk) (S : Stt) (x : V), vs = [.ref R.rk, x] /\ FR a H R S /\ ((∃ i : Nat, x = .int i /\ i < R.S /\ Q .non H) \/ BadI a R.S H E x)
theorem ok_Rack_check_stripe (T : Txt K mg a) : FnOk P wo K mg base (CXe P wo) 3 a.f_Rack_check_stripe a.d_Rack_check_stripe ["self", "stripe"] (spCheckStripe a) := by
 have G_NoPlace_init : FnOk P wo K mg base CX0 1 _ _ _ _ := ok_NoPlace_init T
 refine T.F_Rack_check_stripe.okX (k := 2) sc_Rack_check_stripe (fun vs H Q E h => ?_) (fun cdv A outer s H vs Q E hr h => ?_)
 ·obtain ⟨R, S, x, rfl, _⟩ := h
  rfl
 ·obtain ⟨R, S, x, rfl, hR, h⟩ := h
  obtain ⟨dx, h1⟩ := hR.ins
  refine ⟨_, (pss_one (ps_if (PW.pt (pw_or (pt_cmpR op_lt (pv 1) pe_int (nomark _)) (pw_or1 (pt_cmpR op_ge (pv 1) (pe_fld (pv 0) rfl) (nomark _))))) (pss_one (ps_raiseI T.xm_NoPlace T.xi_NoPlace G_NoPlace_init (hr.mono (by decide)) T.b_NoPlace_init rfl rfl rfl T.m_NoPlace rises_cx (pa_cons (pv 1) pa_nil))) pss_nil)), ?_⟩
  rcases h with ⟨i, rfl, hi, q⟩ | ⟨i, rfl, hi, hl, q⟩
  ·refine ⟨_, rfl, _, _, rfl, rfl, _, rfl, ?_⟩
   refine ite2 (fun y => absurd (of_decide_eq_true y) (by omega)) (fun _ => ?_)
   refine ⟨_, rfl, _, rfl, R.rk, _, _, _, _, rfl, h1, T.cl_Rack, T.no_Rack_stripes, rf_stripes _ _ _, _, _, rfl, rfl, _, rfl, ?_⟩
   exact ite2 (fun y => absurd (of_decide_eq_true y) (by omega)) (fun _ => q)
  ·refine ⟨_, rfl, _, _, rfl, rfl, _, rfl, ?_⟩
   refine ite2 (fun h => ?_) (fun h => ?_)
   ·exact ⟨_, rfl, (by show 1 <= 1000; decide), fun x nx => ⟨x, i, rfl, hl, upd_same, fun dx nd ne => ⟨rfl, some dx, upd_same, xo_raise q nx nd ne⟩⟩⟩
   refine ⟨_, rfl, _, rfl, R.rk, _, _, _, _, rfl, h1, T.cl_Rack, T.no_Rack_stripes, rf_stripes _ _ _, _, _, rfl, rfl, _, rfl, ?_⟩
   refine ite2 (fun h2 => ?_) (fun h2 => ?_)
   ·exact ⟨_, rfl, (by show 1 <= 1000; decide), fun x nx => ⟨x, i, rfl, hl, upd_same, fun dx nd ne => ⟨rfl, some dx, upd_same, xo_raise q nx nd ne⟩⟩⟩
   ·have h' : ¬ i < 0 := fun z => h (decide_eq_true z)
    exact absurd (decide_eq_true (show (R.S : Int) <= i by omega)) h2
def spCheckSlot (a : Adr) : Sp := fun vs H Q E => ∃ (R : Rk) (S : Stt) (x : V), vs = [.ref R.rk, x] /\ FR a H R S /\ ((∃ i : Nat, x = .int i /\ i < R.L /\ Q .non H) \/ BadI a R.L H E x)
theorem ok_Rack_check_slot (T : Txt K mg a) : FnOk P wo K mg base (CXe P wo) 3 a.f_Rack_check_slot a.d_Rack_check_slot ["self", "slot"] (spCheckSlot a) := by
 have G_NoPlace_init : FnOk P wo K mg base CX0 1 _ _ _ _ := ok_NoPlace_init T
 refine T.F_Rack_check_slot.okX (k := 2) sc_Rack_check_slot (fun vs H Q E h => ?_) (fun cdv A outer s H vs Q E hr h => ?_)
 ·obtain ⟨R, S, x, rfl, _⟩ := h
  rfl
 ·obtain ⟨R, S, x, rfl, hR, h⟩ := h
  obtain ⟨dx, h1⟩ := hR.ins
  refine ⟨_, (pss_one (ps_if (PW.pt (pw_or (pt_cmpR op_lt (pv 1) pe_int (nomark _)) (pw_or1 (pt_cmpR op_ge (pv 1) (pe_fld (pv 0) rfl) (nomark _))))) (pss_one (ps_raiseI T.xm_NoPlace T.xi_NoPlace G_NoPlace_init (hr.mono (by decide)) T.b_NoPlace_init rfl rfl rfl T.m_NoPlace rises_cx (pa_cons (pv 1) pa_nil))) pss_nil)), ?_⟩
  rcases h with ⟨i, rfl, hi, q⟩ | ⟨i, rfl, hi, hl, q⟩
  ·refine ⟨_, rfl, _, _, rfl, rfl, _, rfl, ?_⟩
   refine ite2 (fun y => absurd (of_decide_eq_true y) (by omega)) (fun _ => ?_)
   refine ⟨_, rfl, _, rfl, R.rk, _, _, _, _, rfl, h1, T.cl_Rack, T.no_Rack_slots, rf_slots _ _ _, _, _, rfl, rfl, _, rfl, ?_⟩
   exact ite2 (fun y => absurd (of_decide_eq_true y) (by omega)) (fun _ => q)
  ·refine ⟨_, rfl, _, _, rfl, rfl, _, rfl, ?_⟩
   refine ite2 (fun h => ?_) (fun h => ?_)
   ·exact ⟨_, rfl, (by show 1 <= 1000; decide), fun x nx => ⟨x, i, rfl, hl, upd_same, fun dx nd ne => ⟨rfl, some dx, upd_same, xo_raise q nx nd ne⟩⟩⟩
   refine ⟨_, rfl, _, rfl, R.rk, _, _, _, _, rfl, h1, T.cl_Rack, T.no_Rack_slots, rf_slots _ _ _, _, _, rfl, rfl, _, rfl, ?_⟩
   refine ite2 (fun h2 => ?_) (fun h2 => ?_)
   ·exact ⟨_, rfl, (by show 1 <= 1000; decide), fun x nx => ⟨x, i, rfl, hl, upd_same, fun dx nd ne => ⟨rfl, some dx, upd_same, xo_raise q nx nd ne⟩⟩⟩
   ·have h' : ¬ i < 0 := fun z => h (decide_eq_true z)
    exact absurd (decide_eq_true (show (R.L : Int) <= i by omega)) h2
def spCheckBoth (a : Adr) : Sp := fun vs H Q E => ∃ (R : Rk) (S : Stt) (x y : V), vs = [.ref R.rk, x, y] /\ FR a H R S /\ ((∃ i j : Nat, x = .int i /\ y = .int j /\ i < R.P /\ j < R.S /\ Q .non H) \/ BadIJ a R.P R.S H E x y)
theorem ok_Rack_check_both (T : Txt K mg a) : FnOk P wo K mg base (CXe P wo) 4 a.f_Rack_check_both a.d_Rack_check_both ["self", "plank", "stripe"] (spCheckBoth a) := by
 have G_Rack_check_plank : FnOk P wo K mg base (CXe P wo) 3 _ _ _ _ := ok_Rack_check_plank T
 have G_Rack_check_stripe : FnOk P wo K mg base (CXe P wo) 3 _ _ _ _ := ok_Rack_check_stripe T
 refine T.F_Rack_check_both.okX (k := 3) sc_Rack_check_both (fun vs H Q E h => ?_) (fun cdv A outer s H vs Q E hr h => ?_)
 ·obtain ⟨R, S, x, y, rfl, _⟩ := h
  rfl
 ·obtain ⟨R, S, x, y, rfl, hR, h⟩ := h
  obtain ⟨dx, h1⟩ := id hR.ins
  refine ⟨_, (pss_cons (ps_expr (pe_meth (pv 0) T.cl_Rack T.me_Rack_check_plank G_Rack_check_plank (hr.mono (by decide)) T.b_Rack_check_plank .nil (passX fun _ _ _ h => h) (pa_cons (pv 1) pa_nil)))
   (pss_one (ps_expr (pe_meth (pv 0) T.cl_Rack T.me_Rack_check_stripe G_Rack_check_stripe (hr.mono (by decide)) T.b_Rack_check_stripe .nil (passX fun _ _ _ h => h) (pa_cons (pv 2) pa_nil))))), ?_⟩
  refine ⟨_, rfl, R.rk, dx, _, rfl, h1, rfl, _, rfl, R, S, _, rfl, hR, ?_⟩
  rcases h with ⟨i, j, rfl, rfl, hi, hj, q⟩ | hb | ⟨i, rfl, hi, hb⟩
  ·refine .inl ⟨i, rfl, hi, ?_⟩
   exact ⟨_, rfl, R.rk, dx, _, rfl, h1, rfl, _, rfl, R, S, _, rfl, hR, .inl ⟨j, rfl, hj, q⟩⟩
  ·exact .inr hb
  ·refine .inl ⟨i, rfl, hi, ?_⟩
   exact ⟨_, rfl, R.rk, dx, _, rfl, h1, rfl, _, rfl, R, S, _, rfl, hR, .inr hb⟩
end
section
variable {P : Program} {wo : World} {K : PySem.W.Frag} {mg : Str -> Option Value} {base : Heap} {a : Adr}
def spPeek (a : Adr) : Sp := fun vs H Q E => ∃ (R : Rk) (S : Stt) (x y : V), vs = [.ref R.rk, x, y] /\ FR a H R S /\ ((∃ i j : Nat, x = .int i /\ y = .int j /\ i < R.P /\ j < R.S /\ Q (ov ((S.B i).2 j)) H) \/ BadIJ a R.P R.S H E x y)
theorem ok_Rack_peek (T : Txt K mg a) : FnOk P wo K mg base (CXe P wo) 5 a.f_Rack_peek a.d_Rack_peek ["self", "plank", "stripe"] (spPeek a) := by
 have G_Rack_check_both : FnOk P wo K mg base (CXe P wo) 4 _ _ _ _ := ok_Rack_check_both T
 have G_Plank_look_at : FnOk P wo K mg base CX0 4 _ _ _ _ := (ok_Plank_look_at T).mono (by decide)
 refine T.F_Rack_peek.okX (k := 4) sc_Rack_peek (fun vs H Q E h => ?_) (fun cdv A outer s H vs Q E hr h => ?_)
 ·obtain ⟨R, S, x, y, rfl, _⟩ := h
  rfl
 ·obtain ⟨R, S, x, y, rfl, hR, h⟩ := h
  obtain ⟨dx, h1⟩ := id hR.ins
  refine ⟨_, (pss_cons (ps_expr (pe_meth (pv 0) T.cl_Rack T.me_Rack_check_both G_Rack_check_both (hr.mono (by decide)) T.b_Rack_check_both .nil (passX fun _ _ _ h => h) (pa_cons (pv 1) (pa_cons (pv 2) pa_nil))))
   (pss_one (ps_ret (PE.or (pe_meth (by exact (pe_ix ix_list (pe_fld (pv 0) rfl) (pv 1) (fun _ _ => rfl))) T.cl_Plank T.me_Plank_look_at G_Plank_look_at (hr.mono (by decide)) T.b_Plank_look_at .nil pass0 (pa_cons (pv 2) pa_nil)) (PE.or (pe_meth (by exact (pe_ix ix_list (pe_fld (pv 0) rfl) (pv 1) (fun _ _ => rfl))) T.cl_SlowPlank T.me_SlowPlank__look_at G_Plank_look_at (hr.mono (by decide)) T.b_Plank_look_at .nil pass0 (pa_cons (pv 2) pa_nil)) (PE.or (pe_meth (by exact (pe_ix ix_list (pe_fld (pv 0) rfl) (pv 1) (fun _ _ => rfl))) T.cl_LostPlank T.me_LostPlank__look_at G_Plank_look_at (hr.mono (by decide)) T.b_Plank_look_at .nil pass0 (pa_cons (pv 2) pa_nil)) (pe_meth (by exact (pe_ix ix_list (pe_fld (pv 0) rfl) (pv 1) (fun _ _ => rfl))) T.cl_SparePlank T.me_SparePlank__look_at G_Plank_look_at (hr.mono (by decide)) T.b_Plank_look_at .nil pass0 (pa_cons (pv 2) pa_nil)))))))), ?_⟩
  refine ⟨_, rfl, R.rk, dx, _, rfl, h1, rfl, _, rfl, _, rfl, R, S, _, _, rfl, hR, ?_⟩
  rcases h with ⟨i, j, rfl, rfl, hi, hj, q⟩ | hb
  rotate_left
  ·exact .inr hb
  refine .inl ⟨i, j, rfl, rfl, hi, hj, ?_⟩
  obtain ⟨p, dp, l, ep, el, hp, hl⟩ := hR.at hi
  generalize (S.B i).1 = kd at hp
  cases kd with
  | whole => exact .inl ⟨_, rfl, R.rk, _, _, _, _, rfl, h1, T.cl_Rack, T.no_Rack_shelf, rf_shelf _ _ _, _, rfl, R.sh, _, _, _, rfl, rfl, SqL.of hR.shelf, atI_nat (refs_at ep), p, dp, _, rfl, hp, rfl, _, rfl, p, l, _, dp, _, _, j, _, rfl, hp, T.cl_Plank, T.no_Plank_held, rfl, hl, heldRow_at hj, q⟩
  | slow c => exact .inr (.inl ⟨_, rfl, R.rk, _, _, _, _, rfl, h1, T.cl_Rack, T.no_Rack_shelf, rf_shelf _ _ _, _, rfl, R.sh, _, _, _, rfl, rfl, SqL.of hR.shelf, atI_nat (refs_at ep), p, dp, _, rfl, hp, rfl, _, rfl, p, l, _, dp, _, _, j, _, rfl, hp, T.cl_SlowPlank, T.no_SlowPlank_held, rfl, hl, heldRow_at hj, q⟩)
  | lost => exact .inr (.inr (.inl ⟨_, rfl, R.rk, _, _, _, _, rfl, h1, T.cl_Rack, T.no_Rack_shelf, rf_shelf _ _ _, _, rfl, R.sh, _, _, _, rfl, rfl, SqL.of hR.shelf, atI_nat (refs_at ep), p, dp, _, rfl, hp, rfl, _, rfl, p, l, _, dp, _, _, j, _, rfl, hp, T.cl_LostPlank, T.no_LostPlank_held, rfl, hl, heldRow_at hj, q⟩))
  | spare m => exact .inr (.inr (.inr ⟨_, rfl, R.rk, _, _, _, _, rfl, h1, T.cl_Rack, T.no_Rack_shelf, rf_shelf _ _ _, _, rfl, R.sh, _, _, _, rfl, rfl, SqL.of hR.shelf, atI_nat (refs_at ep), p, dp, _, rfl, hp, rfl, _, rfl, p, l, _, dp, _, _, j, _, rfl, hp, T.cl_SparePlank, T.no_SparePlank_held, rfl, hl, heldRow_at hj, q⟩))
def spKindOf (a : Adr) : Sp := fun vs H Q E => ∃ (R : Rk) (S : Stt) (x : V), vs = [.ref R.rk, x] /\ FR a H R S /\ ((∃ i : Nat, x = .int i /\ i < R.P /\ Q (.str (S.B i).1.word) H) \/ BadI a R.P H E x)
theorem ok_Rack_kind_of (T : Txt K mg a) : FnOk P wo K mg base (CXe P wo) 4 a.f_Rack_kind_of a.d_Rack_kind_of ["self", "plank"] (spKindOf a) := by
 have G_Rack_check_plank : FnOk P wo K mg base (CXe P wo) 3 _ _ _ _ := ok_Rack_check_plank T
 have G_Plank_word : FnOk P wo K mg base CX0 3 _ _ _ _ := (ok_Plank_word T).mono (by decide)
 have G_SlowPlank_word : FnOk P wo K mg base CX0 3 _ _ _ _ := (ok_SlowPlank_word T).mono (by decide)
 have G_LostPlank_word : FnOk P wo K mg base CX0 3 _ _ _ _ := (ok_LostPlank_word T).mono (by decide)
 have G_SparePlank_word : FnOk P wo K mg base CX0 3 _ _ _ _ := (ok_SparePlank_word T).mono (by decide)
 refine T.F_Rack_kind_of.okX (k := 3) sc_Rack_kind_of (fun vs H Q E h => ?_) (fun cdv A outer s H vs Q E hr h => ?_)
 ·obtain ⟨R, S, x, rfl, _⟩ := h
  rfl
 ·obtain ⟨R, S, x, rfl, hR, h⟩ := h
  obtain ⟨dx, h1⟩ := id hR.ins
  refine ⟨_, (pss_cons (ps_expr (pe_meth (pv 0) T.cl_Rack T.me_Rack_check_plank G_Rack_check_plank (hr.mono (by decide)) T.b_Rack_check_plank .nil (passX fun _ _ _ h => h) (pa_cons (pv 1) pa_nil)))
   (pss_one (ps_ret (PE.or (pe_meth0 (by exact (pe_ix ix_list (pe_fld (pv 0) rfl) (pv 1) (fun _ _ => rfl))) T.cl_Plank T.me_Plank_word G_Plank_word (hr.mono (by decide)) T.b_Plank_word .nil pass0) (PE.or (pe_meth0 (by exact (pe_ix ix_list (pe_fld (pv 0) rfl) (pv 1) (fun _ _ => rfl))) T.cl_SlowPlank T.me_SlowPlank_word G_SlowPlank_word (hr.mono (by decide)) T.b_SlowPlank_word .nil pass0) (PE.or (pe_meth0 (by exact (pe_ix ix_list (pe_fld (pv 0) rfl) (pv 1) (fun _ _ => rfl))) T.cl_LostPlank T.me_LostPlank_word G_LostPlank_word (hr.mono (by decide)) T.b_LostPlank_word .nil pass0) (pe_meth0 (by exact (pe_ix ix_list (pe_fld (pv 0) rfl) (pv 1) (fun _ _ => rfl))) T.cl_SparePlank T.me_SparePlank_word G_SparePlank_word (hr.mono (by decide)) T.b_SparePlank_word .nil pass0))))))), ?_⟩
  refine ⟨_, rfl, R.rk, dx, _, rfl, h1, rfl, _, rfl, R, S, _, rfl, hR, ?_⟩
  rcases h with ⟨i, rfl, hi, q⟩ | hb
  rotate_left
  ·exact .inr hb
  refine .inl ⟨i, rfl, hi, ?_⟩
  obtain ⟨p, dp, l, ep, el, hp, hl⟩ := hR.at hi
  generalize (S.B i).1 = kd at hp q
  cases kd with
  | whole => exact .inl ⟨_, rfl, R.rk, _, _, _, _, rfl, h1, T.cl_Rack, T.no_Rack_shelf, rf_shelf _ _ _, _, rfl, R.sh, _, _, _, rfl, rfl, SqL.of hR.shelf, atI_nat (refs_at ep), p, dp, _, rfl, hp, rfl, p, rfl, q⟩
  | slow c => exact .inr (.inl ⟨_, rfl, R.rk, _, _, _, _, rfl, h1, T.cl_Rack, T.no_Rack_shelf, rf_shelf _ _ _, _, rfl, R.sh, _, _, _, rfl, rfl, SqL.of hR.shelf, atI_nat (refs_at ep), p, dp, _, rfl, hp, rfl, p, rfl, q⟩)
  | lost => exact .inr (.inr (.inl ⟨_, rfl, R.rk, _, _, _, _, rfl, h1, T.cl_Rack, T.no_Rack_shelf, rf_shelf _ _ _, _, rfl, R.sh, _, _, _, rfl, rfl, SqL.of hR.shelf, atI_nat (refs_at ep), p, dp, _, rfl, hp, rfl, p, rfl, q⟩))
  | spare m => exact .inr (.inr (.inr ⟨_, rfl, R.rk, _, _, _, _, rfl, h1, T.cl_Rack, T.no_Rack_shelf, rf_shelf _ _ _, _, rfl, R.sh, _, _, _, rfl, rfl, SqL.of hR.shelf, atI_nat (refs_at ep), p, dp, _, rfl, hp, rfl, p, rfl, q⟩))
def spCostOf (a : Adr) : Sp := fun vs H Q E => ∃ (R : Rk) (S : Stt) (x : V), vs = [.ref R.rk, x] /\ FR a H R S /\ ((∃ i : Nat, x = .int i /\ i < R.P /\ Q (.int (S.B i).1.price) H) \/ BadI a R.P H E x)
theorem ok_Rack_cost_of (T : Txt K mg a) : FnOk P wo K mg base (CXe P wo) 4 a.f_Rack_cost_of a.d_Rack_cost_of ["self", "plank"] (spCostOf a) := by
 have G_Rack_check_plank : FnOk P wo K mg base (CXe P wo) 3 _ _ _ _ := ok_Rack_check_plank T
 have G_Plank_price : FnOk P wo K mg base CX0 3 _ _ _ _ := (ok_Plank_price T).mono (by decide)
 have G_SlowPlank_price : FnOk P wo K mg base CX0 3 _ _ _ _ := (ok_SlowPlank_price T).mono (by decide)
 refine T.F_Rack_cost_of.okX (k := 3) sc_Rack_cost_of (fun vs H Q E h => ?_) (fun cdv A outer s H vs Q E hr h => ?_)
 ·obtain ⟨R, S, x, rfl, _⟩ := h
  rfl
 ·obtain ⟨R, S, x, rfl, hR, h⟩ := h
  obtain ⟨dx, h1⟩ := id hR.ins
  refine ⟨_, (pss_cons (ps_expr (pe_meth (pv 0) T.cl_Rack T.me_Rack_check_plank G_Rack_check_plank (hr.mono (by decide)) T.b_Rack_check_plank .nil (passX fun _ _ _ h => h) (pa_cons (pv 1) pa_nil)))
   (pss_one (ps_ret (PE.or (pe_meth0 (by exact (pe_ix ix_list (pe_fld (pv 0) rfl) (pv 1) (fun _ _ => rfl))) T.cl_Plank T.me_Plank_price G_Plank_price (hr.mono (by decide)) T.b_Plank_price .nil pass0) (PE.or (pe_meth0 (by exact (pe_ix ix_list (pe_fld (pv 0) rfl) (pv 1) (fun _ _ => rfl))) T.cl_SlowPlank T.me_SlowPlank_price G_SlowPlank_price (hr.mono (by decide)) T.b_SlowPlank_price .nil pass0) (PE.or (pe_meth0 (by exact (pe_ix ix_list (pe_fld (pv 0) rfl) (pv 1) (fun _ _ => rfl))) T.cl_LostPlank T.me_LostPlank__price G_Plank_price (hr.mono (by decide)) T.b_Plank_price .nil pass0) (pe_meth0 (by exact (pe_ix ix_list (pe_fld (pv 0) rfl) (pv 1) (fun _ _ => rfl))) T.cl_SparePlank T.me_SparePlank__price G_Plank_price (hr.mono (by decide)) T.b_Plank_price .nil pass0))))))), ?_⟩
  refine ⟨_, rfl, R.rk, dx, _, rfl, h1, rfl, _, rfl, R, S, _, rfl, hR, ?_⟩
  rcases h with ⟨i, rfl, hi, q⟩ | hb
  rotate_left
  ·exact .inr hb
  refine .inl ⟨i, rfl, hi, ?_⟩
  obtain ⟨p, dp, l, ep, el, hp, hl⟩ := hR.at hi
  generalize (S.B i).1 = kd at hp q
  cases kd with
  | whole => exact .inl ⟨_, rfl, R.rk, _, _, _, _, rfl, h1, T.cl_Rack, T.no_Rack_shelf, rf_shelf _ _ _, _, rfl, R.sh, _, _, _, rfl, rfl, SqL.of hR.shelf, atI_nat (refs_at ep), p, dp, _, rfl, hp, rfl, p, rfl, q⟩
  | slow c => exact .inr (.inl ⟨_, rfl, R.rk, _, _, _, _, rfl, h1, T.cl_Rack, T.no_Rack_shelf, rf_shelf _ _ _, _, rfl, R.sh, _, _, _, rfl, rfl, SqL.of hR.shelf, atI_nat (refs_at ep), p, dp, _, rfl, hp, rfl, p, l, dp, c, rfl, hp, q⟩)
  | lost => exact .inr (.inr (.inl ⟨_, rfl, R.rk, _, _, _, _, rfl, h1, T.cl_Rack, T.no_Rack_shelf, rf_shelf _ _ _, _, rfl, R.sh, _, _, _, rfl, rfl, SqL.of hR.shelf, atI_nat (refs_at ep), p, dp, _, rfl, hp, rfl, p, rfl, q⟩))
  | spare m => exact .inr (.inr (.inr ⟨_, rfl, R.rk, _, _, _, _, rfl, h1, T.cl_Rack, T.no_Rack_shelf, rf_shelf _ _ _, _, rfl, R.sh, _, _, _, rfl, rfl, SqL.of hR.shelf, atI_nat (refs_at ep), p, dp, _, rfl, hp, rfl, p, rfl, q⟩))
def spMarkOf (a : Adr) : Sp := fun vs H Q E => ∃ (R : Rk) (S : Stt) (x : V), vs = [.ref R.rk, x] /\ FR a H R S /\ ((∃ i : Nat, x = .int i /\ i < R.P /\ Q (S.B i).1.mark H) \/ BadI a R.P H E x)
theorem ok_Rack_mark_of (T : Txt K mg a) : FnOk P wo K mg base (CXe P wo) 4 a.f_Rack_mark_of a.d_Rack_mark_of ["self", "plank"] (spMarkOf a) := by
 have G_Rack_check_plank : FnOk P wo K mg base (CXe P wo) 3 _ _ _ _ := ok_Rack_check_plank T
 refine T.F_Rack_mark_of.okX (k := 3) sc_Rack_mark_of (fun vs H Q E h => ?_) (fun cdv A outer s H vs Q E hr h => ?_)
 ·obtain ⟨R, S, x, rfl, _⟩ := h
  rfl
 ·obtain ⟨R, S, x, rfl, hR, h⟩ := h
  obtain ⟨dx, h1⟩ := id hR.ins
  refine ⟨_, (pss_cons (ps_expr (pe_meth (pv 0) T.cl_Rack T.me_Rack_check_plank G_Rack_check_plank (hr.mono (by decide)) T.b_Rack_check_plank .nil (passX fun _ _ _ h => h) (pa_cons (pv 1) pa_nil)))
   (pss_cons (ps_if (pt_val (pe_callB call_isiC rfl T.n_isinstance boot_isinstance (pa_cons (pe_ix ix_list (pe_fld (pv 0) rfl) (pv 1) (fun _ _ => rfl)) (pa_cons (pe_glob (v := .ref a.C_SparePlank) rfl T.m_SparePlank rfl) pa_nil)))) (pss_one (ps_ret (pe_fld (pe_ix ix_list (pe_fld (pv 0) rfl) (pv 1) (fun _ _ => rfl)) rfl))) pss_nil)
   (pss_one (ps_ret pe_non)))), ?_⟩
  refine ⟨_, rfl, R.rk, dx, _, rfl, h1, rfl, _, rfl, R, S, _, rfl, hR, ?_⟩
  rcases h with ⟨i, rfl, hi, q⟩ | hb
  rotate_left
  ·exact .inr hb
  refine .inl ⟨i, rfl, hi, ?_⟩
  obtain ⟨p, dp, l, ep, el, hp, hl⟩ := hR.at hi
  generalize (S.B i).1 = kd at hp q
  refine ⟨_, rfl, R.rk, _, _, _, _, rfl, h1, T.cl_Rack, T.no_Rack_shelf, rf_shelf _ _ _, _, rfl, R.sh, _, _, _, rfl, rfl, SqL.of hR.shelf, atI_nat (refs_at ep), _, _, _, _, rfl, (kd_ty T kd).of (kd_cls T kd) hp, kit_spare T kd, _, rfl, ?_⟩
  cases kd with
  | spare m =>
   refine ite2 (fun _ => ?_) (fun z => absurd rfl z)
   exact ⟨_, rfl, R.rk, _, _, _, _, rfl, h1, T.cl_Rack, T.no_Rack_shelf, rf_shelf _ _ _, _, rfl, R.sh, _, _, _, rfl, rfl, SqL.of hR.shelf, atI_nat (refs_at ep), p, _, _, _, _, rfl, hp, T.cl_SparePlank, T.no_SparePlank_mark, rfl, q⟩
  | _ => exact ite2 (fun z => absurd (show false = true from z) (by decide)) (fun _ => q)
def spThere (a : Adr) : Sp := fun vs H Q E => ∃ (R : Rk) (S : Stt) (x y : V), vs = [.ref R.rk, x, y] /\ FR a H R S /\ ((∃ i j : Nat, x = .int i /\ y = .int j /\ i < R.P /\ j < R.S /\ Q (.bl ((S.B i).1.there j)) H) \/ BadIJ a R.P R.S H E x y)
theorem ok_Rack_there (T : Txt K mg a) : FnOk P wo K mg base (CXe P wo) 5 a.f_Rack_there a.d_Rack_there ["self", "plank", "stripe"] (spThere a) := by
 have G_Rack_check_both : FnOk P wo K mg base (CXe P wo) 4 _ _ _ _ := ok_Rack_check_both T
 have G_Plank_there : FnOk P wo K mg base CX0 4 _ _ _ _ := (ok_Plank_there T).mono (by decide)
 have G_LostPlank_there : FnOk P wo K mg base CX0 4 _ _ _ _ := (ok_LostPlank_there T).mono (by decide)
 have G_SparePlank_there : FnOk P wo K mg base CX0 4 _ _ _ _ := (ok_SparePlank_there T).mono (by decide)
 refine T.F_Rack_there.okX (k := 4) sc_Rack_there (fun vs H Q E h => ?_) (fun cdv A outer s H vs Q E hr h => ?_)
 ·obtain ⟨R, S, x, y, rfl, _⟩ := h
  rfl
 ·obtain ⟨R, S, x, y, rfl, hR, h⟩ := h
  obtain ⟨dx, h1⟩ := id hR.ins
  refine ⟨_, (pss_cons (ps_expr (pe_meth (pv 0) T.cl_Rack T.me_Rack_check_both G_Rack_check_both (hr.mono (by decide)) T.b_Rack_check_both .nil (passX fun _ _ _ h => h) (pa_cons (pv 1) (pa_cons (pv 2) pa_nil))))
   (pss_one (ps_ret (PE.or (pe_meth (by exact (pe_ix ix_list (pe_fld (pv 0) rfl) (pv 1) (fun _ _ => rfl))) T.cl_Plank T.me_Plank_there G_Plank_there (hr.mono (by decide)) T.b_Plank_there .nil pass0 (pa_cons (pv 2) pa_nil)) (PE.or (pe_meth (by exact (pe_ix ix_list (pe_fld (pv 0) rfl) (pv 1) (fun _ _ => rfl))) T.cl_SlowPlank T.me_SlowPlank__there G_Plank_there (hr.mono (by decide)) T.b_Plank_there .nil pass0 (pa_cons (pv 2) pa_nil)) (PE.or (pe_meth (by exact (pe_ix ix_list (pe_fld (pv 0) rfl) (pv 1) (fun _ _ => rfl))) T.cl_LostPlank T.me_LostPlank_there G_LostPlank_there (hr.mono (by decide)) T.b_LostPlank_there .nil pass0 (pa_cons (pv 2) pa_nil)) (pe_meth (by exact (pe_ix ix_list (pe_fld (pv 0) rfl) (pv 1) (fun _ _ => rfl))) T.cl_SparePlank T.me_SparePlank_there G_SparePlank_there (hr.mono (by decide)) T.b_SparePlank_there .nil pass0 (pa_cons (pv 2) pa_nil)))))))), ?_⟩
  refine ⟨_, rfl, R.rk, dx, _, rfl, h1, rfl, _, rfl, _, rfl, R, S, _, _, rfl, hR, ?_⟩
  rcases h with ⟨i, j, rfl, rfl, hi, hj, q⟩ | hb
  rotate_left
  ·exact .inr hb
  refine .inl ⟨i, j, rfl, rfl, hi, hj, ?_⟩
  obtain ⟨p, dp, l, ep, el, hp, hl⟩ := hR.at hi
  generalize (S.B i).1 = kd at hp q
  cases kd with
  | whole => exact .inl ⟨_, rfl, R.rk, _, _, _, _, rfl, h1, T.cl_Rack, T.no_Rack_shelf, rf_shelf _ _ _, _, rfl, R.sh, _, _, _, rfl, rfl, SqL.of hR.shelf, atI_nat (refs_at ep), p, dp, _, rfl, hp, rfl, _, rfl, p, _, rfl, q⟩
  | slow c => exact .inr (.inl ⟨_, rfl, R.rk, _, _, _, _, rfl, h1, T.cl_Rack, T.no_Rack_shelf, rf_shelf _ _ _, _, rfl, R.sh, _, _, _, rfl, rfl, SqL.of hR.shelf, atI_nat (refs_at ep), p, dp, _, rfl, hp, rfl, _, rfl, p, _, rfl, q⟩)
  | lost => exact .inr (.inr (.inl ⟨_, rfl, R.rk, _, _, _, _, rfl, h1, T.cl_Rack, T.no_Rack_shelf, rf_shelf _ _ _, _, rfl, R.sh, _, _, _, rfl, rfl, SqL.of hR.shelf, atI_nat (refs_at ep), p, dp, _, rfl, hp, rfl, _, rfl, p, _, rfl, q⟩))
  | spare m => exact .inr (.inr (.inr ⟨_, rfl, R.rk, _, _, _, _, rfl, h1, T.cl_Rack, T.no_Rack_shelf, rf_shelf _ _ _, _, rfl, R.sh, _, _, _, rfl, rfl, SqL.of hR.shelf, atI_nat (refs_at ep), p, dp, _, rfl, hp, rfl, _, rfl, p, l, dp, m, j, rfl, hp, q⟩))
def lookV (S : Stt) (i j : Nat) : V := if (S.B i).1.there j = true then ov ((S.B i).2 j) else .non
def spLook (a : Adr) : Sp := fun vs H Q E => ∃ (R : Rk) (S : Stt) (x y : V), vs = [.ref R.rk, x, y] ∧ FR a H R S ∧ S.evs.length < 9000 ∧ ((∃ i j : Nat, x = .int i ∧ y = .int j ∧ i < R.P ∧ j < R.S ∧ (S.g = false → ∀ H', Ev R R H H' → FR a H' R { S with evs := S.evs ++ [[.str "look", .int i, .int j]] } → Q (lookV S i j) H') ∧ (S.g = true → E (.ref a.C_NoPower) none H)) ∨ BadIJ a R.P R.S H E x y)
theorem ok_Rack_look (T : Txt K mg a) : FnOk P wo K mg base (CXe P wo) 5 a.f_Rack_look a.d_Rack_look ["self", "plank", "stripe"] (spLook a) := by
 have G_Rack_check_both : FnOk P wo K mg base (CXe P wo) 4 _ _ _ _ := ok_Rack_check_both T
 have G_Plank_look_at : FnOk P wo K mg base CX0 4 _ _ _ _ := (ok_Plank_look_at T).mono (by decide)
 have G_Plank_there : FnOk P wo K mg base CX0 4 _ _ _ _ := (ok_Plank_there T).mono (by decide)
 have G_LostPlank_there : FnOk P wo K mg base CX0 4 _ _ _ _ := (ok_LostPlank_there T).mono (by decide)
 have G_SparePlank_there : FnOk P wo K mg base CX0 4 _ _ _ _ := (ok_SparePlank_there T).mono (by decide)
 refine T.F_Rack_look.okX (k := 4) sc_Rack_look (fun vs H Q E h => ?_) (fun cdv A outer s H vs Q E hr h => ?_)
 ·obtain ⟨R, S, x, y, rfl, _⟩ := h
  rfl
 ·obtain ⟨R, S, x, y, rfl, hR, he, h⟩ := h
  obtain ⟨dx, h1⟩ := id hR.ins
  refine ⟨_, (pss_cons (ps_expr (pe_meth (pv 0) T.cl_Rack T.me_Rack_check_both G_Rack_check_both (hr.mono (by decide)) T.b_Rack_check_both .nil (passX fun _ _ _ h => h) (pa_cons (pv 1) (pa_cons (pv 2) pa_nil))))
   (pss_cons (ps_if (pt_val (pe_fld (pv 0) rfl)) (pss_one (ps_raise T.xc_NoPower rfl rfl rfl T.m_NoPower rises_cx (pa_cons pe_str pa_nil))) pss_nil)
   (pss_cons (ps_expr (pe_bm PySem.F.plainAttrs_list PySem.F.slot_list_append PySem.F.type_list_append mt_append (pe_fld (pv 0) rfl) (pa_cons (pe_tup (pa_cons pe_str (pa_cons (pv 1) (pa_cons (pv 2) pa_nil)))) pa_nil)))
   (pss_cons (ps_if (pt_val (PE.or (pe_meth (by exact (pe_ix ix_list (pe_fld (pv 0) rfl) (pv 1) (fun _ _ => rfl))) T.cl_Plank T.me_Plank_there G_Plank_there (hr.mono (by decide)) T.b_Plank_there .nil pass0 (pa_cons (pv 2) pa_nil)) (PE.or (pe_meth (by exact (pe_ix ix_list (pe_fld (pv 0) rfl) (pv 1) (fun _ _ => rfl))) T.cl_SlowPlank T.me_SlowPlank__there G_Plank_there (hr.mono (by decide)) T.b_Plank_there .nil pass0 (pa_cons (pv 2) pa_nil)) (PE.or (pe_meth (by exact (pe_ix ix_list (pe_fld (pv 0) rfl) (pv 1) (fun _ _ => rfl))) T.cl_LostPlank T.me_LostPlank_there G_LostPlank_there (hr.mono (by decide)) T.b_LostPlank_there .nil pass0 (pa_cons (pv 2) pa_nil)) (pe_meth (by exact (pe_ix ix_list (pe_fld (pv 0) rfl) (pv 1) (fun _ _ => rfl))) T.cl_SparePlank T.me_SparePlank_there G_SparePlank_there (hr.mono (by decide)) T.b_SparePlank_there .nil pass0 (pa_cons (pv 2) pa_nil)))))) (pss_one (ps_ret (PE.or (pe_meth (by exact (pe_ix ix_list (pe_fld (pv 0) rfl) (pv 1) (fun _ _ => rfl))) T.cl_Plank T.me_Plank_look_at G_Plank_look_at (hr.mono (by decide)) T.b_Plank_look_at .nil pass0 (pa_cons (pv 2) pa_nil)) (PE.or (pe_meth (by exact (pe_ix ix_list (pe_fld (pv 0) rfl) (pv 1) (fun _ _ => rfl))) T.cl_SlowPlank T.me_SlowPlank__look_at G_Plank_look_at (hr.mono (by decide)) T.b_Plank_look_at .nil pass0 (pa_cons (pv 2) pa_nil)) (PE.or (pe_meth (by exact (pe_ix ix_list (pe_fld (pv 0) rfl) (pv 1) (fun _ _ => rfl))) T.cl_LostPlank T.me_LostPlank__look_at G_Plank_look_at (hr.mono (by decide)) T.b_Plank_look_at .nil pass0 (pa_cons (pv 2) pa_nil)) (pe_meth (by exact (pe_ix ix_list (pe_fld (pv 0) rfl) (pv 1) (fun _ _ => rfl))) T.cl_SparePlank T.me_SparePlank__look_at G_Plank_look_at (hr.mono (by decide)) T.b_Plank_look_at .nil pass0 (pa_cons (pv 2) pa_nil))))))) pss_nil)
   (pss_one (ps_ret pe_non)))))), ?_⟩
  refine ⟨_, rfl, R.rk, dx, _, rfl, h1, rfl, _, rfl, _, rfl, R, S, _, _, rfl, hR, ?_⟩
  rcases h with ⟨i, j, rfl, rfl, hi, hj, q, qE⟩ | hb
  rotate_left
  ·exact .inr hb
  refine .inl ⟨i, j, rfl, rfl, hi, hj, ?_⟩
  refine ⟨_, rfl, R.rk, _, _, _, _, rfl, h1, T.cl_Rack, T.no_Rack_gone, rf_gone _ _ _, _, rfl, ?_⟩
  cases hg : S.g with
  | true =>
   refine ite2 (fun _ => ?_) (fun z => absurd rfl z)
   exact ⟨by show 1 <= sizeLine; decide, qE hg⟩
  | false =>
   refine ite2 (fun z => absurd z (by decide)) (fun _ => ?_)
   obtain ⟨ts, h2, h3, _⟩ := id hR.dn
   have fits : (ts.map V.ref).length < sizeLine := Nat.lt_of_lt_of_le (by rw [List.length_map, h3]; exact he) (by decide)
   refine ⟨_, rfl, R.rk, _, _, _, _, rfl, h1, T.cl_Rack, T.no_Rack_done, rf_done _ _ _, .inl ⟨rfl, _, SqL.of h2⟩, _, rfl, _, rfl, (show 3 <= sizeLine by decide), fun tp ntp => ⟨R.dn, _, _, rfl, rfl, Same.new ntp _ _ h2, fits, ?_⟩⟩
   have s1 := Same.new (o := .tup [V.str (Str.ofString "look"), V.int (i : Int), V.int (j : Int)]) ntp
   have ht : (upd H tp (.tup [V.str (Str.ofString "look"), V.int (i : Int), V.int (j : Int)])) tp = some (.tup [V.str (Str.ofString "look"), V.int (i : Int), V.int (j : Int)]) := upd_same
   generalize (upd H tp (.tup [V.str (Str.ofString "look"), V.int (i : Int), V.int (j : Int)])) = H1 at s1 ht
   have hR2 := (hR.same s1).told (s1 _ _ h2) ht
   have ev2 : Ev R R H (upd H1 R.dn (.lst (ts.map V.ref ++ [.ref tp]))) := (Ev.of s1).up (hR.mem mdn)
   generalize (upd H1 R.dn (.lst (ts.map V.ref ++ [.ref tp]))) = H2 at hR2 ev2
   have q := q hg H2 ev2 hR2
   unfold lookV at q
   obtain ⟨dx', h1'⟩ := id hR2.ins
   obtain ⟨p, dp, l, ep, el, hp, hl⟩ := hR2.at hi
   have hp : H2 p = some (.ins ((S.B i).1.C a) dp ((S.B i).1.fs l)) := hp
   have hl : H2 l = some (.lst (heldRow R.S (S.B i).2)) := hl
   generalize (S.B i).1 = kd at hp q
   have fin : ∀ C fs, H2 p = some (.ins C dp fs) -> True := fun _ _ _ => trivial
   cases kd with
   | whole =>
    refine .inl ⟨_, rfl, R.rk, _, _, _, _, rfl, h1', T.cl_Rack, T.no_Rack_shelf, rf_shelf _ _ _, _, rfl, R.sh, _, _, _, rfl, rfl, SqL.of hR2.shelf, atI_nat (refs_at ep), p, dp, _, rfl, hp, rfl, _, rfl, p, _, rfl, _, rfl, ?_⟩
    refine ite2 (fun _ => ?_) (fun z => absurd rfl z)
    exact .inl ⟨_, rfl, R.rk, _, _, _, _, rfl, h1', T.cl_Rack, T.no_Rack_shelf, rf_shelf _ _ _, _, rfl, R.sh, _, _, _, rfl, rfl, SqL.of hR2.shelf, atI_nat (refs_at ep), p, dp, _, rfl, hp, rfl, _, rfl, p, l, _, dp, _, _, j, _, rfl, hp, T.cl_Plank, T.no_Plank_held, rfl, hl, heldRow_at hj, q⟩
   | slow c =>
    refine .inr (.inl ⟨_, rfl, R.rk, _, _, _, _, rfl, h1', T.cl_Rack, T.no_Rack_shelf, rf_shelf _ _ _, _, rfl, R.sh, _, _, _, rfl, rfl, SqL.of hR2.shelf, atI_nat (refs_at ep), p, dp, _, rfl, hp, rfl, _, rfl, p, _, rfl, _, rfl, ?_⟩)
    refine ite2 (fun _ => ?_) (fun z => absurd rfl z)
    exact .inr (.inl ⟨_, rfl, R.rk, _, _, _, _, rfl, h1', T.cl_Rack, T.no_Rack_shelf, rf_shelf _ _ _, _, rfl, R.sh, _, _, _, rfl, rfl, SqL.of hR2.shelf, atI_nat (refs_at ep), p, dp, _, rfl, hp, rfl, _, rfl, p, l, _, dp, _, _, j, _, rfl, hp, T.cl_SlowPlank, T.no_SlowPlank_held, rfl, hl, heldRow_at hj, q⟩)
   | lost =>
    refine .inr (.inr (.inl ⟨_, rfl, R.rk, _, _, _, _, rfl, h1', T.cl_Rack, T.no_Rack_shelf, rf_shelf _ _ _, _, rfl, R.sh, _, _, _, rfl, rfl, SqL.of hR2.shelf, atI_nat (refs_at ep), p, dp, _, rfl, hp, rfl, _, rfl, p, _, rfl, _, rfl, ?_⟩))
    exact ite2 (fun z => absurd z (by decide)) (fun _ => q)
   | spare m =>
    refine .inr (.inr (.inr ⟨_, rfl, R.rk, _, _, _, _, rfl, h1', T.cl_Rack, T.no_Rack_shelf, rf_shelf _ _ _, _, rfl, R.sh, _, _, _, rfl, rfl, SqL.of hR2.shelf, atI_nat (refs_at ep), p, dp, _, rfl, hp, rfl, _, rfl, p, l, dp, m, j, rfl, hp, _, rfl, ?_⟩))
    refine ite2 (fun z => ?_) (fun z => ?_)
    ·rw [if_pos (show (Kd.spare m).there j = true from z)] at q
     exact .inr (.inr (.inr ⟨_, rfl, R.rk, _, _, _, _, rfl, h1', T.cl_Rack, T.no_Rack_shelf, rf_shelf _ _ _, _, rfl, R.sh, _, _, _, rfl, rfl, SqL.of hR2.shelf, atI_nat (refs_at ep), p, dp, _, rfl, hp, rfl, _, rfl, p, l, _, dp, _, _, j, _, rfl, hp, T.cl_SparePlank, T.no_SparePlank_held, rfl, hl, heldRow_at hj, q⟩))
    ·rw [if_neg (show ¬ (Kd.spare m).there j = true from z)] at q
     exact q
end
section
variable {P : Program} {wo : World} {K : PySem.W.Frag} {mg : Str -> Option Value} {base : Heap} {a : Adr}
def NPw (a : Adr) (R : Rk) (S : Stt) (H : Hp) (E : XK) : Prop := ¬ Pow S -> ∀ H', Ev R R H H' -> FR a H' R S.off -> E (.ref a.C_NoPower) none H'
def spLay (a : Adr) : Sp := fun vs H Q E => ∃ (R : Rk) (S : Stt) (x y : V) (o : Option Int), vs = [.ref R.rk, x, y, ov o] /\ FR a H R S /\ S.evs.length < 9000 /\ ((∃ i j : Nat, x = .int i /\ y = .int j /\ i < R.P /\ j < R.S /\ NPw a R S H E /\ (Pow S -> (S.B i).1.isLost = true -> WP a i H E) ∧
 (Pow S → (S.B i).1.isLost = false → ∀ H', Ev R R H H' → FR a H' R ((S.hold i j o).spend [.str "lay", .int i, .int j]) → Q .non H')) ∨ BadIJ a R.P R.S H E x y)
theorem ok_Rack_lay (T : Txt K mg a) : FnOk P wo K mg base (CXe P wo) 5 a.f_Rack_lay a.d_Rack_lay ["self", "plank", "stripe", "block"] (spLay a) := by
 have G_Rack_check_both : FnOk P wo K mg base (CXe P wo) 4 _ _ _ _ := ok_Rack_check_both T
 have G_Rack_need_write : FnOk P wo K mg base (CXe P wo) 4 _ _ _ _ := (ok_Rack_need_write T).mono (by decide)
 have G_Rack_spend : FnOk P wo K mg base CX0 4 _ _ _ _ := (ok_Rack_spend T).mono (by decide)
 have G_Plank_lay_at : FnOk P wo K mg base CX0 4 _ _ _ _ := (ok_Plank_lay_at T).mono (by decide)
 have G_LostPlank_lay_at : FnOk P wo K mg base CX0 4 _ _ _ _ := (ok_LostPlank_lay_at T).mono (by decide)
 have G_WrongPlank_init : FnOk P wo K mg base CX0 1 _ _ _ _ := ok_WrongPlank_init T
 refine T.F_Rack_lay.okX (k := 4) sc_Rack_lay (fun vs H Q E h => ?_) (fun cdv A outer s H vs Q E hr h => ?_)
 ·obtain ⟨R, S, x, y, o, rfl, _⟩ := h
  rfl
 ·obtain ⟨R, S, x, y, o, rfl, hR, he, h⟩ := h
  obtain ⟨dx, h1⟩ := id hR.ins
  refine ⟨_, (pss_cons (ps_expr (pe_meth (pv 0) T.cl_Rack T.me_Rack_check_both G_Rack_check_both (hr.mono (by decide)) T.b_Rack_check_both .nil (passX fun _ _ _ h => h) (pa_cons (pv 1) (pa_cons (pv 2) pa_nil))))
   (pss_cons (ps_expr (pe_meth0 (pv 0) T.cl_Rack T.me_Rack_need_write G_Rack_need_write (hr.mono (by decide)) T.b_Rack_need_write .nil (passX fun _ _ _ h => h)))
   (pss_cons (ps_if (pt_val (pe_callB call_isiC rfl T.n_isinstance boot_isinstance (pa_cons (pe_ix ix_list (pe_fld (pv 0) rfl) (pv 1) (fun _ _ => rfl)) (pa_cons (pe_glob (v := .ref a.C_LostPlank) rfl T.m_LostPlank rfl) pa_nil)))) (pss_one (ps_raiseI T.xm_WrongPlank T.xi_WrongPlank G_WrongPlank_init (hr.mono (by decide)) T.b_WrongPlank_init rfl rfl rfl T.m_WrongPlank rises_cx (pa_cons (pv 1) pa_nil))) pss_nil)
   (pss_cons (ps_expr (PE.or (pe_meth (by exact (pe_ix ix_list (pe_fld (pv 0) rfl) (pv 1) (fun _ _ => rfl))) T.cl_Plank T.me_Plank_lay_at G_Plank_lay_at (hr.mono (by decide)) T.b_Plank_lay_at .nil pass0 (pa_cons (pv 2) (pa_cons (pv 3) pa_nil))) (PE.or (pe_meth (by exact (pe_ix ix_list (pe_fld (pv 0) rfl) (pv 1) (fun _ _ => rfl))) T.cl_SlowPlank T.me_SlowPlank__lay_at G_Plank_lay_at (hr.mono (by decide)) T.b_Plank_lay_at .nil pass0 (pa_cons (pv 2) (pa_cons (pv 3) pa_nil))) (PE.or (pe_meth (by exact (pe_ix ix_list (pe_fld (pv 0) rfl) (pv 1) (fun _ _ => rfl))) T.cl_LostPlank T.me_LostPlank_lay_at G_LostPlank_lay_at (hr.mono (by decide)) T.b_LostPlank_lay_at .nil pass0 (pa_cons (pv 2) (pa_cons (pv 3) pa_nil))) (pe_meth (by exact (pe_ix ix_list (pe_fld (pv 0) rfl) (pv 1) (fun _ _ => rfl))) T.cl_SparePlank T.me_SparePlank__lay_at G_Plank_lay_at (hr.mono (by decide)) T.b_Plank_lay_at .nil pass0 (pa_cons (pv 2) (pa_cons (pv 3) pa_nil)))))))
   (pss_one (ps_expr (pe_meth (pv 0) T.cl_Rack T.me_Rack_spend G_Rack_spend (hr.mono (by decide)) T.b_Rack_spend .nil pass0 (pa_cons (pe_tup (pa_cons pe_str (pa_cons (pv 1) (pa_cons (pv 2) pa_nil)))) pa_nil)))))))), ?_⟩
  refine ⟨_, rfl, R.rk, dx, _, rfl, h1, rfl, _, rfl, _, rfl, R, S, _, _, rfl, hR, ?_⟩
  rcases h with ⟨i, j, rfl, rfl, hi, hj, qN, qW, q⟩ | hb
  rotate_left
  ·exact .inr hb
  refine .inl ⟨i, j, rfl, rfl, hi, hj, ?_⟩
  refine ⟨_, rfl, R.rk, dx, _, rfl, h1, rfl, R, S, rfl, hR, fun hp => ?_, qN⟩
  have q := q hp
  have qW := qW hp
  obtain ⟨p, dp, l, ep, el, hp, hl⟩ := hR.at hi
  have hR' := hR.held (j := j) (o := o) el
  have ev' : Ev R R H (upd H l (.lst ((heldRow R.S (S.B i).2).set j (ov o)))) := (Ev.refl R H).up (hR.mem (mhs (List.mem_of_getElem? el)))
  refine ⟨_, rfl, R.rk, _, _, _, _, rfl, h1, T.cl_Rack, T.no_Rack_shelf, rf_shelf _ _ _, _, rfl, R.sh, _, _, _, rfl, rfl, SqL.of hR.shelf, atI_nat (refs_at ep), _, _, _, _, rfl, (kd_ty T _).of (kd_cls T _) hp, kit_lost T _, _, rfl, ?_⟩
  generalize (S.B i).1 = kd at hp q qW
  cases kd with
  | lost =>
   refine ite2 (fun _ => ?_) (fun z => absurd rfl z)
   exact ⟨_, rfl, (by show 1 <= 1000; decide), fun x nx => ⟨x, i, rfl, small_log (by have := hR.p8; omega), upd_same, fun dx nd ne => ⟨rfl, some dx, upd_same, xo_raise (qW rfl) nx nd ne⟩⟩⟩
  | whole =>
   refine ite2 (fun z => absurd z (by decide)) (fun _ => ?_)
   refine .inl ⟨_, rfl, R.rk, _, _, _, _, rfl, h1, T.cl_Rack, T.no_Rack_shelf, rf_shelf _ _ _, _, rfl, R.sh, _, _, _, rfl, rfl, SqL.of hR.shelf, atI_nat (refs_at ep), p, dp, _, rfl, hp, rfl, _, rfl, _, rfl, p, l, _, dp, _, _, j, _, rfl, hp, T.cl_Plank, T.no_Plank_held, rfl, hl, by rw [heldRow_len]; exact hj, ?_⟩
   have q := q rfl
   generalize (upd H l (.lst ((heldRow R.S (S.B i).2).set j (ov o)))) = H1 at hR' ev'
   obtain ⟨dx', h1'⟩ := id hR'.ins
   refine ⟨_, rfl, R.rk, dx', _, rfl, h1', rfl, _, rfl, _, rfl, (show 3 <= sizeLine by decide), fun tp ntp => ?_⟩
   have st := Same.new (o := .tup [V.str (Str.ofString "lay"), V.int (i : Int), V.int (j : Int)]) ntp
   exact ⟨R, S.hold i j o, tp, _, rfl, hR'.same st, upd_same, he, fun H2 ev2 hR2 => q H2 ((ev'.trans (Ev.of st)).trans ev2) hR2⟩
  | slow c =>
   refine ite2 (fun z => absurd (show false = true from z) (by decide)) (fun _ => ?_)
   refine .inr (.inl ⟨_, rfl, R.rk, _, _, _, _, rfl, h1, T.cl_Rack, T.no_Rack_shelf, rf_shelf _ _ _, _, rfl, R.sh, _, _, _, rfl, rfl, SqL.of hR.shelf, atI_nat (refs_at ep), p, dp, _, rfl, hp, rfl, _, rfl, _, rfl, p, l, _, dp, _, _, j, _, rfl, hp, T.cl_SlowPlank, T.no_SlowPlank_held, rfl, hl, by rw [heldRow_len]; exact hj, ?_⟩)
   have q := q rfl
   generalize (upd H l (.lst ((heldRow R.S (S.B i).2).set j (ov o)))) = H1 at hR' ev'
   obtain ⟨dx', h1'⟩ := id hR'.ins
   refine ⟨_, rfl, R.rk, dx', _, rfl, h1', rfl, _, rfl, _, rfl, (show 3 <= sizeLine by decide), fun tp ntp => ?_⟩
   have st := Same.new (o := .tup [V.str (Str.ofString "lay"), V.int (i : Int), V.int (j : Int)]) ntp
   exact ⟨R, S.hold i j o, tp, _, rfl, hR'.same st, upd_same, he, fun H2 ev2 hR2 => q H2 ((ev'.trans (Ev.of st)).trans ev2) hR2⟩
  | spare m =>
   refine ite2 (fun z => absurd (show false = true from z) (by decide)) (fun _ => ?_)
   refine .inr (.inr (.inr ⟨_, rfl, R.rk, _, _, _, _, rfl, h1, T.cl_Rack, T.no_Rack_shelf, rf_shelf _ _ _, _, rfl, R.sh, _, _, _, rfl, rfl, SqL.of hR.shelf, atI_nat (refs_at ep), p, dp, _, rfl, hp, rfl, _, rfl, _, rfl, p, l, _, dp, _, _, j, _, rfl, hp, T.cl_SparePlank, T.no_SparePlank_held, rfl, hl, by rw [heldRow_len]; exact hj, ?_⟩))
   have q := q rfl
   generalize (upd H l (.lst ((heldRow R.S (S.B i).2).set j (ov o)))) = H1 at hR' ev'
   obtain ⟨dx', h1'⟩ := id hR'.ins
   refine ⟨_, rfl, R.rk, dx', _, rfl, h1', rfl, _, rfl, _, rfl, (show 3 <= sizeLine by decide), fun tp ntp => ?_⟩
   have st := Same.new (o := .tup [V.str (Str.ofString "lay"), V.int (i : Int), V.int (j : Int)]) ntp
   exact ⟨R, S.hold i j o, tp, _, rfl, hR'.same st, upd_same, he, fun H2 ev2 hR2 => q H2 ((ev'.trans (Ev.of st)).trans ev2) hR2⟩
def spNoteX (a : Adr) : Sp := fun vs H Q E => ∃ (R : Rk) (S : Stt) (x y : V) (pr : Addr) (prs : List (Int × Int)), vs = [.ref R.rk, x, y, .ref pr] /\ FR a H R S /\ S.evs.length < 9000 /\ PairsAt H pr prs /\ ((∃ i j : Nat, x = .int i /\ y = .int j /\ i < R.L /\ j < R.S /\ NPw a R S H E ∧
 (Pow S → ∀ R' H', Ev R R' H H' → FR a H' R' ((S.noted i (some (j, prs))).spend [.str "note", .int i, .int j]) → Q .non H')) ∨ BadIJ a R.L R.S H E x y)
theorem ok_Rack_note (T : Txt K mg a) : FnOk P wo K mg base (CXe P wo) 4 a.f_Rack_note a.d_Rack_note ["self", "slot", "stripe", "pairs"] (spNoteX a) := by
 have G_Rack_check_slot : FnOk P wo K mg base (CXe P wo) 3 _ _ _ _ := ok_Rack_check_slot T
 have G_Rack_check_stripe : FnOk P wo K mg base (CXe P wo) 3 _ _ _ _ := ok_Rack_check_stripe T
 have G_Rack_need_write : FnOk P wo K mg base (CXe P wo) 3 _ _ _ _ := (ok_Rack_need_write T).mono (by decide)
 have G_Rack_spend : FnOk P wo K mg base CX0 3 _ _ _ _ := (ok_Rack_spend T).mono (by decide)
 refine T.F_Rack_note.okX (k := 3) sc_Rack_note (fun vs H Q E h => ?_) (fun cdv A outer s H vs Q E hr h => ?_)
 ·obtain ⟨R, S, x, y, pr, prs, rfl, _⟩ := h
  rfl
 ·obtain ⟨R, S, x, y, pr, prs, rfl, hR, he, hpr, h⟩ := h
  obtain ⟨dx, h1⟩ := id hR.ins
  refine ⟨_, (pss_cons (ps_expr (pe_meth (pv 0) T.cl_Rack T.me_Rack_check_slot G_Rack_check_slot (hr.mono (by decide)) T.b_Rack_check_slot .nil (passX fun _ _ _ h => h) (pa_cons (pv 1) pa_nil)))
   (pss_cons (ps_expr (pe_meth (pv 0) T.cl_Rack T.me_Rack_check_stripe G_Rack_check_stripe (hr.mono (by decide)) T.b_Rack_check_stripe .nil (passX fun _ _ _ h => h) (pa_cons (pv 2) pa_nil)))
   (pss_cons (ps_expr (pe_meth0 (pv 0) T.cl_Rack T.me_Rack_need_write G_Rack_need_write (hr.mono (by decide)) T.b_Rack_need_write .nil (passX fun _ _ _ h => h)))
   (pss_cons (ps_asg (pe_tup (pa_cons (pv 2) (pa_cons (pe_callTy call_list_of rfl T.n_list (by decide +kernel) (pa_cons (pv 3) pa_nil)) pa_nil))) (pg_sub (pe_fld (pv 0) rfl) (pv 1) set_list))
   (pss_one (ps_expr (pe_meth (pv 0) T.cl_Rack T.me_Rack_spend G_Rack_spend (hr.mono (by decide)) T.b_Rack_spend .nil pass0 (pa_cons (pe_tup (pa_cons pe_str (pa_cons (pv 1) (pa_cons (pv 2) pa_nil)))) pa_nil)))))))), ?_⟩
  refine ⟨_, rfl, R.rk, dx, _, rfl, h1, rfl, _, rfl, R, S, _, rfl, hR, ?_⟩
  rcases h with ⟨i, j, rfl, rfl, hi, hj, qN, q⟩ | hb | ⟨i, rfl, hi, hb⟩
  ·refine .inl ⟨i, rfl, hi, ?_⟩
   refine ⟨_, rfl, R.rk, dx, _, rfl, h1, rfl, _, rfl, R, S, _, rfl, hR, .inl ⟨j, rfl, hj, ?_⟩⟩
   refine ⟨_, rfl, R.rk, dx, _, rfl, h1, rfl, R, S, rfl, hR, fun hp => ?_, qN⟩
   have q := q hp
   obtain ⟨ts, hpr1, hpr2, hpr3⟩ := id hpr
   refine ⟨_, rfl, _, rfl, pr, _, rfl, .inl (SqL.of hpr1), fun pl npl => ⟨(show 2 <= sizeLine by decide), fun t nt => ?_⟩⟩
   have s1 := Same.new (o := .lst (ts.map V.ref)) npl
   have s2 := Same.new (o := .tup [V.int (j : Int), V.ref pl]) nt
   have s12 := s1.trans s2
   have hpl2 : (upd (upd H pl (.lst (ts.map V.ref))) t (.tup [V.int (j : Int), V.ref pl])) pl = some (.lst (ts.map V.ref)) := s2 _ _ upd_same
   have ht2 : (upd (upd H pl (.lst (ts.map V.ref))) t (.tup [V.int (j : Int), V.ref pl])) t = some (.tup [V.int (j : Int), V.ref pl]) := upd_same
   generalize (upd (upd H pl (.lst (ts.map V.ref))) t (.tup [V.int (j : Int), V.ref pl])) = H2 at s12 hpl2 ht2
   have hR2 := hR.same s12
   obtain ⟨dx2, h12⟩ := id hR2.ins
   obtain ⟨ss, hs1, hs2, _⟩ := id hR2.sl
   refine ⟨_, rfl, R.rk, _, _, _, _, rfl, h12, T.cl_Rack, T.no_Rack_slate, rf_slate _ _ _, _, rfl, R.sl, _, _, i, rfl, rfl, hs1, ixN_nat (by rw [hs2]; exact hi), ?_⟩
   have hno : NoteO { R with O := pl :: R.O } H2 (.ref t) (some ((j : Int), prs)) := by
    refine ⟨t, pl, rfl, ht2, ⟨ts, hpl2, hpr2, fun k u e => ?_⟩, fun z => ?_, List.mem_cons_self⟩
    ·obtain ⟨p, b, e1, e2⟩ := hpr3 k u e
     exact ⟨p, b, e1, s12 _ _ e2⟩
    ·obtain ⟨xs, w⟩ := hR.isL z
     rw [npl] at w
     cases w
   have hR3 := hR2.slot (i := i) hs1 hno (by rw [hpl2]; exact NT.l _)
   have ev3 : Ev R { R with O := pl :: R.O } H (upd H2 R.sl (.lst (ss.set i (.ref t)))) := by
    refine ⟨fun b o n e => ?_, fun b hb => ?_, rfl, rfl, rfl, rfl⟩
    ·rw [upd_ne (fun z => n (by rw [z]; exact hR.mem msl))]
     exact s12 _ _ e
    ·rcases List.mem_cons.mp hb with y | y
     ·exact .inr (by rw [y]; exact npl)
     ·exact .inl y
   generalize (upd H2 R.sl (.lst (ss.set i (.ref t)))) = H3 at hR3 ev3
   obtain ⟨dx3, h13⟩ := id hR3.ins
   have h13 : H3 R.rk = some (.ins a.C_Rack dx3 (rf R S.l S.g)) := h13
   refine ⟨_, rfl, R.rk, dx3, _, rfl, h13, rfl, _, rfl, _, rfl, (show 3 <= sizeLine by decide), fun tp ntp => ?_⟩
   have st := Same.new (o := .tup [V.str (Str.ofString "note"), V.int (i : Int), V.int (j : Int)]) ntp
   exact ⟨{ R with O := pl :: R.O }, S.noted i (some ((j : Int), prs)), tp, _, rfl, hR3.same st, upd_same, he, fun H5 ev5 hR5 => q _ H5 ((ev3.trans (Ev.of st)).trans ev5) hR5⟩
  ·exact .inr hb
  ·refine .inl ⟨i, rfl, hi, ?_⟩
   exact ⟨_, rfl, R.rk, dx, _, rfl, h1, rfl, _, rfl, R, S, _, rfl, hR, .inr hb⟩
def spStrikeX (a : Adr) : Sp := fun vs H Q E => ∃ (R : Rk) (S : Stt) (x : V), vs = [.ref R.rk, x] /\ FR a H R S /\ S.evs.length < 9000 /\ ((∃ i : Nat, x = .int i /\ i < R.L /\ NPw a R S H E ∧
 (Pow S → ∀ R' H', Ev R R' H H' → FR a H' R' ((S.noted i none).spend [.str "strike", .int i]) → Q .non H')) ∨ BadI a R.L H E x)
theorem ok_Rack_strike (T : Txt K mg a) : FnOk P wo K mg base (CXe P wo) 4 a.f_Rack_strike a.d_Rack_strike ["self", "slot"] (spStrikeX a) := by
 have G_Rack_check_slot : FnOk P wo K mg base (CXe P wo) 3 _ _ _ _ := ok_Rack_check_slot T
 have G_Rack_need_write : FnOk P wo K mg base (CXe P wo) 3 _ _ _ _ := (ok_Rack_need_write T).mono (by decide)
 have G_Rack_spend : FnOk P wo K mg base CX0 3 _ _ _ _ := (ok_Rack_spend T).mono (by decide)
 refine T.F_Rack_strike.okX (k := 3) sc_Rack_strike (fun vs H Q E h => ?_) (fun cdv A outer s H vs Q E hr h => ?_)
 ·obtain ⟨R, S, x, rfl, _⟩ := h
  rfl
 ·obtain ⟨R, S, x, rfl, hR, he, h⟩ := h
  obtain ⟨dx, h1⟩ := id hR.ins
  refine ⟨_, (pss_cons (ps_expr (pe_meth (pv 0) T.cl_Rack T.me_Rack_check_slot G_Rack_check_slot (hr.mono (by decide)) T.b_Rack_check_slot .nil (passX fun _ _ _ h => h) (pa_cons (pv 1) pa_nil)))
   (pss_cons (ps_expr (pe_meth0 (pv 0) T.cl_Rack T.me_Rack_need_write G_Rack_need_write (hr.mono (by decide)) T.b_Rack_need_write .nil (passX fun _ _ _ h => h)))
   (pss_cons (ps_asg pe_non (pg_sub (pe_fld (pv 0) rfl) (pv 1) set_list))
   (pss_one (ps_expr (pe_meth (pv 0) T.cl_Rack T.me_Rack_spend G_Rack_spend (hr.mono (by decide)) T.b_Rack_spend .nil pass0 (pa_cons (pe_tup (pa_cons pe_str (pa_cons (pv 1) pa_nil))) pa_nil))))))), ?_⟩
  refine ⟨_, rfl, R.rk, dx, _, rfl, h1, rfl, _, rfl, R, S, _, rfl, hR, ?_⟩
  rcases h with ⟨i, rfl, hi, qN, q⟩ | hb
  rotate_left
  ·exact .inr hb
  refine .inl ⟨i, rfl, hi, ?_⟩
  refine ⟨_, rfl, R.rk, dx, _, rfl, h1, rfl, R, S, rfl, hR, fun hp => ?_, qN⟩
  have q := q hp
  obtain ⟨ss, hs1, hs2, _⟩ := id hR.sl
  refine ⟨_, rfl, R.rk, _, _, _, _, rfl, h1, T.cl_Rack, T.no_Rack_slate, rf_slate _ _ _, _, rfl, R.sl, _, _, i, rfl, rfl, hs1, ixN_nat (by rw [hs2]; exact hi), ?_⟩
  have hR3 := hR.slot (i := i) (v := .non) (y := none) (pl := R.rk) hs1 rfl (by rw [h1]; exact NT.i _ _ _)
  have ev3 : Ev R { R with O := R.rk :: R.O } H (upd H R.sl (.lst (ss.set i .non))) := by
   refine ⟨fun b o n e => ?_, fun b hb => ?_, rfl, rfl, rfl, rfl⟩
   ·rw [upd_ne (fun z => n (by rw [z]; exact hR.mem msl))]
    exact e
   ·rcases List.mem_cons.mp hb with y | y
    ·exact .inl (by rw [y]; exact hR.memi mrk)
    ·exact .inl y
  generalize (upd H R.sl (.lst (ss.set i .non))) = H3 at hR3 ev3
  obtain ⟨dx3, h13⟩ := id hR3.ins
  have h13 : H3 R.rk = some (.ins a.C_Rack dx3 (rf R S.l S.g)) := h13
  refine ⟨_, rfl, R.rk, dx3, _, rfl, h13, rfl, _, rfl, (show 2 <= sizeLine by decide), fun tp ntp => ?_⟩
  have st := Same.new (o := .tup [V.str (Str.ofString "strike"), V.int (i : Int)]) ntp
  exact ⟨{ R with O := R.rk :: R.O }, S.noted i none, tp, _, rfl, hR3.same st, upd_same, he, fun H5 ev5 hR5 => q _ H5 ((ev3.trans (Ev.of st)).trans ev5) hR5⟩
end
def IntAt (H H' : Hp) (D : Addr) (ts : List Addr) (k : Nat) (Y : Nat -> Option (Int × List (Int × Int))) : Prop := ts.length = ((List.range k).filter fun i => (Y i).isSome).length /\ ∀ (i : Nat) t, ts[i]? = some t -> ∃ (j : Nat) (st : Int) (prs : List (Int × Int)) (pl : Addr), ((List.range k).filter fun i => (Y i).isSome)[i]? = some j /\ Y j = some (st, prs) /\ H' t = some (.tup [.int j, .int st, .ref pl]) /\ PairsAt H' pl prs /\ H t = none /\ H pl = none /\ pl ≠ D
theorem IntAt.same {H H1 H2 : Hp} {D : Addr} {ts : List Addr} {k : Nat} {Y : Nat -> Option (Int × List (Int × Int))} (h : IntAt H H1 D ts k Y) (s : Same H1 H2) : IntAt H H2 D ts k Y := ⟨h.1, fun i t e => by
 obtain ⟨j, st, prs, pl, h1, h2, h3, h4, h5⟩ := h.2 i t e
 exact ⟨j, st, prs, pl, h1, h2, s _ _ h3, h4.same s, h5⟩⟩
theorem PairsAt.upd {H : Hp} {pl D : Addr} {xs : List V} {o : HO} {prs : List (Int × Int)} (h : PairsAt H pl prs) (hD : H D = some (.lst xs)) (n : pl ≠ D) : PairsAt (L2.upd H D o) pl prs := by
 obtain ⟨ts, h1, h2, h3⟩ := h
 exact ⟨ts, by rw [upd_ne n]; exact h1, h2, fun i t e => by
  obtain ⟨p, b, e1, e2⟩ := h3 i t e
  exact ⟨p, b, e1, by rw [upd_ne (fun z => by rw [z, hD] at e2; cases e2)]; exact e2⟩⟩
theorem IntAt.updD {H H' : Hp} {D : Addr} {xs : List V} {o : HO} {ts : List Addr} {k : Nat} {Y : Nat -> Option (Int × List (Int × Int))} (h : IntAt H H' D ts k Y) (hD : H' D = some (.lst xs)) : IntAt H (L2.upd H' D o) D ts k Y := ⟨h.1, fun i t e => by
 obtain ⟨j, st, prs, pl, h1, h2, h3, h4, h5, h6, h7⟩ := h.2 i t e
 exact ⟨j, st, prs, pl, h1, h2, by rw [upd_ne (fun z => by rw [z, hD] at h3; cases h3)]; exact h3, h4.upd hD h7, h5, h6, h7⟩⟩
theorem IntAt.skip {H H' : Hp} {D : Addr} {ts : List Addr} {k : Nat} {Y : Nat -> Option (Int × List (Int × Int))} (h : IntAt H H' D ts k Y) (hy : Y k = none) : IntAt H H' D ts (k + 1) Y := by
 have e : (List.range (k + 1)).filter (fun i => (Y i).isSome) = (List.range k).filter fun i => (Y i).isSome := by
  rw [List.range_succ, List.filter_append, List.filter_cons, hy]
  simp
 unfold IntAt
 rw [e]
 exact h
theorem IntAt.snoc {H H' : Hp} {D : Addr} {ts : List Addr} {k : Nat} {t pl : Addr} {st : Int} {prs : List (Int × Int)} {Y : Nat -> Option (Int × List (Int × Int))} (h : IntAt H H' D ts k Y) (hy : Y k = some (st, prs)) (ht : H' t = some (.tup [.int k, .int st, .ref pl])) (hp : PairsAt H' pl prs) (n1 : H t = none) (n2 : H pl = none) (n3 : pl ≠ D) : IntAt H H' D (ts ++ [t]) (k + 1) Y := by
 have e : (List.range (k + 1)).filter (fun i => (Y i).isSome) = ((List.range k).filter fun i => (Y i).isSome) ++ [k] := by
  rw [List.range_succ, List.filter_append, List.filter_cons, hy]
  simp
 unfold IntAt
 rw [e]
 refine ⟨by rw [List.length_append, List.length_append, h.1]; rfl, fun i t' e' => ?_⟩
 rw [List.getElem?_append] at e'
 split at e'
 ·obtain ⟨j, st', prs', pl', h1, h2⟩ := h.2 i t' e'
  exact ⟨j, st', prs', pl', by rw [List.getElem?_append_left (by rw [<- h.1]; assumption)]; exact h1, h2⟩
 ·have ei : i - ts.length = 0 := by
   have := (List.getElem?_eq_some_iff.mp e').1
   have : i - ts.length < 1 := this
   omega
  rw [ei] at e'
  cases Option.some.inj e'
  refine ⟨k, st, prs, pl, ?_, hy, ht, hp, n1, n2, n3⟩
  rw [List.getElem?_append_right (by rw [<- h.1]; omega), ← h.1, ei]
  rfl
section
variable {P : Program} {wo : World} {K : PySem.W.Frag} {mg : Str -> Option Value} {base : Heap} {a : Adr}
def spIntents (a : Adr) : Sp := fun vs H Q _ => ∃ (R : Rk) (S : Stt), vs = [.ref R.rk] /\ FR a H R S /\ ∀ D ts H', H D = none -> Same H H' -> H' D = some (.lst (List.map V.ref ts)) -> IntAt H H' D ts R.L S.Y -> D ∉ ts -> Q (.ref D) H'
theorem ok_Rack_intents (T : Txt K mg a) : FnOk P wo K mg base CX0 1 a.f_Rack_intents a.d_Rack_intents ["self"] (spIntents a) := by
 refine T.F_Rack_intents.ok (k := 0) sc_Rack_intents (fun vs H Q E h => ?_) (fun cdv A outer s H vs Q E hr h => ?_)
 ·obtain ⟨R, S, rfl, _⟩ := h
  rfl
 ·obtain ⟨R, S, rfl, hR, q⟩ := h
  obtain ⟨dx, h1⟩ := id hR.ins
  obtain ⟨ss, hsl, hls, hn⟩ := id hR.sl
  have l8 := hR.l8
  generalize S.Y = Y at hn q
  refine ⟨_, (pss_cons (ps_set (i := 1) sc_Rack_intents.nd rfl (Or.inl rfl) (pe_lst pa_nil))
   (pss_cons (ps_for PassesOwn.never rfl (pi_enum rfl T.n_enumerate (pa_cons (pe_fld (pv 0) rfl) pa_nil)) (pg_tup rfl (pgs_cons (pg_name (i := 2) sc_Rack_intents.nd rfl (Or.inl rfl)) (pgs_cons (pg_name (i := 3) sc_Rack_intents.nd rfl (Or.inl rfl)) pgs_nil))) (pss_one (ps_if (pt_cmpR op_notN (pv 3) pe_non (nomark _)) (pss_one (ps_expr (pe_bm PySem.F.plainAttrs_list PySem.F.slot_list_append PySem.F.type_list_append mt_append (pv 1) (pa_cons (pe_tup (pa_cons (pv 2) (pa_cons (pe_ix ix_tup (pv 3) pe_int (fun _ _ => rfl)) (pa_cons (pe_callTy call_list_of rfl T.n_list (by decide +kernel) (pa_cons (pe_ix ix_tup (pv 3) pe_int (fun _ _ => rfl)) pa_nil)) pa_nil)))) pa_nil)))) pss_nil)))
   (pss_one (ps_ret (pv 1))))), ?_⟩
  refine ⟨(show 0 <= sizeLine by decide), fun D nD => ?_⟩
  have sD := Same.new (o := .lst []) nD
  have hD : (upd H D (.lst [])) D = some (.lst []) := upd_same
  generalize (upd H D (.lst [])) = H1 at sD hD
  try dsimp only [L2.start, List.set, List.map, List.append, List.replicate, HAppend.hAppend, Append.append, List.length, Nat.reduceAdd, Nat.reduceSub]
  refine ⟨_, rfl, R.rk, _, _, _, _, rfl, sD _ _ h1, T.cl_Rack, T.no_Rack_slate, rf_slate _ _ _, R.sl, ss, rfl, SqL.of (sD _ _ hsl), ?_⟩
  refine for_enum (fun k σ H' => ∃ (v2 v3 : Option V) (ts : List Addr), σ = [some (.ref R.rk), some (.ref D), v2, v3] /\ Same H H' /\ H' D = some (.lst (List.map V.ref ts)) /\ IntAt H H' D ts k Y /\ D ∉ ts) ⟨none, none, [], rfl, sD, hD, ⟨rfl, fun i t e => (by rw [List.getElem?_nil] at e; cases e)⟩, List.not_mem_nil⟩ ?_ ?_ ?_
  ·rintro i σ H' _ ⟨_, _, _, _, s', _⟩
   exact SqL.of (s' _ _ hsl)
  ·rintro k u T' σ H2 hk hu nT ⟨v2, v3, ts, rfl, s2, hD2, hI2, nDt⟩
   have st := Same.new (o := .tup [V.int (k : Nat), u]) nT
   refine ⟨T', _, rfl, SqT.of upd_same, rfl, _, _, rfl, _, _, rfl, rfl, ?_⟩
   have s3 := s2.trans st
   have hD3 := st _ _ hD2
   have hI3 := hI2.same st
   generalize (upd H2 T' (.tup [V.int (k : Nat), u])) = H3 at st s3 hD3 hI3
   have hno := (hn k u hu).keep (R' := R) (KB.of (ms := []) s3) (fun b hb => absurd hb List.not_mem_nil) (fun b hb => absurd hb List.not_mem_nil) (fun b hb => .inl hb) (fun b hb => hb)
   try dsimp only [L2.start, List.set, List.map, List.append, List.replicate, HAppend.hAppend, Append.append, List.length, Nat.reduceAdd, Nat.reduceSub]
   refine ⟨_, rfl, rfl, _, rfl, ?_⟩
   cases hy : Y k with
   | none =>
    rw [hy] at hno
    have hno : u = .non := hno
    subst hno
    exact ite2 (fun z => absurd z (by decide)) (fun _ => ⟨_, _, ts, rfl, s3, hD3, hI3.skip hy, nDt⟩)
   | some y =>
    obtain ⟨sv, prs⟩ := y
    rw [hy] at hno
    obtain ⟨t, pl, rfl, ht, hp, _⟩ := hno
    refine ite2 (fun _ => ?_) (fun y => absurd (by rw [decide_eq_false (fun w => by cases w)]; rfl) y)
    obtain ⟨us, hu1, hu2, hu3⟩ := id hp
    have fits : (ts.map V.ref).length < sizeLine := by
     refine Nat.lt_of_lt_of_le (?_ : (ts.map V.ref).length < 100) (by decide)
     rw [List.length_map, hI3.1]
     have := List.length_filter_le (fun i => (Y i).isSome) (List.range k)
     rw [List.length_range] at this
     rw [hls] at hk
     omega
    refine ⟨_, rfl, .inl ⟨rfl, _, SqL.of hD3⟩, _, rfl, _, rfl, t, _, _, _, rfl, rfl, SqT.of ht, rfl, _, rfl, t, _, _, _, rfl, rfl, SqT.of ht, rfl, pl, _, rfl, .inl (SqL.of hu1), fun pl' npl' => ⟨(show 3 <= sizeLine by decide), fun rw' nrw => ?_⟩⟩
    have s4 := Same.new (o := .lst (us.map V.ref)) npl'
    have s5 := Same.new (o := .tup [V.int (k : Nat), V.int sv, V.ref pl']) nrw
    have s35 := s4.trans s5
    have hrw : (upd (upd H3 pl' (.lst (us.map V.ref))) rw' (.tup [V.int (k : Nat), V.int sv, V.ref pl'])) rw' = some (.tup [V.int (k : Nat), V.int sv, V.ref pl']) := upd_same
    have hpl' : (upd (upd H3 pl' (.lst (us.map V.ref))) rw' (.tup [V.int (k : Nat), V.int sv, V.ref pl'])) pl' = some (.lst (us.map V.ref)) := s5 _ _ upd_same
    have nrw3 : H3 rw' = none := s4.free nrw
    generalize (upd (upd H3 pl' (.lst (us.map V.ref))) rw' (.tup [V.int (k : Nat), V.int sv, V.ref pl'])) = H5 at s35 hrw hpl'
    have hD5 := s35 _ _ hD3
    have npD : pl' ≠ D := fun z => by rw [z, hD3] at npl'; cases npl'
    have nrD : rw' ≠ D := fun z => by rw [z, hD3] at nrw3; cases nrw3
    have hP5 : PairsAt H5 pl' prs := ⟨us, hpl', hu2, fun i t' e' => by
     obtain ⟨p, b, e1, e2⟩ := hu3 i t' e'
     exact ⟨p, b, e1, s35 _ _ e2⟩⟩
    refine ⟨D, _, _, rfl, rfl, hD5, fits, ?_⟩
    refine ⟨_, _, ts ++ [rw'], rfl, (s3.trans s35).up nD, by rw [upd_same, List.map_append]; rfl, ((hI3.same s35).snoc hy hrw hP5 (s3.free nrw3) (s3.free npl') npD).updD hD5, fun z => ?_⟩
    rcases List.mem_append.mp z with y | y
    ·exact nDt y
    ·exact nrD (List.mem_singleton.mp y).symm
  ·rintro σ H' ⟨v2, v3, ts, rfl, s', hD', hI, nDt⟩
   rw [hls] at hI
   exact ⟨_, rfl, q D ts H' nD s' hD' hI nDt⟩
end
section
variable {P : Program} {wo : World} {K : PySem.W.Frag} {mg : Str -> Option Value} {base : Heap} {a : Adr}
def movedK (n m : Nat) : Kd := if m + 1 = n then .whole else .spare (m + 1)
def spMoveMark (a : Adr) : Sp := fun vs H Q E => ∃ (R : Rk) (S : Stt) (x : V), vs = [.ref R.rk, x] /\ FR a H R S /\ S.evs.length < 9000 /\ ((∃ i : Nat, x = .int i /\ i < R.P /\ NPw a R S H E /\ (Pow S -> (S.B i).1.isSpare = false -> WP a i H E) ∧
 (∀ m, Pow S → (S.B i).1 = .spare m → ∀ R' H', Ev R R' H H' → FR a H' R' ((S.kind i (movedK R.S m) (S.B i).2).spend [.str "mark", .int i, .int ((m + 1 : Nat) : Int)]) → Q .non H')) ∨ BadI a R.P H E x)
theorem ok_Rack_move_mark (T : Txt K mg a) : FnOk P wo K mg base (CXe P wo) 4 a.f_Rack_move_mark a.d_Rack_move_mark ["self", "plank"] (spMoveMark a) := by
 have G_Rack_check_plank : FnOk P wo K mg base (CXe P wo) 3 _ _ _ _ := ok_Rack_check_plank T
 have G_Rack_need_write : FnOk P wo K mg base (CXe P wo) 3 _ _ _ _ := (ok_Rack_need_write T).mono (by decide)
 have G_Rack_spend : FnOk P wo K mg base CX0 3 _ _ _ _ := (ok_Rack_spend T).mono (by decide)
 have G_Plank_init : FnOk P wo K mg base CX0 2 _ _ _ _ := (ok_Plank_init T).mono (by decide)
 have G_SparePlank_move : FnOk P wo K mg base CX0 3 _ _ _ _ := (ok_SparePlank_move T).mono (by decide)
 have G_WrongPlank_init : FnOk P wo K mg base CX0 1 _ _ _ _ := ok_WrongPlank_init T
 refine T.F_Rack_move_mark.okX (k := 3) sc_Rack_move_mark (fun vs H Q E h => ?_) (fun cdv A outer s H vs Q E hr h => ?_)
 ·obtain ⟨R, S, x, rfl, _⟩ := h
  rfl
 ·obtain ⟨R, S, x, rfl, hR, he, h⟩ := h
  obtain ⟨dx, h1⟩ := id hR.ins
  refine ⟨_, (pss_cons (ps_expr (pe_meth (pv 0) T.cl_Rack T.me_Rack_check_plank G_Rack_check_plank (hr.mono (by decide)) T.b_Rack_check_plank .nil (passX fun _ _ _ h => h) (pa_cons (pv 1) pa_nil)))
   (pss_cons (ps_expr (pe_meth0 (pv 0) T.cl_Rack T.me_Rack_need_write G_Rack_need_write (hr.mono (by decide)) T.b_Rack_need_write .nil (passX fun _ _ _ h => h)))
   (pss_cons (ps_set (i := 2) sc_Rack_move_mark.nd rfl (Or.inl rfl) (pe_ix ix_list (pe_fld (pv 0) rfl) (pv 1) (fun _ _ => rfl)))
   (pss_cons (ps_if (pt_not (pt_val (pe_callB call_isiC rfl T.n_isinstance boot_isinstance (pa_cons (pv 2) (pa_cons (pe_glob (v := .ref a.C_SparePlank) rfl T.m_SparePlank rfl) pa_nil))))) (pss_one (ps_raiseI T.xm_WrongPlank T.xi_WrongPlank G_WrongPlank_init (hr.mono (by decide)) T.b_WrongPlank_init rfl rfl rfl T.m_WrongPlank rises_cx (pa_cons (pv 1) pa_nil))) pss_nil)
   (pss_cons (ps_expr (pe_meth0 (pv 2) T.cl_SparePlank T.me_SparePlank_move G_SparePlank_move (hr.mono (by decide)) T.b_SparePlank_move .nil pass0))
   (pss_cons (ps_if (pt_cmpR op_eq (pe_fld (pv 2) rfl) (pe_fld (pv 0) rfl) (nomark _)) (pss_one (ps_asg (pe_make T.mk_Plank G_Plank_init (hr.mono (by decide)) rfl T.m_Plank T.b_Plank_init .nil pass0 (pa_cons (pe_fld (pv 2) rfl) pa_nil)) (pg_sub (pe_fld (pv 0) rfl) (pv 1) set_list))) pss_nil)
   (pss_one (ps_expr (pe_meth (pv 0) T.cl_Rack T.me_Rack_spend G_Rack_spend (hr.mono (by decide)) T.b_Rack_spend .nil pass0 (pa_cons (pe_tup (pa_cons pe_str (pa_cons (pv 1) (pa_cons (pe_fld (pv 2) rfl) pa_nil)))) pa_nil)))))))))), ?_⟩
  refine ⟨_, rfl, R.rk, dx, _, rfl, h1, rfl, _, rfl, R, S, _, rfl, hR, ?_⟩
  rcases h with ⟨i, rfl, hi, qN, qW, q⟩ | hb
  rotate_left
  ·exact .inr hb
  refine .inl ⟨i, rfl, hi, ?_⟩
  refine ⟨_, rfl, R.rk, dx, _, rfl, h1, rfl, R, S, rfl, hR, fun hpw => ?_, qN⟩
  obtain ⟨p, dp, l, ep, el, hp, hl⟩ := hR.at hi
  refine ⟨_, rfl, R.rk, _, _, _, _, rfl, h1, T.cl_Rack, T.no_Rack_shelf, rf_shelf _ _ _, _, rfl, R.sh, _, _, _, rfl, rfl, SqL.of hR.shelf, atI_nat (refs_at ep), ?_⟩
  refine ⟨_, rfl, _, _, _, _, rfl, (kd_ty T _).of (kd_cls T _) hp, kit_spare T _, _, rfl, ?_⟩
  cases hk : (S.B i).1.isSpare with
  | false =>
   refine ite2 (fun _ => ?_) (fun z => absurd rfl z)
   exact ⟨_, rfl, (by show 1 <= 1000; decide), fun x nx => ⟨x, i, rfl, small_log (by have := hR.p8; omega), upd_same, fun dx nd ne => ⟨rfl, some dx, upd_same, xo_raise (qW hpw hk) nx nd ne⟩⟩⟩
  | true =>
   refine ite2 (fun z => absurd z (by decide)) (fun _ => ?_)
   obtain ⟨m, hm⟩ : ∃ m, (S.B i).1 = .spare m := by
    generalize (S.B i).1 = kd at hk
    cases kd with
    | spare m => exact ⟨m, rfl⟩
    | _ => exact absurd (show false = true from hk) (by decide)
   have q := q m hpw hm
   rw [hm] at hp
   have hp : H p = some (.ins a.C_SparePlank dp (hmf l m)) := hp
   refine ⟨_, rfl, p, dp, _, rfl, hp, rfl, p, l, dp, m, rfl, hp, ?_⟩
   have em : ((m : Int) + 1) = ((m + 1 : Nat) : Int) := by omega
   rw [em]
   have hR2 := hR.plank (dp := dp) (kd := .spare (m + 1)) ep el
   have ev2 : Ev R R H (upd H p (.ins a.C_SparePlank dp (hmf l ((m + 1 : Nat) : Int)))) := (Ev.refl R H).up (hR.memi (mps (List.mem_of_getElem? ep)))
   have hp2 : (upd H p (.ins a.C_SparePlank dp (hmf l ((m + 1 : Nat) : Int)))) p = some (.ins a.C_SparePlank dp (hmf l ((m + 1 : Nat) : Int))) := upd_same
   have hl2 : (upd H p (.ins a.C_SparePlank dp (hmf l ((m + 1 : Nat) : Int)))) l = some (.lst (heldRow R.S (S.B i).2)) := by rw [upd_ne (My.l_i hl hp)]; exact hl
   have hR2 : FR a (upd H p (.ins a.C_SparePlank dp (hmf l ((m + 1 : Nat) : Int)))) R (S.kind i (.spare (m + 1)) (S.B i).2) := hR2
   generalize (upd H p (.ins a.C_SparePlank dp (hmf l ((m + 1 : Nat) : Int)))) = H2 at hR2 ev2 hp2 hl2
   obtain ⟨dx2, h12⟩ := id hR2.ins
   have h12 : H2 R.rk = some (.ins a.C_Rack dx2 (rf R S.l S.g)) := h12
   try dsimp only [L2.start, List.set, List.map, List.append, List.replicate, HAppend.hAppend, Append.append, List.length, Nat.reduceAdd, Nat.reduceSub]
   refine ⟨_, rfl, p, _, _, _, _, rfl, hp2, T.cl_SparePlank, T.no_SparePlank_mark, rfl, _, rfl, R.rk, _, _, _, _, rfl, h12, T.cl_Rack, T.no_Rack_stripes, rf_stripes _ _ _, rfl, _, rfl, ?_⟩
   have hS : (R.S : Int) = ((m + 1 : Nat) : Int) ↔ m + 1 = R.S := by omega
   refine ite2 (fun hz => ?_) (fun hz => ?_)
   ·have ez : m + 1 = R.S := by
     have := V.int.inj (of_decide_eq_true hz)
     omega
    refine ⟨_, rfl, p, _, _, _, _, rfl, hp2, T.cl_SparePlank, T.no_SparePlank_held, rfl, fun x dy nx ndy ne => ?_⟩
    have sx : Same H2 (upd (upd H2 dy (.own x)) x (.ins a.C_Plank dy [])) := fun y o e => by
     rw [upd_ne (ne_of_none e nx), upd_ne (ne_of_none e ndy)]
     exact e
    refine ⟨x, l, a.C_Plank, dy, _, rfl, upd_same, T.cl_Plank, T.no_Plank_held, sx _ _ hl2, fun l' nl => ⟨rfl, ?_⟩⟩
    have nl0 : H2 l' = none := sx.free nl
    have nlx : l' ≠ x := fun z => by rw [z, upd_same] at nl; cases nl
    have sn : Same H2 (upd (upd (upd (upd H2 dy (.own x)) x (.ins a.C_Plank dy [])) l' (.lst (heldRow R.S (S.B i).2))) x (.ins a.C_Plank dy (hf l'))) := fun b o e => by
     rw [upd_ne (ne_of_none e nx), upd_ne (ne_of_none e nl0)]
     exact sx _ _ e
    have hpn : (upd (upd (upd (upd H2 dy (.own x)) x (.ins a.C_Plank dy [])) l' (.lst (heldRow R.S (S.B i).2))) x (.ins a.C_Plank dy (hf l'))) x = some (.ins (Kd.whole.C a) dy (Kd.whole.fs l')) := upd_same
    have hln : (upd (upd (upd (upd H2 dy (.own x)) x (.ins a.C_Plank dy [])) l' (.lst (heldRow R.S (S.B i).2))) x (.ins a.C_Plank dy (hf l'))) l' = some (.lst (heldRow R.S (S.B i).2)) := by
     rw [upd_ne nlx, upd_same]
    generalize (upd (upd (upd (upd H2 dy (.own x)) x (.ins a.C_Plank dy [])) l' (.lst (heldRow R.S (S.B i).2))) x (.ins a.C_Plank dy (hf l'))) = Hn at sn hpn hln
    refine ⟨_, rfl, R.rk, _, _, _, _, rfl, sn _ _ h12, T.cl_Rack, T.no_Rack_shelf, rf_shelf _ _ _, _, rfl, R.sh, _, _, i, rfl, rfl, sn _ _ hR2.shelf, ixN_nat (by rw [List.length_map, hR2.lp]; exact hi), ?_⟩
    have hR3 := hR2.put hi sn nx nl0 hpn hln
    have ev3 := ev2.trans (hR2.evPut (i := i) (o := .lst ((R.ps.map V.ref).set i (.ref x))) sn nx nl0)
    have hp3 : (upd Hn R.sh (.lst ((R.ps.map V.ref).set i (.ref x)))) p = some (.ins a.C_SparePlank dp (hmf l ((m + 1 : Nat) : Int))) := by
     have := sn _ _ hp2
     rw [upd_ne (fun z => My.l_i (sn _ _ hR2.shelf) this z.symm)]
     exact this
    have eS : (S.kind i (.spare (m + 1)) (S.B i).2).kind i .whole (S.B i).2 = S.kind i (movedK R.S m) (S.B i).2 := by
     unfold Stt.kind movedK
     rw [if_pos ez]
     refine congrArg (fun B => ({ S with B := B } : Stt)) ?_
     funext k
     unfold setB
     by_cases z : k = i
     ·rw [if_pos z, if_pos z]
     ·rw [if_neg z, if_neg z]
      show (if k = i then _ else S.B k) = S.B k
      rw [if_neg z]
    have hR3 : FR a (upd Hn R.sh (.lst ((R.ps.map V.ref).set i (.ref x)))) { R with ps := R.ps.set i x, hs := R.hs.set i l', O := x :: l' :: R.O } ((S.kind i (.spare (m + 1)) (S.B i).2).kind i .whole (S.B i).2) := hR3
    rw [eS] at hR3
    generalize (upd Hn R.sh (.lst ((R.ps.map V.ref).set i (.ref x)))) = H3 at hR3 ev3 hp3
    obtain ⟨dx3, h13⟩ := id hR3.ins
    have h13 : H3 R.rk = some (.ins a.C_Rack dx3 (rf R S.l S.g)) := h13
    refine ⟨_, rfl, R.rk, dx3, _, rfl, h13, rfl, _, rfl, _, rfl, p, _, _, _, _, rfl, hp3, T.cl_SparePlank, T.no_SparePlank_mark, rfl, (show 3 <= sizeLine by decide), fun tp ntp => ?_⟩
    have st := Same.new (o := .tup [V.str (Str.ofString "mark"), V.int (i : Int), V.int ((m + 1 : Nat) : Int)]) ntp
    exact ⟨{ R with ps := R.ps.set i x, hs := R.hs.set i l', O := x :: l' :: R.O }, _, tp, _, rfl, hR3.same st, upd_same, he, fun H5 ev5 hR5 => q _ H5 ((ev3.trans (Ev.of st)).trans ev5) hR5⟩
   ·have ez : ¬ m + 1 = R.S := fun z => hz (decide_eq_true (by rw [z]))
    have eS : S.kind i (.spare (m + 1)) (S.B i).2 = S.kind i (movedK R.S m) (S.B i).2 := by
     unfold Stt.kind movedK
     rw [if_neg ez]
    rw [eS] at hR2
    refine ⟨_, rfl, R.rk, dx2, _, rfl, h12, rfl, _, rfl, _, rfl, p, _, _, _, _, rfl, hp2, T.cl_SparePlank, T.no_SparePlank_mark, rfl, (show 3 <= sizeLine by decide), fun tp ntp => ?_⟩
    have st := Same.new (o := .tup [V.str (Str.ofString "mark"), V.int (i : Int), V.int ((m + 1 : Nat) : Int)]) ntp
    exact ⟨R, _, tp, _, rfl, hR2.same st, upd_same, he, fun H5 ev5 hR5 => q _ H5 ((ev2.trans (Ev.of st)).trans ev5) hR5⟩
end
section
variable {P : Program} {wo : World} {K : PySem.W.Frag} {mg : Str -> Option Value} {base : Heap} {a : Adr}
def spLose (a : Adr) : Sp := fun vs H Q E => ∃ (R : Rk) (S : Stt) (x : V), vs = [.ref R.rk, x] /\ FR a H R S /\ ((∃ i : Nat, x = .int i /\ i < R.P /\ ((S.B i).1.isLost = true -> WP a i H E) /\ ((S.B i).1.isLost = false -> ∀ R' H', Ev R R' H H' -> FR a H' R' (S.kind i .lost (fun _ => none)) -> Q .non H')) \/ BadI a R.P H E x)
theorem ok_Rack_lose (T : Txt K mg a) : FnOk P wo K mg base (CXe P wo) 4 a.f_Rack_lose a.d_Rack_lose ["self", "plank"] (spLose a) := by
 have G_Rack_check_plank : FnOk P wo K mg base (CXe P wo) 3 _ _ _ _ := ok_Rack_check_plank T
 have G_LostPlank_init : FnOk P wo K mg base CX0 2 _ _ _ _ := ok_LostPlank_init T
 have G_WrongPlank_init : FnOk P wo K mg base CX0 1 _ _ _ _ := ok_WrongPlank_init T
 refine T.F_Rack_lose.okX (k := 3) sc_Rack_lose (fun vs H Q E h => ?_) (fun cdv A outer s H vs Q E hr h => ?_)
 ·obtain ⟨R, S, x, rfl, _⟩ := h
  rfl
 ·obtain ⟨R, S, x, rfl, hR, h⟩ := h
  obtain ⟨dx, h1⟩ := id hR.ins
  refine ⟨_, (pss_cons (ps_expr (pe_meth (pv 0) T.cl_Rack T.me_Rack_check_plank G_Rack_check_plank (hr.mono (by decide)) T.b_Rack_check_plank .nil (passX fun _ _ _ h => h) (pa_cons (pv 1) pa_nil)))
   (pss_cons (ps_if (pt_val (pe_callB call_isiC rfl T.n_isinstance boot_isinstance (pa_cons (pe_ix ix_list (pe_fld (pv 0) rfl) (pv 1) (fun _ _ => rfl)) (pa_cons (pe_glob (v := .ref a.C_LostPlank) rfl T.m_LostPlank rfl) pa_nil)))) (pss_one (ps_raiseI T.xm_WrongPlank T.xi_WrongPlank G_WrongPlank_init (hr.mono (by decide)) T.b_WrongPlank_init rfl rfl rfl T.m_WrongPlank rises_cx (pa_cons (pv 1) pa_nil))) pss_nil)
   (pss_one (ps_asg (pe_make T.mk_LostPlank G_LostPlank_init (hr.mono (by decide)) rfl T.m_LostPlank T.b_LostPlank_init .nil pass0 (pa_cons (pe_fld (pv 0) rfl) pa_nil)) (pg_sub (pe_fld (pv 0) rfl) (pv 1) set_list))))), ?_⟩
  refine ⟨_, rfl, R.rk, dx, _, rfl, h1, rfl, _, rfl, R, S, _, rfl, hR, ?_⟩
  rcases h with ⟨i, rfl, hi, qW, q⟩ | hb
  rotate_left
  ·exact .inr hb
  refine .inl ⟨i, rfl, hi, ?_⟩
  obtain ⟨p, dp, l, ep, el, hp, hl⟩ := hR.at hi
  refine ⟨_, rfl, R.rk, _, _, _, _, rfl, h1, T.cl_Rack, T.no_Rack_shelf, rf_shelf _ _ _, _, rfl, R.sh, _, _, _, rfl, rfl, SqL.of hR.shelf, atI_nat (refs_at ep), _, _, _, _, rfl, (kd_ty T _).of (kd_cls T _) hp, kit_lost T _, _, rfl, ?_⟩
  refine ite2 (fun hk => ?_) (fun hk => ?_)
  ·exact ⟨_, rfl, (by show 1 <= 1000; decide), fun x nx => ⟨x, i, rfl, small_log (by have := hR.p8; omega), upd_same, fun dx nd ne => ⟨rfl, some dx, upd_same, xo_raise (qW hk) nx nd ne⟩⟩⟩
  have q := q (Bool.eq_false_iff.mpr hk)
  refine ⟨_, rfl, R.rk, _, _, _, _, rfl, h1, T.cl_Rack, T.no_Rack_stripes, rf_stripes _ _ _, fun x dy nx ndy ne => ?_⟩
  have sx : Same H (upd (upd H dy (.own x)) x (.ins a.C_LostPlank dy [])) := fun y o e => by
   rw [upd_ne (ne_of_none e nx), upd_ne (ne_of_none e ndy)]
   exact e
  refine ⟨x, dy, R.S, rfl, (by have := hR.s32; omega), upd_same, fun l' H' s' nl nl' => ⟨rfl, ?_⟩⟩
  have nl0 : H l' = none := sx.free nl
  have nlx : l' ≠ x := fun z => by rw [z, upd_same] at nl; cases nl
  have sn : Same H (upd (upd H' l' (.lst (rO (List.replicate R.S none)))) x (.ins a.C_LostPlank dy (hf l'))) := fun b o e => by
   rw [upd_ne (ne_of_none e nx), upd_ne (ne_of_none e nl0)]
   exact s' _ _ (sx _ _ e)
  have hpn : (upd (upd H' l' (.lst (rO (List.replicate R.S none)))) x (.ins a.C_LostPlank dy (hf l'))) x = some (.ins (Kd.lost.C a) dy (Kd.lost.fs l')) := upd_same
  have hln : (upd (upd H' l' (.lst (rO (List.replicate R.S none)))) x (.ins a.C_LostPlank dy (hf l'))) l' = some (.lst (heldRow R.S fun _ => none)) := by
   rw [upd_ne nlx, upd_same, rep_held]
  generalize (upd (upd H' l' (.lst (rO (List.replicate R.S none)))) x (.ins a.C_LostPlank dy (hf l'))) = Hn at sn hpn hln
  refine ⟨_, rfl, R.rk, _, _, _, _, rfl, sn _ _ h1, T.cl_Rack, T.no_Rack_shelf, rf_shelf _ _ _, _, rfl, R.sh, _, _, i, rfl, rfl, sn _ _ hR.shelf, ixN_nat (by rw [List.length_map, hR.lp]; exact hi), ?_⟩
  exact q _ _ (hR.evPut sn nx nl0) (hR.put hi sn nx nl0 hpn hln)
def SpV (H : Hp) (n : Nat) (w : V) (f : Nat -> Option Int) : Prop := (w = .non /\ f = fun _ => none) \/ ∃ L, w = .ref L /\ H L = some (.lst (heldRow n f))
def spPutSpare (a : Adr) : Sp := fun vs H Q E => ∃ (R : Rk) (S : Stt) (x w : V) (f : Nat -> Option Int), vs = [.ref R.rk, x, w] /\ FR a H R S /\ SpV H R.S w f /\ ((∃ i : Nat, x = .int i /\ i < R.P /\ ((S.B i).1.isLost = false -> WP a i H E) /\ ((S.B i).1.isLost = true -> ∀ R' H', Ev R R' H H' -> FR a H' R' (S.kind i (.spare 0) f) -> Q .non H')) \/ BadI a R.P H E x)
theorem ok_Rack_put_spare (T : Txt K mg a) : FnOk P wo K mg base (CXe P wo) 4 a.f_Rack_put_spare a.d_Rack_put_spare ["self", "plank", "some"] (spPutSpare a) := by
 have G_Rack_check_plank : FnOk P wo K mg base (CXe P wo) 3 _ _ _ _ := ok_Rack_check_plank T
 have G_SparePlank_init : FnOk P wo K mg base CX0 2 _ _ _ _ := ok_SparePlank_init T
 have G_WrongPlank_init : FnOk P wo K mg base CX0 1 _ _ _ _ := ok_WrongPlank_init T
 refine T.F_Rack_put_spare.okX (k := 3) sc_Rack_put_spare (fun vs H Q E h => ?_) (fun cdv A outer s H vs Q E hr h => ?_)
 ·obtain ⟨R, S, x, w, f, rfl, _⟩ := h
  rfl
 ·obtain ⟨R, S, x, w, f, rfl, hR, hw, h⟩ := h
  obtain ⟨dx, h1⟩ := id hR.ins
  refine ⟨_, (pss_cons (ps_expr (pe_meth (pv 0) T.cl_Rack T.me_Rack_check_plank G_Rack_check_plank (hr.mono (by decide)) T.b_Rack_check_plank .nil (passX fun _ _ _ h => h) (pa_cons (pv 1) pa_nil)))
   (pss_cons (ps_if (pt_not (pt_val (pe_callB call_isiC rfl T.n_isinstance boot_isinstance (pa_cons (pe_ix ix_list (pe_fld (pv 0) rfl) (pv 1) (fun _ _ => rfl)) (pa_cons (pe_glob (v := .ref a.C_LostPlank) rfl T.m_LostPlank rfl) pa_nil))))) (pss_one (ps_raiseI T.xm_WrongPlank T.xi_WrongPlank G_WrongPlank_init (hr.mono (by decide)) T.b_WrongPlank_init rfl rfl rfl T.m_WrongPlank rises_cx (pa_cons (pv 1) pa_nil))) pss_nil)
   (pss_one (ps_asg (pe_make T.mk_SparePlank G_SparePlank_init (hr.mono (by decide)) rfl T.m_SparePlank T.b_SparePlank_init .nil pass0 (pa_cons (pe_ifExp (pt_cmpR op_isN (pv 2) pe_non (nomark _)) (pe_op op_rep (pe_lst (pa_cons pe_non pa_nil)) (pe_fld (pv 0) rfl)) (pv 2)) pa_nil)) (pg_sub (pe_fld (pv 0) rfl) (pv 1) set_list))))), ?_⟩
  refine ⟨_, rfl, R.rk, dx, _, rfl, h1, rfl, _, rfl, R, S, _, rfl, hR, ?_⟩
  rcases h with ⟨i, rfl, hi, qW, q⟩ | hb
  rotate_left
  ·exact .inr hb
  refine .inl ⟨i, rfl, hi, ?_⟩
  obtain ⟨p, dp, l, ep, el, hp, hl⟩ := hR.at hi
  refine ⟨_, rfl, R.rk, _, _, _, _, rfl, h1, T.cl_Rack, T.no_Rack_shelf, rf_shelf _ _ _, _, rfl, R.sh, _, _, _, rfl, rfl, SqL.of hR.shelf, atI_nat (refs_at ep), _, _, _, _, rfl, (kd_ty T _).of (kd_cls T _) hp, kit_lost T _, _, rfl, ?_⟩
  have bW : (S.B i).1.isLost = false -> WP a i H E := qW
  cases hk : (S.B i).1.isLost with
  | false =>
   refine ite2 (fun _ => ?_) (fun z => absurd rfl z)
   exact ⟨_, rfl, (by show 1 <= 1000; decide), fun x nx => ⟨x, i, rfl, small_log (by have := hR.p8; omega), upd_same, fun dx nd ne => ⟨rfl, some dx, upd_same, xo_raise (qW hk) nx nd ne⟩⟩⟩
  | true =>
   refine ite2 (fun z => absurd z (by decide)) (fun _ => ?_)
   have q := q hk
   rcases hw with ⟨rfl, rfl⟩ | ⟨L, rfl, hL⟩
   ·refine ⟨_, rfl, rfl, _, rfl, ite2 (fun _ => ?_) (fun z => absurd rfl z)⟩
    refine ⟨(show 1 <= sizeLine by decide), fun q1 n1 => ?_⟩
    have s1 := Same.new (o := .lst [V.non]) n1
    refine ⟨_, rfl, R.rk, _, _, _, _, rfl, s1 _ _ h1, T.cl_Rack, T.no_Rack_stripes, rf_stripes _ _ _, q1, _, _, rfl, rfl, upd_same, by omega, by have := hR.s32; omega, ?_, fun q2 n2 => ?_⟩
    ·rw [Int.toNat_natCast]
     show 1 * R.S <= sizeLine
     exact Nat.le_trans (by have := hR.s32; omega : 1 * R.S <= 32) (by decide)
    have eR : (List.replicate ((R.S : Int)).toNat [V.non]).flatten = heldRow R.S (fun _ => none) := by rw [Int.toNat_natCast, repNn, ← rep_held]; show _ = (List.replicate R.S none).map ov; rw [List.map_replicate]; rfl
    rw [eR]
    have s2 := s1.trans (Same.new (o := .lst (heldRow R.S fun _ => none)) n2)
    have hL : (upd (upd H q1 (.lst [V.non])) q2 (.lst (heldRow R.S fun _ => none))) q2 = some (.lst (heldRow R.S fun _ => none)) := upd_same
    generalize (upd (upd H q1 (.lst [V.non])) q2 (.lst (heldRow R.S fun _ => none))) = H0 at s2 hL
    generalize (fun _ => none : Nat -> Option Int) = f at hL q
    intro x dy nx ndy ne
    have sx : Same H0 (upd (upd H0 dy (.own x)) x (.ins a.C_SparePlank dy [])) := fun y o e => by
     rw [upd_ne (ne_of_none e nx), upd_ne (ne_of_none e ndy)]
     exact e
    refine ⟨x, q2, dy, _, rfl, upd_same, sx _ _ hL, fun l' nl => ⟨rfl, ?_⟩⟩
    have nx0 : H x = none := s2.free nx
    have nl0 : H l' = none := s2.free (sx.free nl)
    have nlx : l' ≠ x := fun z => by rw [z, upd_same] at nl; cases nl
    have sn : Same H (upd (upd (upd (upd H0 dy (.own x)) x (.ins a.C_SparePlank dy [])) l' (.lst (heldRow R.S f))) x (.ins a.C_SparePlank dy (hmf l' 0))) := fun b o e => by
     rw [upd_ne (ne_of_none e nx0), upd_ne (ne_of_none e nl0)]
     exact sx _ _ (s2 _ _ e)
    have hpn : (upd (upd (upd (upd H0 dy (.own x)) x (.ins a.C_SparePlank dy [])) l' (.lst (heldRow R.S f))) x (.ins a.C_SparePlank dy (hmf l' 0))) x = some (.ins ((Kd.spare 0).C a) dy ((Kd.spare 0).fs l')) := upd_same
    have hln : (upd (upd (upd (upd H0 dy (.own x)) x (.ins a.C_SparePlank dy [])) l' (.lst (heldRow R.S f))) x (.ins a.C_SparePlank dy (hmf l' 0))) l' = some (.lst (heldRow R.S f)) := by
     rw [upd_ne nlx, upd_same]
    generalize (upd (upd (upd (upd H0 dy (.own x)) x (.ins a.C_SparePlank dy [])) l' (.lst (heldRow R.S f))) x (.ins a.C_SparePlank dy (hmf l' 0))) = Hn at sn hpn hln
    refine ⟨_, rfl, R.rk, _, _, _, _, rfl, sn _ _ h1, T.cl_Rack, T.no_Rack_shelf, rf_shelf _ _ _, _, rfl, R.sh, _, _, i, rfl, rfl, sn _ _ hR.shelf, ixN_nat (by rw [List.length_map, hR.lp]; exact hi), ?_⟩
    exact q _ _ (hR.evPut sn nx0 nl0) (hR.put hi sn nx0 nl0 hpn hln)
   ·refine ⟨_, rfl, rfl, _, rfl, ite2 (fun z => absurd (of_decide_eq_true z) (fun y => by cases y)) (fun _ => ?_)⟩
    have s2 : Same H H := fun _ _ e => e
    refine ⟨_, rfl, fun x dy nx ndy ne => ?_⟩
    have sx : Same H (upd (upd H dy (.own x)) x (.ins a.C_SparePlank dy [])) := fun y o e => by
     rw [upd_ne (ne_of_none e nx), upd_ne (ne_of_none e ndy)]
     exact e
    refine ⟨x, L, dy, _, rfl, upd_same, sx _ _ hL, fun l' nl => ⟨rfl, ?_⟩⟩
    have nx0 : H x = none := s2.free nx
    have nl0 : H l' = none := s2.free (sx.free nl)
    have nlx : l' ≠ x := fun z => by rw [z, upd_same] at nl; cases nl
    have sn : Same H (upd (upd (upd (upd H dy (.own x)) x (.ins a.C_SparePlank dy [])) l' (.lst (heldRow R.S f))) x (.ins a.C_SparePlank dy (hmf l' 0))) := fun b o e => by
     rw [upd_ne (ne_of_none e nx0), upd_ne (ne_of_none e nl0)]
     exact sx _ _ (s2 _ _ e)
    have hpn : (upd (upd (upd (upd H dy (.own x)) x (.ins a.C_SparePlank dy [])) l' (.lst (heldRow R.S f))) x (.ins a.C_SparePlank dy (hmf l' 0))) x = some (.ins ((Kd.spare 0).C a) dy ((Kd.spare 0).fs l')) := upd_same
    have hln : (upd (upd (upd (upd H dy (.own x)) x (.ins a.C_SparePlank dy [])) l' (.lst (heldRow R.S f))) x (.ins a.C_SparePlank dy (hmf l' 0))) l' = some (.lst (heldRow R.S f)) := by
     rw [upd_ne nlx, upd_same]
    generalize (upd (upd (upd (upd H dy (.own x)) x (.ins a.C_SparePlank dy [])) l' (.lst (heldRow R.S f))) x (.ins a.C_SparePlank dy (hmf l' 0))) = Hn at sn hpn hln
    refine ⟨_, rfl, R.rk, _, _, _, _, rfl, sn _ _ h1, T.cl_Rack, T.no_Rack_shelf, rf_shelf _ _ _, _, rfl, R.sh, _, _, i, rfl, rfl, sn _ _ hR.shelf, ixN_nat (by rw [List.length_map, hR.lp]; exact hi), ?_⟩
    exact q _ _ (hR.evPut sn nx0 nl0) (hR.put hi sn nx0 nl0 hpn hln)
end
section
variable {P : Program} {wo : World} {K : PySem.W.Frag} {mg : Str -> Option Value} {base : Heap} {a : Adr}
def spCheckThere (a : Adr) : Sp := fun vs H Q E => ∃ (R : Rk) (S : Stt) (x y : V), vs = [.ref R.rk, x, y] /\ FR a H R S /\ ((∃ i j : Nat, x = .int i /\ y = .int j /\ i < R.P /\ j < R.S /\ ((S.B i).1.there j = true -> Q .non H) /\ ((S.B i).1.there j = false -> WP a i H E)) \/ BadIJ a R.P R.S H E x y)
theorem ok_Rack_check_there (T : Txt K mg a) : FnOk P wo K mg base (CXe P wo) 5 a.f_Rack_check_there a.d_Rack_check_there ["self", "plank", "stripe"] (spCheckThere a) := by
 have G_Rack_check_both : FnOk P wo K mg base (CXe P wo) 4 _ _ _ _ := ok_Rack_check_both T
 have G_Plank_there : FnOk P wo K mg base CX0 4 _ _ _ _ := (ok_Plank_there T).mono (by decide)
 have G_LostPlank_there : FnOk P wo K mg base CX0 4 _ _ _ _ := (ok_LostPlank_there T).mono (by decide)
 have G_SparePlank_there : FnOk P wo K mg base CX0 4 _ _ _ _ := (ok_SparePlank_there T).mono (by decide)
 have G_WrongPlank_init : FnOk P wo K mg base CX0 1 _ _ _ _ := ok_WrongPlank_init T
 refine T.F_Rack_check_there.okX (k := 4) sc_Rack_check_there (fun vs H Q E h => ?_) (fun cdv A outer s H vs Q E hr h => ?_)
 ·obtain ⟨R, S, x, y, rfl, _⟩ := h
  rfl
 ·obtain ⟨R, S, x, y, rfl, hR, h⟩ := h
  obtain ⟨dx, h1⟩ := id hR.ins
  refine ⟨_, (pss_cons (ps_expr (pe_meth (pv 0) T.cl_Rack T.me_Rack_check_both G_Rack_check_both (hr.mono (by decide)) T.b_Rack_check_both .nil (passX fun _ _ _ h => h) (pa_cons (pv 1) (pa_cons (pv 2) pa_nil))))
   (pss_one (ps_if (pt_not (pt_val (PE.or (pe_meth (by exact (pe_ix ix_list (pe_fld (pv 0) rfl) (pv 1) (fun _ _ => rfl))) T.cl_Plank T.me_Plank_there G_Plank_there (hr.mono (by decide)) T.b_Plank_there .nil pass0 (pa_cons (pv 2) pa_nil)) (PE.or (pe_meth (by exact (pe_ix ix_list (pe_fld (pv 0) rfl) (pv 1) (fun _ _ => rfl))) T.cl_SlowPlank T.me_SlowPlank__there G_Plank_there (hr.mono (by decide)) T.b_Plank_there .nil pass0 (pa_cons (pv 2) pa_nil)) (PE.or (pe_meth (by exact (pe_ix ix_list (pe_fld (pv 0) rfl) (pv 1) (fun _ _ => rfl))) T.cl_LostPlank T.me_LostPlank_there G_LostPlank_there (hr.mono (by decide)) T.b_LostPlank_there .nil pass0 (pa_cons (pv 2) pa_nil)) (pe_meth (by exact (pe_ix ix_list (pe_fld (pv 0) rfl) (pv 1) (fun _ _ => rfl))) T.cl_SparePlank T.me_SparePlank_there G_SparePlank_there (hr.mono (by decide)) T.b_SparePlank_there .nil pass0 (pa_cons (pv 2) pa_nil))))))) (pss_one (ps_raiseI T.xm_WrongPlank T.xi_WrongPlank G_WrongPlank_init (hr.mono (by decide)) T.b_WrongPlank_init rfl rfl rfl T.m_WrongPlank rises_cx (pa_cons (pv 1) pa_nil))) pss_nil))), ?_⟩
  refine ⟨_, rfl, R.rk, dx, _, rfl, h1, rfl, _, rfl, _, rfl, R, S, _, _, rfl, hR, ?_⟩
  rcases h with ⟨i, j, rfl, rfl, hi, hj, q, qW⟩ | hb
  rotate_left
  ·exact .inr hb
  refine .inl ⟨i, j, rfl, rfl, hi, hj, ?_⟩
  obtain ⟨p, dp, l, ep, el, hp, hl⟩ := hR.at hi
  have bad : (S.B i).1.there j = false -> ∀ x, H x = none -> ∃ x' i', [V.ref x, V.int (i : Int)] = [.ref x', .int i'] := fun _ x _ => ⟨_, _, rfl⟩
  generalize (S.B i).1 = kd at hp q qW
  cases kd with
  | whole =>
   refine .inl ⟨_, rfl, R.rk, _, _, _, _, rfl, h1, T.cl_Rack, T.no_Rack_shelf, rf_shelf _ _ _, _, rfl, R.sh, _, _, _, rfl, rfl, SqL.of hR.shelf, atI_nat (refs_at ep), p, dp, _, rfl, hp, rfl, _, rfl, p, _, rfl, _, rfl, ?_⟩
   exact ite2 (fun z => absurd z (by decide)) (fun _ => q rfl)
  | slow c =>
   refine .inr (.inl ⟨_, rfl, R.rk, _, _, _, _, rfl, h1, T.cl_Rack, T.no_Rack_shelf, rf_shelf _ _ _, _, rfl, R.sh, _, _, _, rfl, rfl, SqL.of hR.shelf, atI_nat (refs_at ep), p, dp, _, rfl, hp, rfl, _, rfl, p, _, rfl, _, rfl, ?_⟩)
   exact ite2 (fun z => absurd z (by decide)) (fun _ => q rfl)
  | lost =>
   refine .inr (.inr (.inl ⟨_, rfl, R.rk, _, _, _, _, rfl, h1, T.cl_Rack, T.no_Rack_shelf, rf_shelf _ _ _, _, rfl, R.sh, _, _, _, rfl, rfl, SqL.of hR.shelf, atI_nat (refs_at ep), p, dp, _, rfl, hp, rfl, _, rfl, p, _, rfl, _, rfl, ?_⟩))
   refine ite2 (fun _ => ?_) (fun z => absurd rfl z)
   exact ⟨_, rfl, (by show 1 <= 1000; decide), fun x nx => ⟨x, i, rfl, small_log (by have := hR.p8; omega), upd_same, fun dx nd ne => ⟨rfl, some dx, upd_same, xo_raise (qW rfl) nx nd ne⟩⟩⟩
  | spare m =>
   refine .inr (.inr (.inr ⟨_, rfl, R.rk, _, _, _, _, rfl, h1, T.cl_Rack, T.no_Rack_shelf, rf_shelf _ _ _, _, rfl, R.sh, _, _, _, rfl, rfl, SqL.of hR.shelf, atI_nat (refs_at ep), p, dp, _, rfl, hp, rfl, _, rfl, p, l, dp, m, j, rfl, hp, _, rfl, ?_⟩))
   cases hc : decide ((j : Int) < (m : Int)) with
   | true => exact ite2 (fun z => absurd z (by decide)) (fun _ => q hc)
   | false =>
    refine ite2 (fun _ => ?_) (fun z => absurd rfl z)
    exact ⟨_, rfl, (by show 1 <= 1000; decide), fun x nx => ⟨x, i, rfl, small_log (by have := hR.p8; omega), upd_same, fun dx nd ne => ⟨rfl, some dx, upd_same, xo_raise (qW hc) nx nd ne⟩⟩⟩
def LayQ (a : Adr) (R : Rk) (S : Stt) (H : Hp) (Q : VK) (E : XK) (i j : Nat) (o : Option Int) : Prop := ((S.B i).1.there j = true -> ∀ H', Ev R R H H' -> FR a H' R (S.hold i j o) -> Q .non H') /\ ((S.B i).1.there j = false -> WP a i H E)
def spSpoil (a : Adr) : Sp := fun vs H Q E => ∃ (R : Rk) (S : Stt) (x y : V), vs = [.ref R.rk, x, y] /\ FR a H R S /\ ((∃ i j : Nat, x = .int i /\ y = .int j /\ i < R.P /\ j < R.S /\ LayQ a R S H Q E i j none) \/ BadIJ a R.P R.S H E x y)
def spLie (a : Adr) : Sp := fun vs H Q E => ∃ (R : Rk) (S : Stt) (x y : V) (o : Option Int), vs = [.ref R.rk, x, y, ov o] /\ FR a H R S /\ ((∃ i j : Nat, x = .int i /\ y = .int j /\ i < R.P /\ j < R.S /\ LayQ a R S H Q E i j o) \/ BadIJ a R.P R.S H E x y)
theorem ok_Rack_spoil (T : Txt K mg a) : FnOk P wo K mg base (CXe P wo) 6 a.f_Rack_spoil a.d_Rack_spoil ["self", "plank", "stripe"] (spSpoil a) := by
 have G_Rack_check_there : FnOk P wo K mg base (CXe P wo) 5 _ _ _ _ := ok_Rack_check_there T
 have G_Plank_lay_at : FnOk P wo K mg base CX0 5 _ _ _ _ := (ok_Plank_lay_at T).mono (by decide)
 have G_LostPlank_lay_at : FnOk P wo K mg base CX0 5 _ _ _ _ := (ok_LostPlank_lay_at T).mono (by decide)
 refine T.F_Rack_spoil.okX (k := 5) sc_Rack_spoil (fun vs H Q E h => ?_) (fun cdv A outer s H vs Q E hr h => ?_)
 ·obtain ⟨R, S, x, y, rfl, _⟩ := h
  rfl
 ·obtain ⟨R, S, x, y, rfl, hR, h⟩ := h
  obtain ⟨dx, h1⟩ := id hR.ins
  refine ⟨_, (pss_cons (ps_expr (pe_meth (pv 0) T.cl_Rack T.me_Rack_check_there G_Rack_check_there (hr.mono (by decide)) T.b_Rack_check_there .nil (passX fun _ _ _ h => h) (pa_cons (pv 1) (pa_cons (pv 2) pa_nil))))
   (pss_one (ps_expr (PE.or (pe_meth (by exact (pe_ix ix_list (pe_fld (pv 0) rfl) (pv 1) (fun _ _ => rfl))) T.cl_Plank T.me_Plank_lay_at G_Plank_lay_at (hr.mono (by decide)) T.b_Plank_lay_at .nil pass0 (pa_cons (pv 2) (pa_cons pe_non pa_nil))) (PE.or (pe_meth (by exact (pe_ix ix_list (pe_fld (pv 0) rfl) (pv 1) (fun _ _ => rfl))) T.cl_SlowPlank T.me_SlowPlank__lay_at G_Plank_lay_at (hr.mono (by decide)) T.b_Plank_lay_at .nil pass0 (pa_cons (pv 2) (pa_cons pe_non pa_nil))) (PE.or (pe_meth (by exact (pe_ix ix_list (pe_fld (pv 0) rfl) (pv 1) (fun _ _ => rfl))) T.cl_LostPlank T.me_LostPlank_lay_at G_LostPlank_lay_at (hr.mono (by decide)) T.b_LostPlank_lay_at .nil pass0 (pa_cons (pv 2) (pa_cons pe_non pa_nil))) (pe_meth (by exact (pe_ix ix_list (pe_fld (pv 0) rfl) (pv 1) (fun _ _ => rfl))) T.cl_SparePlank T.me_SparePlank__lay_at G_Plank_lay_at (hr.mono (by decide)) T.b_Plank_lay_at .nil pass0 (pa_cons (pv 2) (pa_cons pe_non pa_nil))))))))), ?_⟩
  refine ⟨_, rfl, R.rk, dx, _, rfl, h1, rfl, _, rfl, _, rfl, R, S, _, _, rfl, hR, ?_⟩
  rcases h with ⟨i, j, rfl, rfl, hi, hj, q, qW⟩ | hb
  rotate_left
  ·exact .inr hb
  refine .inl ⟨i, j, rfl, rfl, hi, hj, fun ht => ?_, qW⟩
  obtain ⟨p, dp, l, ep, el, hp, hl⟩ := hR.at hi
  have q := q ht _ ((Ev.refl R H).up (hR.mem (mhs (List.mem_of_getElem? el)))) (hR.held (j := j) (o := none) el)
  generalize (S.B i).1 = kd at hp ht
  cases kd with
  | whole => exact .inl ⟨_, rfl, R.rk, _, _, _, _, rfl, h1, T.cl_Rack, T.no_Rack_shelf, rf_shelf _ _ _, _, rfl, R.sh, _, _, _, rfl, rfl, SqL.of hR.shelf, atI_nat (refs_at ep), p, dp, _, rfl, hp, rfl, _, rfl, p, l, _, dp, _, _, j, _, rfl, hp, T.cl_Plank, T.no_Plank_held, rfl, hl, by rw [heldRow_len]; exact hj, q⟩
  | slow c => exact .inr (.inl ⟨_, rfl, R.rk, _, _, _, _, rfl, h1, T.cl_Rack, T.no_Rack_shelf, rf_shelf _ _ _, _, rfl, R.sh, _, _, _, rfl, rfl, SqL.of hR.shelf, atI_nat (refs_at ep), p, dp, _, rfl, hp, rfl, _, rfl, p, l, _, dp, _, _, j, _, rfl, hp, T.cl_SlowPlank, T.no_SlowPlank_held, rfl, hl, by rw [heldRow_len]; exact hj, q⟩)
  | lost => exact absurd (show false = true from ht) (by decide)
  | spare m => exact .inr (.inr (.inr ⟨_, rfl, R.rk, _, _, _, _, rfl, h1, T.cl_Rack, T.no_Rack_shelf, rf_shelf _ _ _, _, rfl, R.sh, _, _, _, rfl, rfl, SqL.of hR.shelf, atI_nat (refs_at ep), p, dp, _, rfl, hp, rfl, _, rfl, p, l, _, dp, _, _, j, _, rfl, hp, T.cl_SparePlank, T.no_SparePlank_held, rfl, hl, by rw [heldRow_len]; exact hj, q⟩))
theorem ok_Rack_lie (T : Txt K mg a) : FnOk P wo K mg base (CXe P wo) 6 a.f_Rack_lie a.d_Rack_lie ["self", "plank", "stripe", "block"] (spLie a) := by
 have G_Rack_check_there : FnOk P wo K mg base (CXe P wo) 5 _ _ _ _ := ok_Rack_check_there T
 have G_Plank_lay_at : FnOk P wo K mg base CX0 5 _ _ _ _ := (ok_Plank_lay_at T).mono (by decide)
 have G_LostPlank_lay_at : FnOk P wo K mg base CX0 5 _ _ _ _ := (ok_LostPlank_lay_at T).mono (by decide)
 refine T.F_Rack_lie.okX (k := 5) sc_Rack_lie (fun vs H Q E h => ?_) (fun cdv A outer s H vs Q E hr h => ?_)
 ·obtain ⟨R, S, x, y, o, rfl, _⟩ := h
  rfl
 ·obtain ⟨R, S, x, y, o, rfl, hR, h⟩ := h
  obtain ⟨dx, h1⟩ := id hR.ins
  refine ⟨_, (pss_cons (ps_expr (pe_meth (pv 0) T.cl_Rack T.me_Rack_check_there G_Rack_check_there (hr.mono (by decide)) T.b_Rack_check_there .nil (passX fun _ _ _ h => h) (pa_cons (pv 1) (pa_cons (pv 2) pa_nil))))
   (pss_one (ps_expr (PE.or (pe_meth (by exact (pe_ix ix_list (pe_fld (pv 0) rfl) (pv 1) (fun _ _ => rfl))) T.cl_Plank T.me_Plank_lay_at G_Plank_lay_at (hr.mono (by decide)) T.b_Plank_lay_at .nil pass0 (pa_cons (pv 2) (pa_cons (pv 3) pa_nil))) (PE.or (pe_meth (by exact (pe_ix ix_list (pe_fld (pv 0) rfl) (pv 1) (fun _ _ => rfl))) T.cl_SlowPlank T.me_SlowPlank__lay_at G_Plank_lay_at (hr.mono (by decide)) T.b_Plank_lay_at .nil pass0 (pa_cons (pv 2) (pa_cons (pv 3) pa_nil))) (PE.or (pe_meth (by exact (pe_ix ix_list (pe_fld (pv 0) rfl) (pv 1) (fun _ _ => rfl))) T.cl_LostPlank T.me_LostPlank_lay_at G_LostPlank_lay_at (hr.mono (by decide)) T.b_LostPlank_lay_at .nil pass0 (pa_cons (pv 2) (pa_cons (pv 3) pa_nil))) (pe_meth (by exact (pe_ix ix_list (pe_fld (pv 0) rfl) (pv 1) (fun _ _ => rfl))) T.cl_SparePlank T.me_SparePlank__lay_at G_Plank_lay_at (hr.mono (by decide)) T.b_Plank_lay_at .nil pass0 (pa_cons (pv 2) (pa_cons (pv 3) pa_nil))))))))), ?_⟩
  refine ⟨_, rfl, R.rk, dx, _, rfl, h1, rfl, _, rfl, _, rfl, R, S, _, _, rfl, hR, ?_⟩
  rcases h with ⟨i, j, rfl, rfl, hi, hj, q, qW⟩ | hb
  rotate_left
  ·exact .inr hb
  refine .inl ⟨i, j, rfl, rfl, hi, hj, fun ht => ?_, qW⟩
  obtain ⟨p, dp, l, ep, el, hp, hl⟩ := hR.at hi
  have q := q ht _ ((Ev.refl R H).up (hR.mem (mhs (List.mem_of_getElem? el)))) (hR.held (j := j) (o := o) el)
  generalize (S.B i).1 = kd at hp ht
  cases kd with
  | whole => exact .inl ⟨_, rfl, R.rk, _, _, _, _, rfl, h1, T.cl_Rack, T.no_Rack_shelf, rf_shelf _ _ _, _, rfl, R.sh, _, _, _, rfl, rfl, SqL.of hR.shelf, atI_nat (refs_at ep), p, dp, _, rfl, hp, rfl, _, rfl, _, rfl, p, l, _, dp, _, _, j, _, rfl, hp, T.cl_Plank, T.no_Plank_held, rfl, hl, by rw [heldRow_len]; exact hj, q⟩
  | slow c => exact .inr (.inl ⟨_, rfl, R.rk, _, _, _, _, rfl, h1, T.cl_Rack, T.no_Rack_shelf, rf_shelf _ _ _, _, rfl, R.sh, _, _, _, rfl, rfl, SqL.of hR.shelf, atI_nat (refs_at ep), p, dp, _, rfl, hp, rfl, _, rfl, _, rfl, p, l, _, dp, _, _, j, _, rfl, hp, T.cl_SlowPlank, T.no_SlowPlank_held, rfl, hl, by rw [heldRow_len]; exact hj, q⟩)
  | lost => exact absurd (show false = true from ht) (by decide)
  | spare m => exact .inr (.inr (.inr ⟨_, rfl, R.rk, _, _, _, _, rfl, h1, T.cl_Rack, T.no_Rack_shelf, rf_shelf _ _ _, _, rfl, R.sh, _, _, _, rfl, rfl, SqL.of hR.shelf, atI_nat (refs_at ep), p, dp, _, rfl, hp, rfl, _, rfl, _, rfl, p, l, _, dp, _, _, j, _, rfl, hp, T.cl_SparePlank, T.no_SparePlank_held, rfl, hl, by rw [heldRow_len]; exact hj, q⟩))
def kit_ls (T : Txt K mg a) (kd : Kd) : PySem.W.kitAny K (.ref (kd.C a)) [.ref a.C_LostPlank, .ref a.C_SparePlank] = some (kd.isLost || kd.isSpare) := by
 cases kd
 ·exact T.kt_Plank
 ·exact T.kt_SlowPlank
 ·exact T.kt_LostPlank
 ·exact T.kt_SparePlank
def spMakeSlow (a : Adr) : Sp := fun vs H Q E => ∃ (R : Rk) (S : Stt) (x : V) (c : Int), vs = [.ref R.rk, x, .int c] /\ FR a H R S /\ ((∃ i : Nat, x = .int i /\ i < R.P /\ c.natAbs.log2 < 1920 /\ (¬ (2 <= c /\ c <= 9) -> E (.ref a.C_NoShape) none H) /\ (2 <= c /\ c <= 9 -> ((S.B i).1.isLost || (S.B i).1.isSpare) = true -> WP a i H E) /\ (2 <= c /\ c <= 9 -> ((S.B i).1.isLost || (S.B i).1.isSpare) = false -> ∀ R' H', Ev R R' H H' -> FR a H' R' (S.kind i (.slow c) (S.B i).2) -> Q .non H')) \/ BadI a R.P H E x)
theorem ok_Rack_make_slow (T : Txt K mg a) : FnOk P wo K mg base (CXe P wo) 4 a.f_Rack_make_slow a.d_Rack_make_slow ["self", "plank", "cost"] (spMakeSlow a) := by
 have G_Rack_check_plank : FnOk P wo K mg base (CXe P wo) 3 _ _ _ _ := ok_Rack_check_plank T
 have G_SlowPlank_init : FnOk P wo K mg base CX0 2 _ _ _ _ := ok_SlowPlank_init T
 have G_WrongPlank_init : FnOk P wo K mg base CX0 1 _ _ _ _ := ok_WrongPlank_init T
 refine T.F_Rack_make_slow.okX (k := 3) sc_Rack_make_slow (fun vs H Q E h => ?_) (fun cdv A outer s H vs Q E hr h => ?_)
 ·obtain ⟨R, S, x, c, rfl, _⟩ := h
  rfl
 ·obtain ⟨R, S, x, c, rfl, hR, h⟩ := h
  obtain ⟨dx, h1⟩ := id hR.ins
  refine ⟨_, (pss_cons (ps_expr (pe_meth (pv 0) T.cl_Rack T.me_Rack_check_plank G_Rack_check_plank (hr.mono (by decide)) T.b_Rack_check_plank .nil (passX fun _ _ _ h => h) (pa_cons (pv 1) pa_nil)))
   (pss_cons (ps_if (PW.pt (pw_or (pt_cmpR op_lt (pv 2) (pe_glob (v := .int 2) rfl T.v_LEAST_COST ⟨_, rfl⟩) (nomark _)) (pw_or1 (pt_cmpR op_gt (pv 2) (pe_glob (v := .int 9) rfl T.v_MOST_COST ⟨_, rfl⟩) (nomark _))))) (pss_one (ps_raise T.xc_NoShape rfl rfl rfl T.m_NoShape rises_cx (pa_cons (pe_fstr (pj_str (pj_int (pe_glob (v := .int 2) rfl T.v_LEAST_COST ⟨_, rfl⟩) (pj_str (pj_int (pe_glob (v := .int 9) rfl T.v_MOST_COST ⟨_, rfl⟩) (pj_str (pj_int (pv 2) pj_nil)))))) (by decide)) pa_nil))) pss_nil)
   (pss_cons (ps_if (pt_val (pe_callB call_isiCT rfl T.n_isinstance boot_isinstance (pa_cons (pe_ix ix_list (pe_fld (pv 0) rfl) (pv 1) (fun _ _ => rfl)) (pa_cons (pe_tup (pa_cons (pe_glob (v := .ref a.C_LostPlank) rfl T.m_LostPlank rfl) (pa_cons (pe_glob (v := .ref a.C_SparePlank) rfl T.m_SparePlank rfl) pa_nil))) pa_nil)))) (pss_one (ps_raiseI T.xm_WrongPlank T.xi_WrongPlank G_WrongPlank_init (hr.mono (by decide)) T.b_WrongPlank_init rfl rfl rfl T.m_WrongPlank rises_cx (pa_cons (pv 1) pa_nil))) pss_nil)
   (pss_one (ps_asg (pe_make T.mk_SlowPlank G_SlowPlank_init (hr.mono (by decide)) rfl T.m_SlowPlank T.b_SlowPlank_init .nil pass0 (pa_cons (pe_fld (pe_ix ix_list (pe_fld (pv 0) rfl) (pv 1) (fun _ _ => rfl)) rfl) (pa_cons (pv 2) pa_nil))) (pg_sub (pe_fld (pv 0) rfl) (pv 1) set_list)))))), ?_⟩
  refine ⟨_, rfl, R.rk, dx, _, rfl, h1, rfl, _, rfl, R, S, _, rfl, hR, ?_⟩
  rcases h with ⟨i, rfl, hi, gc, qN, qW, q⟩ | hb
  rotate_left
  ·exact .inr hb
  refine .inl ⟨i, rfl, hi, ?_⟩
  obtain ⟨p, dp, l, ep, el, hp, hl⟩ := hR.at hi
  have fin : ¬ (2 <= c /\ c <= 9) -> ∀ y : Str, [V.str y].length <= sizeLine /\ E (.ref a.C_NoShape) none H := fun z y => ⟨by show 1 <= sizeLine; decide, qN z⟩
  refine ⟨_, rfl, _, _, rfl, rfl, _, rfl, ite2 (fun y => ⟨2, rfl, by decide, 9, rfl, by decide, _, rfl, c, rfl, gc, fin (fun z => absurd (of_decide_eq_true y) (by omega))⟩) (fun y1 => ?_)⟩
  refine ⟨_, rfl, _, _, rfl, rfl, _, rfl, ite2 (fun y => ⟨2, rfl, by decide, 9, rfl, by decide, _, rfl, c, rfl, gc, fin (fun z => absurd (of_decide_eq_true y) (by omega))⟩) (fun y2 => ?_)⟩
  have c29 : 2 <= c /\ c <= 9 := by
   simp only [decide_eq_true_eq] at y1 y2
   omega
  refine ⟨_, rfl, R.rk, _, _, _, _, rfl, h1, T.cl_Rack, T.no_Rack_shelf, rf_shelf _ _ _, _, rfl, R.sh, _, _, _, rfl, rfl, SqL.of hR.shelf, atI_nat (refs_at ep), (show 2 <= sizeLine by decide), fun tp ntp => ?_⟩
  have st := Same.new (o := .tup [V.ref a.C_LostPlank, V.ref a.C_SparePlank]) ntp
  have htp : (upd H tp (.tup [V.ref a.C_LostPlank, V.ref a.C_SparePlank])) tp = some (.tup [V.ref a.C_LostPlank, V.ref a.C_SparePlank]) := upd_same
  generalize (upd H tp (.tup [V.ref a.C_LostPlank, V.ref a.C_SparePlank])) = H1 at st htp
  refine ⟨p, _, dp, _, tp, [a.C_LostPlank, a.C_SparePlank], _, rfl, st _ _ hp, kd_cls T _, kd_ty T _, htp, kit_ls T _, _, rfl, ?_⟩
  have hR1 := hR.same st
  have h11 := st _ _ h1
  have hl1 := st _ _ hl
  have hp1 := st _ _ hp
  refine ite2 (fun hk => ?_) (fun hk => ?_)
  ·refine ⟨_, rfl, (by show 1 <= 1000; decide), fun x nx => ⟨x, i, rfl, small_log (by have := hR.p8; omega), upd_same, fun dx nd ne => ⟨rfl, some dx, upd_same, xo_raise (C := a.C_WrongPlank) (D := wpD i) (H := H1) (E := E) (fun dx' H' s' nd' hd' => qW c29 hk dx' H' (st.trans s') (st.free nd') hd') nx nd ne⟩⟩⟩
  have q := q c29 (Bool.eq_false_iff.mpr hk)
  refine ⟨_, rfl, R.rk, _, _, _, _, rfl, h11, T.cl_Rack, T.no_Rack_shelf, rf_shelf _ _ _, _, rfl, R.sh, _, _, _, rfl, rfl, SqL.of hR1.shelf, atI_nat (refs_at ep), p, _, _, _, _, rfl, hp1, kd_cls T _, kd_no T _, kd_held _ _, _, rfl, fun x dy nx ndy ne => ?_⟩
  have sx : Same H1 (upd (upd H1 dy (.own x)) x (.ins a.C_SlowPlank dy [])) := fun y o e => by
   rw [upd_ne (ne_of_none e nx), upd_ne (ne_of_none e ndy)]
   exact e
  refine ⟨x, l, dy, c, _, rfl, upd_same, sx _ _ hl1, fun l' nl => ⟨rfl, ?_⟩⟩
  have nx0 : H x = none := st.free nx
  have nl0 : H l' = none := st.free (sx.free nl)
  have nlx : l' ≠ x := fun z => by rw [z, upd_same] at nl; cases nl
  have sn : Same H (upd (upd (upd (upd H1 dy (.own x)) x (.ins a.C_SlowPlank dy [])) l' (.lst (heldRow R.S (S.B i).2))) x (.ins a.C_SlowPlank dy (hcf l' c))) := fun b o e => by
   rw [upd_ne (ne_of_none e nx0), upd_ne (ne_of_none e nl0)]
   exact sx _ _ (st _ _ e)
  have hpn : (upd (upd (upd (upd H1 dy (.own x)) x (.ins a.C_SlowPlank dy [])) l' (.lst (heldRow R.S (S.B i).2))) x (.ins a.C_SlowPlank dy (hcf l' c))) x = some (.ins ((Kd.slow c).C a) dy ((Kd.slow c).fs l')) := upd_same
  have hln : (upd (upd (upd (upd H1 dy (.own x)) x (.ins a.C_SlowPlank dy [])) l' (.lst (heldRow R.S (S.B i).2))) x (.ins a.C_SlowPlank dy (hcf l' c))) l' = some (.lst (heldRow R.S (S.B i).2)) := by
   rw [upd_ne nlx, upd_same]
  generalize (upd (upd (upd (upd H1 dy (.own x)) x (.ins a.C_SlowPlank dy [])) l' (.lst (heldRow R.S (S.B i).2))) x (.ins a.C_SlowPlank dy (hcf l' c))) = Hn at sn hpn hln
  refine ⟨_, rfl, R.rk, _, _, _, _, rfl, sn _ _ h1, T.cl_Rack, T.no_Rack_shelf, rf_shelf _ _ _, _, rfl, R.sh, _, _, i, rfl, rfl, sn _ _ hR.shelf, ixN_nat (by rw [List.length_map, hR.lp]; exact hi), ?_⟩
  exact q _ _ (hR.evPut sn nx0 nl0) (hR.put hi sn nx0 nl0 hpn hln)
end
section
variable {P : Program} {wo : World} {K : PySem.W.Frag} {mg : Str -> Option Value} {base : Heap} {a : Adr}
def TrailAt (H : Hp) (D : Addr) (evs : List (List V)) : Prop := ∃ ts : List Addr, H D = some (.lst (ts.map V.ref)) /\ ts.length = evs.length /\ ∀ (i : Nat) t, ts[i]? = some t -> ∃ vs, evs[i]? = some vs /\ H t = some (.tup vs)
def spEvents (a : Adr) : Sp := fun vs H Q _ => ∃ (R : Rk) (S : Stt), vs = [.ref R.rk] /\ FR a H R S /\ ∀ D H', H D = none -> Same H H' -> TrailAt H' D S.evs -> Q (.ref D) H'
theorem ok_Rack_events (T : Txt K mg a) : FnOk P wo K mg base CX0 1 a.f_Rack_events a.d_Rack_events ["self"] (spEvents a) := by
 refine T.F_Rack_events.ok (k := 0) sc_Rack_events (fun vs H Q E h => ?_) (fun cdv A outer s H vs Q E hr h => ?_)
 ·obtain ⟨R, S, rfl, _⟩ := h
  rfl
 ·obtain ⟨R, S, rfl, hR, q⟩ := h
  obtain ⟨dx, h1⟩ := id hR.ins
  obtain ⟨ts, h2, h3, h4⟩ := id hR.dn
  refine ⟨_, (pss_one (ps_ret (pe_callTy call_list_of rfl T.n_list (by decide +kernel) (pa_cons (pe_fld (pv 0) rfl) pa_nil)))), ?_⟩
  exact ⟨_, rfl, R.rk, _, _, _, _, rfl, h1, T.cl_Rack, T.no_Rack_done, rf_done _ _ _, R.dn, _, rfl, .inl (SqL.of h2), fun D nD => q D _ nD (Same.new nD) ⟨ts, upd_same, h3, fun i t e => by
   obtain ⟨vs, e1, e2⟩ := h4 i t e
   exact ⟨vs, e1, Same.new nD _ _ e2⟩⟩⟩
end
section
variable {P : Program} {wo : World} {K : PySem.W.Frag} {mg : Str -> Option Value} {base : Heap} {a : Adr}
def spMixedR : Sp := fun vs H Q _ => ∃ (c : Int) (k : Nat), vs = [.int c, .int k] /\ k <= 100 /\ ∀ z : Int, 0 <= z -> z < 2147483629 -> Q (.int z) H
theorem ok_mixed (T : Txt K mg a) : FnOk P wo K mg base CX0 1 a.f_mixed a.d_mixed ["_law_cell", "_law_k"] spMixedR := by
 refine T.F_mixed.ok (k := 0) sc_mixed (fun vs H Q E h => ?_) (fun cdv A outer s H vs Q E hr h => ?_)
 ·obtain ⟨c, k, rfl, _⟩ := h
  rfl
 ·obtain ⟨c, k, rfl, hk, q⟩ := h
  refine ⟨_, (pss_cons (ps_set (i := 2) sc_mixed.nd rfl (Or.inl rfl) (pe_op op_add (pe_op op_add (pe_op op_mod (pv 0) pe_int) (pe_op op_mul pe_int (pv 1))) pe_int))
   (pss_one (ps_ret (pe_op op_mod (pe_op op_mul (pe_op op_mod (pe_op op_mul (pv 2) (pv 2)) pe_int) pe_int) pe_int)))), ?_⟩
  have b1 := Int.emod_nonneg c (show (2147483629 : Int) ≠ 0 by decide)
  have b2 := Int.emod_lt_of_pos c (show (0 : Int) < 2147483629 by decide)
  refine ⟨_, rfl, _, _, rfl, rfl, p0 (by decide), _, rfl, _, _, rfl, rfl, .inl ⟨by decide, by decide⟩, _, _, rfl, rfl, _, _, rfl, rfl, ?_⟩
  have hz0 : 0 <= c % 2147483629 + 7919 * (k : Int) + 1 := by omega
  have hz1 : c % 2147483629 + 7919 * (k : Int) + 1 < 2147483629 + 791901 := by omega
  try dsimp only
  generalize c % 2147483629 + 7919 * (k : Int) + 1 = y at hz0 hz1
  have c1 := Int.emod_nonneg (y * y) (show (2147483629 : Int) ≠ 0 by decide)
  have c2 := Int.emod_lt_of_pos (y * y) (show (0 : Int) < 2147483629 by decide)
  refine ⟨_, rfl, _, rfl, _, _, rfl, rfl, .inl ⟨by omega, by omega⟩, _, _, rfl, rfl, p0 (by decide), _, _, rfl, rfl, .inr ⟨by decide, by decide⟩, _, _, rfl, rfl, p0 (by decide), ?_⟩
  exact q _ (Int.emod_nonneg _ (by decide)) (Int.emod_lt_of_pos _ (by decide))
end
section
variable {P : Program} {wo : World} {K : PySem.W.Frag} {mg : Str -> Option Value} {base : Heap} {a : Adr}
def spStream (K : PySem.W.Frag) : Sp := fun vs H Q _ => ∃ (c : Int) (n : Nat), vs = [.int c, .int n] /\ n <= 60 /\ ∀ (D : Addr) (xs : List Int) (H' : Hp), H D = none -> Same H H' -> H' D = some (.lst (xs.map V.int)) -> xs.length = n -> (∀ x ∈ xs, 0 <= x /\ x < 4611686018427387904) -> Q (.ref D) H'
theorem ok_stream (T : Txt K mg a) : FnOk P wo K mg base CX0 1 a.f_stream a.d_stream ["_law_cell", "_law_many"] (spStream K) := by
 refine T.F_stream.ok (k := 0) sc_stream (fun vs H Q E h => ?_) (fun cdv A outer s H vs Q E hr h => ?_)
 ·obtain ⟨c, n, rfl, _⟩ := h
  rfl
 ·obtain ⟨c, n, rfl, hn, q⟩ := h
  refine ⟨_, (pss_cons (ps_set (i := 2) sc_stream.nd rfl (Or.inl rfl) (pe_lst pa_nil))
   (pss_cons (ps_set (i := 3) sc_stream.nd rfl (Or.inl rfl) (pe_op op_add (pe_op op_mod (pv 0) pe_int) pe_int))
   (pss_cons (ps_for PassesOwn.never rfl (pi_range1 rfl T.n_range (pa_cons (pe_op op_add (pv 1) pe_int) pa_nil)) (pg_name (i := 4) sc_stream.nd rfl (Or.inl rfl)) (pss_cons (ps_set (i := 3) sc_stream.nd rfl (Or.inl rfl) (pe_op op_mod (pe_op op_add (pe_op op_add (pe_op op_mul (pv 3) (pv 3)) (pe_op op_mul pe_int (pv 4))) pe_int) pe_int))
   (pss_one (ps_expr (pe_bm PySem.F.plainAttrs_list PySem.F.slot_list_append PySem.F.type_list_append mt_append (pv 2) (pa_cons (pv 3) pa_nil))))))
   (pss_one (ps_ret (pe_slice sl_list (pv 2) (po_some pe_int) po_none)))))), ?_⟩
  refine ⟨by decide, fun D nD => ?_⟩
  refine ⟨_, rfl, _, _, rfl, rfl, p0 (by decide), _, _, rfl, rfl, ?_⟩
  have b1 := Int.emod_nonneg c (show (2147483629 : Int) ≠ 0 by decide)
  have b2 := Int.emod_lt_of_pos c (show (0 : Int) < 2147483629 by decide)
  refine ⟨_, rfl, _, _, rfl, rfl, _, rfl, by omega, by omega, for_range (lo := 0) (fun i σ H' => ∃ (v4 : Option V) (z : Int) (xs : List Int), σ = [some (.int c), some (.int n), some (.ref D), some (.int z), v4] /\ 0 <= z /\ z < 2147483700 /\ Same H H' /\ H' D = some (.lst (xs.map V.int)) /\ xs.length = i /\ ∀ x ∈ xs, 0 <= x /\ x < 4611686018427387904) ⟨none, _, [], rfl, by omega, by omega, Same.new nD, upd_same, rfl, by simp⟩ ?_ ?_⟩
  ·rintro i σ H' hi ⟨v4, z, xs, rfl, z0, z1, sm, hD, hl, hall⟩
   rw [Int.zero_add]
   have hi' : i < n + 3 := by omega
   refine ⟨_, rfl, _, rfl, _, _, rfl, rfl, .inl ⟨by omega, by omega⟩, _, rfl, _, _, rfl, rfl, .inl ⟨by decide, by decide⟩, _, _, rfl, rfl, _, _, rfl, rfl, _, _, rfl, rfl, p0 (by decide), ?_⟩
   have c1 := Int.emod_nonneg (z * z + 7 * ((i : Nat) : Int) + 11) (show (2147483629 : Int) ≠ 0 by decide)
   have c2 := Int.emod_lt_of_pos (z * z + 7 * ((i : Nat) : Int) + 11) (show (0 : Int) < 2147483629 by decide)
   try dsimp only
   generalize (z * z + 7 * ((i : Nat) : Int) + 11) % 2147483629 = w at c1 c2
   refine ⟨_, rfl, .inl ⟨rfl, _, SqL.of hD⟩, _, rfl, D, _, _, rfl, rfl, hD, small1000 (by rw [List.length_map]; omega), ?_⟩
   refine ⟨_, w, xs ++ [w], rfl, c1, by omega, sm.up nD, (by rw [upd_same, List.map_append]; rfl), by rw [List.length_append, hl]; rfl, fun x hx => ?_⟩
   rcases List.mem_append.mp hx with h | h
   ·exact hall x h
   ·rw [List.mem_singleton.mp h]
    exact ⟨c1, by omega⟩
  ·rintro σ H' ⟨v4, z, xs, rfl, z0, z1, sm, hD, hl, hall⟩
   have hl' : xs.length = n + 3 := by omega
   refine ⟨_, rfl, 3, rfl, D, _, rfl, SqL.of hD, fun D2 n2 => ?_⟩
   have ec : cutV (xs.map V.int) (some 3) none = (xs.drop 3).map V.int := (cutD (α := V) (k := 3) _ (by rw [List.length_map]; omega)).trans List.map_drop.symm
   refine q D2 (xs.drop 3) _ (sm.free n2) (sm.trans (Same.new n2)) (upd_same.trans (congrArg (fun l => some (HO.lst l)) ec)) ?_ fun x hx => hall x (List.mem_of_mem_drop hx)
   rw [List.length_drop]
   omega
end
theorem log130 {i : Int} (h : i.natAbs < 1361129467683753853853498429727072845824) : i.natAbs.log2 < 1920 := by
 by_cases h0 : i.natAbs = 0
 ·rw [h0]; decide
 ·exact Nat.lt_trans ((Nat.log2_lt h0).mpr (show i.natAbs < 2 ^ 130 from h)) (by decide)
section
variable {P : Program} {wo : World} {K : PySem.W.Frag} {mg : Str -> Option Value} {base : Heap} {a : Adr}
def spWhole : Sp := fun vs H Q _ => ∃ i : Int, vs = [.int i] /\ Q (.bl true) H
theorem ok_whole (T : Txt K mg a) : FnOk P wo K mg base CX0 1 a.f_whole a.d_whole ["_law_found"] spWhole := by
 refine T.F_whole.ok (k := 0) sc_whole (fun vs H Q E h => ?_) (fun cdv A outer s H vs Q E hr h => ?_)
 ·obtain ⟨i, rfl, _⟩ := h
  rfl
 ·obtain ⟨i, rfl, q⟩ := h
  refine ⟨_, (pss_one (ps_ret (pe_and (pe_callB call_isi rfl T.n_isinstance boot_isinstance (pa_cons (pv 0) (pa_cons (pe_bltn (v := .ty "int") rfl T.n_int (by decide +kernel) rfl) pa_nil))) (pe_one (pe_not (pe_callB call_isi rfl T.n_isinstance boot_isinstance (pa_cons (pv 0) (pa_cons (pe_bltn (v := .ty "bool") rfl T.n_bool (by decide +kernel) rfl) pa_nil)))))))), ?_⟩
  refine ⟨_, rfl, _, _, _, _, rfl, .int _, kit_same _ _, _, rfl, iteT ?_⟩
  exact ⟨_, rfl, _, _, _, _, rfl, .int _, kit_int_bool _, _, rfl, q⟩
def spPlace : Sp := fun vs H Q _ => ∃ (x : Int) (m : Nat), vs = [.int x, .int m] /\ 0 <= x /\ x < 4611686018427387904 /\ 1 <= m /\ m <= 32 /\ ∀ z : Int, z.natAbs.log2 < 1920 -> Q (.int z) H
theorem ok_place (T : Txt K mg a) : FnOk P wo K mg base CX0 1 a.f_place a.d_place ["_law_number", "_law_many"] spPlace := by
 refine T.F_place.ok (k := 0) sc_place (fun vs H Q E h => ?_) (fun cdv A outer s H vs Q E hr h => ?_)
 ·obtain ⟨x, m, rfl, _⟩ := h
  rfl
 ·obtain ⟨x, m, rfl, h0, h1, m1, m2, q⟩ := h
  refine ⟨_, (pss_cons (ps_set (i := 2) sc_place.nd rfl (Or.inl rfl) (pe_op op_mod (pv 0) pe_int))
   (pss_cons (ps_if (pt_cmpR op_eq (pv 2) pe_int (nomark _)) (pss_one (ps_ret (pe_un un_neg pe_int))) pss_nil)
   (pss_cons (ps_if (pt_cmpR op_eq (pv 2) pe_int (nomark _)) (pss_one (ps_ret (pv 1))) pss_nil)
   (pss_cons (ps_if (pt_cmpR op_eq (pv 2) pe_int (nomark _)) (pss_one (ps_ret (pe_op op_sub (pe_op op_sub pe_int pe_int) (pe_op op_mul (pv 0) (pe_op op_pow pe_int pe_int))))) pss_nil)
   (pss_cons (ps_if (pt_cmpR op_eq (pv 2) pe_int (nomark _)) (pss_one (ps_ret (pe_op op_add (pe_op op_add (pv 1) pe_int) (pe_op op_mul (pv 0) (pe_op op_pow pe_int pe_int))))) pss_nil)
   (pss_one (ps_ret (pe_op op_mod (pe_op op_fdiv (pv 0) pe_int) (pv 1))))))))), ?_⟩
  have e19 : (10 : Int) ^ (19 : Int).toNat = 10000000000000000000 := by decide
  have b1 := Int.emod_nonneg (x / 8) (show (m : Int) ≠ 0 by omega)
  have b2 := Int.emod_lt_of_pos (x / 8) (show (0 : Int) < (m : Int) by omega)
  refine ⟨_, rfl, _, _, rfl, rfl, p0 (by decide), ?_⟩
  refine ⟨_, rfl, rfl, _, rfl, ite2 (fun _ => ?_) (fun _ => ?_)⟩
  ·exact ⟨_, rfl, q _ (by decide)⟩
  refine ⟨_, rfl, rfl, _, rfl, ite2 (fun _ => ?_) (fun _ => ?_)⟩
  ·exact ⟨_, rfl, q _ (log130 (by omega))⟩
  refine ⟨_, rfl, rfl, _, rfl, ite2 (fun _ => ?_) (fun _ => ?_)⟩
  ·refine ⟨_, _, rfl, rfl, _, rfl, _, _, rfl, rfl, ⟨by decide, by decide, by decide⟩, _, _, rfl, rfl, .inl ⟨by omega, by omega⟩, _, _, rfl, rfl, ?_⟩
   exact q _ (log130 (by rw [e19]; omega))
  refine ⟨_, rfl, rfl, _, rfl, ite2 (fun _ => ?_) (fun _ => ?_)⟩
  ·refine ⟨_, rfl, _, _, rfl, rfl, _, rfl, _, _, rfl, rfl, ⟨by decide, by decide, by decide⟩, _, _, rfl, rfl, .inl ⟨by omega, by omega⟩, _, _, rfl, rfl, ?_⟩
   exact q _ (log130 (by rw [e19]; omega))
  exact ⟨_, rfl, _, _, rfl, rfl, ⟨by decide, by decide⟩, _, rfl, _, _, rfl, rfl, p0 (by omega), q _ (log130 (by omega))⟩
def spCost : Sp := fun vs H Q _ => ∃ x : Int, vs = [.int x] /\ 0 <= x /\ x < 4611686018427387904 /\ ∀ z : Int, z.natAbs.log2 < 1920 -> Q (.int z) H
theorem ok_cost (T : Txt K mg a) : FnOk P wo K mg base CX0 2 a.f_cost a.d_cost ["_law_number"] spCost := by
 have G_place : FnOk P wo K mg base CX0 1 _ _ _ _ := ok_place T
 refine T.F_cost.ok (k := 1) sc_cost (fun vs H Q E h => ?_) (fun cdv A outer s H vs Q E hr h => ?_)
 ·obtain ⟨x, rfl, _⟩ := h
  rfl
 ·obtain ⟨x, rfl, h0, h1, q⟩ := h
  refine ⟨_, (pss_cons (ps_if (pt_cmpR op_eq (pe_op op_mod (pv 0) pe_int) pe_int (nomark _)) (pss_one (ps_ret (pe_call G_place (hr.mono (by decide)) rfl T.m_place T.k_place T.b_place .nil pass0 (pa_cons (pe_op op_fdiv (pv 0) pe_int) (pa_cons pe_int pa_nil))))) pss_nil)
   (pss_one (ps_ret (pe_op op_add pe_int (pe_op op_mod (pe_op op_fdiv (pv 0) pe_int) pe_int))))), ?_⟩
  refine ⟨_, rfl, _, _, rfl, rfl, p0 (by decide), rfl, _, rfl, ite2 (fun _ => ?_) (fun _ => ?_)⟩
  ·refine ⟨_, rfl, _, _, rfl, rfl, ⟨by decide, by decide⟩, _, 10, rfl, by omega, by omega, by decide, by decide, q⟩
  ·refine ⟨_, rfl, _, _, rfl, rfl, ⟨by decide, by decide⟩, _, _, rfl, rfl, p0 (by decide), _, _, rfl, rfl, q _ (log130 (by omega))⟩
end
inductive Oc where
 | done
 | place (i : Int)
 | wrong (i : Int)
 | power
 | shape
def inP (n : Nat) (x : Int) : Prop := 0 <= x /\ x < (n : Int)
instance inPd (n : Nat) (x : Int) : Decidable (inP n x) := by unfold inP; infer_instance
def wrg (kd : Kd) (w : Nat) (st : Int) : Bool := if w = 0 \/ w = 11 then kd.isLost else if w = 1 then !kd.isLost else if w = 2 then kd.isLost || kd.isSpare else if w = 3 \/ w = 4 then !kd.there st.toNat else decide (w = 14) && !kd.isSpare
def powB (S : Stt) : Bool := !S.g && match S.l with
 | none => true
 | some z => decide (1 <= z)
theorem powB_iff {S : Stt} : powB S = true ↔ Pow S := by
 unfold powB Pow
 cases hl : S.l with
 | none => simp
 | some z => simp
def rest3 (S : Stt) (w : Nat) (x0 x1 : Int) : Oc := if w = 12 \/ w = 13 then .done else if wrg (S.B x0.toNat).1 w x1 = true then .wrong x0 else .done
def rest2 (S : Stt) (w : Nat) (x0 x1 : Int) : Oc := if w = 10 then (if S.g = true then .power else rest3 S w x0 x1) else if 10 < w then (if powB S = true then rest3 S w x0 x1 else .power) else rest3 S w x0 x1
def rest1 (S : Stt) (w : Nat) (x0 x1 x3 : Int) : Oc := if w = 2 then (if 2 <= x3 /\ x3 <= 9 then rest2 S w x0 x1 else .shape) else rest2 S w x0 x1
def rest0 (R : Rk) (S : Stt) (w : Nat) (x0 x1 x3 : Int) : Oc := if w ∈ [3, 4, 5, 9, 10, 11, 12] then (if inP R.S x1 then rest1 S w x0 x1 x3 else .place x1) else rest1 S w x0 x1 x3
def due36 (R : Rk) (S : Stt) (w : Nat) (x0 x1 x2 x3 : Int) : Oc := if w = 12 \/ w = 13 then (if inP R.L x2 then rest0 R S w x0 x1 x3 else .place x2) else (if inP R.P x0 then rest0 R S w x0 x1 x3 else .place x0)
def Out (a : Adr) (R : Rk) (S : Stt) (H : Hp) (Q : VK) (E : XK) : Oc -> Prop
 | .done => ∀ R' S' H', Ev R R' H H' -> FR a H' R' S' -> S'.g = S.g -> Q .non H'
 | .place i => NP a i H E
 | .wrong i => WP a i H E
 | .power => ∀ H', Ev R R H H' -> FR a H' R S.off -> E (.ref a.C_NoPower) none H'
 | .shape => E (.ref a.C_NoShape) none H
theorem XO.same {C : Addr} {D : List (Str × V)} {H H1 : Hp} {E : XK} (h : XO C D H E) (s : Same H H1) : XO C D H1 E := fun dx H' s' n e => h dx H' (s.trans s') (s.free n) e
theorem Out.ite {a : Adr} {R : Rk} {S : Stt} {H : Hp} {Q : VK} {E : XK} {c : Prop} [Decidable c] {o1 o2 : Oc} (q : Out a R S H Q E (if c then o1 else o2)) : (c -> Out a R S H Q E o1) /\ (¬ c -> Out a R S H Q E o2) := by
 by_cases h : c
 ·rw [if_pos h] at q; exact ⟨fun _ => q, fun z => absurd h z⟩
 ·rw [if_neg h] at q; exact ⟨fun z => absurd z h, fun _ => q⟩
theorem goP {n : Nat} {x : Int} (h : inP n x) : ∃ i : Nat, x = (i : Int) /\ i < n := ⟨x.toNat, by unfold inP at h; omega, by unfold inP at h; omega⟩
theorem badP {n : Nat} {x : Int} (h : ¬ inP n x) : x < 0 \/ (n : Int) <= x := by unfold inP at h; omega
theorem one36 {a : Adr} {R : Rk} {S : Stt} {H : Hp} {Q : VK} {E : XK} {G : Nat -> Prop} {n : Nat} {x : Int} {oc : Oc} (gx : x.natAbs.log2 < 1920) (q : Out a R S H Q E (if inP n x then oc else .place x)) (good : ∀ i : Nat, i < n -> x = (i : Int) -> Out a R S H Q E oc -> G i) : (∃ i : Nat, V.int x = .int i /\ i < n /\ G i) \/ BadI a n H E (.int x) := by
 have q := q.ite
 by_cases h : inP n x
 ·obtain ⟨i, rfl, hi⟩ := goP h
  exact .inl ⟨i, rfl, hi, good i hi rfl (q.1 h)⟩
 ·exact .inr ⟨x, rfl, badP h, gx, q.2 h⟩
theorem two36 {a : Adr} {R : Rk} {S : Stt} {H : Hp} {Q : VK} {E : XK} {G : Nat -> Nat -> Prop} {n m : Nat} {x y : Int} {oc : Oc} (gx : x.natAbs.log2 < 1920) (gy : y.natAbs.log2 < 1920) (q : Out a R S H Q E (if inP n x then (if inP m y then oc else .place y) else .place x)) (good : ∀ i j : Nat, i < n -> j < m -> x = (i : Int) -> y = (j : Int) -> Out a R S H Q E oc -> G i j) : (∃ i j : Nat, V.int x = .int i /\ V.int y = .int j /\ i < n /\ j < m /\ G i j) \/ BadIJ a n m H E (.int x) (.int y) := by
 have q := q.ite
 by_cases h : inP n x
 ·obtain ⟨i, rfl, hi⟩ := goP h
  have q := (q.1 h).ite
  by_cases h2 : inP m y
  ·obtain ⟨j, rfl, hj⟩ := goP h2
   exact .inl ⟨i, j, rfl, rfl, hi, hj, good i j hi hj rfl rfl (q.1 h2)⟩
  ·exact .inr (.inr ⟨i, rfl, hi, y, rfl, badP h2, gy, q.2 h2⟩)
 ·exact .inr (.inl ⟨x, rfl, badP h, gx, q.2 h⟩)
theorem pow36 {a : Adr} {R : Rk} {S : Stt} {H : Hp} {Q : VK} {E : XK} {oc : Oc} (q : Out a R S H Q E (if powB S = true then oc else .power)) : NPw a R S H E /\ (Pow S -> Out a R S H Q E oc) := by
 have q := q.ite
 exact ⟨fun h H' e f => q.2 (fun z => h (powB_iff.mp z)) H' e f, fun h => q.1 (powB_iff.mpr h)⟩
section
variable {P : Program} {wo : World} {K : PySem.W.Frag} {mg : Str -> Option Value} {base : Heap} {a : Adr}
def Do36 (a : Adr) (vs : List V) (H : Hp) (lo hi : Nat) (F : Rk -> Stt -> Oc -> Prop) : Prop := ∃ (R : Rk) (S : Stt) (aL : Addr) (w : Nat) (x0 x1 x2 x3 : Int), vs = [.ref R.rk, .int w, .ref aL] /\ lo <= w /\ w < hi /\ FR a H R S /\ H aL = some (.lst [.int x0, .int x1, .int x2, .int x3]) /\ x0.natAbs.log2 < 1920 /\ x1.natAbs.log2 < 1920 /\ x2.natAbs.log2 < 1920 /\ x3.natAbs.log2 < 1920 /\ S.evs.length < 9000 /\ F R S (due36 R S w x0 x1 x2 x3)
def spDoOne (a : Adr) : Sp := fun vs H Q E => Do36 a vs H 0 8 fun R S oc => Out a R S H Q E oc
set_option maxHeartbeats 4000000 in
theorem ok_do_one (T : Txt K mg a) : FnOk P wo K mg base (CXe P wo) 7 a.f_do_one a.d_do_one ["_law_rack", "_law_way", "_law_a"] (spDoOne a) := by
 have G_Rack_lose : FnOk P wo K mg base (CXe P wo) 6 _ _ _ _ := (ok_Rack_lose T).mono (by decide)
 have G_Rack_put_spare : FnOk P wo K mg base (CXe P wo) 6 _ _ _ _ := (ok_Rack_put_spare T).mono (by decide)
 have G_Rack_make_slow : FnOk P wo K mg base (CXe P wo) 6 _ _ _ _ := (ok_Rack_make_slow T).mono (by decide)
 have G_Rack_spoil : FnOk P wo K mg base (CXe P wo) 6 _ _ _ _ := ok_Rack_spoil T
 have G_Rack_lie : FnOk P wo K mg base (CXe P wo) 6 _ _ _ _ := ok_Rack_lie T
 have G_Rack_peek : FnOk P wo K mg base (CXe P wo) 6 _ _ _ _ := (ok_Rack_peek T).mono (by decide)
 have G_Rack_kind_of : FnOk P wo K mg base (CXe P wo) 6 _ _ _ _ := (ok_Rack_kind_of T).mono (by decide)
 have G_Rack_cost_of : FnOk P wo K mg base (CXe P wo) 6 _ _ _ _ := (ok_Rack_cost_of T).mono (by decide)
 refine T.F_do_one.okX (k := 6) sc_do_one (fun vs H Q E h => ?_) (fun cdv A outer s H vs Q E hr h => ?_)
 ·obtain ⟨R, S, aL, w, x0, x1, x2, x3, rfl, _⟩ := h
  rfl
 ·obtain ⟨R, S, aL, w, x0, x1, x2, x3, rfl, _, hw8, hR, hA, g0, g1, g2, g3, hev, q⟩ := h
  obtain ⟨dx, h1⟩ := id hR.ins
  have yes : ∀ {m : Nat}, decide (V.int (w : Int) = V.int (m : Int)) = true -> w = m := fun z => by have := V.int.inj (of_decide_eq_true z); omega
  have no : ∀ {m : Nat}, ¬ decide (V.int (w : Int) = V.int (m : Int)) = true -> w ≠ m := fun z y => z (decide_eq_true (by rw [y]))
  refine ⟨_, (pss_one (ps_if (pt_cmpR op_eq (pv 1) pe_int (nomark _)) (pss_one (ps_expr (pe_meth (pv 0) T.cl_Rack T.me_Rack_lose G_Rack_lose (hr.mono (by decide)) T.b_Rack_lose .nil (passX fun _ _ _ h => h) (pa_cons (pe_ix ix_list (pv 2) pe_int (fun _ _ => rfl)) pa_nil)))) (pss_one (ps_if (pt_cmpR op_eq (pv 1) pe_int (nomark _)) (pss_one (ps_expr (pe_meth (pv 0) T.cl_Rack T.me_Rack_put_spare G_Rack_put_spare (hr.mono (by decide)) T.bd_Rack_put_spare (.cons (show RelV V.non Value.none from rfl) .nil) (passX fun _ _ _ h => h) (pa_cons (pe_ix ix_list (pv 2) pe_int (fun _ _ => rfl)) pa_nil)))) (pss_one (ps_if (pt_cmpR op_eq (pv 1) pe_int (nomark _)) (pss_one (ps_expr (pe_meth (pv 0) T.cl_Rack T.me_Rack_make_slow G_Rack_make_slow (hr.mono (by decide)) T.b_Rack_make_slow .nil (passX fun _ _ _ h => h) (pa_cons (pe_ix ix_list (pv 2) pe_int (fun _ _ => rfl)) (pa_cons (pe_ix ix_list (pv 2) pe_int (fun _ _ => rfl)) pa_nil))))) (pss_one (ps_if (pt_cmpR op_eq (pv 1) pe_int (nomark _)) (pss_one (ps_expr (pe_meth (pv 0) T.cl_Rack T.me_Rack_spoil G_Rack_spoil (hr.mono (by decide)) T.b_Rack_spoil .nil (passX fun _ _ _ h => h) (pa_cons (pe_ix ix_list (pv 2) pe_int (fun _ _ => rfl)) (pa_cons (pe_ix ix_list (pv 2) pe_int (fun _ _ => rfl)) pa_nil))))) (pss_one (ps_if (pt_cmpR op_eq (pv 1) pe_int (nomark _)) (pss_one (ps_expr (pe_meth (pv 0) T.cl_Rack T.me_Rack_lie G_Rack_lie (hr.mono (by decide)) T.b_Rack_lie .nil (passX fun _ _ _ h => h) (pa_cons (pe_ix ix_list (pv 2) pe_int (fun _ _ => rfl)) (pa_cons (pe_ix ix_list (pv 2) pe_int (fun _ _ => rfl)) (pa_cons pe_int pa_nil)))))) (pss_one (ps_if (pt_cmpR op_eq (pv 1) pe_int (nomark _)) (pss_one (ps_expr (pe_meth (pv 0) T.cl_Rack T.me_Rack_peek G_Rack_peek (hr.mono (by decide)) T.b_Rack_peek .nil (passX fun _ _ _ h => h) (pa_cons (pe_ix ix_list (pv 2) pe_int (fun _ _ => rfl)) (pa_cons (pe_ix ix_list (pv 2) pe_int (fun _ _ => rfl)) pa_nil))))) (pss_one (ps_if (pt_cmpR op_eq (pv 1) pe_int (nomark _)) (pss_one (ps_expr (pe_meth (pv 0) T.cl_Rack T.me_Rack_kind_of G_Rack_kind_of (hr.mono (by decide)) T.b_Rack_kind_of .nil (passX fun _ _ _ h => h) (pa_cons (pe_ix ix_list (pv 2) pe_int (fun _ _ => rfl)) pa_nil)))) (pss_one (ps_expr (pe_meth (pv 0) T.cl_Rack T.me_Rack_cost_of G_Rack_cost_of (hr.mono (by decide)) T.b_Rack_cost_of .nil (passX fun _ _ _ h => h) (pa_cons (pe_ix ix_list (pv 2) pe_int (fun _ _ => rfl)) pa_nil)))))))))))))))))), ?_⟩
  refine ⟨_, rfl, rfl, _, rfl, ite2 (fun h0 => ?_) (fun h0 => ?_)⟩
  ·cases yes (m := 0) h0
   exact ⟨_, rfl, R.rk, dx, _, rfl, h1, rfl, _, rfl, aL, _, _, _, rfl, rfl, SqL.of hA, atI_nat (j := 0) rfl, R, S, _, rfl, hR, one36 (oc := if (S.B x0.toNat).1.isLost = true then .wrong x0 else .done) g0 q fun i hi e q => by
    subst e
    exact ⟨fun k => q.ite.1 k, fun k R' H' ev f => q.ite.2 (fun z => Bool.noConfusion (k.symm.trans z)) R' _ H' ev f rfl⟩⟩
  have n0 := no (m := 0) h0
  refine ⟨_, rfl, rfl, _, rfl, ite2 (fun h0 => ?_) (fun h0 => ?_)⟩
  ·cases yes (m := 1) h0
   exact ⟨_, rfl, R.rk, dx, _, rfl, h1, rfl, _, rfl, aL, _, _, _, rfl, rfl, SqL.of hA, atI_nat (j := 0) rfl, R, S, _, _, _, rfl, hR, .inl ⟨rfl, rfl⟩, one36 (oc := if (!(S.B x0.toNat).1.isLost) = true then .wrong x0 else .done) g0 q fun i hi e q => by
    subst e
    exact ⟨fun k => q.ite.1 (show (!(S.B i).1.isLost) = true by rw [k]; rfl), fun k R' H' ev f => q.ite.2 (show ¬ (!(S.B i).1.isLost) = true by rw [k]; decide) R' _ H' ev f rfl⟩⟩
  have n1 := no (m := 1) h0
  refine ⟨_, rfl, rfl, _, rfl, ite2 (fun h0 => ?_) (fun h0 => ?_)⟩
  ·cases yes (m := 2) h0
   exact ⟨_, rfl, R.rk, dx, _, rfl, h1, rfl, _, rfl, aL, _, _, _, rfl, rfl, SqL.of hA, atI_nat (j := 0) rfl, _, rfl, aL, _, _, _, rfl, rfl, SqL.of hA, atI_nat (j := 3) rfl, R, S, _, _, rfl, hR, one36 (oc := if 2 <= x3 /\ x3 <= 9 then (if ((S.B x0.toNat).1.isLost || (S.B x0.toNat).1.isSpare) = true then .wrong x0 else .done) else .shape) g0 q fun i hi e q => by
    subst e
    exact ⟨g3, fun k => q.ite.2 k, fun c k => (q.ite.1 c).ite.1 k, fun c k R' H' ev f => (q.ite.1 c).ite.2 (fun z => Bool.noConfusion (k.symm.trans z)) R' _ H' ev f rfl⟩⟩
  have n2 := no (m := 2) h0
  refine ⟨_, rfl, rfl, _, rfl, ite2 (fun h0 => ?_) (fun h0 => ?_)⟩
  ·cases yes (m := 3) h0
   exact ⟨_, rfl, R.rk, dx, _, rfl, h1, rfl, _, rfl, aL, _, _, _, rfl, rfl, SqL.of hA, atI_nat (j := 0) rfl, _, rfl, aL, _, _, _, rfl, rfl, SqL.of hA, atI_nat (j := 1) rfl, R, S, _, _, rfl, hR, two36 (oc := if (!(S.B x0.toNat).1.there x1.toNat) = true then .wrong x0 else .done) g0 g1 q fun i j hi hj e e' q => by
    subst e e'
    exact ⟨fun k H' ev f => q.ite.2 (show ¬ (!(S.B i).1.there j) = true by rw [k]; decide) R _ H' ev f rfl, fun k => q.ite.1 (show (!(S.B i).1.there j) = true by rw [k]; rfl)⟩⟩
  have n3 := no (m := 3) h0
  refine ⟨_, rfl, rfl, _, rfl, ite2 (fun h0 => ?_) (fun h0 => ?_)⟩
  ·cases yes (m := 4) h0
   exact ⟨_, rfl, R.rk, dx, _, rfl, h1, rfl, _, rfl, aL, _, _, _, rfl, rfl, SqL.of hA, atI_nat (j := 0) rfl, _, rfl, aL, _, _, _, rfl, rfl, SqL.of hA, atI_nat (j := 1) rfl, R, S, _, _, some 9, rfl, hR, two36 (oc := if (!(S.B x0.toNat).1.there x1.toNat) = true then .wrong x0 else .done) g0 g1 q fun i j hi hj e e' q => by
    subst e e'
    exact ⟨fun k H' ev f => q.ite.2 (show ¬ (!(S.B i).1.there j) = true by rw [k]; decide) R _ H' ev f rfl, fun k => q.ite.1 (show (!(S.B i).1.there j) = true by rw [k]; rfl)⟩⟩
  have n4 := no (m := 4) h0
  refine ⟨_, rfl, rfl, _, rfl, ite2 (fun h0 => ?_) (fun h0 => ?_)⟩
  ·cases yes (m := 5) h0
   exact ⟨_, rfl, R.rk, dx, _, rfl, h1, rfl, _, rfl, aL, _, _, _, rfl, rfl, SqL.of hA, atI_nat (j := 0) rfl, _, rfl, aL, _, _, _, rfl, rfl, SqL.of hA, atI_nat (j := 1) rfl, R, S, _, _, rfl, hR, two36 (oc := .done) g0 g1 q fun i j hi hj e e' q => q R S H (Ev.refl R H) hR rfl⟩
  have n5 := no (m := 5) h0
  refine ⟨_, rfl, rfl, _, rfl, ite2 (fun h0 => ?_) (fun h0 => ?_)⟩
  ·cases yes (m := 6) h0
   exact ⟨_, rfl, R.rk, dx, _, rfl, h1, rfl, _, rfl, aL, _, _, _, rfl, rfl, SqL.of hA, atI_nat (j := 0) rfl, R, S, _, rfl, hR, one36 (oc := .done) g0 q fun i hi e q => q R S H (Ev.refl R H) hR rfl⟩
  have n6 := no (m := 6) h0
  obtain rfl : w = 7 := by omega
  exact ⟨_, rfl, R.rk, dx, _, rfl, h1, rfl, _, rfl, aL, _, _, _, rfl, rfl, SqL.of hA, atI_nat (j := 0) rfl, R, S, _, rfl, hR, one36 (oc := .done) g0 q fun i hi e q => q R S H (Ev.refl R H) hR rfl⟩
end
section
variable {P : Program} {wo : World} {K : PySem.W.Frag} {mg : Str -> Option Value} {base : Heap} {a : Adr}
def Mk36 (vs : List V) (H : Hp) (F : Prop -> Prop) : Prop := ∃ (v : V) (aL : Addr) (x0 x1 x2 : Int), vs = [v, .int ((15 : Nat) : Int), .ref aL] /\ H aL = some (.lst [.int x0, .int x1, .int x2]) /\ x0.natAbs.log2 < 1920 /\ x1.natAbs.log2 < 1920 /\ x2.natAbs.log2 < 1920 /\ F (Bnd x0 x1 x2)
def spDoOther (a : Adr) : Sp := fun vs H Q E => (Do36 a vs H 8 15 fun R S oc => Out a R S H Q E oc) \/ Mk36 vs H fun b => (b -> ∀ H', Same H H' -> Q .non H') /\ (¬ b -> ∀ H', Same H H' -> E (.ref a.C_NoShape) none H')
set_option maxHeartbeats 4000000 in
theorem ok_do_other (T : Txt K mg a) : FnOk P wo K mg base (CXe P wo) 7 a.f_do_other a.d_do_other ["_law_rack", "_law_way", "_law_a"] (spDoOther a) := by
 have G_Rack_mark_of : FnOk P wo K mg base (CXe P wo) 6 _ _ _ _ := (ok_Rack_mark_of T).mono (by decide)
 have G_Rack_there : FnOk P wo K mg base (CXe P wo) 6 _ _ _ _ := (ok_Rack_there T).mono (by decide)
 have G_Rack_look : FnOk P wo K mg base (CXe P wo) 6 _ _ _ _ := (ok_Rack_look T).mono (by decide)
 have G_Rack_lay : FnOk P wo K mg base (CXe P wo) 6 _ _ _ _ := (ok_Rack_lay T).mono (by decide)
 have G_Rack_note : FnOk P wo K mg base (CXe P wo) 6 _ _ _ _ := (ok_Rack_note T).mono (by decide)
 have G_Rack_strike : FnOk P wo K mg base (CXe P wo) 6 _ _ _ _ := (ok_Rack_strike T).mono (by decide)
 have G_Rack_move_mark : FnOk P wo K mg base (CXe P wo) 6 _ _ _ _ := (ok_Rack_move_mark T).mono (by decide)
 have G_Rack_init : FnOk P wo K mg base (CXe P wo) 5 _ _ _ _ := (ok_Rack_init T).mono (by decide)
 refine T.F_do_other.okX (k := 6) sc_do_other (fun vs H Q E h => ?_) (fun cdv A outer s H vs Q E hr h => ?_)
 ·rcases h with ⟨R, S, aL, w, x0, x1, x2, x3, rfl, _⟩ | ⟨v, aL, x0, x1, x2, rfl, _⟩ <;> rfl
 ·rcases h with ⟨R, S, aL, w, x0, x1, x2, x3, rfl, hw8, hw15, hR, hA, g0, g1, g2, g3, hev, q⟩ | ⟨v, aL, x0, x1, x2, rfl, hA, g0, g1, g2, qY, qN⟩
  rotate_left
  ·refine ⟨_, (pss_one (ps_if (pt_cmpR op_eq (pv 1) pe_int (nomark _)) (pss_one (ps_expr (pe_meth (pv 0) T.cl_Rack T.me_Rack_mark_of G_Rack_mark_of (hr.mono (by decide)) T.b_Rack_mark_of .nil (passX fun _ _ _ h => h) (pa_cons (pe_ix ix_list (pv 2) pe_int (fun _ _ => rfl)) pa_nil)))) (pss_one (ps_if (pt_cmpR op_eq (pv 1) pe_int (nomark _)) (pss_one (ps_expr (pe_meth (pv 0) T.cl_Rack T.me_Rack_there G_Rack_there (hr.mono (by decide)) T.b_Rack_there .nil (passX fun _ _ _ h => h) (pa_cons (pe_ix ix_list (pv 2) pe_int (fun _ _ => rfl)) (pa_cons (pe_ix ix_list (pv 2) pe_int (fun _ _ => rfl)) pa_nil))))) (pss_one (ps_if (pt_cmpR op_eq (pv 1) pe_int (nomark _)) (pss_one (ps_expr (pe_meth (pv 0) T.cl_Rack T.me_Rack_look G_Rack_look (hr.mono (by decide)) T.b_Rack_look .nil (passX fun _ _ _ h => h) (pa_cons (pe_ix ix_list (pv 2) pe_int (fun _ _ => rfl)) (pa_cons (pe_ix ix_list (pv 2) pe_int (fun _ _ => rfl)) pa_nil))))) (pss_one (ps_if (pt_cmpR op_eq (pv 1) pe_int (nomark _)) (pss_one (ps_expr (pe_meth (pv 0) T.cl_Rack T.me_Rack_lay G_Rack_lay (hr.mono (by decide)) T.b_Rack_lay .nil (passX fun _ _ _ h => h) (pa_cons (pe_ix ix_list (pv 2) pe_int (fun _ _ => rfl)) (pa_cons (pe_ix ix_list (pv 2) pe_int (fun _ _ => rfl)) (pa_cons pe_int pa_nil)))))) (pss_one (ps_if (pt_cmpR op_eq (pv 1) pe_int (nomark _)) (pss_one (ps_expr (pe_meth (pv 0) T.cl_Rack T.me_Rack_note G_Rack_note (hr.mono (by decide)) T.b_Rack_note .nil (passX fun _ _ _ h => h) (pa_cons (pe_ix ix_list (pv 2) pe_int (fun _ _ => rfl)) (pa_cons (pe_ix ix_list (pv 2) pe_int (fun _ _ => rfl)) (pa_cons (pe_lst (pa_cons (pe_tup (pa_cons pe_int (pa_cons pe_int pa_nil))) pa_nil)) pa_nil)))))) (pss_one (ps_if (pt_cmpR op_eq (pv 1) pe_int (nomark _)) (pss_one (ps_expr (pe_meth (pv 0) T.cl_Rack T.me_Rack_strike G_Rack_strike (hr.mono (by decide)) T.b_Rack_strike .nil (passX fun _ _ _ h => h) (pa_cons (pe_ix ix_list (pv 2) pe_int (fun _ _ => rfl)) pa_nil)))) (pss_one (ps_if (pt_cmpR op_eq (pv 1) pe_int (nomark _)) (pss_one (ps_expr (pe_meth (pv 0) T.cl_Rack T.me_Rack_move_mark G_Rack_move_mark (hr.mono (by decide)) T.b_Rack_move_mark .nil (passX fun _ _ _ h => h) (pa_cons (pe_ix ix_list (pv 2) pe_int (fun _ _ => rfl)) pa_nil)))) (pss_one (ps_expr (pe_make T.mk_Rack G_Rack_init (hr.mono (by decide)) rfl T.m_Rack T.b_Rack_init .nil (passX fun _ _ _ h => h) (pa_cons (pe_ix ix_list (pv 2) pe_int (fun _ _ => rfl)) (pa_cons (pe_ix ix_list (pv 2) pe_int (fun _ _ => rfl)) (pa_cons (pe_ix ix_list (pv 2) pe_int (fun _ _ => rfl)) pa_nil)))))))))))))))))))), ?_⟩
   have nx : ∀ m : Nat, m ≠ 15 -> ¬ decide (V.int ((15 : Nat) : Int) = V.int (m : Int)) = true := fun m hm z => hm (by have := V.int.inj (of_decide_eq_true z); omega)
   refine ⟨_, rfl, rfl, _, rfl, ite2 (fun h0 => absurd h0 (nx 8 (by decide))) (fun _ => ?_)⟩
   refine ⟨_, rfl, rfl, _, rfl, ite2 (fun h0 => absurd h0 (nx 9 (by decide))) (fun _ => ?_)⟩
   refine ⟨_, rfl, rfl, _, rfl, ite2 (fun h0 => absurd h0 (nx 10 (by decide))) (fun _ => ?_)⟩
   refine ⟨_, rfl, rfl, _, rfl, ite2 (fun h0 => absurd h0 (nx 11 (by decide))) (fun _ => ?_)⟩
   refine ⟨_, rfl, rfl, _, rfl, ite2 (fun h0 => absurd h0 (nx 12 (by decide))) (fun _ => ?_)⟩
   refine ⟨_, rfl, rfl, _, rfl, ite2 (fun h0 => absurd h0 (nx 13 (by decide))) (fun _ => ?_)⟩
   refine ⟨_, rfl, rfl, _, rfl, ite2 (fun h0 => absurd h0 (nx 14 (by decide))) (fun _ => ?_)⟩
   refine ⟨_, rfl, aL, _, _, _, rfl, rfl, SqL.of hA, atI_nat (j := 0) rfl, _, rfl, aL, _, _, _, rfl, rfl, SqL.of hA, atI_nat (j := 1) rfl, _, rfl, aL, _, _, _, rfl, rfl, SqL.of hA, atI_nat (j := 2) rfl, fun x dx nx ndx nex => ?_⟩
   have sx : Same H (upd (upd H dx (.own x)) x (.ins a.C_Rack dx [])) := fun y o e => by
    rw [upd_ne (ne_of_none e nx), upd_ne (ne_of_none e ndx)]
    exact e
   by_cases hb : Bnd x0 x1 x2
   ·unfold Bnd at hb
    obtain ⟨p, rfl⟩ : ∃ p : Nat, x0 = (p : Int) := ⟨x0.toNat, by omega⟩
    obtain ⟨s, rfl⟩ : ∃ p : Nat, x1 = (p : Int) := ⟨x1.toNat, by omega⟩
    obtain ⟨l, rfl⟩ : ∃ p : Nat, x2 = (p : Int) := ⟨x2.toNat, by omega⟩
    refine .inl ⟨x, dx, p, s, l, rfl, upd_same, by omega, by omega, by omega, by omega, by omega, by omega, fun R H' e1 e2 e3 e4 k f o => ⟨rfl, ?_⟩⟩
    exact qY hb H' fun b o e => k b o (ne_of_none e nx) (sx _ _ e)
   ·exact .inr ⟨x, x0, x1, x2, rfl, g0, g1, g2, hb, qN hb _ sx⟩
  obtain ⟨dx, h1⟩ := id hR.ins
  have yes : ∀ {m : Nat}, decide (V.int (w : Int) = V.int (m : Int)) = true -> w = m := fun z => by have := V.int.inj (of_decide_eq_true z); omega
  have no : ∀ {m : Nat}, ¬ decide (V.int (w : Int) = V.int (m : Int)) = true -> w ≠ m := fun z y => z (decide_eq_true (by rw [y]))
  refine ⟨_, (pss_one (ps_if (pt_cmpR op_eq (pv 1) pe_int (nomark _)) (pss_one (ps_expr (pe_meth (pv 0) T.cl_Rack T.me_Rack_mark_of G_Rack_mark_of (hr.mono (by decide)) T.b_Rack_mark_of .nil (passX fun _ _ _ h => h) (pa_cons (pe_ix ix_list (pv 2) pe_int (fun _ _ => rfl)) pa_nil)))) (pss_one (ps_if (pt_cmpR op_eq (pv 1) pe_int (nomark _)) (pss_one (ps_expr (pe_meth (pv 0) T.cl_Rack T.me_Rack_there G_Rack_there (hr.mono (by decide)) T.b_Rack_there .nil (passX fun _ _ _ h => h) (pa_cons (pe_ix ix_list (pv 2) pe_int (fun _ _ => rfl)) (pa_cons (pe_ix ix_list (pv 2) pe_int (fun _ _ => rfl)) pa_nil))))) (pss_one (ps_if (pt_cmpR op_eq (pv 1) pe_int (nomark _)) (pss_one (ps_expr (pe_meth (pv 0) T.cl_Rack T.me_Rack_look G_Rack_look (hr.mono (by decide)) T.b_Rack_look .nil (passX fun _ _ _ h => h) (pa_cons (pe_ix ix_list (pv 2) pe_int (fun _ _ => rfl)) (pa_cons (pe_ix ix_list (pv 2) pe_int (fun _ _ => rfl)) pa_nil))))) (pss_one (ps_if (pt_cmpR op_eq (pv 1) pe_int (nomark _)) (pss_one (ps_expr (pe_meth (pv 0) T.cl_Rack T.me_Rack_lay G_Rack_lay (hr.mono (by decide)) T.b_Rack_lay .nil (passX fun _ _ _ h => h) (pa_cons (pe_ix ix_list (pv 2) pe_int (fun _ _ => rfl)) (pa_cons (pe_ix ix_list (pv 2) pe_int (fun _ _ => rfl)) (pa_cons pe_int pa_nil)))))) (pss_one (ps_if (pt_cmpR op_eq (pv 1) pe_int (nomark _)) (pss_one (ps_expr (pe_meth (pv 0) T.cl_Rack T.me_Rack_note G_Rack_note (hr.mono (by decide)) T.b_Rack_note .nil (passX fun _ _ _ h => h) (pa_cons (pe_ix ix_list (pv 2) pe_int (fun _ _ => rfl)) (pa_cons (pe_ix ix_list (pv 2) pe_int (fun _ _ => rfl)) (pa_cons (pe_lst (pa_cons (pe_tup (pa_cons pe_int (pa_cons pe_int pa_nil))) pa_nil)) pa_nil)))))) (pss_one (ps_if (pt_cmpR op_eq (pv 1) pe_int (nomark _)) (pss_one (ps_expr (pe_meth (pv 0) T.cl_Rack T.me_Rack_strike G_Rack_strike (hr.mono (by decide)) T.b_Rack_strike .nil (passX fun _ _ _ h => h) (pa_cons (pe_ix ix_list (pv 2) pe_int (fun _ _ => rfl)) pa_nil)))) (pss_one (ps_if (pt_cmpR op_eq (pv 1) pe_int (nomark _)) (pss_one (ps_expr (pe_meth (pv 0) T.cl_Rack T.me_Rack_move_mark G_Rack_move_mark (hr.mono (by decide)) T.b_Rack_move_mark .nil (passX fun _ _ _ h => h) (pa_cons (pe_ix ix_list (pv 2) pe_int (fun _ _ => rfl)) pa_nil)))) (pss_one (ps_expr (pe_make T.mk_Rack G_Rack_init (hr.mono (by decide)) rfl T.m_Rack T.b_Rack_init .nil (passX fun _ _ _ h => h) (pa_cons (pe_ix ix_list (pv 2) pe_int (fun _ _ => rfl)) (pa_cons (pe_ix ix_list (pv 2) pe_int (fun _ _ => rfl)) (pa_cons (pe_ix ix_list (pv 2) pe_int (fun _ _ => rfl)) pa_nil)))))))))))))))))))), ?_⟩
  refine ⟨_, rfl, rfl, _, rfl, ite2 (fun h0 => ?_) (fun h0 => ?_)⟩
  ·cases yes (m := 8) h0
   exact ⟨_, rfl, R.rk, dx, _, rfl, h1, rfl, _, rfl, aL, _, _, _, rfl, rfl, SqL.of hA, atI_nat (j := 0) rfl, R, S, _, rfl, hR, one36 (oc := .done) g0 q fun i hi e q => q R S H (Ev.refl R H) hR rfl⟩
  have n0 := no (m := 8) h0
  refine ⟨_, rfl, rfl, _, rfl, ite2 (fun h0 => ?_) (fun h0 => ?_)⟩
  ·cases yes (m := 9) h0
   exact ⟨_, rfl, R.rk, dx, _, rfl, h1, rfl, _, rfl, aL, _, _, _, rfl, rfl, SqL.of hA, atI_nat (j := 0) rfl, _, rfl, aL, _, _, _, rfl, rfl, SqL.of hA, atI_nat (j := 1) rfl, R, S, _, _, rfl, hR, two36 (oc := .done) g0 g1 q fun i j hi hj e e' q => q R S H (Ev.refl R H) hR rfl⟩
  have n1 := no (m := 9) h0
  refine ⟨_, rfl, rfl, _, rfl, ite2 (fun h0 => ?_) (fun h0 => ?_)⟩
  ·cases yes (m := 10) h0
   exact ⟨_, rfl, R.rk, dx, _, rfl, h1, rfl, _, rfl, aL, _, _, _, rfl, rfl, SqL.of hA, atI_nat (j := 0) rfl, _, rfl, aL, _, _, _, rfl, rfl, SqL.of hA, atI_nat (j := 1) rfl, R, S, _, _, rfl, hR, hev, two36 (oc := if S.g = true then .power else .done) g0 g1 q fun i j hi hj e e' q2 => by
    subst e e'
    exact ⟨fun k H' ev f => q2.ite.2 (fun z => Bool.noConfusion (k.symm.trans z)) R _ H' ev f rfl, fun k => q2.ite.1 k H (Ev.refl R H) (by
     have e : S.off = S := by unfold Stt.off; rw [<- k]
     rw [e]
     exact hR)⟩⟩
  have n2 := no (m := 10) h0
  refine ⟨_, rfl, rfl, _, rfl, ite2 (fun h0 => ?_) (fun h0 => ?_)⟩
  ·cases yes (m := 11) h0
   exact ⟨_, rfl, R.rk, dx, _, rfl, h1, rfl, _, rfl, aL, _, _, _, rfl, rfl, SqL.of hA, atI_nat (j := 0) rfl, _, rfl, aL, _, _, _, rfl, rfl, SqL.of hA, atI_nat (j := 1) rfl, R, S, _, _, some 9, rfl, hR, hev, two36 (oc := if powB S = true then (if (S.B x0.toNat).1.isLost = true then .wrong x0 else .done) else .power) g0 g1 q fun i j hi hj e e' q2 => by
    subst e e'
    have q := pow36 q2
    exact ⟨q.1, fun p k => (q.2 p).ite.1 k, fun p k H' ev f => (q.2 p).ite.2 (fun z => Bool.noConfusion (k.symm.trans z)) R _ H' ev f rfl⟩⟩
  have n3 := no (m := 11) h0
  refine ⟨_, rfl, rfl, _, rfl, ite2 (fun h0 => ?_) (fun h0 => ?_)⟩
  ·cases yes (m := 12) h0
   refine ⟨_, rfl, R.rk, dx, _, rfl, h1, rfl, _, rfl, aL, _, _, _, rfl, rfl, SqL.of hA, atI_nat (j := 2) rfl, _, rfl, aL, _, _, _, rfl, rfl, SqL.of hA, atI_nat (j := 1) rfl, ?_⟩
   refine ⟨(show 2 <= sizeLine by decide), fun t nt => ⟨(show 1 <= sizeLine by decide), fun l nl => ?_⟩⟩
   have s1 := (Same.new (o := .tup [V.int 0, V.int 9]) nt).trans (Same.new (o := .lst [V.ref t]) nl)
   have hp : PairsAt (upd (upd H t (.tup [V.int 0, V.int 9])) l (.lst [V.ref t])) l [(0, 9)] := ⟨[t], upd_same, rfl, fun i b e => by
    match i, e with
    | 0, e => cases e; exact ⟨0, 9, rfl, (Same.new nl) _ _ upd_same⟩
    | k + 1, e => cases e⟩
   generalize (upd (upd H t (.tup [V.int 0, V.int 9])) l (.lst [V.ref t])) = H1 at s1 hp
   have q1 : Out a R S H1 Q E (if inP R.L x2 then (if inP R.S x1 then (if powB S = true then .done else .power) else .place x1) else .place x2) := by
    have q : Out a R S H Q E (if inP R.L x2 then (if inP R.S x1 then (if powB S = true then .done else .power) else .place x1) else .place x2) := q
    by_cases c1 : inP R.L x2
    ·rw [if_pos c1] at q ⊢
     by_cases c2 : inP R.S x1
     ·rw [if_pos c2] at q ⊢
      by_cases c3 : powB S = true
      ·rw [if_pos c3] at q ⊢
       exact fun R' S' H' e f g => q R' S' H' ((Ev.of s1).trans e) f g
      ·rw [if_neg c3] at q ⊢
       exact fun H' e f => q H' ((Ev.of s1).trans e) f
     ·rw [if_neg c2] at q ⊢
      exact XO.same q s1
    ·rw [if_neg c1] at q ⊢
     exact XO.same q s1
   refine ⟨R, S, _, _, l, [(0, 9)], rfl, hR.same s1, hev, hp, two36 (oc := if powB S = true then .done else .power) g2 g1 q1 fun i j hi hj e e' q => ?_⟩
   have q := pow36 q
   exact ⟨q.1, fun p R' H' ev f => q.2 p R' _ H' ev f rfl⟩
  have n4 := no (m := 12) h0
  refine ⟨_, rfl, rfl, _, rfl, ite2 (fun h0 => ?_) (fun h0 => ?_)⟩
  ·cases yes (m := 13) h0
   exact ⟨_, rfl, R.rk, dx, _, rfl, h1, rfl, _, rfl, aL, _, _, _, rfl, rfl, SqL.of hA, atI_nat (j := 2) rfl, R, S, _, rfl, hR, hev, one36 (oc := if powB S = true then .done else .power) g2 q fun i hi e q => by
    have q := pow36 q
    exact ⟨q.1, fun p R' H' ev f => q.2 p R' _ H' ev f rfl⟩⟩
  have n5 := no (m := 13) h0
  refine ⟨_, rfl, rfl, _, rfl, ite2 (fun h0 => ?_) (fun h0 => ?_)⟩
  ·cases yes (m := 14) h0
   exact ⟨_, rfl, R.rk, dx, _, rfl, h1, rfl, _, rfl, aL, _, _, _, rfl, rfl, SqL.of hA, atI_nat (j := 0) rfl, R, S, _, rfl, hR, hev, one36 (oc := if powB S = true then (if (!(S.B x0.toNat).1.isSpare) = true then .wrong x0 else .done) else .power) g0 q fun i hi e q => by
    subst e
    have q := pow36 q
    exact ⟨q.1, fun p k => (q.2 p).ite.1 (show (!(S.B i).1.isSpare) = true by rw [k]; rfl), fun m p k R' H' ev f => (q.2 p).ite.2 (show ¬ (!(S.B i).1.isSpare) = true by rw [k]; exact Bool.false_ne_true) R' _ H' ev f rfl⟩⟩
  have n6 := no (m := 14) h0
  omega
end
theorem isxS {H H' : Hp} {x C : Addr} {od : Option Addr} (h : IsX H x C od) (s : Same H H') : IsX H' x C od := ⟨s _ _ h.1, fun dx e => let ⟨o, q⟩ := h.2 dx e; ⟨o, s _ _ q⟩⟩
section
variable {P : Program} {wo : World} {K : PySem.W.Frag} {mg : Str -> Option Value} {base : Heap} {a : Adr}
def Four (a : Adr) (C : Addr) : Prop := C = a.C_NoPlace \/ C = a.C_WrongPlank \/ C = a.C_NoPower \/ C = a.C_NoShape
def spUnder (a : Adr) : Sp := fun vs H Q _ => ∃ (e C : Addr) (od : Option Addr), vs = [.ref e] /\ IsX H e C od /\ Four a C /\ ∀ H', Same H H' -> Q (.bl true) H'
theorem ok_under (T : Txt K mg a) : FnOkU P wo K mg base 1 a.f_under a.d_under ["_law_error"] (spUnder a) := by
 refine T.F_under.okU (k := 0) sc_under (fun vs H Q E h => ?_) (fun cdv A outer s H vs Q E hr h => ?_)
 ·obtain ⟨e, C, od, rfl, _⟩ := h
  rfl
 ·obtain ⟨e, C, od, rfl, hx, hC, q⟩ := h
  refine ⟨_, (pss_cons (ps_set (i := 1) sc_under.nd rfl (Or.inl rfl) (pe_callB (call_isxT (Pk := a.C_PlankError)) rfl T.n_isinstance boot_isinstance (pa_cons (pv 0) (pa_cons (pe_tup (pa_cons (pe_glob (v := .ref a.C_NoField) rfl T.m_NoField rfl) (pa_cons (pe_glob (v := .ref a.C_NoBack) rfl T.m_NoBack rfl) (pa_cons (pe_glob (v := .ref a.C_NoCode) rfl T.m_NoCode rfl) (pa_cons (pe_glob (v := .ref a.C_NoBlock) rfl T.m_NoBlock rfl) (pa_cons (pe_glob (v := .ref a.C_Gone) rfl T.m_Gone rfl) (pa_cons (pe_glob (v := .ref a.C_Standing) rfl T.m_Standing rfl) (pa_cons (pe_glob (v := .ref a.C_NoLine) rfl T.m_NoLine rfl) pa_nil)))))))) pa_nil))))
   (pss_one (ps_ret (pe_and (pe_callB (call_isx (Pk := a.C_PlankError)) rfl T.n_isinstance boot_isinstance (pa_cons (pv 0) (pa_cons (pe_glob (v := .ref a.C_PlankError) rfl T.m_PlankError rfl) pa_nil))) (pe_and (pe_callB (call_isx (Pk := a.C_PlankError)) rfl T.n_isinstance boot_isinstance (pa_cons (pv 0) (pa_cons (pe_bltn (v := .ty "ValueError") rfl T.n_ValueError (by decide +kernel) rfl) pa_nil))) (pe_one (pe_not (pv 1)))))))), ?_⟩
  obtain ⟨xi, ka, ko, kv⟩ : XIn K C a.C_PlankError ∧ PySem.W.kitAny K (.ref C) ([a.C_NoField, a.C_NoBack, a.C_NoCode, a.C_NoBlock, a.C_Gone, a.C_Standing, a.C_NoLine].map Value.ref) = some false ∧ PySem.W.kitOne K (.ref C) (.ref a.C_PlankError) = some true ∧ PySem.W.kitOne K (.ref C) (.type "ValueError") = some true := by
   rcases hC with rfl | rfl | rfl | rfl
   ·exact ⟨T.xi_NoPlace, T.ka_NoPlace_0, T.ko_NoPlace_PlankError, T.kv_NoPlace⟩
   ·exact ⟨T.xi_WrongPlank, T.ka_WrongPlank_0, T.ko_WrongPlank_PlankError, T.kv_WrongPlank⟩
   ·exact ⟨T.xi_NoPower, T.ka_NoPower_0, T.ko_NoPower_PlankError, T.kv_NoPower⟩
   ·exact ⟨T.xi_NoShape, T.ka_NoShape_0, T.ko_NoShape_PlankError, T.kv_NoShape⟩
  refine ⟨_, rfl, (show 7 <= sizeLine by decide), fun tp ntp => ?_⟩
  have s1 := Same.new (o := .tup ([a.C_NoField, a.C_NoBack, a.C_NoCode, a.C_NoBlock, a.C_Gone, a.C_Standing, a.C_NoLine].map V.ref)) ntp
  have htp : (upd H tp (.tup ([a.C_NoField, a.C_NoBack, a.C_NoCode, a.C_NoBlock, a.C_Gone, a.C_Standing, a.C_NoLine].map V.ref))) tp = some (.tup ([a.C_NoField, a.C_NoBack, a.C_NoCode, a.C_NoBlock, a.C_Gone, a.C_Standing, a.C_NoLine].map V.ref)) := upd_same
  have hx1 := isxS hx s1
  refine ⟨e, C, od, tp, _, false, rfl, hx1, xi, htp, ka, ?_⟩
  refine ⟨_, rfl, e, C, od, .ref a.C_PlankError, .ref a.C_PlankError, true, rfl, hx1, xi, rfl, fun u h => h, ko, _, rfl, iteT ?_⟩
  refine ⟨_, rfl, e, C, od, .ty "ValueError", .type "ValueError", true, rfl, hx1, xi, rfl, fun u h => h, kv, _, rfl, iteT ?_⟩
  exact ⟨_, rfl, _, rfl, q _ s1⟩
def Oc.isPow : Oc -> Bool
 | .power => true
 | _ => false
def toldV : Oc -> List V
 | .done => [.str "done", .int 0, .bl true, .bl false]
 | .place i => [.str "place", .int i, .bl true, .bl false]
 | .wrong i => [.str "wrong", .int i, .bl true, .bl false]
 | .power => [.str "power", .int 0, .bl true, .bl false]
 | .shape => [.str "shape", .int 0, .bl true, .bl false]
def ToldQ (a : Adr) (R : Rk) (S : Stt) (H : Hp) (Q : VK) (oc : Oc) : Prop := ∀ R' S' H' D, Ev R R' H H' -> FR a H' R' S' -> S'.g = (S.g || oc.isPow) -> (oc ≠ .done -> S'.evs = S.evs /\ S'.Y = S.Y /\ S'.B = S.B) -> H' D = some (.lst (toldV oc)) -> D ∉ R'.O -> Q (.ref D) H'
def spTold (a : Adr) : Sp := fun vs H Q _ => (Do36 a vs H 0 15 fun R S oc => ToldQ a R S H Q oc) \/ Mk36 vs H fun b => (b -> ∀ H' D, Same H H' -> H' D = some (.lst (toldV .done)) -> Q (.ref D) H') /\ (¬ b -> ∀ H' D, Same H H' -> H' D = some (.lst (toldV .shape)) -> Q (.ref D) H')
set_option maxHeartbeats 4000000 in
theorem ok_told (T : Txt K mg a) : FnOk P wo K mg base CX0 9 a.f_told a.d_told ["_law_rack", "_law_way", "_law_a"] (spTold a) := by
 have G_do_one : FnOk P wo K mg base (CXe P wo) 7 _ _ _ _ := ok_do_one T
 have G_do_other : FnOk P wo K mg base (CXe P wo) 7 _ _ _ _ := ok_do_other T
 have G_under : FnOkU P wo K mg base 1 _ _ _ _ := ok_under T
 refine T.F_told.ok (k := 8) sc_told (fun vs H Q E h => ?_) (fun cdv A outer s H vs Q E hr h => ?_)
 ·rcases h with ⟨R, S, aL, w, x0, x1, x2, x3, rfl, _⟩ | ⟨v, aL, x0, x1, x2, rfl, _⟩ <;> rfl
 ·refine ⟨_, (pss_cons (ps_set (i := 3) sc_told.nd rfl (Or.inl rfl) (pe_lst (pa_cons pe_str (pa_cons pe_int (pa_cons pe_bl (pa_cons pe_bl pa_nil))))))
   (pss_cons (ps_try rfl rfl rfl (psx_if (pt_cmpR op_lt (pv 1) pe_int (nomark _)) (psx_expr (pex_call G_do_one (hr.mono (by decide)) rfl rfl T.m_do_one T.k_do_one T.b_do_one .nil (pa_cons (pv 0) (pa_cons (pv 1) (pa_cons (pv 2) pa_nil)))) psx_nil) (psx_expr (pex_call G_do_other (hr.mono (by decide)) rfl rfl T.m_do_other T.k_do_other T.b_do_other .nil (pa_cons (pv 0) (pa_cons (pv 1) (pa_cons (pv 2) pa_nil)))) psx_nil)) (ph_as (i := 4) sc_told.nd rfl rfl rfl rfl T.m_NoPlace (fun _ => (pss_one (ps_set (i := 3) sc_told.nd rfl (Or.inl rfl) (pe_lst (pa_cons pe_str (pa_cons (pe_fldXK (K := K) rfl (pv 4) rfl) (pa_cons (pe_callU G_under (hr.umark (by decide) _) rfl T.m_under T.k_under T.b_under (pa_cons (pv 4) pa_nil)) (pa_cons (pe_callB (call_isxTK (K := K) rfl (Pk := a.C_PlankError)) rfl T.n_isinstance boot_isinstance (pa_cons (pv 4) (pa_cons (pe_tup (pa_cons (pe_glob (v := .ref a.C_NoPower) rfl T.m_NoPower rfl) (pa_cons (pe_glob (v := .ref a.C_NoShape) rfl T.m_NoShape rfl) (pa_cons (pe_glob (v := .ref a.C_WrongPlank) rfl T.m_WrongPlank rfl) pa_nil)))) pa_nil))) pa_nil)))))))) (ph_as (i := 4) sc_told.nd rfl rfl rfl rfl T.m_WrongPlank (fun _ => (pss_one (ps_set (i := 3) sc_told.nd rfl (Or.inl rfl) (pe_lst (pa_cons pe_str (pa_cons (pe_fldXK (K := K) rfl (pv 4) rfl) (pa_cons (pe_callU G_under (hr.umark (by decide) _) rfl T.m_under T.k_under T.b_under (pa_cons (pv 4) pa_nil)) (pa_cons (pe_callB (call_isxTK (K := K) rfl (Pk := a.C_PlankError)) rfl T.n_isinstance boot_isinstance (pa_cons (pv 4) (pa_cons (pe_tup (pa_cons (pe_glob (v := .ref a.C_NoPower) rfl T.m_NoPower rfl) (pa_cons (pe_glob (v := .ref a.C_NoShape) rfl T.m_NoShape rfl) pa_nil))) pa_nil))) pa_nil)))))))) (ph_as (i := 4) sc_told.nd rfl rfl rfl rfl T.m_NoPower (fun _ => (pss_one (ps_set (i := 3) sc_told.nd rfl (Or.inl rfl) (pe_lst (pa_cons pe_str (pa_cons pe_int (pa_cons (pe_callU G_under (hr.umark (by decide) _) rfl T.m_under T.k_under T.b_under (pa_cons (pv 4) pa_nil)) (pa_cons (pe_callB (call_isxK (K := K) rfl (Pk := a.C_PlankError)) rfl T.n_isinstance boot_isinstance (pa_cons (pv 4) (pa_cons (pe_glob (v := .ref a.C_NoShape) rfl T.m_NoShape rfl) pa_nil))) pa_nil)))))))) (ph_as (i := 4) sc_told.nd rfl rfl rfl rfl T.m_NoShape (fun _ => (pss_one (ps_set (i := 3) sc_told.nd rfl (Or.inl rfl) (pe_lst (pa_cons pe_str (pa_cons pe_int (pa_cons (pe_callU G_under (hr.umark (by decide) _) rfl T.m_under T.k_under T.b_under (pa_cons (pv 4) pa_nil)) (pa_cons pe_bl pa_nil)))))))) ph_none)))))
   (pss_one (ps_ret (pv 3))))), ?_⟩
  rcases h with ⟨R, S, aL, w, x0, x1, x2, x3, rfl, _, hw15, hR, hA, g0, g1, g2, g3, hev, q⟩ | ⟨v, aL, x0, x1, x2, rfl, hA, g0, g1, g2, qY, qN⟩
  rotate_left
  ·refine ⟨(show 4 <= sizeLine by decide), fun D nD => ?_⟩
   have s1 := Same.new (o := .lst [V.str "done", V.int 0, V.bl true, V.bl false]) nD
   have hD : (upd H D (.lst [V.str "done", V.int 0, V.bl true, V.bl false])) D = some (.lst (toldV .done)) := upd_same
   have hA1 := s1 _ _ hA
   generalize (upd H D (.lst [V.str "done", V.int 0, V.bl true, V.bl false])) = H1 at s1 hD hA1
   refine ⟨_, rfl, _, _, rfl, rfl, _, rfl, ite2 (fun h => absurd (of_decide_eq_true h) (by decide)) (fun h => ?_)⟩
   refine ⟨_, rfl, _, rfl, _, rfl, .inr ⟨_, aL, x0, x1, x2, rfl, hA1, g0, g1, g2, fun b H2 s2 => ⟨_, rfl, qY b H2 D (s1.trans s2) (s2 _ _ hD)⟩, fun b H2 s2 => ?_⟩⟩
   refine ⟨_, rfl, false, T.ex_NoShape_NoPlace, iteF ⟨false, T.ex_NoShape_WrongPlank, iteF ⟨false, T.ex_NoShape_NoPower, iteF ⟨true, T.ex_NoShape_NoShape, iteT fun e ne => ?_⟩⟩⟩⟩
   have se := Same.new (o := .ext (XAt e a.C_NoShape none)) ne
   have he : (upd H2 e (.ext (XAt e a.C_NoShape none))) e = some (.ext (XAt e a.C_NoShape none)) := upd_same
   have hx : IsX (upd H2 e (.ext (XAt e a.C_NoShape none))) e a.C_NoShape none := ⟨he, fun d' z => nomatch z⟩
   generalize (upd H2 e (.ext (XAt e a.C_NoShape none))) = H3 at se he hx
   refine ⟨_, rfl, e, _, _, rfl, hx, .inr (.inr (.inr rfl)), fun H4 s4 => ?_⟩
   have s34 := (s2.trans se).trans s4
   refine ⟨(show 4 <= sizeLine by decide), fun D2 nD2 => ?_⟩
   have s5 := s34
   try dsimp only [forget, gName, L2.start, List.set, List.map, List.append, List.replicate, HAppend.hAppend, Append.append, List.length, Nat.reduceAdd, Nat.reduceSub]
   have s6 := s5.trans (Same.new (o := .lst [V.str "shape", V.int 0, V.bl true, V.bl false]) nD2)
   exact ⟨_, rfl, qN b _ D2 (s1.trans s6) upd_same⟩
  refine ⟨(show 4 <= sizeLine by decide), fun D nD => ?_⟩
  have s1 := Same.new (o := .lst [V.str "done", V.int 0, V.bl true, V.bl false]) nD
  have hD : (upd H D (.lst [V.str "done", V.int 0, V.bl true, V.bl false])) D = some (.lst (toldV .done)) := upd_same
  have hA1 := s1 _ _ hA
  have hR1 := hR.same s1
  have nO : D ∉ R.O := hR.nO nD
  generalize (upd H D (.lst [V.str "done", V.int 0, V.bl true, V.bl false])) = H1 at s1 hD hR1 hA1
  refine ⟨_, rfl, _, _, rfl, rfl, _, rfl, ite2 (fun h => ?_) (fun h => ?_)⟩
  ·have hw : w < 8 := by have := of_decide_eq_true h; omega
   refine ⟨_, rfl, _, rfl, _, rfl, R, S, aL, w, x0, x1, x2, x3, rfl, by omega, hw, hR1, hA1, g0, g1, g2, g3, hev, ?_⟩
   generalize due36 R S w x0 x1 x2 x3 = oc at q ⊢
   cases oc with
   | done => exact fun R' S' H' ev f g => ⟨_, rfl, q R' S' H' D ((Ev.of s1).trans ev) f (by rw [g]; simp [Oc.isPow]) (fun z => absurd rfl z) (ev.ext nO hD).1 (ev.ext nO hD).2⟩
   | place i =>
    intro dx H2 s2 nd hd
    refine ⟨_, rfl, true, T.ex_NoPlace_NoPlace, iteT fun e ne => ?_⟩
    have se := Same.new (o := .ext (XAt e a.C_NoPlace (some dx))) ne
    have he : (upd H2 e (.ext (XAt e a.C_NoPlace (some dx)))) e = some (.ext (XAt e a.C_NoPlace (some dx))) := upd_same
    have hd' := se _ _ hd
    have hx : IsX (upd H2 e (.ext (XAt e a.C_NoPlace (some dx)))) e a.C_NoPlace (some dx) := ⟨he, fun d' z => by cases z; exact ⟨_, hd'⟩⟩
    generalize (upd H2 e (.ext (XAt e a.C_NoPlace (some dx)))) = H3 at se he hx hd'
    refine ⟨_, rfl, false, e, a.C_NoPlace, a.C_PlankError, dx, _, _, rfl, he, hd', T.xi_NoPlace, T.xs_NoPlace, T.no_NoPlace_place, rfl, _, rfl, e, _, _, rfl, hx, .inl rfl, fun H4 s4 => ?_⟩
    have s34 := (s2.trans se).trans s4
    refine ⟨_, rfl, (show 3 <= sizeLine by decide), fun tp ntp => ⟨e, _, _, tp, [a.C_NoPower, a.C_NoShape, a.C_WrongPlank], false, rfl, isxS (isxS hx s4) (Same.new ntp), T.xi_NoPlace, upd_same, T.ka_NoPlace_1, (show 4 <= sizeLine by decide), fun D2 nD2 => ?_⟩⟩
    have s5 := s34.trans (Same.new (o := .tup ([a.C_NoPower, a.C_NoShape, a.C_WrongPlank].map V.ref)) ntp)
    try dsimp only [forget, gName, L2.start, List.set, List.map, List.append, List.replicate, HAppend.hAppend, Append.append, List.length, Nat.reduceAdd, Nat.reduceSub]
    have s6 := s5.trans (Same.new (o := .lst [V.str "place", V.int i, V.bl true, V.bl false]) nD2)
    exact ⟨_, rfl, q R S _ D2 (Ev.of (s1.trans s6)) ((hR1.same s5).same (Same.new nD2)) (by simp [Oc.isPow]) (fun _ => ⟨rfl, rfl, rfl⟩) upd_same ((hR1.same s5).nO nD2)⟩
   | wrong i =>
    intro dx H2 s2 nd hd
    refine ⟨_, rfl, false, T.ex_WrongPlank_NoPlace, iteF ⟨true, T.ex_WrongPlank_WrongPlank, iteT fun e ne => ?_⟩⟩
    have se := Same.new (o := .ext (XAt e a.C_WrongPlank (some dx))) ne
    have he : (upd H2 e (.ext (XAt e a.C_WrongPlank (some dx)))) e = some (.ext (XAt e a.C_WrongPlank (some dx))) := upd_same
    have hd' := se _ _ hd
    have hx : IsX (upd H2 e (.ext (XAt e a.C_WrongPlank (some dx)))) e a.C_WrongPlank (some dx) := ⟨he, fun d' z => by cases z; exact ⟨_, hd'⟩⟩
    generalize (upd H2 e (.ext (XAt e a.C_WrongPlank (some dx)))) = H3 at se he hx hd'
    refine ⟨_, rfl, false, e, a.C_WrongPlank, a.C_PlankError, dx, _, _, rfl, he, hd', T.xi_WrongPlank, T.xs_WrongPlank, T.no_WrongPlank_plank, rfl, _, rfl, e, _, _, rfl, hx, .inr (.inl rfl), fun H4 s4 => ?_⟩
    have s34 := (s2.trans se).trans s4
    refine ⟨_, rfl, (show 2 <= sizeLine by decide), fun tp ntp => ⟨e, _, _, tp, [a.C_NoPower, a.C_NoShape], false, rfl, isxS (isxS hx s4) (Same.new ntp), T.xi_WrongPlank, upd_same, T.ka_WrongPlank_1, (show 4 <= sizeLine by decide), fun D2 nD2 => ?_⟩⟩
    have s5 := s34.trans (Same.new (o := .tup ([a.C_NoPower, a.C_NoShape].map V.ref)) ntp)
    try dsimp only [forget, gName, L2.start, List.set, List.map, List.append, List.replicate, HAppend.hAppend, Append.append, List.length, Nat.reduceAdd, Nat.reduceSub]
    have s6 := s5.trans (Same.new (o := .lst [V.str "wrong", V.int i, V.bl true, V.bl false]) nD2)
    exact ⟨_, rfl, q R S _ D2 (Ev.of (s1.trans s6)) ((hR1.same s5).same (Same.new nD2)) (by simp [Oc.isPow]) (fun _ => ⟨rfl, rfl, rfl⟩) upd_same ((hR1.same s5).nO nD2)⟩
   | power =>
    intro H2 ev f
    have s2 := Same.refl H2
    refine ⟨_, rfl, false, T.ex_NoPower_NoPlace, iteF ⟨false, T.ex_NoPower_WrongPlank, iteF ⟨true, T.ex_NoPower_NoPower, iteT fun e ne => ?_⟩⟩⟩
    have se := Same.new (o := .ext (XAt e a.C_NoPower none)) ne
    have he : (upd H2 e (.ext (XAt e a.C_NoPower none))) e = some (.ext (XAt e a.C_NoPower none)) := upd_same
    have hx : IsX (upd H2 e (.ext (XAt e a.C_NoPower none))) e a.C_NoPower none := ⟨he, fun d' z => nomatch z⟩
    generalize (upd H2 e (.ext (XAt e a.C_NoPower none))) = H3 at se he hx
    refine ⟨_, rfl, e, _, _, rfl, hx, .inr (.inr (.inl rfl)), fun H4 s4 => ?_⟩
    have s34 := (s2.trans se).trans s4
    refine ⟨_, rfl, e, _, _, .ref a.C_NoShape, .ref a.C_NoShape, false, rfl, isxS hx s4, T.xi_NoPower, rfl, fun u h => h, T.ko_NoPower_NoShape, (show 4 <= sizeLine by decide), fun D2 nD2 => ?_⟩
    have s5 := s34
    try dsimp only [forget, gName, L2.start, List.set, List.map, List.append, List.replicate, HAppend.hAppend, Append.append, List.length, Nat.reduceAdd, Nat.reduceSub]
    have s6 := s5.trans (Same.new (o := .lst [V.str "power", V.int 0, V.bl true, V.bl false]) nD2)
    exact ⟨_, rfl, q R S.off _ D2 (((Ev.of s1).trans ev).trans (Ev.of s6)) ((f.same s5).same (Same.new nD2)) (by show true = (S.g || true); simp) (fun _ => ⟨rfl, rfl, rfl⟩) upd_same ((f.same s5).nO nD2)⟩
   | shape =>
    have s2 := Same.refl H1
    refine ⟨_, rfl, false, T.ex_NoShape_NoPlace, iteF ⟨false, T.ex_NoShape_WrongPlank, iteF ⟨false, T.ex_NoShape_NoPower, iteF ⟨true, T.ex_NoShape_NoShape, iteT fun e ne => ?_⟩⟩⟩⟩
    have se := Same.new (o := .ext (XAt e a.C_NoShape none)) ne
    have he : (upd H1 e (.ext (XAt e a.C_NoShape none))) e = some (.ext (XAt e a.C_NoShape none)) := upd_same
    have hx : IsX (upd H1 e (.ext (XAt e a.C_NoShape none))) e a.C_NoShape none := ⟨he, fun d' z => nomatch z⟩
    generalize (upd H1 e (.ext (XAt e a.C_NoShape none))) = H3 at se he hx
    refine ⟨_, rfl, e, _, _, rfl, hx, .inr (.inr (.inr rfl)), fun H4 s4 => ?_⟩
    have s34 := (s2.trans se).trans s4
    refine ⟨(show 4 <= sizeLine by decide), fun D2 nD2 => ?_⟩
    have s5 := s34
    try dsimp only [forget, gName, L2.start, List.set, List.map, List.append, List.replicate, HAppend.hAppend, Append.append, List.length, Nat.reduceAdd, Nat.reduceSub]
    have s6 := s5.trans (Same.new (o := .lst [V.str "shape", V.int 0, V.bl true, V.bl false]) nD2)
    exact ⟨_, rfl, q R S _ D2 (Ev.of (s1.trans s6)) ((hR1.same s5).same (Same.new nD2)) (by simp [Oc.isPow]) (fun _ => ⟨rfl, rfl, rfl⟩) upd_same ((hR1.same s5).nO nD2)⟩
  ·have hw : 8 <= w := by
    have : ¬ ((w : Int) < 8) := fun z => h (decide_eq_true z)
    omega
   refine ⟨_, rfl, _, rfl, _, rfl, .inl ⟨R, S, aL, w, x0, x1, x2, x3, rfl, hw, hw15, hR1, hA1, g0, g1, g2, g3, hev, ?_⟩⟩
   generalize due36 R S w x0 x1 x2 x3 = oc at q ⊢
   cases oc with
   | done => exact fun R' S' H' ev f g => ⟨_, rfl, q R' S' H' D ((Ev.of s1).trans ev) f (by rw [g]; simp [Oc.isPow]) (fun z => absurd rfl z) (ev.ext nO hD).1 (ev.ext nO hD).2⟩
   | place i =>
    intro dx H2 s2 nd hd
    refine ⟨_, rfl, true, T.ex_NoPlace_NoPlace, iteT fun e ne => ?_⟩
    have se := Same.new (o := .ext (XAt e a.C_NoPlace (some dx))) ne
    have he : (upd H2 e (.ext (XAt e a.C_NoPlace (some dx)))) e = some (.ext (XAt e a.C_NoPlace (some dx))) := upd_same
    have hd' := se _ _ hd
    have hx : IsX (upd H2 e (.ext (XAt e a.C_NoPlace (some dx)))) e a.C_NoPlace (some dx) := ⟨he, fun d' z => by cases z; exact ⟨_, hd'⟩⟩
    generalize (upd H2 e (.ext (XAt e a.C_NoPlace (some dx)))) = H3 at se he hx hd'
    refine ⟨_, rfl, false, e, a.C_NoPlace, a.C_PlankError, dx, _, _, rfl, he, hd', T.xi_NoPlace, T.xs_NoPlace, T.no_NoPlace_place, rfl, _, rfl, e, _, _, rfl, hx, .inl rfl, fun H4 s4 => ?_⟩
    have s34 := (s2.trans se).trans s4
    refine ⟨_, rfl, (show 3 <= sizeLine by decide), fun tp ntp => ⟨e, _, _, tp, [a.C_NoPower, a.C_NoShape, a.C_WrongPlank], false, rfl, isxS (isxS hx s4) (Same.new ntp), T.xi_NoPlace, upd_same, T.ka_NoPlace_1, (show 4 <= sizeLine by decide), fun D2 nD2 => ?_⟩⟩
    have s5 := s34.trans (Same.new (o := .tup ([a.C_NoPower, a.C_NoShape, a.C_WrongPlank].map V.ref)) ntp)
    try dsimp only [forget, gName, L2.start, List.set, List.map, List.append, List.replicate, HAppend.hAppend, Append.append, List.length, Nat.reduceAdd, Nat.reduceSub]
    have s6 := s5.trans (Same.new (o := .lst [V.str "place", V.int i, V.bl true, V.bl false]) nD2)
    exact ⟨_, rfl, q R S _ D2 (Ev.of (s1.trans s6)) ((hR1.same s5).same (Same.new nD2)) (by simp [Oc.isPow]) (fun _ => ⟨rfl, rfl, rfl⟩) upd_same ((hR1.same s5).nO nD2)⟩
   | wrong i =>
    intro dx H2 s2 nd hd
    refine ⟨_, rfl, false, T.ex_WrongPlank_NoPlace, iteF ⟨true, T.ex_WrongPlank_WrongPlank, iteT fun e ne => ?_⟩⟩
    have se := Same.new (o := .ext (XAt e a.C_WrongPlank (some dx))) ne
    have he : (upd H2 e (.ext (XAt e a.C_WrongPlank (some dx)))) e = some (.ext (XAt e a.C_WrongPlank (some dx))) := upd_same
    have hd' := se _ _ hd
    have hx : IsX (upd H2 e (.ext (XAt e a.C_WrongPlank (some dx)))) e a.C_WrongPlank (some dx) := ⟨he, fun d' z => by cases z; exact ⟨_, hd'⟩⟩
    generalize (upd H2 e (.ext (XAt e a.C_WrongPlank (some dx)))) = H3 at se he hx hd'
    refine ⟨_, rfl, false, e, a.C_WrongPlank, a.C_PlankError, dx, _, _, rfl, he, hd', T.xi_WrongPlank, T.xs_WrongPlank, T.no_WrongPlank_plank, rfl, _, rfl, e, _, _, rfl, hx, .inr (.inl rfl), fun H4 s4 => ?_⟩
    have s34 := (s2.trans se).trans s4
    refine ⟨_, rfl, (show 2 <= sizeLine by decide), fun tp ntp => ⟨e, _, _, tp, [a.C_NoPower, a.C_NoShape], false, rfl, isxS (isxS hx s4) (Same.new ntp), T.xi_WrongPlank, upd_same, T.ka_WrongPlank_1, (show 4 <= sizeLine by decide), fun D2 nD2 => ?_⟩⟩
    have s5 := s34.trans (Same.new (o := .tup ([a.C_NoPower, a.C_NoShape].map V.ref)) ntp)
    try dsimp only [forget, gName, L2.start, List.set, List.map, List.append, List.replicate, HAppend.hAppend, Append.append, List.length, Nat.reduceAdd, Nat.reduceSub]
    have s6 := s5.trans (Same.new (o := .lst [V.str "wrong", V.int i, V.bl true, V.bl false]) nD2)
    exact ⟨_, rfl, q R S _ D2 (Ev.of (s1.trans s6)) ((hR1.same s5).same (Same.new nD2)) (by simp [Oc.isPow]) (fun _ => ⟨rfl, rfl, rfl⟩) upd_same ((hR1.same s5).nO nD2)⟩
   | power =>
    intro H2 ev f
    have s2 := Same.refl H2
    refine ⟨_, rfl, false, T.ex_NoPower_NoPlace, iteF ⟨false, T.ex_NoPower_WrongPlank, iteF ⟨true, T.ex_NoPower_NoPower, iteT fun e ne => ?_⟩⟩⟩
    have se := Same.new (o := .ext (XAt e a.C_NoPower none)) ne
    have he : (upd H2 e (.ext (XAt e a.C_NoPower none))) e = some (.ext (XAt e a.C_NoPower none)) := upd_same
    have hx : IsX (upd H2 e (.ext (XAt e a.C_NoPower none))) e a.C_NoPower none := ⟨he, fun d' z => nomatch z⟩
    generalize (upd H2 e (.ext (XAt e a.C_NoPower none))) = H3 at se he hx
    refine ⟨_, rfl, e, _, _, rfl, hx, .inr (.inr (.inl rfl)), fun H4 s4 => ?_⟩
    have s34 := (s2.trans se).trans s4
    refine ⟨_, rfl, e, _, _, .ref a.C_NoShape, .ref a.C_NoShape, false, rfl, isxS hx s4, T.xi_NoPower, rfl, fun u h => h, T.ko_NoPower_NoShape, (show 4 <= sizeLine by decide), fun D2 nD2 => ?_⟩
    have s5 := s34
    try dsimp only [forget, gName, L2.start, List.set, List.map, List.append, List.replicate, HAppend.hAppend, Append.append, List.length, Nat.reduceAdd, Nat.reduceSub]
    have s6 := s5.trans (Same.new (o := .lst [V.str "power", V.int 0, V.bl true, V.bl false]) nD2)
    exact ⟨_, rfl, q R S.off _ D2 (((Ev.of s1).trans ev).trans (Ev.of s6)) ((f.same s5).same (Same.new nD2)) (by show true = (S.g || true); simp) (fun _ => ⟨rfl, rfl, rfl⟩) upd_same ((f.same s5).nO nD2)⟩
   | shape =>
    have s2 := Same.refl H1
    refine ⟨_, rfl, false, T.ex_NoShape_NoPlace, iteF ⟨false, T.ex_NoShape_WrongPlank, iteF ⟨false, T.ex_NoShape_NoPower, iteF ⟨true, T.ex_NoShape_NoShape, iteT fun e ne => ?_⟩⟩⟩⟩
    have se := Same.new (o := .ext (XAt e a.C_NoShape none)) ne
    have he : (upd H1 e (.ext (XAt e a.C_NoShape none))) e = some (.ext (XAt e a.C_NoShape none)) := upd_same
    have hx : IsX (upd H1 e (.ext (XAt e a.C_NoShape none))) e a.C_NoShape none := ⟨he, fun d' z => nomatch z⟩
    generalize (upd H1 e (.ext (XAt e a.C_NoShape none))) = H3 at se he hx
    refine ⟨_, rfl, e, _, _, rfl, hx, .inr (.inr (.inr rfl)), fun H4 s4 => ?_⟩
    have s34 := (s2.trans se).trans s4
    refine ⟨(show 4 <= sizeLine by decide), fun D2 nD2 => ?_⟩
    have s5 := s34
    try dsimp only [forget, gName, L2.start, List.set, List.map, List.append, List.replicate, HAppend.hAppend, Append.append, List.length, Nat.reduceAdd, Nat.reduceSub]
    have s6 := s5.trans (Same.new (o := .lst [V.str "shape", V.int 0, V.bl true, V.bl false]) nD2)
    exact ⟨_, rfl, q R S _ D2 (Ev.of (s1.trans s6)) ((hR1.same s5).same (Same.new nD2)) (by simp [Oc.isPow]) (fun _ => ⟨rfl, rfl, rfl⟩) upd_same ((hR1.same s5).nO nD2)⟩
end
theorem word_lost (kd : Kd) : decide (V.str kd.word = V.str (Str.ofString "lost")) = kd.isLost := by
 cases kd
 ·exact (by decide : decide (V.str (Str.ofString "whole") = V.str (Str.ofString "lost")) = false)
 ·exact (by decide : decide (V.str (Str.ofString "slow") = V.str (Str.ofString "lost")) = false)
 ·exact (by decide : decide (V.str (Str.ofString "lost") = V.str (Str.ofString "lost")) = true)
 ·exact (by decide : decide (V.str (Str.ofString "spare") = V.str (Str.ofString "lost")) = false)
theorem word_spare (kd : Kd) : decide (V.str kd.word = V.str (Str.ofString "spare")) = kd.isSpare := by
 cases kd
 ·exact (by decide : decide (V.str (Str.ofString "whole") = V.str (Str.ofString "spare")) = false)
 ·exact (by decide : decide (V.str (Str.ofString "slow") = V.str (Str.ofString "spare")) = false)
 ·exact (by decide : decide (V.str (Str.ofString "lost") = V.str (Str.ofString "spare")) = false)
 ·exact (by decide : decide (V.str (Str.ofString "spare") = V.str (Str.ofString "spare")) = true)
theorem joinP {F G : Prop} (Pz : Prop) (h : (Pz -> F) -> G) (key : Pz -> F) : G := h key
def BdV (kd : Kd) (vs : List V) : Prop := ∃ mk : Nat, vs = [.str kd.word, .int mk] /\ ∀ m, kd = .spare m -> mk = m
def Bds36 (H : Hp) (bl : Addr) (n : Nat) (S : Stt) : Prop := ∃ ts : List Addr, H bl = some (.lst (ts.map V.ref)) /\ ts.length = n /\ ∀ (i : Nat) t, ts[i]? = some t -> ∃ vs, H t = some (.tup vs) /\ BdV (S.B i).1 vs
def dueV (oc : Oc) : List V := (toldV oc).take 2
def PwOk (pw : Int) (S : Stt) : Prop := (pw = 0 /\ S.g = false /\ powB S = true) \/ (pw = 1 /\ S.g = false /\ powB S = false) \/ (pw = 2 /\ S.g = true /\ powB S = false)
section
variable {P : Program} {wo : World} {K : PySem.W.Frag} {mg : Str -> Option Value} {base : Heap} {a : Adr}
def spWrong36 : Sp := fun vs H Q _ => ∃ (t : Addr) (w : Nat) (st : Int) (kd : Kd) (ts : List V), vs = [.ref t, .int w, .int st] /\ H t = some (.tup ts) /\ BdV kd ts /\ ((w = 3 \/ w = 4) -> 0 <= st) /\ Q (.bl (wrg kd w st)) H
theorem ok_wrong (T : Txt K mg a) : FnOk P wo K mg base CX0 1 a.f_wrong a.d_wrong ["_law_board", "_law_way", "_law_stripe"] spWrong36 := by
 refine T.F_wrong.ok (k := 0) sc_wrong (fun vs H Q E h => ?_) (fun cdv A outer s H vs Q E hr h => ?_)
 ·obtain ⟨t, w, st, kd, ts, rfl, _⟩ := h
  rfl
 ·obtain ⟨t, w, st, kd, ts, rfl, ht, ⟨mk, rfl, hm⟩, hst, q⟩ := h
  refine ⟨_, (pss_cons (ps_set (i := 3) sc_wrong.nd rfl (Or.inl rfl) (pe_ix ix_tup (pv 0) pe_int (fun _ _ => rfl)))
   (pss_cons (ps_if (PW.pt (pw_or (pt_cmpR op_eq (pv 1) pe_int (nomark _)) (pw_or1 (pt_cmpR op_eq (pv 1) pe_int (nomark _))))) (pss_one (ps_ret (pe_cmpR op_eq (pv 3) pe_str (nomark _)))) pss_nil)
   (pss_cons (ps_if (pt_cmpR op_eq (pv 1) pe_int (nomark _)) (pss_one (ps_ret (pe_cmpR op_ne (pv 3) pe_str (nomark _)))) pss_nil)
   (pss_cons (ps_if (pt_cmpR op_eq (pv 1) pe_int (nomark _)) (pss_one (ps_ret (pe_or (pe_cmpR op_eq (pv 3) pe_str (nomark _)) (pe_one (pe_cmpR op_eq (pv 3) pe_str (nomark _)))))) pss_nil)
   (pss_cons (ps_if (PW.pt (pw_or (pt_cmpR op_eq (pv 1) pe_int (nomark _)) (pw_or1 (pt_cmpR op_eq (pv 1) pe_int (nomark _))))) (pss_one (ps_ret (pe_or (pe_cmpR op_eq (pv 3) pe_str (nomark _)) (pe_one (pe_and (pe_cmpR op_eq (pv 3) pe_str (nomark _)) (pe_one (pe_cmpR op_ge (pv 2) (pe_ix ix_tup (pv 0) pe_int (fun _ _ => rfl)) (nomark _)))))))) pss_nil)
   (pss_one (ps_ret (pe_and (pe_cmpR op_eq (pv 1) pe_int (nomark _)) (pe_one (pe_cmpR op_ne (pv 3) pe_str (nomark _))))))))))), ?_⟩
  refine ⟨_, rfl, t, _, _, _, rfl, rfl, SqT.of ht, atI_nat (j := 0) rfl, ?_⟩
  have yes : ∀ {m : Nat}, decide (V.int (w : Int) = V.int (m : Int)) = true -> w = m := fun z => by have := V.int.inj (of_decide_eq_true z); omega
  have no : ∀ {m : Nat}, ¬ decide (V.int (w : Int) = V.int (m : Int)) = true -> w ≠ m := fun z y => z (decide_eq_true (by rw [y]))
  have fin1 : (w = 0 ∨ w = 11) → Q (.bl (decide (V.str kd.word = V.str (Str.ofString "lost")))) H := fun z => by
   unfold wrg at q
   rw [if_pos z] at q
   rw [word_lost]
   exact q
  try dsimp only [L2.start, List.set, List.map, List.append, List.replicate, HAppend.hAppend, Append.append, List.length, Nat.reduceAdd, Nat.reduceSub]
  refine ⟨_, rfl, rfl, _, rfl, ite2 (fun h0 => ⟨_, rfl, rfl, fin1 (.inl (yes (m := 0) h0))⟩) (fun h0 => ?_)⟩
  refine ⟨_, rfl, rfl, _, rfl, ite2 (fun h5 => ⟨_, rfl, rfl, fin1 (.inr (yes (m := 11) h5))⟩) (fun h5 => ?_)⟩
  have h0 := no (m := 0) h0
  have h5 := no (m := 11) h5
  have n05 : ¬ (w = 0 \/ w = 11) := by omega
  unfold wrg at q
  rw [if_neg n05] at q
  refine ⟨_, rfl, rfl, _, rfl, ite2 (fun h1 => ⟨_, rfl, rfl, ?_⟩) (fun h1 => ?_)⟩
  ·rw [if_pos (yes (m := 1) h1)] at q
   show Q (.bl (!decide (V.str kd.word = V.str (Str.ofString "lost")))) H
   rw [word_lost]
   exact q
  rw [if_neg (no (m := 1) h1)] at q
  refine ⟨_, rfl, rfl, _, rfl, ite2 (fun h2 => ?_) (fun h2 => ?_)⟩
  ·rw [if_pos (yes (m := 2) h2)] at q
   refine ⟨_, rfl, rfl, _, rfl, ite2 (fun z => ?_) (fun z => ⟨_, rfl, rfl, ?_⟩)⟩
   ·rw [word_lost] at z
    rw [z] at q
    exact q
   ·rw [word_lost] at z
    rw [Bool.eq_false_iff.mpr z] at q
    show Q (.bl (decide (V.str kd.word = V.str (Str.ofString "spare")))) H
    rw [word_spare]
    exact q
  rw [if_neg (no (m := 2) h2)] at q
  have fin2 : (w = 3 ∨ w = 4) → tRet (tOrV (tOp rEq (tVar 3) (tC (V.str (Str.ofString "lost")))) (tAndV (tOp rEq (tVar 3) (tC (V.str (Str.ofString "spare")))) (tOp (rI0 fun i j => V.bl (decide (j ≤ i))) (tVar 2) (tOp (rIxT K) (tVar 0) (tC (V.int 1)))))) { nx := fun x H' => Q V.non H', rt := Q } [some (V.ref t), some (V.int ↑w), some (V.int st), some (V.str kd.word)] H := fun z => by
   rw [if_pos z] at q
   refine ⟨_, rfl, rfl, _, rfl, ite2 (fun z1 => ?_) (fun z1 => ?_)⟩
   ·rw [word_lost] at z1
    have e : kd.there st.toNat = false := by cases kd <;> first | rfl | cases z1
    rw [e] at q
    exact q
   rw [word_lost] at z1
   refine ⟨_, rfl, rfl, _, rfl, ite2 (fun z2 => ?_) (fun z2 => ?_)⟩
   ·refine ⟨_, rfl, _, rfl, t, _, _, _, rfl, rfl, SqT.of ht, atI_nat (j := 1) rfl, _, _, rfl, rfl, ?_⟩
    rw [word_spare] at z2
    have e : kd.there st.toNat = !decide ((mk : Int) <= st) := by
     cases kd with
     | whole => cases z2
     | slow c => cases z2
     | lost => cases z2
     | spare m =>
      rw [hm m rfl]
      have := hst z
      show decide (((st.toNat : Nat) : Int) < (m : Int)) = _
      by_cases y : (m : Int) <= st
      ·rw [decide_eq_true y, decide_eq_false (by omega)]; rfl
      ·rw [decide_eq_false y, decide_eq_true (by omega)]; rfl
    rw [e, Bool.not_not] at q
    exact q
   ·rw [word_spare] at z2
    have e : kd.there st.toNat = true := by
     cases kd with
     | whole => rfl
     | slow c => rfl
     | lost => exact absurd rfl z1
     | spare m => exact absurd rfl z2
    rw [e] at q
    exact q
  refine ⟨_, rfl, rfl, _, rfl, ite2 (fun h3 => fin2 (.inl (yes (m := 3) h3))) (fun h3 => ?_)⟩
  refine ⟨_, rfl, rfl, _, rfl, ite2 (fun h4 => fin2 (.inr (yes (m := 4) h4))) (fun h4 => ?_)⟩
  have n3 := no (m := 3) h3
  have n4 := no (m := 4) h4
  rw [if_neg (by omega)] at q
  refine ⟨_, rfl, rfl, _, rfl, ite2 (fun h5 => ?_) (fun h5 => ?_)⟩
  ·refine ⟨_, rfl, rfl, ?_⟩
   rw [decide_eq_true (yes (m := 14) h5), Bool.true_and] at q
   show Q (.bl (!decide (V.str kd.word = V.str (Str.ofString "spare")))) H
   rw [word_spare]
   exact q
  ·rw [decide_eq_false (no (m := 14) h5), Bool.false_and] at q
   exact q
def spRight36 : Sp := fun vs H Q _ => ∃ (tl dl : Addr) (oc : Oc), vs = [.ref tl, .ref dl] /\ H tl = some (.lst (toldV oc)) /\ H dl = some (.lst (dueV oc)) /\ Q (.bl true) H
theorem ok_right (T : Txt K mg a) : FnOk P wo K mg base CX0 2 a.f_right a.d_right ["_law_told_here", "_law_due_here"] spRight36 := by
 have G_whole : FnOk P wo K mg base CX0 1 _ _ _ _ := ok_whole T
 refine T.F_right.ok (k := 1) sc_right (fun vs H Q E h => ?_) (fun cdv A outer s H vs Q E hr h => ?_)
 ·obtain ⟨tl, dl, oc, rfl, _⟩ := h
  rfl
 ·obtain ⟨tl, dl, oc, rfl, ht, hd, q⟩ := h
  refine ⟨_, (pss_cons (ps_if (pt_not (pt_val (pe_call G_whole (hr.mono (by decide)) rfl T.m_whole T.k_whole T.b_whole .nil pass0 (pa_cons (pe_ix ix_list (pv 0) pe_int (fun _ _ => rfl)) pa_nil)))) (pss_one (ps_ret pe_bl)) pss_nil)
   (pss_one (ps_ret (pe_and (pe_cmpR op_eq (pe_ix ix_list (pv 0) pe_int (fun _ _ => rfl)) (pe_ix ix_list (pv 1) pe_int (fun _ _ => rfl)) (nomark _)) (pe_and (pe_cmpR op_eq (pe_ix ix_list (pv 0) pe_int (fun _ _ => rfl)) (pe_ix ix_list (pv 1) pe_int (fun _ _ => rfl)) (nomark _)) (pe_and (pe_ix ix_list (pv 0) pe_int (fun _ _ => rfl)) (pe_one (pe_not (pe_ix ix_list (pv 0) pe_int (fun _ _ => rfl)))))))))), ?_⟩
  obtain ⟨x, i, e1, e2⟩ : ∃ (x : Str) (i : Int), toldV oc = [.str x, .int i, .bl true, .bl false] /\ dueV oc = [.str x, .int i] := by cases oc <;> exact ⟨_, _, rfl, rfl⟩
  rw [e1] at ht
  rw [e2] at hd
  refine ⟨_, rfl, tl, _, _, _, rfl, rfl, SqL.of ht, atI_nat (j := 1) rfl, i, rfl, _, rfl, iteF ?_⟩
  refine ⟨_, rfl, tl, _, _, _, rfl, rfl, SqL.of ht, atI_nat (j := 0) rfl, _, rfl, dl, _, _, _, rfl, rfl, SqL.of hd, atI_nat (j := 0) rfl, rfl, _, rfl, ?_⟩
  rw [decide_eq_true rfl]
  refine iteT ?_
  refine ⟨_, rfl, tl, _, _, _, rfl, rfl, SqL.of ht, atI_nat (j := 1) rfl, _, rfl, dl, _, _, _, rfl, rfl, SqL.of hd, atI_nat (j := 1) rfl, rfl, _, rfl, ?_⟩
  rw [decide_eq_true rfl]
  refine iteT ?_
  refine ⟨_, rfl, tl, _, _, _, rfl, rfl, SqL.of ht, atI_nat (j := 2) rfl, _, rfl, iteT ?_⟩
  exact ⟨_, rfl, tl, _, _, _, rfl, rfl, SqL.of ht, atI_nat (j := 3) rfl, _, rfl, q⟩
def spDue36 (K : PySem.W.Frag) : Sp := fun vs H Q _ => ∃ (bl sl aL : Addr) (w : Nat) (x0 x1 x2 x3 pw : Int) (R : Rk) (S : Stt), vs = [.ref bl, .ref sl, .int w, .ref aL, .int pw] /\ w < 15 /\ H sl = some (.lst [.int R.P, .int R.S, .int R.L]) /\ H aL = some (.lst [.int x0, .int x1, .int x2, .int x3]) /\ Bds36 H bl R.P S /\ PwOk pw S /\ ∀ D H', H D = none -> Same H H' -> H' D = some (.lst (dueV (due36 R S w x0 x1 x2 x3))) -> Q (.ref D) H'
set_option maxHeartbeats 4000000 in
theorem ok_due (T : Txt K mg a) : FnOk P wo K mg base CX0 2 a.f_due a.d_due ["_law_boards", "_law_sizes", "_law_way", "_law_a", "_law_power"] (spDue36 K) := by
 have G_wrong : FnOk P wo K mg base CX0 1 _ _ _ _ := ok_wrong T
 refine T.F_due.ok (k := 1) sc_due (fun vs H Q E h => ?_) (fun cdv A outer s H vs Q E hr h => ?_)
 ·obtain ⟨bl, sl, aL, w, x0, x1, x2, x3, pw, R, S, rfl, _⟩ := h
  rfl
 ·obtain ⟨bl, sl, aL, w, x0, x1, x2, x3, pw, R, S, rfl, hw, hS, hA, ⟨ts, hbl, htl, hts⟩, hp, q⟩ := h
  refine ⟨_, (pss_cons (ps_if (PW.pt (pw_or (pt_cmpR op_eq (pv 2) pe_int (nomark _)) (pw_or1 (pt_cmpR op_eq (pv 2) pe_int (nomark _))))) (pss_one (ps_if (pt_not (pt_chain op_le op_lt pe_int (pe_ix ix_list (pv 3) pe_int (fun _ _ => rfl)) (pe_ix ix_list (pv 1) pe_int (fun _ _ => rfl)))) (pss_one (ps_ret (pe_lst (pa_cons pe_str (pa_cons (pe_ix ix_list (pv 3) pe_int (fun _ _ => rfl)) pa_nil))))) pss_nil)) (pss_one (ps_if (pt_not (pt_chain op_le op_lt pe_int (pe_ix ix_list (pv 3) pe_int (fun _ _ => rfl)) (pe_ix ix_list (pv 1) pe_int (fun _ _ => rfl)))) (pss_one (ps_ret (pe_lst (pa_cons pe_str (pa_cons (pe_ix ix_list (pv 3) pe_int (fun _ _ => rfl)) pa_nil))))) pss_nil)))
   (pss_cons (ps_if (PW.pt (pw_and (pt_cmpR op_in_seq (pv 2) (pe_tup (@pa_ints _ _ [3, 4, 5, 9, 10, 11, 12] (by kernel_rfl))) rfl) (pw_and1 (pt_not (pt_chain op_le op_lt pe_int (pe_ix ix_list (pv 3) pe_int (fun _ _ => rfl)) (pe_ix ix_list (pv 1) pe_int (fun _ _ => rfl))))))) (pss_one (ps_ret (pe_lst (pa_cons pe_str (pa_cons (pe_ix ix_list (pv 3) pe_int (fun _ _ => rfl)) pa_nil))))) pss_nil)
   (pss_cons (ps_if (PW.pt (pw_and (pt_cmpR op_eq (pv 2) pe_int (nomark _)) (pw_and1 (pt_not (pt_chain op_le op_le pe_int (pe_ix ix_list (pv 3) pe_int (fun _ _ => rfl)) pe_int))))) (pss_one (ps_ret (pe_lst (pa_cons pe_str (pa_cons pe_int pa_nil))))) pss_nil)
   (pss_cons (ps_if (PW.pt (pw_or (PW.pt (pw_and (pt_cmpR op_eq (pv 2) pe_int (nomark _)) (pw_and1 (pt_cmpR op_eq (pv 4) pe_int (nomark _))))) (pw_or1 (PW.pt (pw_and (pt_cmpR op_gt (pv 2) pe_int (nomark _)) (pw_and1 (pt_cmpR op_gt (pv 4) pe_int (nomark _)))))))) (pss_one (ps_ret (pe_lst (pa_cons pe_str (pa_cons pe_int pa_nil))))) pss_nil)
   (pss_cons (ps_if (PW.pt (pw_and (pt_cmpR op_ne (pv 2) pe_int (nomark _)) (pw_and (pt_cmpR op_ne (pv 2) pe_int (nomark _)) (pw_and1 (pt_val (pe_call G_wrong (hr.mono (by decide)) rfl T.m_wrong T.k_wrong T.b_wrong .nil pass0 (pa_cons (pe_ix ix_list (pv 0) (pe_ix ix_list (pv 3) pe_int (fun _ _ => rfl)) (fun _ _ => rfl)) (pa_cons (pv 2) (pa_cons (pe_ix ix_list (pv 3) pe_int (fun _ _ => rfl)) pa_nil))))))))) (pss_one (ps_ret (pe_lst (pa_cons pe_str (pa_cons (pe_ix ix_list (pv 3) pe_int (fun _ _ => rfl)) pa_nil))))) pss_nil)
   (pss_one (ps_ret (pe_lst (pa_cons pe_str (pa_cons pe_int pa_nil)))))))))), ?_⟩
  have yes : ∀ {m : Nat}, decide (V.int (w : Int) = V.int (m : Int)) = true -> w = m := fun z => by have := V.int.inj (of_decide_eq_true z); omega
  have no : ∀ {m : Nat}, ¬ decide (V.int (w : Int) = V.int (m : Int)) = true -> w ≠ m := fun z y => z (decide_eq_true (by rw [y]))
  have fin : ∀ (H1 : Hp) (D : Addr) (l : List V), Same H H1 -> H1 D = none -> dueV (due36 R S w x0 x1 x2 x3) = l -> Q (.ref D) (upd H1 D (.lst l)) := fun H1 D l s1 nD e => q D _ (s1.free nD) (s1.trans (Same.new nD)) (by rw [upd_same, e])
  have d1 : w = 12 \/ w = 13 -> ¬ inP R.L x2 -> due36 R S w x0 x1 x2 x3 = .place x2 := fun h c => by unfold due36; rw [if_pos h, if_neg c]
  have d2 : ¬ (w = 12 \/ w = 13) -> ¬ inP R.P x0 -> due36 R S w x0 x1 x2 x3 = .place x0 := fun h c => by unfold due36; rw [if_neg h, if_neg c]
  have d3 : (if w = 12 \/ w = 13 then inP R.L x2 else inP R.P x0) -> due36 R S w x0 x1 x2 x3 = rest0 R S w x0 x1 x3 := fun h => by
   unfold due36
   by_cases c : w = 12 \/ w = 13
   ·rw [if_pos c] at h ⊢; rw [if_pos h]
   ·rw [if_neg c] at h ⊢; rw [if_pos h]
  refine joinP (if w = 12 \/ w = 13 then inP R.L x2 else inP R.P x0) (fun k => by
   refine ⟨_, rfl, rfl, _, rfl, ite2 (fun h0 => ?_) (fun h0 => ?_)⟩
   ·have e := yes (m := 12) h0
    by_cases hi : inP R.L x2
    ·refine ⟨_, rfl, aL, _, _, _, rfl, rfl, SqL.of hA, atI_nat (j := 2) rfl, _, _, rfl, rfl, _, rfl, ite2 (fun _ => ⟨_, rfl, sl, _, _, _, rfl, rfl, SqL.of hS, atI_nat (j := 2) rfl, _, _, rfl, rfl, _, rfl, ?_⟩) (fun c => absurd (decide_eq_true hi.1) c)⟩
     rw [decide_eq_true hi.2]
     refine iteF ?_
     exact k (by rw [if_pos (Or.inl e)]; exact hi)
    ·have fb := fun D nD => fin H D [.str "place", .int x2] (Same.refl H) nD (by rw [d1 (.inl e) hi]; rfl)
     refine ⟨_, rfl, aL, _, _, _, rfl, rfl, SqL.of hA, atI_nat (j := 2) rfl, _, _, rfl, rfl, _, rfl, ite2 (fun c => ⟨_, rfl, sl, _, _, _, rfl, rfl, SqL.of hS, atI_nat (j := 2) rfl, _, _, rfl, rfl, _, rfl, ?_⟩) (fun c => ⟨_, rfl, iteT ⟨_, rfl, aL, _, _, _, rfl, rfl, SqL.of hA, atI_nat (j := 2) rfl, (show 2 <= sizeLine by decide), fb⟩⟩)⟩
     rw [decide_eq_false (fun z => hi ⟨of_decide_eq_true c, z⟩)]
     exact iteT ⟨_, rfl, aL, _, _, _, rfl, rfl, SqL.of hA, atI_nat (j := 2) rfl, (show 2 <= sizeLine by decide), fb⟩
   refine ⟨_, rfl, rfl, _, rfl, ite2 (fun h1 => ?_) (fun h1 => ?_)⟩
   ·have e := yes (m := 13) h1
    by_cases hi : inP R.L x2
    ·refine ⟨_, rfl, aL, _, _, _, rfl, rfl, SqL.of hA, atI_nat (j := 2) rfl, _, _, rfl, rfl, _, rfl, ite2 (fun _ => ⟨_, rfl, sl, _, _, _, rfl, rfl, SqL.of hS, atI_nat (j := 2) rfl, _, _, rfl, rfl, _, rfl, ?_⟩) (fun c => absurd (decide_eq_true hi.1) c)⟩
     rw [decide_eq_true hi.2]
     refine iteF ?_
     exact k (by rw [if_pos (Or.inr e)]; exact hi)
    ·have fb := fun D nD => fin H D [.str "place", .int x2] (Same.refl H) nD (by rw [d1 (.inr e) hi]; rfl)
     refine ⟨_, rfl, aL, _, _, _, rfl, rfl, SqL.of hA, atI_nat (j := 2) rfl, _, _, rfl, rfl, _, rfl, ite2 (fun c => ⟨_, rfl, sl, _, _, _, rfl, rfl, SqL.of hS, atI_nat (j := 2) rfl, _, _, rfl, rfl, _, rfl, ?_⟩) (fun c => ⟨_, rfl, iteT ⟨_, rfl, aL, _, _, _, rfl, rfl, SqL.of hA, atI_nat (j := 2) rfl, (show 2 <= sizeLine by decide), fb⟩⟩)⟩
     rw [decide_eq_false (fun z => hi ⟨of_decide_eq_true c, z⟩)]
     exact iteT ⟨_, rfl, aL, _, _, _, rfl, rfl, SqL.of hA, atI_nat (j := 2) rfl, (show 2 <= sizeLine by decide), fb⟩
   have e : ¬ (w = 12 \/ w = 13) := by
    have e1 := no (m := 12) h0
    have e2 := no (m := 13) h1
    omega
   by_cases hi : inP R.P x0
   ·refine ⟨_, rfl, aL, _, _, _, rfl, rfl, SqL.of hA, atI_nat (j := 0) rfl, _, _, rfl, rfl, _, rfl, ite2 (fun _ => ⟨_, rfl, sl, _, _, _, rfl, rfl, SqL.of hS, atI_nat (j := 0) rfl, _, _, rfl, rfl, _, rfl, ?_⟩) (fun c => absurd (decide_eq_true hi.1) c)⟩
    rw [decide_eq_true hi.2]
    refine iteF ?_
    exact k (by rw [if_neg e]; exact hi)
   ·have fb := fun D nD => fin H D [.str "place", .int x0] (Same.refl H) nD (by rw [d2 e hi]; rfl)
    refine ⟨_, rfl, aL, _, _, _, rfl, rfl, SqL.of hA, atI_nat (j := 0) rfl, _, _, rfl, rfl, _, rfl, ite2 (fun c => ⟨_, rfl, sl, _, _, _, rfl, rfl, SqL.of hS, atI_nat (j := 0) rfl, _, _, rfl, rfl, _, rfl, ?_⟩) (fun c => ⟨_, rfl, iteT ⟨_, rfl, aL, _, _, _, rfl, rfl, SqL.of hA, atI_nat (j := 0) rfl, (show 2 <= sizeLine by decide), fb⟩⟩)⟩
    rw [decide_eq_false (fun z => hi ⟨of_decide_eq_true c, z⟩)]
    exact iteT ⟨_, rfl, aL, _, _, _, rfl, rfl, SqL.of hA, atI_nat (j := 0) rfl, (show 2 <= sizeLine by decide), fb⟩) ?_
  intro ok1
  have d3 := d3 ok1
  rw [d3] at fin
  have w15 : w = 0 \/ w = 1 \/ w = 2 \/ w = 3 \/ w = 4 \/ w = 5 \/ w = 6 \/ w = 7 \/ w = 8 \/ w = 9 \/ w = 10 \/ w = 11 \/ w = 12 \/ w = 13 \/ w = 14 := by omega
  have ein : inV (V.int (w : Int)) ([3, 4, 5, 9, 10, 11, 12].map V.int) = decide (w ∈ [3, 4, 5, 9, 10, 11, 12]) := by
   rcases w15 with rfl | rfl | rfl | rfl | rfl | rfl | rfl | rfl | rfl | rfl | rfl | rfl | rfl | rfl | rfl <;> decide
  refine ⟨_, rfl, (show 7 <= sizeLine by decide), fun t1 nt1 => ?_⟩
  have st1 := Same.new (o := .tup ([3, 4, 5, 9, 10, 11, 12].map V.int)) nt1
  have ht1 : (upd H t1 (.tup ([3, 4, 5, 9, 10, 11, 12].map V.int))) t1 = some (.tup ([3, 4, 5, 9, 10, 11, 12].map V.int)) := upd_same
  generalize (upd H t1 (.tup ([3, 4, 5, 9, 10, 11, 12].map V.int))) = H1 at st1 ht1
  refine ⟨t1, _, rfl, .inr (SqT.of ht1), rfl, rfl, _, rfl, ?_⟩
  show if inV (V.int (w : Int)) ([3, 4, 5, 9, 10, 11, 12].map V.int) = true then _ else _
  rw [ein]
  clear ein
  have d4 : w ∈ [3, 4, 5, 9, 10, 11, 12] -> ¬ inP R.S x1 -> rest0 R S w x0 x1 x3 = .place x1 := fun h c => by unfold rest0; rw [if_pos h, if_neg c]
  have d5 : (w ∈ [3, 4, 5, 9, 10, 11, 12] -> inP R.S x1) -> rest0 R S w x0 x1 x3 = rest1 S w x0 x1 x3 := fun h => by
   unfold rest0
   by_cases c : w ∈ [3, 4, 5, 9, 10, 11, 12]
   ·rw [if_pos c, if_pos (h c)]
   ·rw [if_neg c]
  refine joinP (w ∈ [3, 4, 5, 9, 10, 11, 12] -> inP R.S x1) (fun k => by
   refine ite2 (fun c0 => ?_) (fun c0 => ?_)
   ·have e := of_decide_eq_true c0
    by_cases hi : inP R.S x1
    ·refine ⟨_, rfl, aL, _, _, _, rfl, rfl, SqL.of (st1 _ _ hA), atI_nat (j := 1) rfl, _, _, rfl, rfl, _, rfl, ite2 (fun _ => ⟨_, rfl, sl, _, _, _, rfl, rfl, SqL.of (st1 _ _ hS), atI_nat (j := 1) rfl, _, _, rfl, rfl, _, rfl, ?_⟩) (fun c => absurd (decide_eq_true hi.1) c)⟩
     rw [decide_eq_true hi.2]
     refine iteF ?_
     exact k (fun _ => hi)
    ·have fb := fun D nD => fin H1 D [.str "place", .int x1] st1 nD (by rw [d4 e hi]; rfl)
     refine ⟨_, rfl, aL, _, _, _, rfl, rfl, SqL.of (st1 _ _ hA), atI_nat (j := 1) rfl, _, _, rfl, rfl, _, rfl, ite2 (fun c => ⟨_, rfl, sl, _, _, _, rfl, rfl, SqL.of (st1 _ _ hS), atI_nat (j := 1) rfl, _, _, rfl, rfl, _, rfl, ?_⟩) (fun c => ⟨_, rfl, iteT ⟨_, rfl, aL, _, _, _, rfl, rfl, SqL.of (st1 _ _ hA), atI_nat (j := 1) rfl, (show 2 <= sizeLine by decide), fb⟩⟩)⟩
     rw [decide_eq_false (fun z => hi ⟨of_decide_eq_true c, z⟩)]
     exact iteT ⟨_, rfl, aL, _, _, _, rfl, rfl, SqL.of (st1 _ _ hA), atI_nat (j := 1) rfl, (show 2 <= sizeLine by decide), fb⟩
   ·exact iteF (k (fun e => absurd (decide_eq_true e) c0))) ?_
  intro ok2
  rw [d5 ok2] at fin
  clear d5 d4
  have d6 : w = 2 -> ¬ (2 <= x3 /\ x3 <= 9) -> rest1 S w x0 x1 x3 = .shape := fun h c => by unfold rest1; rw [if_pos h, if_neg c]
  have d7 : (w = 2 -> 2 <= x3 /\ x3 <= 9) -> rest1 S w x0 x1 x3 = rest2 S w x0 x1 := fun h => by
   unfold rest1
   by_cases c : w = 2
   ·rw [if_pos c, if_pos (h c)]
   ·rw [if_neg c]
  refine joinP (w = 2 -> 2 <= x3 /\ x3 <= 9) (fun k => by
   refine ⟨_, rfl, rfl, _, rfl, ite2 (fun h0 => ?_) (fun h0 => iteF (k (fun e => absurd e (no (m := 2) h0))))⟩
   have e := yes (m := 2) h0
   have fb : ¬ (2 ≤ x3 ∧ x3 ≤ 9) → ∀ D, H1 D = none → Q (.ref D) (upd H1 D (.lst [.str "shape", .int 0])) := fun c D nD => fin H1 D _ st1 nD (by rw [d6 e c]; rfl)
   refine ⟨_, rfl, aL, _, _, _, rfl, rfl, SqL.of (st1 _ _ hA), atI_nat (j := 3) rfl, _, _, rfl, rfl, _, rfl, ite2 (fun c => ⟨_, _, rfl, rfl, _, rfl, ?_⟩) (fun c => ⟨_, rfl, iteT ⟨(show 2 <= sizeLine by decide), fb (fun z => c (decide_eq_true z.1))⟩⟩)⟩
   by_cases c2 : x3 <= 9
   ·rw [decide_eq_true c2]
    exact iteF (k fun _ => ⟨of_decide_eq_true c, c2⟩)
   ·rw [decide_eq_false c2]
    exact iteT ⟨(show 2 <= sizeLine by decide), fb (fun z => c2 z.2)⟩) ?_
  intro ok3
  rw [d7 ok3] at fin
  clear d6 d7
  have d8 : (w = 10 /\ S.g = true) \/ (10 < w /\ powB S = false) -> rest2 S w x0 x1 = .power := fun h => by
   unfold rest2
   rcases h with ⟨h, c⟩ | ⟨h, c⟩
   ·rw [if_pos h, if_pos c]
   ·rw [if_neg (by omega), if_pos h, if_neg (by rw [c]; decide)]
  have d9 : ¬ ((w = 10 /\ S.g = true) \/ (10 < w /\ powB S = false)) -> rest2 S w x0 x1 = rest3 S w x0 x1 := fun h => by
   unfold rest2
   by_cases c : w = 10
   ·rw [if_pos c, if_neg (fun z => h (.inl ⟨c, z⟩))]
   ·rw [if_neg c]
    by_cases c2 : 10 < w
    ·rw [if_pos c2]
     cases hb : powB S with
     | true => rw [if_pos rfl]
     | false => exact absurd (.inr ⟨c2, hb⟩) h
    ·rw [if_neg c2]
  refine joinP (¬ ((w = 10 /\ S.g = true) \/ (10 < w /\ powB S = false))) (fun k => by
   have fb : (w = 10 ∧ S.g = true) ∨ (10 < w ∧ powB S = false) → ∀ D, H1 D = none → Q (.ref D) (upd H1 D (.lst [.str "power", .int 0])) := fun c D nD => fin H1 D _ st1 nD (by rw [d8 c]; rfl)
   refine ⟨_, rfl, rfl, _, rfl, ite2 (fun h0 => ?_) (fun h0 => ?_)⟩
   ·have e := yes (m := 10) h0
    refine ⟨_, rfl, rfl, _, rfl, ite2 (fun h1 => ?_) (fun h1 => ?_)⟩
    ·have e2 : pw = 2 := V.int.inj (of_decide_eq_true h1)
     refine iteT ⟨(show 2 <= sizeLine by decide), fb (.inl ⟨e, ?_⟩)⟩
     rcases hp with ⟨z, _⟩ | ⟨z, _⟩ | ⟨_, z, _⟩
     ·omega
     ·omega
     ·exact z
    ·refine ⟨_, rfl, _, _, rfl, rfl, _, rfl, ite2 (fun h2 => absurd (of_decide_eq_true h2) (by omega)) (fun h2 => iteF (k ?_))⟩
     rintro (⟨_, z⟩ | ⟨z, _⟩)
     ·rcases hp with ⟨_, y, _⟩ | ⟨_, y, _⟩ | ⟨y, _⟩
      ·exact Bool.noConfusion (y.symm.trans z)
      ·exact Bool.noConfusion (y.symm.trans z)
      ·exact h1 (decide_eq_true (by rw [y]))
     ·omega
   ·have e := no (m := 10) h0
    refine ⟨_, rfl, _, _, rfl, rfl, _, rfl, ite2 (fun h1 => ?_) (fun h1 => iteF (k ?_))⟩
    ·have e1 : 10 < w := by have := of_decide_eq_true h1; omega
     refine ⟨_, rfl, _, _, rfl, rfl, _, rfl, ite2 (fun h2 => ?_) (fun h2 => ?_)⟩
     ·have e2 : 0 < pw := of_decide_eq_true h2
      refine ⟨(show 2 <= sizeLine by decide), fb (.inr ⟨e1, ?_⟩)⟩
      rcases hp with ⟨y, _⟩ | ⟨_, _, y⟩ | ⟨_, _, y⟩
      ·omega
      ·exact y
      ·exact y
     ·refine k ?_
      rintro (⟨z, _⟩ | ⟨_, z⟩)
      ·exact e z
      ·rcases hp with ⟨_, _, y⟩ | ⟨y, _⟩ | ⟨y, _⟩
       ·exact Bool.noConfusion (y.symm.trans z)
       ·exact h2 (decide_eq_true (by omega))
       ·exact h2 (decide_eq_true (by omega))
    ·rintro (⟨z, _⟩ | ⟨z, _⟩)
     ·exact e z
     ·exact h1 (decide_eq_true (by omega))) ?_
  intro ok4
  rw [d9 ok4] at fin
  clear d8 d9
  have fd : rest3 S w x0 x1 = .done → ∀ D, H1 D = none → Q (.ref D) (upd H1 D (.lst [.str "done", .int 0])) := fun e D nD => fin H1 D _ st1 nD (by rw [e]; rfl)
  have dn : (w = 12 \/ w = 13) -> rest3 S w x0 x1 = .done := fun h => by unfold rest3; rw [if_pos h]
  by_cases e12 : w = 12
  ·refine ⟨_, rfl, rfl, _, rfl, ite2 (fun h0 => absurd h0 (ne_off (by rw [e12]; rfl))) (fun h0 => iteF ⟨(show 2 <= sizeLine by decide), fd (dn (.inl e12))⟩)⟩
  refine ⟨_, rfl, rfl, _, rfl, ite2 (fun _ => ?_) (fun h0 => absurd (show (!decide (V.int (w : Int) = V.int 12)) = true by rw [decide_eq_false (fun z => e12 (by have := V.int.inj z; omega))]; rfl) h0)⟩
  by_cases e13 : w = 13
  ·refine ⟨_, rfl, rfl, _, rfl, ite2 (fun h0 => absurd h0 (ne_off (by rw [e13]; rfl))) (fun h0 => iteF ⟨(show 2 <= sizeLine by decide), fd (dn (.inr e13))⟩)⟩
  refine ⟨_, rfl, rfl, _, rfl, ite2 (fun _ => ?_) (fun h0 => absurd (show (!decide (V.int (w : Int) = V.int 13)) = true by rw [decide_eq_false (fun z => e13 (by have := V.int.inj z; omega))]; rfl) h0)⟩
  rw [if_neg (by omega)] at ok1
  obtain ⟨i, rfl, hi⟩ := goP ok1
  obtain ⟨t, et⟩ : ∃ t, ts[i]? = some t := ⟨ts[i]'(by omega), List.getElem?_eq_getElem (by omega)⟩
  obtain ⟨vs, hv, hb⟩ := hts i t et
  have h34 : (w = 3 \/ w = 4) -> 0 <= x1 := fun h => (ok2 (by rcases h with rfl | rfl <;> decide)).1
  refine ⟨_, rfl, _, rfl, aL, _, _, _, rfl, rfl, SqL.of (st1 _ _ hA), atI_nat (j := 0) rfl, bl, _, _, _, rfl, rfl, SqL.of (st1 _ _ hbl), atI_nat (refs_at et), _, rfl, _, rfl, aL, _, _, _, rfl, rfl, SqL.of (st1 _ _ hA), atI_nat (j := 1) rfl, t, w, x1, (S.B i).1, vs, rfl, st1 _ _ hv, hb, h34, _, rfl, ?_⟩
  have dw : rest3 S w (i : Int) x1 = if wrg (S.B i).1 w x1 = true then .wrong (i : Int) else .done := by
   unfold rest3
   rw [if_neg (by omega)]
   rfl
  refine ite2 (fun h => ?_) (fun h => ?_)
  ·exact ⟨_, rfl, aL, _, _, _, rfl, rfl, SqL.of (st1 _ _ hA), atI_nat (j := 0) rfl, (show 2 <= sizeLine by decide), fun D nD => fin H1 D _ st1 nD (by rw [dw, if_pos h]; rfl)⟩
  ·exact ⟨(show 2 <= sizeLine by decide), fd (by rw [dw, if_neg h])⟩
end
def Flat (v : V) : Prop := (∃ i, v = .int i) \/ ∃ s, v = .str s
theorem flat_add {evs : List (List V)} {ev : List V} (h : ∀ e ∈ evs, ∀ v ∈ e, Flat v) (h2 : ∀ v ∈ ev, Flat v) : ∀ e ∈ evs ++ [ev], ∀ v ∈ e, Flat v := fun e he v hv => by
 rcases List.mem_append.mp he with z | z
 ·exact h e z v hv
 ·rw [List.mem_singleton.mp z] at hv
  exact h2 v hv
structure Bt (a : Adr) (H0 H : Hp) (R : Rk) (S : Stt) (xl sl D : Addr) (xs : List Int) (p s l j n : Nat) (kd : Kd) (ts : List Addr) : Prop where
 fr : FR a H R S
 rp : R.P = p
 rs : R.S = s
 rl : R.L = l
 hx : H xl = some (.lst (xs.map V.int))
 xo : xl ∉ R.O
 hs : H sl = some (.lst [.int p, .int s, .int l])
 so : sl ∉ R.O
 d : H D = some (.lst (ts.map V.ref))
 dO : D ∉ R.O
 xd : xl ≠ D
 sd : sl ≠ D
 d0 : H0 D = none
 len : ts.length = j
 tup : ∀ (i : Nat) t, ts[i]? = some t -> ∃ vs, H t = some (.tup vs) /\ BdV (S.B i).1 vs
 up : ∀ i, j < i -> (S.B i).1 = .whole
 at_ : (S.B j).1 = kd
 g : S.g = false
 lf : S.l = none
 ev : S.evs.length <= n
 fl : ∀ e ∈ S.evs, ∀ v ∈ e, Flat v
 ow : ∀ b ∈ R.O, H0 b = none
 sm : Same H0 H
theorem Bt.go {a : Adr} {H0 H H' : Hp} {R R' : Rk} {S S' : Stt} {xl sl D : Addr} {xs : List Int} {p s l j n n' : Nat} {kd kd' : Kd} {ts : List Addr} (b : Bt a H0 H R S xl sl D xs p s l j n kd ts) (e : Ev R R' H H') (f : FR a H' R' S') (hg : S'.g = false) (hl : S'.l = none) (he : S'.evs.length <= n') (hf : ∀ e ∈ S'.evs, ∀ v ∈ e, Flat v) (hB : ∀ i, i ≠ j -> (S'.B i).1 = (S.B i).1) (hk : (S'.B j).1 = kd') : Bt a H0 H' R' S' xl sl D xs p s l j n' kd' ts := by
 refine ⟨f, e.P.trans b.rp, e.S.trans b.rs, e.L.trans b.rl, (e.ext b.xo b.hx).1, (e.ext b.xo b.hx).2, (e.ext b.so b.hs).1, (e.ext b.so b.hs).2, (e.ext b.dO b.d).1, (e.ext b.dO b.d).2, b.xd, b.sd, b.d0, b.len, fun i t et => ?_, fun i hi => ?_, hk, hg, hl, he, hf, fun x hx => ?_, fun x o ho => ?_⟩
 ·obtain ⟨vs, h1, h2⟩ := b.tup i t et
  refine ⟨vs, (e.ext (fun z => b.fr.nt t z vs h1) h1).1, ?_⟩
  have : i < j := by rw [<- b.len]; exact (List.getElem?_eq_some_iff.mp et).1
  rw [hB i (by omega)]
  exact h2
 ·rw [hB i (by omega)]
  exact b.up i hi
 ·rcases e.own x hx with z | z
  ·exact b.ow x z
  ·exact b.sm.free z
 ·exact (e.ext (fun z => by rw [b.ow x z] at ho; cases ho) (b.sm _ _ ho)).1
theorem Bt.same {a : Adr} {H0 H H' : Hp} {R : Rk} {S : Stt} {xl sl D : Addr} {xs : List Int} {p s l j n : Nat} {kd : Kd} {ts : List Addr} (b : Bt a H0 H R S xl sl D xs p s l j n kd ts) (e : Same H H') : Bt a H0 H' R S xl sl D xs p s l j n kd ts := b.go (Ev.of e) (b.fr.same e) b.g b.lf b.ev b.fl (fun _ _ => rfl) b.at_
theorem Bt.add {a : Adr} {H0 H H' : Hp} {R : Rk} {S : Stt} {xl sl D t : Addr} {xs : List Int} {p s l j n : Nat} {kd : Kd} {ts : List Addr} {vs : List V} (b : Bt a H0 H R S xl sl D xs p s l j n kd ts) (k : KB [D] H H') (hd : H' D = some (.lst ((ts ++ [t]).map V.ref))) (ht : H' t = some (.tup vs)) (hv : BdV kd vs) : Bt a H0 H' R S xl sl D xs p s l (j + 1) n .whole (ts ++ [t]) := by
 have nd : ∀ x ∈ [D], x ∉ R.O := fun x hx => by rw [List.mem_singleton.mp hx]; exact b.dO
 have nt : ∀ x ∈ [D], ∀ ys, H x ≠ some (.tup ys) := fun x hx ys z => by rw [List.mem_singleton.mp hx, b.d] at z; cases z
 have ne : ∀ x : Addr, x ≠ D -> x ∉ [D] := fun x hx z => hx (List.mem_singleton.mp z)
 refine ⟨b.fr.keep k nd nt, b.rp, b.rs, b.rl, k _ _ (ne _ b.xd) b.hx, b.xo, k _ _ (ne _ b.sd) b.hs, b.so, hd, b.dO, b.xd, b.sd, b.d0, by rw [List.length_append, b.len]; rfl, fun i t' et => ?_, fun i hi => b.up i (by omega), b.up _ (by omega), b.g, b.lf, b.ev, b.fl, b.ow, fun x o ho => k _ _ (ne x fun z => by rw [z, b.d0] at ho; cases ho) (b.sm _ _ ho)⟩
 rw [List.getElem?_append] at et
 split at et
 ·obtain ⟨vs', h1, h2⟩ := b.tup i t' et
  exact ⟨vs', k _ _ (ne _ fun z => by rw [z, b.d] at h1; cases h1) h1, h2⟩
 ·rename_i hi
  have ej : i - ts.length = 0 := by
   have := (List.getElem?_eq_some_iff.mp et).1
   have : i - ts.length < 1 := this
   omega
  rw [ej] at et
  cases Option.some.inj et
  have : i = j := by rw [<- b.len]; omega
  rw [this, b.at_]
  exact ⟨vs, ht, hv⟩
theorem set_at {B : Bds} {j i : Nat} {b : Kd × (Nat -> Option Int)} (h : i ≠ j) : (setB B j b i).1 = (B i).1 := by unfold setB; rw [if_neg h]
theorem set_is {B : Bds} {j : Nat} {b : Kd × (Nat -> Option Int)} : (setB B j b j).1 = b.1 := by unfold setB; rw [if_pos rfl]
theorem joinK {F : Option V -> Hp -> Prop} {G : Prop} (Pz : Option V -> Hp -> Prop) (h : (∀ v H, Pz v H -> F v H) -> G) (key : ∀ v H, Pz v H -> F v H) : G := h key
section
variable {P : Program} {wo : World} {K : PySem.W.Frag} {mg : Str -> Option Value} {base : Heap} {a : Adr}
def spBuilt (a : Adr) : Sp := fun vs H Q _ => ∃ (xl sl : Addr) (xs : List Int) (p s l : Nat), vs = [.ref xl, .ref sl] /\ H xl = some (.lst (xs.map V.int)) /\ xs.length = 8 /\ (∀ x ∈ xs, 0 <= x /\ x < 4611686018427387904) /\ H sl = some (.lst [.int p, .int s, .int l]) /\ 2 <= p /\ p <= 8 /\ 1 <= s /\ s <= 5 /\ 1 <= l /\ l <= 8 ∧
 ∀ (R : Rk) (S : Stt) (D t : Addr) (ts : List Addr) H', Bt a H H' R S xl sl D xs p s l p (1 + 6 * p) .whole ts -> H' t = some (.tup [.ref R.rk, .ref D]) -> Q (.ref t) H'
set_option maxHeartbeats 4000000 in
theorem ok_built (T : Txt K mg a) : FnOk P wo K mg base CX0 7 a.f_built a.d_built ["_law_xs", "_law_sizes"] (spBuilt a) := by
 have G_Rack_init : FnOk P wo K mg base (CXe P wo) 5 _ _ _ _ := (ok_Rack_init T).mono (by decide)
 have G_Rack_note : FnOk P wo K mg base (CXe P wo) 6 _ _ _ _ := (ok_Rack_note T).mono (by decide)
 have G_Rack_make_slow : FnOk P wo K mg base (CXe P wo) 6 _ _ _ _ := (ok_Rack_make_slow T).mono (by decide)
 have G_Rack_lose : FnOk P wo K mg base (CXe P wo) 6 _ _ _ _ := (ok_Rack_lose T).mono (by decide)
 have G_Rack_put_spare : FnOk P wo K mg base (CXe P wo) 6 _ _ _ _ := (ok_Rack_put_spare T).mono (by decide)
 have G_Rack_move_mark : FnOk P wo K mg base (CXe P wo) 6 _ _ _ _ := (ok_Rack_move_mark T).mono (by decide)
 refine T.F_built.ok (k := 6) sc_built (fun vs H Q E h => ?_) (fun cdv A outer s H vs Q E hr h => ?_)
 ·obtain ⟨xl, sl, xs, p, s, l, rfl, _⟩ := h
  rfl
 ·obtain ⟨xl, sl, xs, p, s, l, rfl, hx, hxl, hxb, hs, p1, p2, s1, s2, l1, l2, q⟩ := h
  refine ⟨_, (pss_cons (ps_set (i := 2) sc_built.nd rfl (Or.inl rfl) (pe_make T.mk_Rack G_Rack_init (hr.mono (by decide)) rfl T.m_Rack T.b_Rack_init .nil passE0 (pa_cons (pe_ix ix_list (pv 1) pe_int (fun _ _ => rfl)) (pa_cons (pe_ix ix_list (pv 1) pe_int (fun _ _ => rfl)) (pa_cons (pe_ix ix_list (pv 1) pe_int (fun _ _ => rfl)) pa_nil)))))
   (pss_cons (ps_expr (pe_meth (pv 2) T.cl_Rack T.me_Rack_note G_Rack_note (hr.mono (by decide)) T.b_Rack_note .nil passE0 (pa_cons pe_int (pa_cons pe_int (pa_cons (pe_lst (pa_cons (pe_tup (pa_cons pe_int (pa_cons pe_int pa_nil))) pa_nil)) pa_nil)))))
   (pss_cons (ps_set (i := 3) sc_built.nd rfl (Or.inl rfl) (pe_lst pa_nil))
   (pss_cons (ps_for PassesOwn.never rfl (pi_range1 rfl T.n_range (pa_cons (pe_ix ix_list (pv 1) pe_int (fun _ _ => rfl)) pa_nil)) (pg_name (i := 4) sc_built.nd rfl (Or.inl rfl)) (pss_cons (ps_set (i := 5) sc_built.nd rfl (Or.inl rfl) (pe_op op_mod (pe_ix ix_list (pv 0) (pv 4) (fun _ _ => rfl)) pe_int))
   (pss_cons (ps_set (i := 6) sc_built.nd rfl (Or.inl rfl) (pe_op op_mod (pe_op op_fdiv (pe_ix ix_list (pv 0) (pv 4) (fun _ _ => rfl)) pe_int) (pe_ix ix_list (pv 1) pe_int (fun _ _ => rfl))))
   (pss_cons (ps_if (pt_cmpR op_eq (pv 5) pe_int (nomark _)) (pss_one (ps_expr (pe_meth (pv 2) T.cl_Rack T.me_Rack_make_slow G_Rack_make_slow (hr.mono (by decide)) T.b_Rack_make_slow .nil passE0 (pa_cons (pv 4) (pa_cons (pe_op op_add pe_int (pe_op op_mod (pe_op op_fdiv (pe_ix ix_list (pv 0) (pv 4) (fun _ _ => rfl)) pe_int) pe_int)) pa_nil))))) pss_nil)
   (pss_cons (ps_if (pt_cmpR op_gt (pv 5) pe_int (nomark _)) (pss_one (ps_expr (pe_meth (pv 2) T.cl_Rack T.me_Rack_lose G_Rack_lose (hr.mono (by decide)) T.b_Rack_lose .nil passE0 (pa_cons (pv 4) pa_nil)))) pss_nil)
   (pss_cons (ps_if (pt_cmpR op_eq (pv 5) pe_int (nomark _)) (pss_cons (ps_expr (pe_meth (pv 2) T.cl_Rack T.me_Rack_put_spare G_Rack_put_spare (hr.mono (by decide)) T.bd_Rack_put_spare (.cons (show RelV V.non Value.none from rfl) .nil) passE0 (pa_cons (pv 4) pa_nil)))
   (pss_one (ps_for PassesOwn.never rfl (pi_range1 rfl T.n_range (pa_cons (pv 6) pa_nil)) (pg_name (i := 7) sc_built.nd rfl (Or.inl rfl)) (pss_one (ps_expr (pe_meth (pv 2) T.cl_Rack T.me_Rack_move_mark G_Rack_move_mark (hr.mono (by decide)) T.b_Rack_move_mark .nil passE0 (pa_cons (pv 4) pa_nil))))))) pss_nil)
   (pss_one (ps_expr (pe_bm PySem.F.plainAttrs_list PySem.F.slot_list_append PySem.F.type_list_append mt_append (pv 3) (pa_cons (pe_tup (pa_cons (pe_ix ix_list (pe_lst (pa_cons pe_str (pa_cons pe_str (pa_cons pe_str (pa_cons pe_str pa_nil))))) (pv 5) (fun _ _ => rfl)) (pa_cons (pv 6) pa_nil))) pa_nil))))))))))
   (pss_one (ps_ret (pe_tup (pa_cons (pv 2) (pa_cons (pv 3) pa_nil))))))))), ?_⟩
  refine ⟨_, rfl, sl, _, _, _, rfl, rfl, SqL.of hs, atI_nat (j := 0) rfl, _, rfl, sl, _, _, _, rfl, rfl, SqL.of hs, atI_nat (j := 1) rfl, _, rfl, sl, _, _, _, rfl, rfl, SqL.of hs, atI_nat (j := 2) rfl, fun x dx nx ndx nex => ?_⟩
  refine .inl ⟨x, dx, p, s, l, rfl, upd_same, p1, p2, s1, by omega, l1, l2, fun R H1 e1 e2 e3 e4 k1 f1 o1 => ⟨rfl, ?_⟩⟩
  have sm1 : Same H H1 := fun b o e => k1 b o (ne_of_none e nx) (by rw [upd_ne (ne_of_none e nx), upd_ne (ne_of_none e ndx)]; exact e)
  have ow1 : ∀ b ∈ R.O, H b = none := fun b hb => by
   rcases o1 b hb with z | z
   ·rw [z]; exact nx
   ·by_cases y : H b = none
    ·exact y
    ·exfalso
     obtain ⟨o, ho⟩ := Option.ne_none_iff_exists'.mp y
     rw [upd_ne (ne_of_none ho nx), upd_ne (ne_of_none ho ndx), ho] at z
     cases z
  subst e1
  clear k1 o1
  obtain ⟨dr, hr1⟩ := id f1.ins
  refine ⟨_, rfl, R.rk, dr, _, rfl, hr1, rfl, (show 2 <= sizeLine by decide), fun t nt => ⟨(show 1 <= sizeLine by decide), fun pl npl => ?_⟩⟩
  have s2' := (Same.new (o := .tup [V.int 1, V.int 4]) nt).trans (Same.new (o := .lst [V.ref t]) npl)
  have hp : PairsAt (upd (upd H1 t (.tup [V.int 1, V.int 4])) pl (.lst [V.ref t])) pl [(1, 4)] := ⟨[t], upd_same, rfl, fun i b e => by
   match i, e with
   | 0, e => cases e; exact ⟨1, 4, rfl, (Same.new npl) _ _ upd_same⟩
   | k + 1, e => cases e⟩
  generalize (upd (upd H1 t (.tup [V.int 1, V.int 4])) pl (.lst [V.ref t])) = H2 at s2' hp
  refine ⟨R, S0, _, _, pl, [(1, 4)], rfl, f1.same s2', (by decide), hp, .inl ⟨0, 0, rfl, rfl, by omega, by omega, fun z => absurd (show Pow S0 from ⟨rfl, fun z h => nomatch h⟩) z, fun _ R3 H3 ev3 f3 => ?_⟩⟩
  have E3 := (Ev.of s2').trans ev3
  refine ⟨(show 0 <= sizeLine by decide), fun D nD => ?_⟩
  have xo : ∀ {b o}, H b = some o -> b ∉ R.O := fun {b o} e z => by rw [ow1 b z] at e; cases e
  have B0 : Bt a H (upd H3 D (.lst [])) R3 ((S0.noted 0 (some ((0 : Nat), [(1, 4)]))).spend [.str "note", .int (0 : Nat), .int (0 : Nat)]) xl sl D xs p s l 0 (1 + 6 * 0) .whole [] := by
   have hx3 := E3.ext (xo hx) (sm1 _ _ hx)
   have hs3 := E3.ext (xo hs) (sm1 _ _ hs)
   have sD := Same.new (o := .lst []) nD
   refine ⟨f3.same sD, E3.P.trans e2, E3.S.trans e3, E3.L.trans e4, sD _ _ hx3.1, hx3.2, sD _ _ hs3.1, hs3.2, upd_same, f3.nO nD, ne_of_none hx3.1 nD, ne_of_none hs3.1 nD, ?_, rfl, (fun i t e => by rw [List.getElem?_nil] at e; cases e), fun i _ => rfl, rfl, rfl, rfl, by show 1 <= 1; decide, ?_, fun b hb => ?_, fun b o e => sD _ _ (E3.ext (xo e) (sm1 _ _ e)).1⟩
   ·by_cases y : H D = none
    ·exact y
    ·exfalso
     obtain ⟨o, ho⟩ := Option.ne_none_iff_exists'.mp y
     rw [(E3.ext (xo ho) (sm1 _ _ ho)).1] at nD
     cases nD
   ·intro e he v hv
    have he : e ∈ [[V.str "note", V.int ((0 : Nat) : Int), V.int ((0 : Nat) : Int)]] := he
    rw [List.mem_singleton.mp he] at hv
    rcases List.mem_cons.mp hv with z | hv
    ·exact .inr ⟨_, z⟩
    rcases List.mem_cons.mp hv with z | hv
    ·exact .inl ⟨_, z⟩
    exact .inl ⟨_, List.mem_singleton.mp hv⟩
   ·rcases E3.own b hb with z | z
    ·exact ow1 b z
    ·exact sm1.free z
  have rk3 : R3.rk = R.rk := E3.rk
  generalize (upd H3 D (.lst [])) = H4 at B0
  clear hp nD f3 ev3 E3 hr1 f1 sm1 ow1 xo npl nt s2' nx ndx nex
  generalize ((S0.noted 0 (some ((0 : Nat), [(1, 4)]))).spend [.str "note", .int (0 : Nat), .int (0 : Nat)]) = S3 at B0
  generalize R.rk = rk at rk3 ⊢
  refine ⟨_, rfl, sl, _, _, _, rfl, rfl, SqL.of B0.hs, atI_nat (j := 0) rfl, _, rfl, by omega, by omega, for_range (lo := 0) (n := p) (fun i σ H' => ∃ (R' : Rk) (S' : Stt) (ts : List Addr) (v4 v5 v6 v7 : Option V), σ = [some (.ref xl), some (.ref sl), some (.ref rk), some (.ref D), v4, v5, v6, v7] /\ R'.rk = rk /\ Bt a H H' R' S' xl sl D xs p s l i (1 + 6 * i) .whole ts) ⟨R3, S3, [], none, none, none, none, rfl, rk3, B0⟩ ?_ ?_⟩
  ·rintro j σ H5 hj ⟨R5, S5, ts, v4, v5, v6, v7, rfl, rk5, b⟩
   obtain ⟨y, ey⟩ : ∃ y, xs[j]? = some y := ⟨xs[j]'(by omega), List.getElem?_eq_getElem (by omega)⟩
   have hy := hxb y (List.mem_of_getElem? ey)
   have ey' : (xs.map V.int)[j]? = some (.int y) := by rw [List.getElem?_map, ey]; rfl
   obtain ⟨w, hw, ew⟩ : ∃ w : Nat, w < 4 /\ y % 4 = (w : Int) := modN y (n := 4) (by decide)
   obtain ⟨m, hm, em⟩ := modN (y / 4) (n := s) (by omega)
   rw [Int.zero_add]
   subst rk5
   have jP : j < R5.P := by rw [b.rp]; omega
   have s0 : (0 : Int) < (s : Int) := by omega
   obtain ⟨dr, hr5⟩ := id b.fr.ins
   have pw : Pow S5 := ⟨b.g, fun z h => by rw [b.lf] at h; cases h⟩
   refine ⟨_, rfl, _, rfl, xl, _, _, _, rfl, rfl, SqL.of b.hx, atI_nat ey', _, _, rfl, rfl, p0 (by decide), ?_⟩
   try dsimp only
   rw [ew]
   refine ⟨_, rfl, _, rfl, xl, _, _, _, rfl, rfl, SqL.of b.hx, atI_nat ey', _, _, rfl, rfl, ⟨by decide, by decide⟩, _, rfl, sl, _, _, _, rfl, rfl, SqL.of b.hs, atI_nat (j := 1) rfl, _, _, rfl, rfl, p0 s0, ?_⟩
   try dsimp only
   rw [em]
   have wl : [V.str "whole", V.str "slow", V.str "lost", V.str "spare"][w]? = some (V.str ((["whole", "slow", "lost", "spare"] : List Str).getD w "")) := by
    have : w = 0 \/ w = 1 \/ w = 2 \/ w = 3 := by omega
    rcases this with e | e | e | e <;> rw [e] <;> rfl
   refine joinK (fun v H6 => ∃ (R6 : Rk) (S6 : Stt) (kd : Kd), R6.rk = R5.rk ∧ Bt a H H6 R6 S6 xl sl D xs p s l j (1 + 6 * (j + 1)) kd ts ∧ BdV kd [.str ((["whole", "slow", "lost", "spare"] : List Str).getD w ""), .int m]) (fun k => by
    have w3 : w = 3 \/ w = 0 \/ w = 1 \/ w = 2 := by omega
    have nl : ¬ (S5.B j).1.isLost = true := by rw [b.at_]; exact Bool.false_ne_true
    rcases w3 with e | e | e | e
    ·refine ⟨_, rfl, rfl, _, rfl, ite2 (fun z => absurd (V.int.inj (of_decide_eq_true z)) (by omega)) (fun _ => ?_)⟩
     refine ⟨_, rfl, _, _, rfl, rfl, _, rfl, ite2 (fun _ => ?_) (fun z => absurd (decide_eq_true (show (1 : Int) < (w : Int) by omega)) z)⟩
     refine ⟨_, rfl, R5.rk, dr, _, rfl, hr5, rfl, _, rfl, R5, S5, _, rfl, b.fr, .inl ⟨j, rfl, jP, fun z => absurd z nl, fun _ R1 H1 ev1 f1 => ?_⟩⟩
     have b1 := b.go (n' := 1 + 6 * j) (kd' := .lost) ev1 f1 b.g b.lf b.ev b.fl (fun i hi => set_at hi) set_is
     refine ⟨_, rfl, rfl, _, rfl, ite2 (fun _ => ?_) (fun z => absurd (decide_eq_true (by rw [e]; rfl)) z)⟩
     obtain ⟨d1, hr1⟩ := id b1.fr.ins
     have jP1 : j < R1.P := by rw [b1.rp]; omega
     rw [ev1.rk] at hr1
     refine ⟨_, rfl, R5.rk, d1, _, rfl, hr1, rfl, _, rfl, R1, _, .int j, .non, fun _ => none, by rw [ev1.rk]; rfl, b1.fr, .inl ⟨rfl, rfl⟩, .inl ⟨j, rfl, jP1, fun z => absurd (show ((S5.kind j .lost (fun _ => none)).B j).1.isLost = true by rw [b1.at_]; rfl) (by rw [z]; exact Bool.false_ne_true), fun _ R2 H2 ev2 f2 => ?_⟩⟩
     have b2 := b1.go (n' := 1 + 6 * j + 0) (kd' := .spare 0) ev2 f2 b1.g b1.lf b1.ev b1.fl (fun i hi => set_at hi) set_is
     have rk2 : R2.rk = R5.rk := ev2.rk.trans ev1.rk
     generalize ((S5.kind j .lost (fun _ => none)).kind j (.spare 0) fun _ => none) = S2 at b2
     clear f2 f1 ev1 ev2 b1 hr1
     refine ⟨_, rfl, _, rfl, by omega, by omega, for_range (lo := 0) (n := m) (fun i σ H' => ∃ (R' : Rk) (S' : Stt) (v7 : Option V), σ = [some (.ref xl), some (.ref sl), some (.ref R5.rk), some (.ref D), some (.int (j : Int)), some (.int (w : Int)), some (.int (m : Int)), v7] /\ R'.rk = R5.rk /\ Bt a H H' R' S' xl sl D xs p s l j (1 + 6 * j + i) (.spare i) ts) ⟨R2, S2, _, rfl, rk2, b2⟩ ?_ ?_⟩
     ·rintro i σ H7 hi ⟨R7, S7, v7, rfl, rk7, b7⟩
      obtain ⟨d7, hr7⟩ := id b7.fr.ins
      rw [rk7] at hr7
      refine ⟨_, rfl, R5.rk, d7, _, rfl, hr7, rfl, _, rfl, R7, S7, .int j, by rw [rk7]; rfl, b7.fr, Nat.lt_of_le_of_lt b7.ev (by omega), .inl ⟨j, rfl, by rw [b7.rp]; omega, fun z => absurd (show Pow S7 from ⟨b7.g, fun z h => by rw [b7.lf] at h; cases h⟩) z, fun _ z => absurd (show (S7.B j).1.isSpare = true by rw [b7.at_]; rfl) (by rw [z]; exact Bool.false_ne_true), fun m' _ em' R8 H8 ev8 f8 => ?_⟩⟩
      rw [b7.at_] at em'
      cases em'
      refine ⟨R8, _, _, rfl, ev8.rk.trans rk7, b7.go (n' := 1 + 6 * j + (i + 1)) (kd' := .spare (i + 1)) ev8 f8 b7.g ?_ ?_ (flat_add b7.fl ?_) (fun i hi => set_at hi) ?_⟩
      ·show dec S7.l = none
       rw [b7.lf]
       rfl
      ·show (S7.evs ++ [_]).length <= _
       rw [List.length_append]
       have := b7.ev
       exact Nat.add_le_add_right this 1
      ·intro v hv
       rcases List.mem_cons.mp hv with z | hv
       ·exact .inr ⟨_, z⟩
       rcases List.mem_cons.mp hv with z | hv
       ·exact .inl ⟨_, z⟩
       exact .inl ⟨_, List.mem_singleton.mp hv⟩
      ·show (setB S7.B j (movedK R7.S i, (S7.B j).2) j).1 = _
       rw [set_is]
       unfold movedK
       rw [if_neg (by rw [b7.rs]; omega)]
     ·rintro σ H7 ⟨R7, S7, v7, rfl, rk7, b7⟩
      exact k v7 H7 ⟨R7, S7, .spare m, rk7, b7.go (Ev.refl R7 H7) b7.fr b7.g b7.lf (Nat.le_trans b7.ev (by omega)) b7.fl (fun _ _ => rfl) b7.at_, ⟨m, by rw [e]; rfl, fun m' e => by cases e; rfl⟩⟩
    ·refine ⟨_, rfl, rfl, _, rfl, ite2 (fun z => absurd (V.int.inj (of_decide_eq_true z)) (by omega)) (fun _ => ?_)⟩
     refine ⟨_, rfl, _, _, rfl, rfl, _, rfl, ite2 (fun z => absurd (of_decide_eq_true z) (by omega)) (fun _ => ?_)⟩
     refine ⟨_, rfl, rfl, _, rfl, ite2 (fun z => absurd (V.int.inj (of_decide_eq_true z)) (by omega)) (fun _ => ?_)⟩
     exact k _ _ ⟨R5, S5, .whole, rfl, b.go (Ev.refl R5 H5) b.fr b.g b.lf (Nat.le_trans b.ev (by omega)) b.fl (fun _ _ => rfl) b.at_, ⟨m, by rw [e]; rfl, fun m' e => nomatch e⟩⟩
    ·refine ⟨_, rfl, rfl, _, rfl, ite2 (fun _ => ?_) (fun z => absurd (decide_eq_true (by rw [e]; rfl)) z)⟩
     obtain ⟨c, hc1, hc2, ec⟩ : ∃ c : Int, 2 <= c /\ c <= 9 /\ 2 + y / 64 % 8 = c := ⟨_, by omega, by omega, rfl⟩
     refine ⟨_, rfl, R5.rk, dr, _, rfl, hr5, rfl, _, rfl, _, rfl, _, rfl, xl, _, _, _, rfl, rfl, SqL.of b.hx, atI_nat ey', _, _, rfl, rfl, ⟨by decide, by decide⟩, _, _, rfl, rfl, p0 (by decide), _, _, rfl, rfl, ?_⟩
     try dsimp only
     rw [ec]
     refine ⟨R5, S5, _, c, rfl, b.fr, .inl ⟨j, rfl, jP, log130 (by omega), fun z => absurd ⟨hc1, hc2⟩ z, fun _ z => absurd z (by rw [b.at_]; exact Bool.false_ne_true), fun _ _ R1 H1 ev1 f1 => ?_⟩⟩
     have b1 := b.go (n' := 1 + 6 * (j + 1)) (kd' := .slow c) ev1 f1 b.g b.lf (Nat.le_trans b.ev (by omega)) b.fl (fun i hi => set_at hi) set_is
     refine ⟨_, rfl, _, _, rfl, rfl, _, rfl, ite2 (fun z => absurd (of_decide_eq_true z) (by omega)) (fun _ => ?_)⟩
     refine ⟨_, rfl, rfl, _, rfl, ite2 (fun z => absurd (V.int.inj (of_decide_eq_true z)) (by omega)) (fun _ => ?_)⟩
     exact k _ _ ⟨R1, _, .slow c, ev1.rk, b1, ⟨m, by rw [e]; rfl, fun m' e => nomatch e⟩⟩
    ·refine ⟨_, rfl, rfl, _, rfl, ite2 (fun z => absurd (V.int.inj (of_decide_eq_true z)) (by omega)) (fun _ => ?_)⟩
     refine ⟨_, rfl, _, _, rfl, rfl, _, rfl, ite2 (fun _ => ?_) (fun z => absurd (decide_eq_true (show (1 : Int) < (w : Int) by omega)) z)⟩
     refine ⟨_, rfl, R5.rk, dr, _, rfl, hr5, rfl, _, rfl, R5, S5, _, rfl, b.fr, .inl ⟨j, rfl, jP, fun z => absurd z nl, fun _ R1 H1 ev1 f1 => ?_⟩⟩
     have b1 := b.go (n' := 1 + 6 * (j + 1)) (kd' := .lost) ev1 f1 b.g b.lf (Nat.le_trans b.ev (by omega)) b.fl (fun i hi => set_at hi) set_is
     refine ⟨_, rfl, rfl, _, rfl, ite2 (fun z => absurd (V.int.inj (of_decide_eq_true z)) (by omega)) (fun _ => ?_)⟩
     exact k _ _ ⟨R1, _, .lost, ev1.rk, b1, ⟨m, by rw [e]; rfl, fun m' e => nomatch e⟩⟩) ?_
   rintro v H6 ⟨R6, S6, kd, rk6, b6, hk⟩
   refine ⟨_, rfl, .inl ⟨rfl, _, SqL.of b6.d⟩, (show 4 <= sizeLine by decide), fun l4 n4 => ?_⟩
   have b7 := b6.same (Same.new (o := .lst [V.str "whole", V.str "slow", V.str "lost", V.str "spare"]) n4)
   refine ⟨_, rfl, l4, _, _, _, rfl, rfl, SqL.of upd_same, atI_nat wl, _, rfl, (show 2 <= sizeLine by decide), fun t nt => ?_⟩
   have b8 := b7.same (Same.new (o := .tup [V.str ((["whole", "slow", "lost", "spare"] : List Str).getD w ""), V.int m]) nt)
   have ht : (upd (upd H6 l4 (.lst [V.str "whole", V.str "slow", V.str "lost", V.str "spare"])) t (.tup [V.str ((["whole", "slow", "lost", "spare"] : List Str).getD w ""), V.int m])) t = some (.tup [V.str ((["whole", "slow", "lost", "spare"] : List Str).getD w ""), V.int m]) := upd_same
   generalize (upd (upd H6 l4 (.lst [V.str "whole", V.str "slow", V.str "lost", V.str "spare"])) t (.tup [V.str ((["whole", "slow", "lost", "spare"] : List Str).getD w ""), V.int m])) = H8 at b8 ht
   refine ⟨D, _, _, rfl, rfl, b8.d, small1000 (by rw [List.length_map, b8.len]; omega), ?_⟩
   have tD : t ≠ D := fun z => by rw [z, b8.d] at ht; cases ht
   refine ⟨R6, S6, ts ++ [t], _, _, _, _, rfl, rk6, b8.add (fun x o hx e => by rw [upd_ne (fun z => hx (by rw [z]; exact List.mem_singleton.mpr rfl))]; exact e) (by rw [upd_same, List.map_append]; rfl) (by rw [upd_ne tD]; exact ht) hk⟩
  ·rintro σ H5 ⟨R5, S5, ts, v4, v5, v6, v7, rfl, rk5, b⟩
   refine ⟨_, rfl, _, rfl, (show 2 <= sizeLine by decide), fun t nt => ?_⟩
   exact q R5 S5 D t ts _ (b.same (Same.new nt)) (by rw [upd_same, rk5])
end
mutual
def SeesN (N : Addr -> Prop) (H : Hp) : V -> Dt -> Prop
 | v, .non => v = .non
 | v, .bl b => v = .bl b
 | v, .int i => v = .int i
 | v, .str x => v = .str x
 | v, .lst ds => ∃ a xs, v = .ref a /\ N a /\ H a = some (.lst xs) /\ SeesNL N H xs ds
 | v, .tup ds => ∃ a xs, v = .ref a /\ N a /\ H a = some (.tup xs) /\ SeesNL N H xs ds
def SeesNL (N : Addr -> Prop) (H : Hp) : List V -> List Dt -> Prop
 | xs, [] => xs = []
 | xs, d :: ds => ∃ v vs, xs = v :: vs /\ SeesN N H v d /\ SeesNL N H vs ds
end
mutual
theorem SeesN.keep {N N' : Addr -> Prop} {H H' : Hp} (k : ∀ b o, N b -> H b = some o -> N' b /\ H' b = some o) : ∀ (d : Dt) (v : V), SeesN N H v d -> SeesN N' H' v d
 | .non, v, h => by rw [SeesN] at h ⊢; exact h
 | .bl b, v, h => by rw [SeesN] at h ⊢; exact h
 | .int i, v, h => by rw [SeesN] at h ⊢; exact h
 | .str x, v, h => by rw [SeesN] at h ⊢; exact h
 | .lst ds, v, h => by
  rw [SeesN] at h ⊢
  obtain ⟨a, xs, e, n, ha, hs⟩ := h
  exact ⟨a, xs, e, (k a _ n ha).1, (k a _ n ha).2, SeesNL.keep k ds xs hs⟩
 | .tup ds, v, h => by
  rw [SeesN] at h ⊢
  obtain ⟨a, xs, e, n, ha, hs⟩ := h
  exact ⟨a, xs, e, (k a _ n ha).1, (k a _ n ha).2, SeesNL.keep k ds xs hs⟩
theorem SeesNL.keep {N N' : Addr -> Prop} {H H' : Hp} (k : ∀ b o, N b -> H b = some o -> N' b /\ H' b = some o) : ∀ (ds : List Dt) (vs : List V), SeesNL N H vs ds -> SeesNL N' H' vs ds
 | [], vs, h => by rw [SeesNL] at h ⊢; exact h
 | d :: ds, vs, h => by
  rw [SeesNL] at h ⊢
  obtain ⟨v, ws, e, h1, h2⟩ := h
  exact ⟨v, ws, e, SeesN.keep k d v h1, SeesNL.keep k ds ws h2⟩
end
mutual
theorem SeesN.sees {N : Addr -> Prop} {H : Hp} {K : PySem.W.Frag} : ∀ (d : Dt) (v : V), SeesN N H v d -> Sees K H v d
 | .non, v, h => by rw [SeesN] at h; rw [Sees]; exact h
 | .bl b, v, h => by rw [SeesN] at h; rw [Sees]; exact h
 | .int i, v, h => by rw [SeesN] at h; rw [Sees]; exact h
 | .str x, v, h => by rw [SeesN] at h; rw [Sees]; exact h
 | .lst ds, v, h => by
  rw [SeesN] at h; rw [Sees]
  obtain ⟨a, xs, e, _, ha, hs⟩ := h
  exact ⟨a, xs, e, SqL.of ha, SeesNL.sees ds xs hs⟩
 | .tup ds, v, h => by
  rw [SeesN] at h; rw [Sees]
  obtain ⟨a, xs, e, _, ha, hs⟩ := h
  exact ⟨a, xs, e, SqT.of ha, SeesNL.sees ds xs hs⟩
theorem SeesNL.sees {N : Addr -> Prop} {H : Hp} {K : PySem.W.Frag} : ∀ (ds : List Dt) (vs : List V), SeesNL N H vs ds -> SeesL K H vs ds
 | [], vs, h => by rw [SeesNL] at h; rw [SeesL]; exact h
 | d :: ds, vs, h => by
  rw [SeesNL] at h; rw [SeesL]
  obtain ⟨v, ws, e, h1, h2⟩ := h
  exact ⟨v, ws, e, SeesN.sees d v h1, SeesNL.sees ds ws h2⟩
end
theorem SeesNL.nil {N : Addr -> Prop} {H : Hp} : SeesNL N H [] [] := by rw [SeesNL]
theorem SeesNL.cons {N : Addr -> Prop} {H : Hp} {v : V} {vs : List V} {d : Dt} {ds : List Dt} (h1 : SeesN N H v d) (h2 : SeesNL N H vs ds) : SeesNL N H (v :: vs) (d :: ds) := by
 rw [SeesNL]
 exact ⟨v, vs, rfl, h1, h2⟩
theorem SeesNL.snoc {N : Addr -> Prop} {H : Hp} {v : V} {d : Dt} (hv : SeesN N H v d) : ∀ (ds : List Dt) (vs : List V), SeesNL N H vs ds -> SeesNL N H (vs ++ [v]) (ds ++ [d])
 | [], vs, h => by
  rw [SeesNL] at h
  rw [h]
  show SeesNL N H [v] [d]
  rw [SeesNL]
  exact ⟨v, [], rfl, hv, by rw [SeesNL]⟩
 | e :: ds, vs, h => by
  rw [SeesNL] at h
  obtain ⟨u, ws, rfl, h1, h2⟩ := h
  show SeesNL N H (u :: (ws ++ [v])) (e :: (ds ++ [d]))
  rw [SeesNL]
  exact ⟨u, _, rfl, h1, SeesNL.snoc hv ds ws h2⟩
theorem seesNL_map {α : Type} {N : Addr -> Prop} {H : Hp} {f : α -> Dt} : ∀ {js : List α} {vs : List V}, vs.length = js.length -> (∀ (i : Nat) v j, vs[i]? = some v -> js[i]? = some j -> SeesN N H v (f j)) -> SeesNL N H vs (js.map f)
 | [], vs, hl, _ => by
  rw [List.length_eq_zero_iff.mp hl]
  rw [List.map_nil, SeesNL]
 | j :: js, [], hl, _ => absurd hl (by simp)
 | j :: js, v :: vs, hl, h => by
  rw [List.map_cons, SeesNL]
  exact ⟨_, _, rfl, h 0 v j rfl rfl, seesNL_map (by simpa using hl) fun i v' j' e1 e2 => h (i + 1) v' j' (by simpa using e1) (by simpa using e2)⟩
def vD : V -> Dt
 | .int i => .int i
 | .str s => .str s
 | _ => .non
def FlatN (v : V) : Prop := Flat v \/ v = .non
theorem FlatN.see {N : Addr -> Prop} {H : Hp} {v : V} (h : FlatN v) : SeesN N H v (vD v) := by
 rcases h with (⟨i, rfl⟩ | ⟨s, rfl⟩) | rfl
 ·show SeesN N H (.int i) (.int i); rw [SeesN]
 ·show SeesN N H (.str s) (.str s); rw [SeesN]
 ·show SeesN N H .non .non; rw [SeesN]
theorem flatN_sees {N : Addr -> Prop} {H : Hp} {vs : List V} (h : ∀ v ∈ vs, FlatN v) : SeesNL N H vs (vs.map vD) := seesNL_map rfl fun i v j e1 e2 => by
 rw [e1] at e2
 cases e2
 exact (h v (List.mem_of_getElem? e1)).see
theorem depDs_le {n : Nat} : ∀ {ds : List Dt}, (∀ d ∈ ds, depD d <= n) -> depDs ds <= n
 | [], _ => by simp [depDs]
 | d :: ds, h => by
  rw [depDs]
  exact Nat.max_le.mpr ⟨h d List.mem_cons_self, depDs_le fun e he => h e (List.mem_cons_of_mem _ he)⟩
theorem dep_vD (v : V) : depD (vD v) <= 0 := by cases v <;> simp [vD, depD]
theorem dep_vDs (vs : List V) : depDs (vs.map vD) <= 0 := depDs_le fun d hd => by
 obtain ⟨v, _, rfl⟩ := List.mem_map.mp hd
 exact dep_vD v
def tup2 (p : Int × Int) : Dt := .tup [.int p.1, .int p.2]
def rowD (Y : Sl) (j : Nat) : Dt := match Y j with
 | none => .non
 | some (st, prs) => .tup [.int j, .int st, .lst (prs.map tup2)]
theorem dep_rowD (Y : Sl) (j : Nat) : depD (rowD Y j) <= 3 := by
 unfold rowD
 split
 ·simp [depD]
 ·rename_i st prs _
  have : depDs (prs.map tup2) <= 1 := depDs_le fun d hd => by
   obtain ⟨p, _, rfl⟩ := List.mem_map.mp hd
   simp [tup2, depD, depDs]
  simp [depD, depDs]
  omega
def evD (ev : List V) : Dt := .tup (ev.map vD)
def rowK (S : Stt) (i : Nat) : Dt := .lst [.str (S.B i).1.word, .int (S.B i).1.price, vD (S.B i).1.mark]
def rowP (n : Nat) (S : Stt) (i : Nat) : Dt := .lst ((heldRow n (S.B i).2).map vD)
def dsUp (R : Rk) (S : Stt) : Nat -> List Dt
 | 0 => [.lst (((List.range R.L).filter fun i => (S.Y i).isSome).map (rowD S.Y)), .lst (S.evs.map evD)]
 | i + 1 => dsUp R S i ++ [rowK S i] ++ [rowP R.S S i]
def seenD (R : Rk) (S : Stt) : Dt := .lst (dsUp R S R.P)
theorem dep_up (R : Rk) (S : Stt) : ∀ n, ∀ d ∈ dsUp R S n, depD d <= 4
 | 0, d, hd => by
  rcases List.mem_cons.mp hd with z | hd
  ·rw [z, depD]
   have := depDs_le (n := 3) (ds := ((List.range R.L).filter fun i => (S.Y i).isSome).map (rowD S.Y)) fun d hd => by
    obtain ⟨p, _, rfl⟩ := List.mem_map.mp hd
    exact dep_rowD _ _
   omega
  ·rw [List.mem_singleton.mp hd, depD]
   have := depDs_le (n := 3) (ds := S.evs.map evD) fun d hd => by
    obtain ⟨p, _, rfl⟩ := List.mem_map.mp hd
    have := dep_vDs p
    unfold evD
    rw [depD]
    omega
   omega
 | n + 1, d, hd => by
  have hd : d ∈ dsUp R S n ++ [rowK S n] ++ [rowP R.S S n] := hd
  rcases List.mem_append.mp hd with hd | hd
  ·rcases List.mem_append.mp hd with hd | hd
   ·exact dep_up R S n d hd
   ·rw [List.mem_singleton.mp hd]
    unfold rowK
    have := dep_vD (S.B n).1.mark
    simp only [depD, depDs]
    omega
  ·rw [List.mem_singleton.mp hd]
   unfold rowP
   have := dep_vDs (heldRow R.S (S.B n).2)
   rw [depD]
   omega
theorem dep_seen (R : Rk) (S : Stt) : depD (seenD R S) <= 60 := by
 have := depDs_le (dep_up R S R.P)
 unfold seenD
 rw [depD]
 omega
theorem pairs_see {N : Addr -> Prop} {H : Hp} {pl : Addr} {prs : List (Int × Int)} (hN : ∀ b xs, H b = some (.tup xs) -> N b) (hp : N pl) (h : PairsAt H pl prs) : SeesN N H (.ref pl) (.lst (prs.map tup2)) := by
 obtain ⟨ts, h1, h2, h3⟩ := h
 rw [SeesN]
 refine ⟨pl, _, rfl, hp, h1, seesNL_map (by rw [List.length_map]; exact h2) fun i v j e1 e2 => ?_⟩
 rw [List.getElem?_map] at e1
 cases et : ts[i]? with
 | none => rw [et] at e1; cases e1
 | some t =>
  rw [et] at e1
  cases e1
  obtain ⟨p, b, e3, e4⟩ := h3 i t et
  rw [e3] at e2
  cases e2
  unfold tup2
  rw [SeesN]
  exact ⟨t, _, rfl, hN _ _ e4, e4, by simp [SeesNL, SeesN]⟩
section
variable {P : Program} {wo : World} {K : PySem.W.Frag} {mg : Str -> Option Value} {base : Heap} {a : Adr}
def spSeen (a : Adr) : Sp := fun vs H Q _ => ∃ (R : Rk) (S : Stt) (sl : Addr), vs = [.ref R.rk, .ref sl] /\ FR a H R S /\ H sl = some (.lst [.int R.P, .int R.S, .int R.L]) /\ (∀ e ∈ S.evs, ∀ v ∈ e, Flat v) /\ ∀ D H', Same H H' -> SeesN (fun b => b ∉ R.O) H' (.ref D) (seenD R S) -> Q (.ref D) H'
set_option maxHeartbeats 4000000 in
theorem ok_seen (T : Txt K mg a) : FnOk P wo K mg base CX0 7 a.f_seen a.d_seen ["_law_rack", "_law_sizes"] (spSeen a) := by
 have G_Rack_intents : FnOk P wo K mg base CX0 6 _ _ _ _ := (ok_Rack_intents T).mono (by decide)
 have G_Rack_events : FnOk P wo K mg base CX0 6 _ _ _ _ := (ok_Rack_events T).mono (by decide)
 have G_Rack_kind_of : FnOk P wo K mg base (CXe P wo) 6 _ _ _ _ := (ok_Rack_kind_of T).mono (by decide)
 have G_Rack_cost_of : FnOk P wo K mg base (CXe P wo) 6 _ _ _ _ := (ok_Rack_cost_of T).mono (by decide)
 have G_Rack_mark_of : FnOk P wo K mg base (CXe P wo) 6 _ _ _ _ := (ok_Rack_mark_of T).mono (by decide)
 have G_Rack_peek : FnOk P wo K mg base (CXe P wo) 6 _ _ _ _ := (ok_Rack_peek T).mono (by decide)
 refine T.F_seen.ok (k := 6) sc_seen (fun vs H Q E h => ?_) (fun cdv A outer s H vs Q E hr h => ?_)
 ·obtain ⟨R, S, sl, rfl, _⟩ := h
  rfl
 ·obtain ⟨R, S, sl, rfl, hR, hs, hf, q⟩ := h
  obtain ⟨dx, h1⟩ := id hR.ins
  refine ⟨_, (pss_cons (ps_set (i := 2) sc_seen.nd rfl (Or.inl rfl) (pe_lst (pa_cons (pe_meth0 (pv 0) T.cl_Rack T.me_Rack_intents G_Rack_intents (hr.mono (by decide)) T.b_Rack_intents .nil pass0) (pa_cons (pe_meth0 (pv 0) T.cl_Rack T.me_Rack_events G_Rack_events (hr.mono (by decide)) T.b_Rack_events .nil pass0) pa_nil))))
   (pss_cons (ps_for PassesOwn.never rfl (pi_range1 rfl T.n_range (pa_cons (pe_ix ix_list (pv 1) pe_int (fun _ _ => rfl)) pa_nil)) (pg_name (i := 3) sc_seen.nd rfl (Or.inr rfl)) (pss_cons (ps_expr (pe_bm PySem.F.plainAttrs_list PySem.F.slot_list_append PySem.F.type_list_append mt_append (pv 2) (pa_cons (pe_lst (pa_cons (pe_meth (pv 0) T.cl_Rack T.me_Rack_kind_of G_Rack_kind_of (hr.mono (by decide)) T.b_Rack_kind_of .nil passE0 (pa_cons (pv 3) pa_nil)) (pa_cons (pe_meth (pv 0) T.cl_Rack T.me_Rack_cost_of G_Rack_cost_of (hr.mono (by decide)) T.b_Rack_cost_of .nil passE0 (pa_cons (pv 3) pa_nil)) (pa_cons (pe_meth (pv 0) T.cl_Rack T.me_Rack_mark_of G_Rack_mark_of (hr.mono (by decide)) T.b_Rack_mark_of .nil passE0 (pa_cons (pv 3) pa_nil)) pa_nil)))) pa_nil)))
   (pss_one (ps_expr (pe_bm PySem.F.plainAttrs_list PySem.F.slot_list_append PySem.F.type_list_append mt_append (pv 2) (pa_cons (pe_comp (CompOk.of (cap := [3, 0]) (own := ["_law_stripe"]) (by kernel_rfl)) rfl (pi_range1 rfl T.n_range (pa_cons (pe_ix ix_list (pv 1) pe_int (fun _ _ => rfl)) pa_nil)) (fun _ _ _ _ _ => (pg_name (i := 2) (of_decide_eq_true (by kernel_rfl)) rfl (Or.inl rfl))) (fun _ _ _ _ _ => pts_nil) (fun _ _ _ _ _ => by exact (pe_meth (pv 1) T.cl_Rack T.me_Rack_peek G_Rack_peek (hr.mono (by decide)) T.b_Rack_peek .nil passE0 (pa_cons (pv 0) (pa_cons (pv 2) pa_nil))))) pa_nil))))))
   (pss_one (ps_ret (pv 2))))), ?_⟩
  refine ⟨_, rfl, R.rk, dx, _, rfl, h1, rfl, R, S, rfl, hR, fun iD its H2 nD s2 hD hI _ => ?_⟩
  refine ⟨_, rfl, R.rk, dx, _, rfl, s2 _ _ h1, rfl, R, S, rfl, hR.same s2, fun eD H3 nE s3 hE => ?_⟩
  refine ⟨(show 2 <= sizeLine by decide), fun D nDD => ?_⟩
  have s23 := s2.trans s3
  have hR3 := hR.same s23
  have sD := Same.new (o := .lst [V.ref iD, V.ref eD]) nDD
  have D0 : SeesNL (fun b => b ∉ R.O /\ b ≠ D) (upd H3 D (.lst [V.ref iD, V.ref eD])) [V.ref iD, V.ref eD] (dsUp R S 0) := by
   have tN : ∀ b xs, H3 b = some (.tup xs) -> b ∉ R.O /\ b ≠ D := fun b xs e => ⟨fun z => hR3.nt b z xs e, ne_of_none e nDD⟩
   have nN : ∀ b o, H3 b = some o -> H b = none -> b ∉ R.O /\ b ≠ D := fun b o e n => ⟨hR.nO n, ne_of_none e nDD⟩
   have key : SeesNL (fun b => b ∉ R.O /\ b ≠ D) H3 [V.ref iD, V.ref eD] (dsUp R S 0) := by
    obtain ⟨hI1, hI2⟩ := hI
    obtain ⟨ets, hE1, hE2, hE3⟩ := hE
    refine SeesNL.cons ?_ (SeesNL.cons ?_ SeesNL.nil)
    ·rw [SeesN]
     refine ⟨iD, _, rfl, nN _ _ (s3 _ _ hD) nD, s3 _ _ hD, seesNL_map (by rw [List.length_map]; exact hI1) fun i v j e1 e2 => ?_⟩
     rw [List.getElem?_map] at e1
     cases et : its[i]? with
     | none => rw [et] at e1; cases e1
     | some t =>
      rw [et] at e1
      cases e1
      obtain ⟨j', st, prs, pl, z1, z2, z3, z4, z5, z6, z7⟩ := hI2 i t et
      rw [z1] at e2
      cases e2
      obtain ⟨pts, zz, _⟩ := id z4
      unfold rowD
      rw [z2]
      show SeesN _ _ _ (.tup _)
      rw [SeesN]
      refine ⟨t, _, rfl, tN _ _ (s3 _ _ z3), s3 _ _ z3, ?_⟩
      exact SeesNL.cons (by rw [SeesN]) (SeesNL.cons (by rw [SeesN]) (SeesNL.cons (pairs_see tN (nN _ _ (s3 _ _ zz) z6) (z4.same s3)) SeesNL.nil))
    ·rw [SeesN]
     refine ⟨eD, _, rfl, ⟨hR.nO (s2.free nE), ne_of_none hE1 nDD⟩, hE1, seesNL_map (by rw [List.length_map]; exact hE2) fun i v j e1 e2 => ?_⟩
     rw [List.getElem?_map] at e1
     cases et : ets[i]? with
     | none => rw [et] at e1; cases e1
     | some t =>
      rw [et] at e1
      cases e1
      obtain ⟨vs, z1, z2⟩ := hE3 i t et
      rw [z1] at e2
      cases e2
      unfold evD
      rw [SeesN]
      exact ⟨t, _, rfl, tN _ _ z2, z2, flatN_sees fun v hv => .inl (hf _ (List.mem_of_getElem? z1) v hv)⟩
   exact key.keep (fun b o n e => ⟨n, sD _ _ e⟩)
  have DO : D ∉ R.O := hR3.nO nDD
  have s0 := s23.trans sD
  have hD0 : (upd H3 D (.lst [V.ref iD, V.ref eD])) D = some (.lst [V.ref iD, V.ref eD]) := upd_same
  have nDH : H D = none := s23.free nDD
  generalize (upd H3 D (.lst [V.ref iD, V.ref eD])) = H4 at D0 s0 hD0
  clear hI hD hE nE s2 s3 s23 hR3 sD nDD nD
  have p8 := hR.p8
  refine ⟨_, rfl, sl, _, _, _, rfl, rfl, SqL.of (s0 _ _ hs), atI_nat (j := 0) rfl, _, rfl, by omega, by omega, for_range (lo := 0) (n := R.P) (fun i σ H' => ∃ (v3 : Option V) (vs : List V), σ = [some (.ref R.rk), some (.ref sl), some (.ref D), v3] /\ vs.length <= 2 + 2 * i /\ H' D = some (.lst vs) /\ Same H H' /\ SeesNL (fun b => b ∉ R.O /\ b ≠ D) H' vs (dsUp R S i)) ⟨none, _, rfl, (by show 2 <= 2; decide), hD0, s0, D0⟩ ?_ ?_⟩
  ·rintro i σ H5 hi ⟨v3, vs, rfl, hlen, hD5, s5, D5⟩
   rw [Int.zero_add]
   have hR5 := hR.same s5
   have p8 := hR.p8
   have s32 := hR.s32
   have h5 := s5 _ _ h1
   refine ⟨_, rfl, .inl ⟨rfl, _, SqL.of hD5⟩, ?_⟩
   refine ⟨_, rfl, R.rk, dx, _, rfl, h5, rfl, _, rfl, R, S, _, rfl, hR5, .inl ⟨i, rfl, hi, ?_⟩⟩
   refine ⟨_, rfl, R.rk, dx, _, rfl, h5, rfl, _, rfl, R, S, _, rfl, hR5, .inl ⟨i, rfl, hi, ?_⟩⟩
   refine ⟨_, rfl, R.rk, dx, _, rfl, h5, rfl, _, rfl, R, S, _, rfl, hR5, .inl ⟨i, rfl, hi, (show 3 <= sizeLine by decide), fun kD nk => ?_⟩⟩
   refine ⟨D, _, _, rfl, rfl, (Same.new nk) _ _ hD5, small1000 (by omega), ?_⟩
   have kne : kD ≠ D := fun z => by rw [z, hD5] at nk; cases nk
   have D6 : SeesNL (fun b => b ∉ R.O /\ b ≠ D) (upd (upd H5 kD (.lst [V.str (S.B i).1.word, V.int (S.B i).1.price, (S.B i).1.mark])) D (.lst (vs ++ [.ref kD]))) (vs ++ [.ref kD]) (dsUp R S i ++ [rowK S i]) := by
    refine SeesNL.snoc ?_ _ _ (D5.keep fun b o n e => ⟨n, by rw [upd_ne n.2]; exact (Same.new nk) _ _ e⟩)
    unfold rowK
    rw [SeesN]
    refine ⟨kD, _, rfl, ⟨hR5.nO nk, kne⟩, by rw [upd_ne kne]; exact upd_same, SeesNL.cons (by rw [SeesN]) (SeesNL.cons (by rw [SeesN]) (SeesNL.cons (FlatN.see ?_) SeesNL.nil))⟩
    cases (S.B i).1 <;> first | exact .inr rfl | exact .inl (.inl ⟨_, rfl⟩)
   have s6 : Same H (upd (upd H5 kD (.lst [V.str (S.B i).1.word, V.int (S.B i).1.price, (S.B i).1.mark])) D (.lst (vs ++ [.ref kD]))) := fun b o e => by
    rw [upd_ne (ne_of_none e nDH)]
    exact (Same.new nk) _ _ (s5 _ _ e)
   have hD6 : (upd (upd H5 kD (.lst [V.str (S.B i).1.word, V.int (S.B i).1.price, (S.B i).1.mark])) D (.lst (vs ++ [.ref kD]))) D = some (.lst (vs ++ [.ref kD])) := upd_same
   generalize (upd (upd H5 kD (.lst [V.str (S.B i).1.word, V.int (S.B i).1.price, (S.B i).1.mark])) D (.lst (vs ++ [.ref kD]))) = H6 at D6 s6 hD6
   refine ⟨_, rfl, .inl ⟨rfl, _, SqL.of hD6⟩, _, rfl, sl, _, _, _, rfl, rfl, SqL.of (s6 _ _ hs), atI_nat (j := 1) rfl, _, rfl, by omega, by omega, fun L nL => ?_⟩
   rw [Int.toNat_natCast]
   refine comp_range0 (n := R.S) (f := fun j => ov ((S.B i).2 j)) (cs := [some (.int (i : Int)), some (.ref R.rk)]) nL rfl (Nat.le_trans s32 (by decide)) (fun j H7 Rq hj s7 hq => ?_) (fun H7 s7 hL => ?_)
   ·exact ⟨_, rfl, R.rk, dx, _, rfl, s7 _ _ (s6 _ _ h1), rfl, _, rfl, _, rfl, R, S, _, _, rfl, (hR.same s6).same s7, .inl ⟨i, j, rfl, rfl, hi, hj, hq H7 (Same.refl H7)⟩⟩
   ·refine ⟨D, _, _, rfl, rfl, s7 _ _ hD6, small1000 (by rw [List.length_append]; show vs.length + 1 <= 1000; omega), ?_⟩
    have Lne : L ≠ D := fun z => by rw [z, hD6] at nL; cases nL
    refine ⟨_, vs ++ [.ref kD] ++ [.ref L], rfl, (by rw [List.length_append, List.length_append]; show vs.length + 1 + 1 <= _; omega), upd_same, fun b o e => ?_, ?_⟩
    ·rw [upd_ne (ne_of_none e nDH)]
     exact s7 _ _ (s6 _ _ e)
    ·refine SeesNL.snoc ?_ _ _ (D6.keep fun b o n e => ⟨n, by rw [upd_ne n.2]; exact s7 _ _ e⟩)
     unfold rowP
     rw [SeesN]
     refine ⟨L, _, rfl, ⟨(hR.same s6).nO nL, Lne⟩, by rw [upd_ne Lne]; exact hL, flatN_sees fun v hv => ?_⟩
     obtain ⟨j, _, rfl⟩ := List.mem_map.mp hv
     cases (S.B i).2 j with
     | none => exact .inr rfl
     | some z => exact .inl (.inl ⟨z, rfl⟩)
  ·rintro σ H5 ⟨v3, vs, rfl, hlen, hD5, s5, D5⟩
   refine ⟨_, rfl, q D H5 s5 ?_⟩
   unfold seenD
   rw [SeesN]
   exact ⟨D, vs, rfl, DO, hD5, D5.keep fun b o n e => ⟨n.1, e⟩⟩
end
structure O36 (a : Adr) (H0 H : Hp) (R : Rk) (S : Stt) (xL sL D : Addr) (xs : List Int) : Prop where
 fr : FR a H R S
 hx : H xL = some (.lst (xs.map V.int))
 xo : xL ∉ R.O
 hs : H sL = some (.lst [.int R.P, .int R.S, .int R.L])
 so : sL ∉ R.O
 bd : Bds36 H D R.P S
 dO : D ∉ R.O
 fl : ∀ e ∈ S.evs, ∀ v ∈ e, Flat v
 ev : S.evs.length < 100
 ow : ∀ b ∈ R.O, H0 b = none
 sm : Same H0 H
theorem O36.go {a : Adr} {H0 H H' : Hp} {R R' : Rk} {S S' : Stt} {xL sL D : Addr} {xs : List Int} (o : O36 a H0 H R S xL sL D xs) (e : Ev R R' H H') (f : FR a H' R' S') (hB : S'.B = S.B) (hE : S'.evs = S.evs) : O36 a H0 H' R' S' xL sL D xs := by
 obtain ⟨ts, b1, b2, b3⟩ := o.bd
 refine ⟨f, (e.ext o.xo o.hx).1, (e.ext o.xo o.hx).2, by rw [e.P, e.S, e.L]; exact (e.ext o.so o.hs).1, (e.ext o.so o.hs).2, ⟨ts, (e.ext o.dO b1).1, by rw [e.P]; exact b2, fun i t et => ?_⟩, (e.ext o.dO b1).2, by rw [hE]; exact o.fl, by rw [hE]; exact o.ev, fun b hb => ?_, fun b u hb => ?_⟩
 ·obtain ⟨vs, h1, h2⟩ := b3 i t et
  exact ⟨vs, (e.ext (fun z => o.fr.nt t z vs h1) h1).1, by rw [hB]; exact h2⟩
 ·rcases e.own b hb with z | z
  ·exact o.ow b z
  ·exact o.sm.free z
 ·exact (e.ext (fun z => by rw [o.ow b z] at hb; cases hb) (o.sm _ _ hb)).1
theorem O36.same {a : Adr} {H0 H H' : Hp} {R : Rk} {S : Stt} {xL sL D : Addr} {xs : List Int} (o : O36 a H0 H R S xL sL D xs) (s : Same H H') : O36 a H0 H' R S xL sL D xs := o.go (Ev.of s) (o.fr.same s) rfl rfl
theorem due_pow {R : Rk} {S : Stt} {w : Nat} {x0 x1 x2 x3 : Int} (hg : S.g = false) (hp : powB S = true) : (due36 R S w x0 x1 x2 x3).isPow = false := by
 have r3 : (rest3 S w x0 x1).isPow = false := by
  unfold rest3
  split
  ·rfl
  ·split <;> rfl
 have r2 : (rest2 S w x0 x1).isPow = false := by
  unfold rest2
  rw [hg, hp, if_neg Bool.false_ne_true, if_pos rfl]
  split
  ·exact r3
  ·split <;> exact r3
 have r1 : (rest1 S w x0 x1 x3).isPow = false := by
  unfold rest1
  split
  ·split
   ·exact r2
   ·rfl
  ·exact r2
 have r0 : (rest0 R S w x0 x1 x3).isPow = false := by
  unfold rest0
  split
  ·split
   ·exact r1
   ·rfl
  ·exact r1
 unfold due36
 split
 ·split
  ·exact r0
  ·rfl
 ·split
  ·exact r0
  ·rfl
theorem dueV_pow (oc : Oc) : ∃ (x : Str) (i : Int), dueV oc = [.str x, .int i] ∧ decide (V.str x = V.str (Str.ofString "power")) = oc.isPow ∧ (decide (V.str x = V.str (Str.ofString "done")) = true ↔ oc = .done) := by
 cases oc with
 | done => exact ⟨_, _, rfl, by decide, fun _ => rfl, fun _ => by decide⟩
 | place i => exact ⟨_, _, rfl, (by decide : decide (V.str (Str.ofString "place") = V.str (Str.ofString "power")) = false), fun z => absurd z (by decide), fun z => nomatch z⟩
 | wrong i => exact ⟨_, _, rfl, (by decide : decide (V.str (Str.ofString "wrong") = V.str (Str.ofString "power")) = false), fun z => absurd z (by decide), fun z => nomatch z⟩
 | power => exact ⟨_, _, rfl, by decide, fun z => absurd z (by decide), fun z => nomatch z⟩
 | shape => exact ⟨_, _, rfl, by decide, fun z => absurd z (by decide), fun z => nomatch z⟩
theorem joinBo {F : Bool -> Prop} {G : Prop} (Pz : Bool -> Prop) (h : (∀ b, Pz b -> F b) -> G) (key : ∀ b, Pz b -> F b) : G := h key
theorem joinT {F : Hp -> Prop} {G : Prop} (Pz : Hp -> Prop) (h : (∀ H, Pz H -> F H) -> G) (key : ∀ H, Pz H -> F H) : G := h key
theorem ups_same {R R' : Rk} {S S' : Stt} (eP : R'.P = R.P) (eS : R'.S = R.S) (eL : R'.L = R.L) (h1 : S'.evs = S.evs) (h2 : S'.Y = S.Y) (h3 : S'.B = S.B) : seenD R' S' = seenD R S := by
 have : ∀ n, dsUp R' S' n = dsUp R S n := fun n => by
  induction n with
  | zero => unfold dsUp; rw [eL, h1, h2]
  | succ n ih => unfold dsUp; rw [ih]; unfold rowK rowP; rw [eS, h3]
 unfold seenD
 rw [this, eP]
section
variable {P : Program} {wo : World} {K : PySem.W.Frag} {mg : Str -> Option Value} {base : Heap} {a : Adr}
def spOne : Sp := fun vs H Q _ => ∃ c : Int, vs = [.int c] /\ ∀ H', Same H H' -> Q (.bl true) H'
set_option maxHeartbeats 8000000 in
theorem ok_one (T : Txt K mg a) : FnOk P wo K mg base CX0 11 a.f_one a.d_one ["_law_number"] spOne := by
 have G_stream : FnOk P wo K mg base CX0 10 _ _ _ _ := (ok_stream T).mono (by decide)
 have G_built : FnOk P wo K mg base CX0 10 _ _ _ _ := (ok_built T).mono (by decide)
 have G_told : FnOk P wo K mg base CX0 10 _ _ _ _ := (ok_told T).mono (by decide)
 have G_place : FnOk P wo K mg base CX0 10 _ _ _ _ := (ok_place T).mono (by decide)
 have G_cost : FnOk P wo K mg base CX0 10 _ _ _ _ := (ok_cost T).mono (by decide)
 have G_due : FnOk P wo K mg base CX0 10 _ _ _ _ := (ok_due T).mono (by decide)
 have G_seen : FnOk P wo K mg base CX0 10 _ _ _ _ := (ok_seen T).mono (by decide)
 have G_right : FnOk P wo K mg base CX0 10 _ _ _ _ := (ok_right T).mono (by decide)
 have G_Rack_supply : FnOk P wo K mg base CX0 10 _ _ _ _ := (ok_Rack_supply T).mono (by decide)
 have G_Rack_has_power : FnOk P wo K mg base CX0 10 _ _ _ _ := (ok_Rack_has_power T).mono (by decide)
 refine T.F_one.ok (k := 10) sc_one (fun vs H Q E h => ?_) (fun cdv A outer s H vs Q E hr h => ?_)
 ·obtain ⟨c, rfl, _⟩ := h
  rfl
 ·obtain ⟨c, rfl, q⟩ := h
  refine ⟨_, (pss_cons (ps_set (i := 1) sc_one.nd rfl (Or.inl rfl) (pe_call G_stream (hr.mono (by decide)) rfl T.m_stream T.k_stream T.b_stream .nil pass0 (pa_cons (pv 0) (pa_cons pe_int pa_nil))))
   (pss_cons (ps_set (i := 2) sc_one.nd rfl (Or.inl rfl) (pe_lst (pa_cons (pe_op op_add pe_int (pe_op op_mod (pe_ix ix_list (pv 1) pe_int (fun _ _ => rfl)) pe_int)) (pa_cons (pe_op op_add pe_int (pe_op op_mod (pe_ix ix_list (pv 1) pe_int (fun _ _ => rfl)) pe_int)) (pa_cons (pe_op op_add pe_int (pe_op op_mod (pe_ix ix_list (pv 1) pe_int (fun _ _ => rfl)) pe_int)) pa_nil)))))
   (pss_cons (ps_asg (pe_call G_built (hr.mono (by decide)) rfl T.m_built T.k_built T.b_built .nil pass0 (pa_cons (pe_slice sl_list (pv 1) (po_some pe_int) (po_some pe_int)) (pa_cons (pv 2) pa_nil))) (pg_tup rfl (pgs_cons (pg_name (i := 3) sc_one.nd rfl (Or.inl rfl)) (pgs_cons (pg_name (i := 4) sc_one.nd rfl (Or.inl rfl)) pgs_nil))))
   (pss_cons (ps_set (i := 5) sc_one.nd rfl (Or.inl rfl) (pe_op op_mod (pe_ix ix_list (pv 1) pe_int (fun _ _ => rfl)) pe_int))
   (pss_cons (ps_if (pt_cmpR op_gt (pv 5) pe_int (nomark _)) (pss_one (ps_expr (pe_meth (pv 3) T.cl_Rack T.me_Rack_supply G_Rack_supply (hr.mono (by decide)) T.b_Rack_supply .nil pass0 (pa_cons pe_int pa_nil)))) pss_nil)
   (pss_cons (ps_if (PW.pt (pw_and (pt_cmpR op_eq (pv 5) pe_int (nomark _)) (pw_and1 (pt_cmpR op_ne (pe_ix ix_list (pe_call G_told (hr.mono (by decide)) rfl T.m_told T.k_told T.b_told .nil pass0 (pa_cons (pv 3) (pa_cons pe_int (pa_cons (pe_lst (@pa_ints _ _ [0, 0, 0, 2] (by kernel_rfl))) pa_nil)))) pe_int (fun _ _ => rfl)) pe_str (nomark _))))) (pss_one (ps_ret pe_bl)) pss_nil)
   (pss_cons (ps_set (i := 6) sc_one.nd rfl (Or.inl rfl) (pe_op op_mod (pe_op op_fdiv (pe_ix ix_list (pv 1) pe_int (fun _ _ => rfl)) pe_int) pe_int))
   (pss_cons (ps_set (i := 7) sc_one.nd rfl (Or.inl rfl) (pe_lst (pa_cons (pe_call G_place (hr.mono (by decide)) rfl T.m_place T.k_place T.b_place .nil pass0 (pa_cons (pe_ix ix_list (pv 1) pe_int (fun _ _ => rfl)) (pa_cons (pe_ix ix_list (pv 2) pe_int (fun _ _ => rfl)) pa_nil))) (pa_cons (pe_call G_place (hr.mono (by decide)) rfl T.m_place T.k_place T.b_place .nil pass0 (pa_cons (pe_ix ix_list (pv 1) pe_int (fun _ _ => rfl)) (pa_cons (pe_ix ix_list (pv 2) pe_int (fun _ _ => rfl)) pa_nil))) pa_nil))))
   (pss_cons (ps_set (i := 7) sc_one.nd rfl (Or.inl rfl) (pe_op op_cat (pv 7) (pe_lst (pa_cons (pe_call G_place (hr.mono (by decide)) rfl T.m_place T.k_place T.b_place .nil pass0 (pa_cons (pe_op op_fdiv (pe_ix ix_list (pv 1) pe_int (fun _ _ => rfl)) pe_int) (pa_cons (pe_ix ix_list (pv 2) pe_int (fun _ _ => rfl)) pa_nil))) (pa_cons (pe_call G_cost (hr.mono (by decide)) rfl T.m_cost T.k_cost T.b_cost .nil pass0 (pa_cons (pe_op op_fdiv (pe_ix ix_list (pv 1) pe_int (fun _ _ => rfl)) pe_int) pa_nil)) pa_nil)))))
   (pss_cons (ps_set (i := 8) sc_one.nd rfl (Or.inl rfl) (pe_call G_due (hr.mono (by decide)) rfl T.m_due T.k_due T.b_due .nil pass0 (pa_cons (pv 4) (pa_cons (pv 2) (pa_cons (pv 6) (pa_cons (pv 7) (pa_cons (pv 5) pa_nil)))))))
   (pss_cons (ps_set (i := 9) sc_one.nd rfl (Or.inl rfl) (pe_call G_seen (hr.mono (by decide)) rfl T.m_seen T.k_seen T.b_seen .nil pass0 (pa_cons (pv 3) (pa_cons (pv 2) pa_nil))))
   (pss_cons (ps_if (pt_not (pt_val (pe_call G_right (hr.mono (by decide)) rfl T.m_right T.k_right T.b_right .nil pass0 (pa_cons (pe_call G_told (hr.mono (by decide)) rfl T.m_told T.k_told T.b_told .nil pass0 (pa_cons (pv 3) (pa_cons (pv 6) (pa_cons (pv 7) pa_nil)))) (pa_cons (pv 8) pa_nil))))) (pss_one (ps_ret pe_bl)) pss_nil)
   (pss_cons (ps_set (i := 10) sc_one.nd rfl (Or.inl rfl) (pe_or (pe_cmpR op_eq (pv 5) pe_int (nomark _)) (pe_one (pe_and (pe_cmpR op_eq (pv 5) pe_int (nomark _)) (pe_one (pe_cmpR op_eq (pe_ix ix_list (pv 8) pe_int (fun _ _ => rfl)) pe_str (nomark _)))))))
   (pss_cons (ps_if (pt_cmpR op_eq (pe_meth0 (pv 3) T.cl_Rack T.me_Rack_has_power G_Rack_has_power (hr.mono (by decide)) T.b_Rack_has_power .nil pass0) (pv 10) (nomark _)) (pss_one (ps_ret pe_bl)) pss_nil)
   (pss_one (ps_ret (pe_or (pe_cmpR op_eq (pe_ix ix_list (pv 8) pe_int (fun _ _ => rfl)) pe_str (nomark _)) (pe_one (pe_cmpR (op_eqD hr.units) (pe_call G_seen (hr.mono (by decide)) rfl T.m_seen T.k_seen T.b_seen .nil pass0 (pa_cons (pv 3) (pa_cons (pv 2) pa_nil))) (pv 9) (nomark _)))))))))))))))))))), ?_⟩
  refine ⟨_, rfl, c, 14, rfl, by decide, fun xL xs H1 nX s1 hx hl hb => ?_⟩
  have gx : ∀ i, i < 14 -> (xs.map V.int)[i]? = some (.int (xs.getD i 0)) /\ 0 <= xs.getD i 0 /\ xs.getD i 0 < 4611686018427387904 := fun i hi => by
   have e : xs[i]? = some (xs.getD i 0) := by rw [List.getD_eq_getElem?_getD, List.getElem?_eq_getElem (by omega)]; rfl
   exact ⟨by rw [List.getElem?_map, e]; rfl, hb _ (List.mem_of_getElem? e)⟩
  obtain ⟨p, p1, ep⟩ : ∃ p : Nat, p < 7 /\ xs.getD 0 0 % 7 = (p : Int) := modN _ (by decide)
  obtain ⟨s, s1', es⟩ : ∃ p : Nat, p < 5 /\ xs.getD 1 0 % 5 = (p : Int) := modN _ (by decide)
  obtain ⟨l, l1, el⟩ : ∃ p : Nat, p < 8 /\ xs.getD 2 0 % 8 = (p : Int) := modN _ (by decide)
  refine ⟨_, rfl, xL, _, _, _, rfl, rfl, SqL.of hx, atI_nat (gx 0 (by decide)).1, _, _, rfl, rfl, p0 (by decide), _, _, rfl, rfl, _, rfl, xL, _, _, _, rfl, rfl, SqL.of hx, atI_nat (gx 1 (by decide)).1, _, _, rfl, rfl, p0 (by decide), _, _, rfl, rfl, _, rfl, xL, _, _, _, rfl, rfl, SqL.of hx, atI_nat (gx 2 (by decide)).1, _, _, rfl, rfl, p0 (by decide), _, _, rfl, rfl, (show 3 <= sizeLine by decide), fun sL nS => ?_⟩
  try dsimp only
  rw [show (2 : Int) + xs.getD 0 0 % 7 = ((2 + p : Nat) : Int) by omega, show (1 : Int) + xs.getD 1 0 % 5 = ((1 + s : Nat) : Int) by omega, show (1 : Int) + xs.getD 2 0 % 8 = ((1 + l : Nat) : Int) by omega]
  obtain ⟨p', hp'⟩ : ∃ p', p' = 2 + p := ⟨_, rfl⟩
  obtain ⟨s', hs'⟩ : ∃ p', p' = 1 + s := ⟨_, rfl⟩
  obtain ⟨l', hl'⟩ : ∃ p', p' = 1 + l := ⟨_, rfl⟩
  rw [<- hp', ← hs', ← hl']
  have sS := Same.new (o := .lst [V.int (p' : Int), V.int (s' : Int), V.int (l' : Int)]) nS
  have hS : (upd H1 sL (.lst [V.int (p' : Int), V.int (s' : Int), V.int (l' : Int)])) sL = some (.lst [V.int (p' : Int), V.int (s' : Int), V.int (l' : Int)]) := upd_same
  have s2 := s1.trans sS
  have hx2 := sS _ _ hx
  generalize (upd H1 sL (.lst [V.int (p' : Int), V.int (s' : Int), V.int (l' : Int)])) = H2 at s2 hx2 hS
  have ec : cutV (xs.map V.int) (some 3) (some 11) = ((xs.drop 3).take 8).map V.int := by
   unfold cutV
   rw [show (3 : Int) = ((3 : Nat) : Int) from rfl, show (11 : Int) = ((11 : Nat) : Int) from rfl, HT.sIx_nat, HT.sIx_nat, List.length_map, hl, ← List.map_drop, ← List.map_take]
   rfl
  refine ⟨_, rfl, 3, rfl, 11, rfl, xL, _, rfl, SqL.of hx2, fun xl nx => ?_⟩
  rw [ec]
  have s3 := Same.new (o := .lst (((xs.drop 3).take 8).map V.int)) nx
  have h8 : ((xs.drop 3).take 8).length = 8 := by rw [List.length_take, List.length_drop, hl]; rfl
  refine ⟨_, rfl, xl, sL, _, p', s', l', rfl, upd_same, h8, fun x hx => hb x (List.mem_of_mem_drop (List.mem_of_mem_take hx)), s3 _ _ hS, by omega, by omega, by omega, by omega, by omega, by omega, fun R S D t ts H4 b ht => ?_⟩
  have o4 : O36 a H H4 R S xL sL D xs := by
   have ow : ∀ b' ∈ R.O, H b' = none := fun b' hb' => s2.free (s3.free (b.ow b' hb'))
   have xo : ∀ {b' o}, H2 b' = some o -> b' ∉ R.O := fun {b' o} e z => by rw [s3.free (b.ow b' z)] at e; cases e
   refine ⟨b.fr, b.sm _ _ (s3 _ _ hx2), xo hx2, by rw [b.rp, b.rs, b.rl]; exact b.hs, b.so, ⟨ts, b.d, b.len.trans b.rp.symm, b.tup⟩, b.dO, b.fl, Nat.lt_of_le_of_lt b.ev (by omega), ow, (s2.trans s3).trans b.sm⟩
  have hg := b.g
  have hlf := b.lf
  have lL : 1 <= R.L := by rw [b.rl]; omega
  have r8 : R.P <= 8 /\ 1 <= R.P /\ 1 <= R.S /\ R.S <= 32 /\ R.L <= 8 := by rw [b.rp, b.rs, b.rl]; omega
  refine ⟨t, _, rfl, SqT.of ht, rfl, _, _, rfl, _, _, rfl, rfl, ?_⟩
  clear b ht hS hx2 s3 nx sS nS hx nX s1 h8 ec ep es el p1 s1' l1 hp' hs' hl' hb
  obtain ⟨pw, hpw, epw⟩ : ∃ pw : Nat, pw < 3 /\ xs.getD 11 0 % 3 = (pw : Int) := modN _ (by decide)
  refine ⟨_, rfl, xL, _, _, _, rfl, rfl, SqL.of o4.hx, atI_nat (gx 11 (by decide)).1, _, _, rfl, rfl, p0 (by decide), ?_⟩
  try dsimp only
  rw [epw]
  obtain ⟨dr, hr4⟩ := id o4.fr.ins
  obtain ⟨rk, hrk⟩ : ∃ rk, R.rk = rk := ⟨_, rfl⟩
  rw [hrk] at hr4 ⊢
  refine joinT (fun H6 => ∃ (R6 : Rk) (S6 : Stt), R6.rk = rk /\ O36 a H H6 R6 S6 xL sL D xs /\ PwOk pw S6 /\ (R6.P <= 8 /\ 1 <= R6.P /\ 1 <= R6.S /\ R6.S <= 32 /\ R6.L <= 8 /\ 1 <= R6.L)) (fun k => by
   by_cases e0 : pw = 0
   ·refine ⟨_, rfl, _, _, rfl, rfl, _, rfl, ite2 (fun z => absurd (of_decide_eq_true z) (by omega)) (fun _ => ?_)⟩
    refine ⟨_, rfl, rfl, _, rfl, ite2 (fun z => absurd (V.int.inj (of_decide_eq_true z)) (by omega)) (fun _ => iteF ?_)⟩
    exact k H4 ⟨R, S, hrk, o4, .inl ⟨by omega, hg, powB_iff.mpr ⟨hg, fun z h => by rw [hlf] at h; cases h⟩⟩, by omega⟩
   refine ⟨_, rfl, _, _, rfl, rfl, _, rfl, ite2 (fun _ => ?_) (fun z => absurd (decide_eq_true (show (0 : Int) < (pw : Int) by omega)) z)⟩
   refine ⟨_, rfl, rk, dr, _, rfl, hr4, rfl, R, S, some 0, by rw [hrk]; rfl, o4.fr, fun H5 ev5 f5 => ?_⟩
   have o5 := o4.go ev5 f5 rfl rfl
   have pb : powB { S with l := some 0, g := false } = false := rfl
   by_cases e2 : pw = 2
   ·refine ⟨_, rfl, rfl, _, rfl, ite2 (fun _ => ?_) (fun z => absurd (decide_eq_true (by rw [e2]; rfl)) z)⟩
    refine ⟨_, rfl, (show 4 <= sizeLine by decide), fun aL na => ?_⟩
    have o5' := o5.same (Same.new (o := .lst ([0, 0, 0, 2].map V.int)) na)
    have ed : due36 R { S with l := some 0, g := false } 13 0 0 0 2 = .power := by
     unfold due36
     rw [if_pos (Or.inr rfl), if_pos ⟨by decide, by omega⟩]
     rfl
    refine .inl ⟨R, _, aL, 13, 0, 0, 0, 2, by rw [hrk]; rfl, by decide, by decide, o5'.fr, upd_same, by decide, by decide, by decide, by decide, Nat.lt_trans o5'.ev (by decide), ?_⟩
    rw [ed]
    intro R6 S6 H6 TL ev6 f6 g6 v6 hT nT
    refine ⟨TL, _, _, _, rfl, rfl, SqL.of hT, atI_nat (j := 0) rfl, rfl, _, rfl, ite2 (fun z => absurd z (ne_off rfl)) (fun _ => ?_)⟩
    obtain ⟨v1, v2, v3⟩ := v6 (fun z => nomatch z)
    have gg : S6.g = true := g6.trans (by rfl)
    exact k H6 ⟨R6, S6, ev6.rk.trans hrk, o5'.go ev6 f6 v3 v1, .inr (.inr ⟨by omega, gg, by unfold powB; rw [gg]; rfl⟩), by rw [ev6.P, ev6.S, ev6.L]; omega⟩
   ·refine ⟨_, rfl, rfl, _, rfl, ite2 (fun z => absurd (V.int.inj (of_decide_eq_true z)) (by omega)) (fun _ => iteF ?_)⟩
    exact k H5 ⟨R, _, hrk, o5, .inr (.inl ⟨by omega, rfl, pb⟩), by omega⟩) ?_
  rintro H6 ⟨R6, S6, rk6, o6, hpo, r6⟩
  clear r8 lL hlf hg o4 hr4 hrk
  subst rk6
  obtain ⟨w, hw, ew⟩ : ∃ w : Nat, w < 15 /\ xs.getD 11 0 / 3 % 15 = (w : Int) := modN _ (by decide)
  refine ⟨_, rfl, xL, _, _, _, rfl, rfl, SqL.of o6.hx, atI_nat (gx 11 (by decide)).1, _, _, rfl, rfl, ⟨by decide, by decide⟩, _, _, rfl, rfl, p0 (by decide), ?_⟩
  try dsimp only
  rw [ew]
  have x12 := (gx 12 (by decide)).2
  have x13 := (gx 13 (by decide)).2
  refine ⟨_, rfl, xL, _, _, _, rfl, rfl, SqL.of o6.hx, atI_nat (gx 12 (by decide)).1, _, rfl, sL, _, _, _, rfl, rfl, SqL.of o6.hs, atI_nat (j := 0) rfl, _, R6.P, rfl, x12.1, x12.2, by omega, by omega, fun x0 g0 => ?_⟩
  refine ⟨_, rfl, xL, _, _, _, rfl, rfl, SqL.of o6.hx, atI_nat (gx 13 (by decide)).1, _, rfl, sL, _, _, _, rfl, rfl, SqL.of o6.hs, atI_nat (j := 1) rfl, _, R6.S, rfl, x13.1, x13.2, by omega, by omega, fun x1 g1 => ?_⟩
  refine ⟨(show 2 <= sizeLine by decide), fun l1 n1 => ?_⟩
  have o7 := o6.same (Same.new (o := .lst [V.int x0, V.int x1]) n1)
  have hl1 : (upd H6 l1 (.lst [V.int x0, V.int x1])) l1 = some (.lst [V.int x0, V.int x1]) := upd_same
  generalize (upd H6 l1 (.lst [V.int x0, V.int x1])) = H7 at o7 hl1
  refine ⟨_, rfl, _, rfl, xL, _, _, _, rfl, rfl, SqL.of o7.hx, atI_nat (gx 12 (by decide)).1, _, _, rfl, rfl, ⟨by decide, by decide⟩, _, rfl, sL, _, _, _, rfl, rfl, SqL.of o7.hs, atI_nat (j := 2) rfl, _, R6.L, rfl, by omega, by omega, by omega, by omega, fun x2 g2 => ?_⟩
  refine ⟨_, rfl, xL, _, _, _, rfl, rfl, SqL.of o7.hx, atI_nat (gx 13 (by decide)).1, _, _, rfl, rfl, ⟨by decide, by decide⟩, _, rfl, by omega, by omega, fun x3 g3 => ?_⟩
  refine ⟨(show 2 <= sizeLine by decide), fun l2 n2 => ?_⟩
  have sl2 := Same.new (o := .lst [V.int x2, V.int x3]) n2
  refine ⟨l1, l2, _, _, rfl, rfl, sl2 _ _ hl1, upd_same, (show 2 + 2 <= sizeLine by decide), fun aL na => ?_⟩
  try dsimp only [L2.start, List.set, List.map, List.append, List.replicate, HAppend.hAppend, Append.append, List.length, Nat.reduceAdd, Nat.reduceSub]
  have sa := sl2.trans (Same.new (o := .lst [V.int x0, V.int x1, V.int x2, V.int x3]) na)
  have o8 := o7.same sa
  have hA : (upd (upd H7 l2 (.lst [V.int x2, V.int x3])) aL (.lst [V.int x0, V.int x1, V.int x2, V.int x3])) aL = some (.lst [V.int x0, V.int x1, V.int x2, V.int x3]) := upd_same
  have aO : aL ∉ R6.O := (o7.same sl2).fr.nO na
  generalize (upd (upd H7 l2 (.lst [V.int x2, V.int x3])) aL (.lst [V.int x0, V.int x1, V.int x2, V.int x3])) = H8 at sa o8 hA
  refine ⟨_, rfl, _, rfl, _, rfl, _, rfl, _, rfl, D, sL, aL, w, x0, x1, x2, x3, pw, R6, S6, rfl, hw, o8.hs, hA, o8.bd, hpo, fun dl H9 nd s9 hd => ?_⟩
  have o9 := o8.same s9
  have dO : dl ∉ R6.O := o8.fr.nO nd
  refine ⟨_, rfl, _, rfl, R6, S6, sL, rfl, o9.fr, o9.hs, o9.fl, fun bD H10 s10 hB => ?_⟩
  have o10 := o9.same s10
  have hd10 := s10 _ _ hd
  have hA10 := s10 _ _ (s9 _ _ hA)
  obtain ⟨dr, hr10⟩ := id o10.fr.ins
  obtain ⟨x, i, ev, epx, edn⟩ := dueV_pow (due36 R6 S6 w x0 x1 x2 x3)
  have dpw := due_pow (R := R6) (S := S6) (w := w) (x0 := x0) (x1 := x1) (x2 := x2) (x3 := x3)
  refine ⟨_, rfl, _, rfl, _, rfl, .inl ⟨R6, S6, aL, w, x0, x1, x2, x3, rfl, by omega, hw, o10.fr, hA10, g0, g1, g2, g3, Nat.lt_trans o10.ev (by decide), ?_⟩⟩
  generalize due36 R6 S6 w x0 x1 x2 x3 = oc at hd hd10 ev epx edn dpw ⊢
  intro R7 S7 H11 TL ev7 f7 g7 v7 hT nT
  have hd11 := (ev7.ext dO hd10).1
  refine ⟨_, rfl, TL, dl, oc, rfl, hT, hd11, _, rfl, iteF ?_⟩
  rw [ev] at hd11
  have hs11 := (ev7.ext o10.so o10.hs).1
  have sm11 : Same H H11 := fun b u e => ev7.kb b u (fun z => by rw [o10.ow b z] at e; cases e) (o10.sm _ _ e)
  have gg : (pw = 0 → S7.g = false) ∧ (pw = 1 → S7.g = decide (V.str x = V.str (Str.ofString "power"))) ∧ (pw = 2 → S7.g = true) := by
   rw [epx, g7]
   rcases hpo with ⟨z, z1, z2⟩ | ⟨z, z1, z2⟩ | ⟨z, z1, z2⟩
   ·exact ⟨fun _ => by rw [z1, dpw z1 z2]; rfl, fun _ => by omega, fun _ => by omega⟩
   ·exact ⟨fun _ => by omega, fun _ => by rw [z1]; rfl, fun _ => by omega⟩
   ·exact ⟨fun _ => by omega, fun _ => by omega, fun _ => by rw [z1]; rfl⟩
  refine joinBo (fun b => b = S7.g) (fun k => by
   by_cases e1 : pw = 1
   ·refine ⟨_, rfl, rfl, _, rfl, ite2 (fun z => absurd (V.int.inj (of_decide_eq_true z)) (by omega)) (fun _ => ?_)⟩
    refine ⟨_, rfl, rfl, _, rfl, ite2 (fun _ => ?_) (fun z => absurd (decide_eq_true (by rw [e1]; rfl)) z)⟩
    refine ⟨_, rfl, dl, _, _, _, rfl, rfl, SqL.of hd11, atI_nat (j := 0) rfl, rfl, ?_⟩
    have hz := (gg.2.1 e1).symm
    generalize decide (V.str x = V.str (Str.ofString "power")) = b at hz ⊢
    exact k b hz
   by_cases e2 : pw = 2
   ·refine ⟨_, rfl, rfl, _, rfl, ite2 (fun _ => ?_) (fun z => absurd (decide_eq_true (by rw [e2]; rfl)) z)⟩
    exact k true (gg.2.2 e2).symm
   ·refine ⟨_, rfl, rfl, _, rfl, ite2 (fun z => absurd (V.int.inj (of_decide_eq_true z)) (by omega)) (fun _ => ?_)⟩
    refine ⟨_, rfl, rfl, _, rfl, ite2 (fun z => absurd (V.int.inj (of_decide_eq_true z)) (by omega)) (fun _ => ?_)⟩
    exact k false (gg.1 (by omega)).symm) ?_
  rintro b rfl
  obtain ⟨d7, hr7⟩ := id f7.ins
  rw [ev7.rk] at hr7
  refine ⟨_, rfl, R6.rk, d7, _, rfl, hr7, rfl, R7, S7, by rw [ev7.rk]; rfl, f7, _, rfl, rfl, _, rfl, ite2 (fun z => ?_) (fun _ => ?_)⟩
  ·exfalso
   have := V.bl.inj (of_decide_eq_true z)
   cases hh : S7.g <;> rw [hh] at this <;> cases this
  refine ⟨_, rfl, dl, _, _, _, rfl, rfl, SqL.of hd11, atI_nat (j := 0) rfl, rfl, _, rfl, ite2 (fun z => ?_) (fun z => ?_)⟩
  ·exact q _ sm11
  obtain ⟨v1, v2, v3⟩ := v7 (fun y => z (edn.mpr y))
  refine ⟨_, rfl, _, rfl, R7, S7, sL, by rw [ev7.rk]; rfl, f7, by rw [ev7.P, ev7.S, ev7.L]; exact hs11, by rw [v1]; exact o10.fl, fun D2 H12 s12 hB2 => ?_⟩
  rw [ups_same ev7.P ev7.S ev7.L v1 v2 v3] at hB2
  have hB3 : SeesN (fun b => b ∉ R6.O) H12 (.ref bD) (seenD R6 S6) := hB.keep (fun b o n e => ⟨n, s12 _ _ (ev7.kb b o n e)⟩)
  refine ⟨_, rfl, seenD R6 S6, seenD R6 S6, hB2.sees, hB3.sees, rfl, rfl, ⟨_, rfl⟩, dep_seen R6 S6, ?_⟩
  show Q (.bl (eqD _ _)) H12
  rw [eqD_refl]
  exact q _ (sm11.trans s12)
end
theorem ixN36 {n j : Nat} (h : j < n) : ixN n (j : Int) = some j := by
 unfold ixN
 rw [if_pos (by omega), if_pos (by omega), Int.toNat_natCast]
theorem joinAH {F : Addr -> Hp -> Prop} {G : Prop} (Pz : Addr -> Hp -> Prop) (h : (∀ b H, Pz b H -> F b H) -> G) (key : ∀ b H, Pz b H -> F b H) : G := h key
section
variable {P : Program} {wo : World} {K : PySem.W.Frag} {mg : Str -> Option Value} {base : Heap} {a : Adr}
def spMade : Sp := fun vs H Q _ => ∃ c : Int, vs = [.int c] /\ 0 <= c /\ c < 2147483629 /\ ∀ H', Same H H' -> Q (.bl true) H'
set_option maxHeartbeats 4000000 in
theorem ok_made (T : Txt K mg a) : FnOk P wo K mg base CX0 11 a.f_made a.d_made ["_law_number"] spMade := by
 have G_told : FnOk P wo K mg base CX0 10 _ _ _ _ := (ok_told T).mono (by decide)
 have G_right : FnOk P wo K mg base CX0 10 _ _ _ _ := (ok_right T).mono (by decide)
 refine T.F_made.ok (k := 10) sc_made (fun vs H Q E h => ?_) (fun cdv A outer s H vs Q E hr h => ?_)
 ·obtain ⟨c, rfl, _⟩ := h
  rfl
 ·obtain ⟨c, rfl, c0, c1, q⟩ := h
  refine ⟨_, (pss_cons (ps_set (i := 1) sc_made.nd rfl (Or.inl rfl) (pe_lst (pa_cons (pe_op op_sub (pe_op op_mod (pv 0) pe_int) pe_int) (pa_cons (pe_op op_sub (pe_op op_mod (pe_op op_fdiv (pv 0) pe_int) pe_int) pe_int) (pa_cons (pe_op op_sub (pe_op op_mod (pe_op op_fdiv (pv 0) pe_int) pe_int) pe_int) pa_nil)))))
   (pss_cons (ps_set (i := 2) sc_made.nd rfl (Or.inl rfl) (pe_op op_mod (pe_op op_fdiv (pv 0) pe_int) pe_int))
   (pss_cons (ps_if (pt_cmpR op_lt (pv 2) pe_int (nomark _)) (pss_one (ps_asg (pe_ix ix_list (pe_lst (pa_cons (pe_op op_sub (pe_op op_sub pe_int (pe_op op_pow pe_int pe_int)) (pv 0)) (pa_cons (pe_op op_add pe_int (pe_op op_mul (pv 0) (pe_op op_pow pe_int pe_int))) pa_nil))) (pe_op op_mod (pe_op op_fdiv (pv 0) pe_int) pe_int) (fun _ _ => rfl)) (pg_sub (pv 1) (pv 2) set_list))) pss_nil)
   (pss_cons (ps_set (i := 3) sc_made.nd rfl (Or.inl rfl) (pe_lst (pa_cons pe_str (pa_cons pe_int pa_nil))))
   (pss_cons (ps_if (PW.pt (pw_or (pt_not (pt_chain op_le op_le pe_int (pe_ix ix_list (pv 1) pe_int (fun _ _ => rfl)) pe_int)) (pw_or (pt_not (pt_chain op_le op_le pe_int (pe_ix ix_list (pv 1) pe_int (fun _ _ => rfl)) pe_int)) (pw_or1 (pt_not (pt_chain op_le op_le pe_int (pe_ix ix_list (pv 1) pe_int (fun _ _ => rfl)) pe_int)))))) (pss_one (ps_set (i := 3) sc_made.nd rfl (Or.inl rfl) (pe_lst (pa_cons pe_str (pa_cons pe_int pa_nil))))) pss_nil)
   (pss_one (ps_ret (pe_call G_right (hr.mono (by decide)) rfl T.m_right T.k_right T.b_right .nil pass0 (pa_cons (pe_call G_told (hr.mono (by decide)) rfl T.m_told T.k_told T.b_told .nil pass0 (pa_cons pe_non (pa_cons pe_int (pa_cons (pv 1) pa_nil)))) (pa_cons (pv 3) pa_nil)))))))))), ?_⟩
  have e19 : (10 : Int) ^ (19 : Int).toNat = 10000000000000000000 := by decide
  have e20 : (10 : Int) ^ (20 : Int).toNat = 100000000000000000000 := by decide
  refine ⟨_, rfl, _, _, rfl, rfl, p0 (by decide), _, _, rfl, rfl, _, rfl, _, _, rfl, rfl, ⟨by decide, by decide⟩, _, _, rfl, rfl, p0 (by decide), _, _, rfl, rfl, _, rfl, _, _, rfl, rfl, ⟨by decide, by decide⟩, _, _, rfl, rfl, p0 (by decide), _, _, rfl, rfl, (show 3 <= sizeLine by decide), fun aL na => ?_⟩
  try dsimp only
  obtain ⟨y0, h0, e0⟩ : ∃ y : Int, y.natAbs < 1361129467683753853853498429727072845824 /\ c % 12 - 1 = y := ⟨_, by omega, rfl⟩
  obtain ⟨y1, h1, e1⟩ : ∃ y : Int, y.natAbs < 1361129467683753853853498429727072845824 /\ c / 12 % 36 - 1 = y := ⟨_, by omega, rfl⟩
  obtain ⟨y2, h2, e2⟩ : ∃ y : Int, y.natAbs < 1361129467683753853853498429727072845824 /\ c / 432 % 11 - 1 = y := ⟨_, by omega, rfl⟩
  rw [e0, e1, e2]
  have s1 := Same.new (o := .lst [V.int y0, V.int y1, V.int y2]) na
  have hA : (upd H aL (.lst [V.int y0, V.int y1, V.int y2])) aL = some (.lst [V.int y0, V.int y1, V.int y2]) := upd_same
  generalize (upd H aL (.lst [V.int y0, V.int y1, V.int y2])) = H1 at s1 hA
  obtain ⟨f, hf, ef⟩ : ∃ y : Nat, y < 6 /\ c / 4752 % 6 = (y : Int) := modN _ (by decide)
  refine ⟨_, rfl, _, _, rfl, rfl, ⟨by decide, by decide⟩, _, _, rfl, rfl, p0 (by decide), ?_⟩
  try dsimp only
  rw [ef]
  refine joinT (fun H2 => ∃ y0 y1 y2 : Int, y0.natAbs < 1361129467683753853853498429727072845824 /\ y1.natAbs < 1361129467683753853853498429727072845824 /\ y2.natAbs < 1361129467683753853853498429727072845824 /\ H2 aL = some (.lst [.int y0, .int y1, .int y2]) /\ Same H H2) (fun k => by
   refine ⟨_, rfl, _, _, rfl, rfl, _, rfl, ite2 (fun z => ?_) (fun z => k H1 ⟨y0, y1, y2, h0, h1, h2, hA, s1⟩)⟩
   have f3 : f < 3 := by have := of_decide_eq_true z; omega
   obtain ⟨g, hg, eg⟩ : ∃ y : Nat, y < 2 /\ c / 28512 % 2 = (y : Int) := modN _ (by decide)
   refine ⟨_, _, rfl, rfl, ⟨by decide, by decide, by decide⟩, _, _, rfl, rfl, _, rfl, _, _, rfl, rfl, _, rfl, _, _, rfl, rfl, ⟨by decide, by decide, by decide⟩, _, _, rfl, rfl, .inl ⟨by omega, by omega⟩, _, _, rfl, rfl, (show 2 <= sizeLine by decide), fun v2 nv => ?_⟩
   try dsimp only
   obtain ⟨z, hz, ez⟩ : ∃ z : Int, z.natAbs < 1361129467683753853853498429727072845824 /\ [V.int (0 - (10 : Int) ^ (20 : Int).toNat - c), V.int (33 + c * (10 : Int) ^ (19 : Int).toNat)][g]? = some (.int z) := by
    have : g = 0 \/ g = 1 := by omega
    rcases this with e | e
    ·exact ⟨0 - (10 : Int) ^ (20 : Int).toNat - c, by rw [e20]; omega, by rw [e]; rfl⟩
    ·exact ⟨33 + c * (10 : Int) ^ (19 : Int).toNat, by rw [e19]; omega, by rw [e]; rfl⟩
   have sv := Same.new (o := .lst [V.int (0 - (10 : Int) ^ (20 : Int).toNat - c), V.int (33 + c * (10 : Int) ^ (19 : Int).toNat)]) nv
   refine ⟨_, rfl, _, _, rfl, rfl, ⟨by decide, by decide⟩, _, _, rfl, rfl, p0 (by decide), v2, _, _, _, rfl, rfl, SqL.of upd_same, (by rw [eg]; exact atI_nat ez), ?_⟩
   refine ⟨_, rfl, _, rfl, aL, _, f, f, rfl, rfl, sv _ _ hA, ixN36 f3, ?_⟩
   have sm : Same H (upd (upd H1 v2 (.lst [V.int (0 - (10 : Int) ^ (20 : Int).toNat - c), V.int (33 + c * (10 : Int) ^ (19 : Int).toNat)])) aL (.lst ([V.int y0, V.int y1, V.int y2].set f (.int z)))) := fun b o e => by
    rw [upd_ne (ne_of_none e na)]
    exact sv _ _ (s1 _ _ e)
   have hu : (upd (upd H1 v2 (.lst [V.int (0 - (10 : Int) ^ (20 : Int).toNat - c), V.int (33 + c * (10 : Int) ^ (19 : Int).toNat)])) aL (.lst ([V.int y0, V.int y1, V.int y2].set f (.int z)))) aL = some (.lst ([V.int y0, V.int y1, V.int y2].set f (.int z))) := upd_same
   generalize (upd (upd H1 v2 (.lst [V.int (0 - (10 : Int) ^ (20 : Int).toNat - c), V.int (33 + c * (10 : Int) ^ (19 : Int).toNat)])) aL (.lst ([V.int y0, V.int y1, V.int y2].set f (.int z)))) = H2 at sm hu
   refine k H2 ?_
   have : f = 0 \/ f = 1 \/ f = 2 := by omega
   rcases this with e | e | e <;> rw [e] at hu
   ·exact ⟨z, y1, y2, hz, h1, h2, hu, sm⟩
   ·exact ⟨y0, z, y2, h0, hz, h2, hu, sm⟩
   ·exact ⟨y0, y1, z, h0, h1, hz, hu, sm⟩) ?_
  clear h0 h1 h2 e0 e1 e2 hA s1 na
  rintro H2 ⟨y0, y1, y2, h0, h1, h2, hA2, s2⟩
  refine ⟨(show 2 <= sizeLine by decide), fun d1 nd1 => ?_⟩
  have sd := Same.new (o := .lst [V.str "done", V.int 0]) nd1
  have s3' := s2.trans sd
  have hA3 := sd _ _ hA2
  have hd1 : (upd H2 d1 (.lst [V.str "done", V.int 0])) d1 = some (.lst (dueV .done)) := upd_same
  generalize (upd H2 d1 (.lst [V.str "done", V.int 0])) = H3 at sd s3' hA3 hd1
  refine joinAH (fun dl H4 => Same H H4 /\ H4 aL = some (.lst [.int y0, .int y1, .int y2]) /\ ∃ oc, H4 dl = some (.lst (dueV oc)) /\ (Bnd y0 y1 y2 -> oc = .done) /\ (¬ Bnd y0 y1 y2 -> oc = .shape)) (fun k => by
   by_cases c0 : (2 : Int) <= y0 /\ y0 <= 8
   ·refine ⟨_, rfl, aL, _, _, _, rfl, rfl, SqL.of hA3, atI_nat (j := 0) rfl, _, _, rfl, rfl, _, rfl, ite2 (fun _ => ⟨_, _, rfl, rfl, _, rfl, ?_⟩) (fun z => absurd (decide_eq_true c0.1) z)⟩
    rw [decide_eq_true c0.2]
    refine iteF ?_
    by_cases c1 : (1 : Int) <= y1 /\ y1 <= 32
    ·refine ⟨_, rfl, aL, _, _, _, rfl, rfl, SqL.of hA3, atI_nat (j := 1) rfl, _, _, rfl, rfl, _, rfl, ite2 (fun _ => ⟨_, _, rfl, rfl, _, rfl, ?_⟩) (fun z => absurd (decide_eq_true c1.1) z)⟩
     rw [decide_eq_true c1.2]
     refine iteF ?_
     by_cases c2 : (1 : Int) <= y2 /\ y2 <= 8
     ·refine ⟨_, rfl, aL, _, _, _, rfl, rfl, SqL.of hA3, atI_nat (j := 2) rfl, _, _, rfl, rfl, _, rfl, ite2 (fun _ => ⟨_, _, rfl, rfl, _, rfl, ?_⟩) (fun z => absurd (decide_eq_true c2.1) z)⟩
      rw [decide_eq_true c2.2]
      refine iteF ?_
      have hz : Same H H3 /\ H3 aL = some (.lst [.int y0, .int y1, .int y2]) /\ ∃ oc, H3 d1 = some (.lst (dueV oc)) /\ (Bnd y0 y1 y2 -> oc = .done) /\ (¬ Bnd y0 y1 y2 -> oc = .shape) := ⟨s3', hA3, .done, hd1, fun _ => rfl, fun z => absurd (show Bnd y0 y1 y2 from ⟨c0.1, c0.2, c1.1, c1.2, c2.1, c2.2⟩) z⟩
      generalize d1 = dd at hz ⊢
      generalize H3 = HH at hz ⊢
      exact k dd HH hz
     ·have nb : ¬ Bnd y0 y1 y2 := fun b => c2 ⟨b.2.2.2.2.1, b.2.2.2.2.2⟩
      refine ⟨_, rfl, aL, _, _, _, rfl, rfl, SqL.of hA3, atI_nat (j := 2) rfl, _, _, rfl, rfl, _, rfl, ite2 (fun z => ⟨_, _, rfl, rfl, _, rfl, ?_⟩) (fun z => ⟨_, rfl, iteT ⟨(show 2 <= sizeLine by decide), fun d2 nd2 => k d2 _ ⟨s3'.trans (Same.new nd2), (Same.new nd2) _ _ hA3, .shape, upd_same, fun b => absurd b nb, fun _ => rfl⟩⟩⟩)⟩
      rw [decide_eq_false (fun y => c2 ⟨of_decide_eq_true z, y⟩)]
      exact iteT ⟨(show 2 <= sizeLine by decide), fun d2 nd2 => k d2 _ ⟨s3'.trans (Same.new nd2), (Same.new nd2) _ _ hA3, .shape, upd_same, fun b => absurd b nb, fun _ => rfl⟩⟩
    ·have nb : ¬ Bnd y0 y1 y2 := fun b => c1 ⟨b.2.2.1, b.2.2.2.1⟩
     refine ⟨_, rfl, aL, _, _, _, rfl, rfl, SqL.of hA3, atI_nat (j := 1) rfl, _, _, rfl, rfl, _, rfl, ite2 (fun z => ⟨_, _, rfl, rfl, _, rfl, ?_⟩) (fun z => ⟨_, rfl, iteT (iteT ⟨(show 2 <= sizeLine by decide), fun d2 nd2 => k d2 _ ⟨s3'.trans (Same.new nd2), (Same.new nd2) _ _ hA3, .shape, upd_same, fun b => absurd b nb, fun _ => rfl⟩⟩)⟩)⟩
     rw [decide_eq_false (fun y => c1 ⟨of_decide_eq_true z, y⟩)]
     exact iteT (iteT ⟨(show 2 <= sizeLine by decide), fun d2 nd2 => k d2 _ ⟨s3'.trans (Same.new nd2), (Same.new nd2) _ _ hA3, .shape, upd_same, fun b => absurd b nb, fun _ => rfl⟩⟩)
   ·have nb : ¬ Bnd y0 y1 y2 := fun b => c0 ⟨b.1, b.2.1⟩
    refine ⟨_, rfl, aL, _, _, _, rfl, rfl, SqL.of hA3, atI_nat (j := 0) rfl, _, _, rfl, rfl, _, rfl, ite2 (fun z => ⟨_, _, rfl, rfl, _, rfl, ?_⟩) (fun z => ⟨_, rfl, iteT (iteT ⟨(show 2 <= sizeLine by decide), fun d2 nd2 => k d2 _ ⟨s3'.trans (Same.new nd2), (Same.new nd2) _ _ hA3, .shape, upd_same, fun b => absurd b nb, fun _ => rfl⟩⟩)⟩)⟩
    rw [decide_eq_false (fun y => c0 ⟨of_decide_eq_true z, y⟩)]
    exact iteT (iteT ⟨(show 2 <= sizeLine by decide), fun d2 nd2 => k d2 _ ⟨s3'.trans (Same.new nd2), (Same.new nd2) _ _ hA3, .shape, upd_same, fun b => absurd b nb, fun _ => rfl⟩⟩)) ?_
  rintro dl H4 ⟨s4, hA4, oc, hd, o1, o2⟩
  refine ⟨_, rfl, .inr ⟨_, aL, y0, y1, y2, rfl, hA4, log130 h0, log130 h1, log130 h2, fun b H5 TL s5 hT => ?_, fun b H5 TL s5 hT => ?_⟩⟩
  ·rw [o1 b] at hd
   exact ⟨_, rfl, TL, dl, .done, rfl, hT, s5 _ _ hd, q _ (s4.trans s5)⟩
  ·rw [o2 b] at hd
   exact ⟨_, rfl, TL, dl, .shape, rfl, hT, s5 _ _ hd, q _ (s4.trans s5)⟩
def spLaw (K : PySem.W.Frag) : Sp := fun vs H Q _ => ∃ (s : Addr) (ns : List Int), vs = [.ref s] /\ SqL K H s (ns.map V.int) /\ ns.length <= 63 /\ ∀ H', Q (.bl true) H'
theorem ok_law (T : Txt K mg a) : FnOk P wo K mg base CX0 12 a.f_law a.d_law ["_law_script"] (spLaw K) := by
 have G_cell_at : FnOk P wo K mg base CX0 11 _ _ _ _ := (ok_cell_at T).mono (by decide)
 have G_mixed : FnOk P wo K mg base CX0 11 _ _ _ _ := (ok_mixed T).mono (by decide)
 have G_one : FnOk P wo K mg base CX0 11 _ _ _ _ := ok_one T
 have G_made : FnOk P wo K mg base CX0 11 _ _ _ _ := ok_made T
 refine T.F_law.ok (k := 11) sc_law (fun vs H Q E h => ?_) (fun cdv A outer s H vs Q E hr h => ?_)
 ·obtain ⟨sa, ns, rfl, _⟩ := h
  rfl
 ·obtain ⟨sa, ns, rfl, hS, hn, q⟩ := h
  refine ⟨_, (pss_cons (ps_for PassesOwn.never rfl (pi_range1 rfl T.n_range (pa_cons (pe_callB (call_max2 rfl) rfl T.n_max boot_max (pa_cons pe_int (pa_cons (pe_callB (call_min2 rfl) rfl T.n_min boot_min (pa_cons pe_int (pa_cons (pe_callB call_len_seq rfl T.n_len PySem.boot_len (pa_cons (pv 0) pa_nil)) pa_nil))) pa_nil))) pa_nil)) (pg_name (i := 1) sc_law.nd rfl (Or.inl rfl)) (pss_cons (ps_set (i := 2) sc_law.nd rfl (Or.inl rfl) (pe_call G_mixed (hr.mono (by decide)) rfl T.m_mixed T.k_mixed T.b_mixed .nil pass0 (pa_cons (pe_call G_cell_at (hr.mono (by decide)) rfl T.m_cell_at T.k_cell_at T.b_cell_at .nil pass0 (pa_cons (pv 0) (pa_cons (pv 1) pa_nil))) (pa_cons (pv 1) pa_nil))))
   (pss_one (ps_if (PW.pt (pw_or (pt_not (pt_val (pe_call G_one (hr.mono (by decide)) rfl T.m_one T.k_one T.b_one .nil pass0 (pa_cons (pv 2) pa_nil)))) (pw_or1 (pt_not (pt_val (pe_call G_made (hr.mono (by decide)) rfl T.m_made T.k_made T.b_made .nil pass0 (pa_cons (pe_op op_fdiv (pv 2) pe_int) pa_nil))))))) (pss_one (ps_ret pe_bl)) pss_nil))))
   (pss_one (ps_ret pe_bl))), ?_⟩
  have hl : (ns.map V.int).length = ns.length := List.length_map _
  have eM : ∃ M : Nat, (if (if (ns.length : Int) < 4 then (ns.length : Int) else 4) > 1 then (if (ns.length : Int) < 4 then (ns.length : Int) else 4) else (1 : Int)) = (M : Int) /\ M <= 4 := by
   by_cases h8 : (ns.length : Int) < 4
   ·rw [if_pos h8]
    by_cases h1 : (ns.length : Int) > 1
    ·exact ⟨ns.length, if_pos h1, by omega⟩
    ·exact ⟨1, if_neg h1, by decide⟩
   ·rw [if_neg h8]
    exact ⟨4, rfl, Nat.le_refl _⟩
  obtain ⟨M, eM, hM⟩ := eM
  refine ⟨_, rfl, sa, _, rfl, .inl hS, _, _, rfl, _, _, rfl, (M : Int), (by rw [hl]; exact congrArg (fun x => [V.int x]) eM), by omega, by omega, ?_⟩
  rw [Int.toNat_natCast]
  refine for_range (lo := 0) (n := M) (fun i σ H' => ∃ v1 v2 : Option V, σ = [some (.ref sa), v1, v2] /\ Same H H') ⟨none, none, rfl, Same.refl _⟩ ?_ ?_
  ·rintro i σ H' hi ⟨v1, v2, rfl, s1⟩
   have ei : (0 : Int) + (i : Nat) = ((i : Nat) : Int) := by omega
   rw [ei]
   refine ⟨_, rfl, _, rfl, sa, ns, i, rfl, s1.seq hS, _, rfl, _, i, rfl, by omega, fun z z0 z1 => ?_⟩
   refine ⟨_, rfl, z, rfl, fun H2 s2 => ⟨_, rfl, ?_⟩⟩
   refine iteF ?_
   refine ⟨_, rfl, _, _, rfl, rfl, ⟨by decide, by decide⟩, _, rfl, by omega, by omega, fun H3 s3 => ⟨_, rfl, iteF ⟨_, _, rfl, (s1.trans s2).trans s3⟩⟩⟩
  ·rintro σ H' ⟨v1, v2, rfl, s1⟩
   exact q _
end
theorem walk {l : PySem.W.OpenLaw} {q : Program} {loose : List Str} {XP : (Str -> Option Value) -> Heap -> Prop} {YP : World -> Heap -> Prop} {d : DefRec} {K : Params -> PySem.W.Frag} (hn : l.most = some 63) (hdf : d.params.defaults = [])
  (hY : ∀ (w : World) (h : Heap), YP w h -> (K w.params).In h)
  (F : ∀ (w : World) (mg : Str -> Option Value) (fa : Addr) (h : Heap), (K w.params).In h -> h.Ns mainGlobals mg -> mg d.name = some (.ref fa) →
   ∃ fd : FuncData, (∀ (s : Shared) (u : Value), BindsTo s fd ⟨[u], []⟩ [("_law_script", u)]) ∧ ∀ base : Heap, (K w.params).In base → base.Ns mainGlobals mg → FnOk l.prog w (K w.params) mg base CX0 12 fa fd ["_law_script"] (spLaw (K w.params))) :
  PySem.W.WalkO q loose XP YP l.row.toRowW d [] (fun f vs => PySem.call f vs) :=
 L2.walk_of (n := 63) (k := 12) (x := "_law_script") (CX := fun _ => CX0) (sp := fun w => spLaw (K w.params)) hn (by decide) hdf ⟨rfl, by decide, by decide, rfl⟩ hY F (fun _ _ a ns hl _ hS => ⟨a, ns, rfl, hS, hl, fun _ => rfl⟩) fun _ _ _ _ _ z => z
end My
open PySem PySem.W PyProof.Rows
-- names the tactics below would else use for second copies of large terms; nothing uses these
def PySem.W.Fast.tw7080302514607630859 : Nat := 0
def PySem.W.Fast.tw8843599080985365716 : Nat := 0
def PySem.W.Fast.tw6836624589214952472 : Nat := 0
def PySem.W.Fast.tw2975214122072495625 : Nat := 0
def PySem.W.Fast.tw11225158545471790794 : Nat := 0
def PySem.W.Fast.tw15500776078293980842 : Nat := 0
def PySem.W.Fast.tw16281465614211899508 : Nat := 0
def PySem.W.Fast.tw13405699474851240005 : Nat := 0
def PySem.W.Fast.tw3084123829670766307 : Nat := 0
def PySem.W.Fast.tw8155553715729462308 : Nat := 0
def PySem.W.Fast.tw12122611687689632582 : Nat := 0
def PySem.W.Fast.tw6133811745708775620 : Nat := 0
def PySem.W.Fast.tw8174070465554453190 : Nat := 0
def PySem.W.Fast.tw10853242592178862950 : Nat := 0
def PySem.W.Fast.tw4373301610819669136 : Nat := 0
def PySem.W.Fast.tw14042651343739028715 : Nat := 0
def PySem.W.Fast.tw16260707182389412629 : Nat := 0
def PySem.W.Fast.tw5225256687319831244 : Nat := 0
def PySem.W.Fast.tw12330736988283884808 : Nat := 0
def PySem.W.Fast.tw2832813804105243060 : Nat := 0
def PySem.W.Fast.tw17322557582049337561 : Nat := 0
def PySem.W.Fast.tw14291267944091592715 : Nat := 0
def PySem.W.Fast.tw16738470622060439983 : Nat := 0
def PySem.W.Fast.tw2301074221841134588 : Nat := 0
def PySem.W.Fast.tw6910239694766749469 : Nat := 0
def PySem.W.Fast.tw2729713505649991634 : Nat := 0
def PySem.W.Fast.tw2041375515884081353 : Nat := 0
def PySem.W.Fast.tw4773301253906876825 : Nat := 0
def PySem.W.Fast.tw7148094483425901738 : Nat := 0
def PySem.W.Fast.tw4338682320843049908 : Nat := 0
def PySem.W.Fast.tw6874393106574213336 : Nat := 0
def PySem.W.Fast.tw11159953107740300254 : Nat := 0
def PySem.W.Fast.tw14959430013000803752 : Nat := 0
def PySem.W.Fast.tw7436431375657716859 : Nat := 0
def PySem.W.Fast.tw10488356692904442898 : Nat := 0
def PySem.W.Fast.tw4794797375717934471 : Nat := 0
def PySem.W.Fast.tw10260371609902814950 : Nat := 0
def PySem.W.Fast.tw4658626765124738815 : Nat := 0
def PySem.W.Fast.tw14536898118094191020 : Nat := 0
def PySem.W.Fast.tw8313750555612676168 : Nat := 0
def PySem.W.Fast.tw347183954646798859 : Nat := 0
def PySem.W.Fast.tw11683311874590907002 : Nat := 0
def PySem.W.Fast.tw15577528933143502505 : Nat := 0
def PySem.W.Fast.tw7494893263068379703 : Nat := 0
def PySem.W.Fast.tw1020955741334379971 : Nat := 0
def PySem.W.Fast.tw7120371527480477279 : Nat := 0
def PySem.W.Fast.tw3264594772379283075 : Nat := 0
def PySem.W.Fast.tw13227093946838962877 : Nat := 0
def PySem.W.Fast.tw6403537128654132632 : Nat := 0
def PySem.W.Fast.tw1012135259317404527 : Nat := 0
def PySem.W.Fast.tw3140122896516434403 : Nat := 0
def PySem.W.Fast.tw8228763839894163959 : Nat := 0
def PySem.W.Fast.tw575984351219719408 : Nat := 0
def PySem.W.Fast.tw6637207443154050465 : Nat := 0
def PySem.W.Fast.tw18144239374450117371 : Nat := 0
def PySem.W.Fast.tw12380139913225525064 : Nat := 0
def PySem.W.Fast.tw3870457547820917597 : Nat := 0
def PySem.W.Fast.tw18188204384435651151 : Nat := 0
def PySem.W.Fast.tw1260386060618265681 : Nat := 0
def PySem.W.Fast.tw15561769181031829847 : Nat := 0
def PySem.W.Fast.tw5591313196472734066 : Nat := 0
def PySem.W.Fast.tw15452053885661368888 : Nat := 0
def PySem.W.Fast.tw11754339522251089209 : Nat := 0
def PySem.W.Fast.tw16739680940027413721 : Nat := 0
def PySem.W.Fast.tw7702711520525719638 : Nat := 0
def PySem.W.Fast.tw3376626611013879695 : Nat := 0
def PySem.W.Fast.tw16383794382207803625 : Nat := 0
def PySem.W.Fast.tw10523259195920904849 : Nat := 0
def PySem.W.Fast.tw7931667019693299898 : Nat := 0
def PySem.W.Fast.tw10500670644850630966 : Nat := 0
def PySem.W.Fast.tw10740865806437080516 : Nat := 0
def PySem.W.Fast.tw10085406346656230273 : Nat := 0
def PySem.W.Fast.tw15824864250222650151 : Nat := 0
def PySem.W.Fast.tw14216374231528724005 : Nat := 0
def PySem.W.Fast.tw583534437646372362 : Nat := 0
def PySem.W.Fast.tw15050714913898247725 : Nat := 0
def PySem.W.Fast.tw14996172562964130466 : Nat := 0
def PySem.W.Fast.tw5902650959981181109 : Nat := 0
def PySem.W.Fast.tw12711676294996306890 : Nat := 0
def PySem.W.Fast.tw10800273741915675475 : Nat := 0
def PySem.W.Fast.tw13139720234048267816 : Nat := 0
def PySem.W.Fast.tw1219993553561536896 : Nat := 0
def PySem.W.Fast.tw14167744098073778553 : Nat := 0
def PySem.W.Fast.tw17205831067990553530 : Nat := 0
def PySem.W.Fast.tw7975209234791928852 : Nat := 0
def PySem.W.Fast.tw1119463334024809601 : Nat := 0
set_option maxRecDepth 100000 in
set_option maxHeartbeats 0 in
theorem PySem.Challenge.cw_spareplank_k36_what_is_refused_first_holds : PySem.Challenge.rw_spareplank_k36_what_is_refused_first.Holds := by
 w_on; o_law; k_head; (case hw => w_witness2)
 k_fill
 refine My.walk (l := PySem.Challenge.rw_spareplank_k36_what_is_refused_first) rfl rfl (fun w h Y => PySem.W.kIn_of Y) ?F
 case F =>
  intro w mg fa h KX G hmg
  have T : ∃ a : My.Adr, My.Txt (L2.KOf KX) mg a ∧ (∀ (s : Shared) (v : Value), BindsTo s a.d_law ⟨[v], []⟩ [("_law_script", v)]) := by
   dsimp only [L2.KOf]
   refine' My.txt_mk KX G ?a_Plank ?pg_Plank ?hd_Plank ?po_Plank ?sa_Plank ?no_Plank_held ?mk_Plank ?kc_Plank ?a_SlowPlank ?pg_SlowPlank ?hd_SlowPlank ?po_SlowPlank ?sa_SlowPlank ?no_SlowPlank_held ?no_SlowPlank_cost ?mk_SlowPlank ?kc_SlowPlank ?a_LostPlank ?pg_LostPlank ?hd_LostPlank ?po_LostPlank ?sa_LostPlank ?no_LostPlank_held ?mk_LostPlank ?kc_LostPlank ?a_SparePlank ?pg_SparePlank ?hd_SparePlank ?po_SparePlank ?sa_SparePlank ?no_SparePlank_held ?no_SparePlank_mark ?mk_SparePlank ?kc_SparePlank ?a_Rack ?pg_Rack ?hd_Rack ?po_Rack ?sa_Rack ?no_Rack_planks ?no_Rack_stripes ?no_Rack_slots ?no_Rack_shelf ?no_Rack_slate ?no_Rack_left ?no_Rack_gone ?no_Rack_done ?mk_Rack ?kc_Rack ?a_PlankError ?a_NoField ?a_NoBack ?a_NoCode ?a_NoShape ?a_NoPlace ?a_NoBlock ?a_Gone ?a_Standing ?a_NoPower ?a_WrongPlank ?a_NoLine ?a_NoPlace_init ?i_NoPlace_init ?l_NoPlace_init ?c_NoPlace_init ?k_NoPlace_init ?a_WrongPlank_init ?i_WrongPlank_init ?l_WrongPlank_init ?c_WrongPlank_init ?k_WrongPlank_init ?a_Plank_init ?i_Plank_init ?l_Plank_init ?c_Plank_init ?k_Plank_init ?a_Plank_there ?i_Plank_there ?l_Plank_there ?c_Plank_there ?k_Plank_there ?a_Plank_price ?i_Plank_price ?l_Plank_price ?c_Plank_price ?k_Plank_price ?a_Plank_word ?i_Plank_word ?l_Plank_word ?c_Plank_word ?k_Plank_word ?a_Plank_look_at ?i_Plank_look_at ?l_Plank_look_at ?c_Plank_look_at ?k_Plank_look_at ?a_Plank_lay_at ?i_Plank_lay_at ?l_Plank_lay_at ?c_Plank_lay_at ?k_Plank_lay_at ?a_SlowPlank_init ?i_SlowPlank_init ?l_SlowPlank_init ?c_SlowPlank_init ?k_SlowPlank_init ?a_SlowPlank_price ?i_SlowPlank_price ?l_SlowPlank_price ?c_SlowPlank_price ?k_SlowPlank_price ?a_SlowPlank_word ?i_SlowPlank_word ?l_SlowPlank_word ?c_SlowPlank_word ?k_SlowPlank_word ?a_LostPlank_init ?i_LostPlank_init ?l_LostPlank_init ?c_LostPlank_init ?k_LostPlank_init ?a_LostPlank_there ?i_LostPlank_there ?l_LostPlank_there ?c_LostPlank_there ?k_LostPlank_there ?a_LostPlank_word ?i_LostPlank_word ?l_LostPlank_word ?c_LostPlank_word ?k_LostPlank_word ?a_LostPlank_lay_at ?i_LostPlank_lay_at ?l_LostPlank_lay_at ?c_LostPlank_lay_at ?k_LostPlank_lay_at ?a_SparePlank_init ?i_SparePlank_init ?l_SparePlank_init ?c_SparePlank_init ?k_SparePlank_init ?a_SparePlank_there ?i_SparePlank_there ?l_SparePlank_there ?c_SparePlank_there ?k_SparePlank_there ?a_SparePlank_word ?i_SparePlank_word ?l_SparePlank_word ?c_SparePlank_word ?k_SparePlank_word ?a_SparePlank_move ?i_SparePlank_move ?l_SparePlank_move ?c_SparePlank_move ?k_SparePlank_move ?a_check_bounds ?l_check_bounds ?c_check_bounds ?k_check_bounds ?a_Rack_init ?i_Rack_init ?l_Rack_init ?c_Rack_init ?k_Rack_init ?a_Rack_lose ?i_Rack_lose ?l_Rack_lose ?c_Rack_lose ?k_Rack_lose ?a_Rack_put_spare ?i_Rack_put_spare ?l_Rack_put_spare ?t_Rack_put_spare ?c_Rack_put_spare ?k_Rack_put_spare ?a_Rack_make_slow ?i_Rack_make_slow ?l_Rack_make_slow ?c_Rack_make_slow ?k_Rack_make_slow ?a_Rack_spoil ?i_Rack_spoil ?l_Rack_spoil ?c_Rack_spoil ?k_Rack_spoil ?a_Rack_lie ?i_Rack_lie ?l_Rack_lie ?c_Rack_lie ?k_Rack_lie ?a_Rack_supply ?i_Rack_supply ?l_Rack_supply ?t_Rack_supply ?c_Rack_supply ?k_Rack_supply ?a_Rack_peek ?i_Rack_peek ?l_Rack_peek ?c_Rack_peek ?k_Rack_peek ?a_Rack_kind_of ?i_Rack_kind_of ?l_Rack_kind_of ?c_Rack_kind_of ?k_Rack_kind_of ?a_Rack_cost_of ?i_Rack_cost_of ?l_Rack_cost_of ?c_Rack_cost_of ?k_Rack_cost_of ?a_Rack_mark_of ?i_Rack_mark_of ?l_Rack_mark_of ?c_Rack_mark_of ?k_Rack_mark_of ?a_Rack_there ?i_Rack_there ?l_Rack_there ?c_Rack_there ?k_Rack_there ?a_Rack_has_power ?i_Rack_has_power ?l_Rack_has_power ?c_Rack_has_power ?k_Rack_has_power ?a_Rack_intents ?i_Rack_intents ?l_Rack_intents ?c_Rack_intents ?k_Rack_intents ?a_Rack_events ?i_Rack_events ?l_Rack_events ?c_Rack_events ?k_Rack_events ?a_Rack_look ?i_Rack_look ?l_Rack_look ?c_Rack_look ?k_Rack_look ?a_Rack_lay ?i_Rack_lay ?l_Rack_lay ?c_Rack_lay ?k_Rack_lay ?a_Rack_note ?i_Rack_note ?l_Rack_note ?c_Rack_note ?k_Rack_note ?a_Rack_strike ?i_Rack_strike ?l_Rack_strike ?c_Rack_strike ?k_Rack_strike ?a_Rack_move_mark ?i_Rack_move_mark ?l_Rack_move_mark ?c_Rack_move_mark ?k_Rack_move_mark ?a_Rack_need_write ?i_Rack_need_write ?l_Rack_need_write ?c_Rack_need_write ?k_Rack_need_write ?a_Rack_spend ?i_Rack_spend ?l_Rack_spend ?c_Rack_spend ?k_Rack_spend ?a_Rack_check_slot ?i_Rack_check_slot ?l_Rack_check_slot ?c_Rack_check_slot ?k_Rack_check_slot ?a_Rack_check_plank ?i_Rack_check_plank ?l_Rack_check_plank ?c_Rack_check_plank ?k_Rack_check_plank ?a_Rack_check_stripe ?i_Rack_check_stripe ?l_Rack_check_stripe ?c_Rack_check_stripe ?k_Rack_check_stripe ?a_Rack_check_both ?i_Rack_check_both ?l_Rack_check_both ?c_Rack_check_both ?k_Rack_check_both ?a_Rack_check_there ?i_Rack_check_there ?l_Rack_check_there ?c_Rack_check_there ?k_Rack_check_there ?a_cell_at ?l_cell_at ?c_cell_at ?k_cell_at ?a_mixed ?l_mixed ?c_mixed ?k_mixed ?a_stream ?l_stream ?c_stream ?k_stream ?a_whole ?l_whole ?c_whole ?k_whole ?a_place ?l_place ?c_place ?k_place ?a_cost ?l_cost ?c_cost ?k_cost ?a_do_one ?l_do_one ?c_do_one ?k_do_one ?a_do_other ?l_do_other ?c_do_other ?k_do_other ?a_under ?l_under ?c_under ?k_under ?a_told ?l_told ?c_told ?k_told ?a_built ?l_built ?c_built ?k_built ?a_wrong ?l_wrong ?c_wrong ?k_wrong ?a_due ?l_due ?c_due ?k_due ?a_seen ?l_seen ?c_seen ?k_seen ?a_right ?l_right ?c_right ?k_right ?a_one ?l_one ?c_one ?k_one ?a_made ?l_made ?c_made ?k_made ?a_law ?l_law ?c_law ?k_law ?a_SlowPlank__there ?a_SlowPlank__look_at ?a_SlowPlank__lay_at ?a_LostPlank__price ?a_LostPlank__look_at ?a_SparePlank__price ?a_SparePlank__look_at ?a_SparePlank__lay_at ?ucsp_Plank ?ucrd_Plank ?ucfc_Plank ?tya_Plank ?tyn_Plank ?tyt_Plank ?tym_Plank ?tya_SlowPlank ?tyn_SlowPlank ?tyt_SlowPlank ?tym_SlowPlank ?tya_LostPlank ?tyn_LostPlank ?tyt_LostPlank ?tym_LostPlank ?tya_SparePlank ?tyn_SparePlank ?tyt_SparePlank ?tym_SparePlank ?ki_LostPlank_LostPlank ?ki_SparePlank_SparePlank ?kn_Plank_LostPlank ?kn_Plank_SparePlank ?kn_SlowPlank_LostPlank ?kn_SlowPlank_SparePlank ?kn_LostPlank_SparePlank ?kn_SparePlank_LostPlank ?kt_Plank ?kt_SlowPlank ?kt_LostPlank ?kt_SparePlank ?xc_NoShape ?xcls_NoShape ?xga_NoShape ?xgt_NoShape ?xca_NoShape ?xhn_NoShape ?xtk_NoShape ?xmo_NoShape ?xkc_NoShape ?ko_NoShape_PlankError ?ex_NoShape_NoShape ?ex_NoShape_NoPlace ?ex_NoShape_NoPower ?ex_NoShape_WrongPlank ?kv_NoShape ?ka_NoShape_0 ?xf_NoPlace ?xk_NoPlace ?xsa_NoPlace ?xhd_NoPlace ?no_NoPlace_place ?xcls_NoPlace ?xga_NoPlace ?xgt_NoPlace ?xca_NoPlace ?xhn_NoPlace ?xtk_NoPlace ?xmo_NoPlace ?xkc_NoPlace ?ko_NoPlace_PlankError ?ex_NoPlace_NoPlace ?kv_NoPlace ?ka_NoPlace_0 ?ka_NoPlace_1 ?xc_NoPower ?xcls_NoPower ?xga_NoPower ?xgt_NoPower ?xca_NoPower ?xhn_NoPower ?xtk_NoPower ?xmo_NoPower ?xkc_NoPower ?ko_NoPower_PlankError ?ko_NoPower_NoShape ?ex_NoPower_NoPlace ?ex_NoPower_NoPower ?ex_NoPower_WrongPlank ?kv_NoPower ?ka_NoPower_0 ?xf_WrongPlank ?xk_WrongPlank ?xsa_WrongPlank ?xhd_WrongPlank ?no_WrongPlank_plank ?xcls_WrongPlank ?xga_WrongPlank ?xgt_WrongPlank ?xca_WrongPlank ?xhn_WrongPlank ?xtk_WrongPlank ?xmo_WrongPlank ?xkc_WrongPlank ?ko_WrongPlank_PlankError ?ex_WrongPlank_NoPlace ?ex_WrongPlank_WrongPlank ?kv_WrongPlank ?ka_WrongPlank_0 ?ka_WrongPlank_1 ?xusp ?xurd ?xufc ?z_list ?z_range ?z_isinstance ?z_enumerate ?z_len ?z_int ?z_bool ?z_ValueError ?z_max ?z_min ?v_LEAST_PLANKS ?v_MOST_PLANKS ?v_MOST_STRIPES ?v_MOST_SLOTS ?v_LEAST_COST ?v_MOST_COST
   (case a_Plank => k_is)
   (case pg_Plank => k_is)
   (case hd_Plank => k_is)
   (case po_Plank => k_is)
   (case sa_Plank => k_is)
   (case no_Plank_held => k_is)
   (case mk_Plank => k_is)
   (case kc_Plank => k_is)
   (case a_SlowPlank => k_is)
   (case pg_SlowPlank => k_is)
   (case hd_SlowPlank => k_is)
   (case po_SlowPlank => k_is)
   (case sa_SlowPlank => k_is)
   (case no_SlowPlank_held => k_is)
   (case no_SlowPlank_cost => k_is)
   (case mk_SlowPlank => k_is)
   (case kc_SlowPlank => k_is)
   (case a_LostPlank => k_is)
   (case pg_LostPlank => k_is)
   (case hd_LostPlank => k_is)
   (case po_LostPlank => k_is)
   (case sa_LostPlank => k_is)
   (case no_LostPlank_held => k_is)
   (case mk_LostPlank => k_is)
   (case kc_LostPlank => k_is)
   (case a_SparePlank => k_is)
   (case pg_SparePlank => k_is)
   (case hd_SparePlank => k_is)
   (case po_SparePlank => k_is)
   (case sa_SparePlank => k_is)
   (case no_SparePlank_held => k_is)
   (case no_SparePlank_mark => k_is)
   (case mk_SparePlank => k_is)
   (case kc_SparePlank => k_is)
   (case a_Rack => k_is)
   (case pg_Rack => k_is)
   (case hd_Rack => k_is)
   (case po_Rack => k_is)
   (case sa_Rack => k_is)
   (case no_Rack_planks => k_is)
   (case no_Rack_stripes => k_is)
   (case no_Rack_slots => k_is)
   (case no_Rack_shelf => k_is)
   (case no_Rack_slate => k_is)
   (case no_Rack_left => k_is)
   (case no_Rack_gone => k_is)
   (case no_Rack_done => k_is)
   (case mk_Rack => k_is)
   (case kc_Rack => k_is)
   (case a_PlankError => k_is)
   (case a_NoField => k_is)
   (case a_NoBack => k_is)
   (case a_NoCode => k_is)
   (case a_NoShape => k_is)
   (case a_NoPlace => k_is)
   (case a_NoBlock => k_is)
   (case a_Gone => k_is)
   (case a_Standing => k_is)
   (case a_NoPower => k_is)
   (case a_WrongPlank => k_is)
   (case a_NoLine => k_is)
   (case a_NoPlace_init => k_is)
   (case i_NoPlace_init => k_is)
   (case l_NoPlace_init => k_is)
   (case c_NoPlace_init => k_is)
   (case k_NoPlace_init => k_is)
   (case a_WrongPlank_init => k_is)
   (case i_WrongPlank_init => k_is)
   (case l_WrongPlank_init => k_is)
   (case c_WrongPlank_init => k_is)
   (case k_WrongPlank_init => k_is)
   (case a_Plank_init => k_is)
   (case i_Plank_init => k_is)
   (case l_Plank_init => k_is)
   (case c_Plank_init => k_is)
   (case k_Plank_init => k_is)
   (case a_Plank_there => k_is)
   (case i_Plank_there => k_is)
   (case l_Plank_there => k_is)
   (case c_Plank_there => k_is)
   (case k_Plank_there => k_is)
   (case a_Plank_price => k_is)
   (case i_Plank_price => k_is)
   (case l_Plank_price => k_is)
   (case c_Plank_price => k_is)
   (case k_Plank_price => k_is)
   (case a_Plank_word => k_is)
   (case i_Plank_word => k_is)
   (case l_Plank_word => k_is)
   (case c_Plank_word => k_is)
   (case k_Plank_word => k_is)
   (case a_Plank_look_at => k_is)
   (case i_Plank_look_at => k_is)
   (case l_Plank_look_at => k_is)
   (case c_Plank_look_at => k_is)
   (case k_Plank_look_at => k_is)
   (case a_Plank_lay_at => k_is)
   (case i_Plank_lay_at => k_is)
   (case l_Plank_lay_at => k_is)
   (case c_Plank_lay_at => k_is)
   (case k_Plank_lay_at => k_is)
   (case a_SlowPlank_init => k_is)
   (case i_SlowPlank_init => k_is)
   (case l_SlowPlank_init => k_is)
   (case c_SlowPlank_init => k_is)
   (case k_SlowPlank_init => k_is)
   (case a_SlowPlank_price => k_is)
   (case i_SlowPlank_price => k_is)
   (case l_SlowPlank_price => k_is)
   (case c_SlowPlank_price => k_is)
   (case k_SlowPlank_price => k_is)
   (case a_SlowPlank_word => k_is)
   (case i_SlowPlank_word => k_is)
   (case l_SlowPlank_word => k_is)
   (case c_SlowPlank_word => k_is)
   (case k_SlowPlank_word => k_is)
   (case a_LostPlank_init => k_is)
   (case i_LostPlank_init => k_is)
   (case l_LostPlank_init => k_is)
   (case c_LostPlank_init => k_is)
   (case k_LostPlank_init => k_is)
   (case a_LostPlank_there => k_is)
   (case i_LostPlank_there => k_is)
   (case l_LostPlank_there => k_is)
   (case c_LostPlank_there => k_is)
   (case k_LostPlank_there => k_is)
   (case a_LostPlank_word => k_is)
   (case i_LostPlank_word => k_is)
   (case l_LostPlank_word => k_is)
   (case c_LostPlank_word => k_is)
   (case k_LostPlank_word => k_is)
   (case a_LostPlank_lay_at => k_is)
   (case i_LostPlank_lay_at => k_is)
   (case l_LostPlank_lay_at => k_is)
   (case c_LostPlank_lay_at => k_is)
   (case k_LostPlank_lay_at => k_is)
   (case a_SparePlank_init => k_is)
   (case i_SparePlank_init => k_is)
   (case l_SparePlank_init => k_is)
   (case c_SparePlank_init => k_is)
   (case k_SparePlank_init => k_is)
   (case a_SparePlank_there => k_is)
   (case i_SparePlank_there => k_is)
   (case l_SparePlank_there => k_is)
   (case c_SparePlank_there => k_is)
   (case k_SparePlank_there => k_is)
   (case a_SparePlank_word => k_is)
   (case i_SparePlank_word => k_is)
   (case l_SparePlank_word => k_is)
   (case c_SparePlank_word => k_is)
   (case k_SparePlank_word => k_is)
   (case a_SparePlank_move => k_is)
   (case i_SparePlank_move => k_is)
   (case l_SparePlank_move => k_is)
   (case c_SparePlank_move => k_is)
   (case k_SparePlank_move => k_is)
   (case a_check_bounds => k_is)
   (case l_check_bounds => k_is)
   (case c_check_bounds => k_is)
   (case k_check_bounds => k_is)
   (case a_Rack_init => k_is)
   (case i_Rack_init => k_is)
   (case l_Rack_init => k_is)
   (case c_Rack_init => k_is)
   (case k_Rack_init => k_is)
   (case a_Rack_lose => k_is)
   (case i_Rack_lose => k_is)
   (case l_Rack_lose => k_is)
   (case c_Rack_lose => k_is)
   (case k_Rack_lose => k_is)
   (case a_Rack_put_spare => k_is)
   (case i_Rack_put_spare => k_is)
   (case l_Rack_put_spare => k_is)
   (case t_Rack_put_spare => k_is)
   (case c_Rack_put_spare => k_is)
   (case k_Rack_put_spare => k_is)
   (case a_Rack_make_slow => k_is)
   (case i_Rack_make_slow => k_is)
   (case l_Rack_make_slow => k_is)
   (case c_Rack_make_slow => k_is)
   (case k_Rack_make_slow => k_is)
   (case a_Rack_spoil => k_is)
   (case i_Rack_spoil => k_is)
   (case l_Rack_spoil => k_is)
   (case c_Rack_spoil => k_is)
   (case k_Rack_spoil => k_is)
   (case a_Rack_lie => k_is)
   (case i_Rack_lie => k_is)
   (case l_Rack_lie => k_is)
   (case c_Rack_lie => k_is)
   (case k_Rack_lie => k_is)
   (case a_Rack_supply => k_is)
   (case i_Rack_supply => k_is)
   (case l_Rack_supply => k_is)
   (case t_Rack_supply => k_is)
   (case c_Rack_supply => k_is)
   (case k_Rack_supply => k_is)
   (case a_Rack_peek => k_is)
   (case i_Rack_peek => k_is)
   (case l_Rack_peek => k_is)
   (case c_Rack_peek => k_is)
   (case k_Rack_peek => k_is)
   (case a_Rack_kind_of => k_is)
   (case i_Rack_kind_of => k_is)
   (case l_Rack_kind_of => k_is)
   (case c_Rack_kind_of => k_is)
   (case k_Rack_kind_of => k_is)
   (case a_Rack_cost_of => k_is)
   (case i_Rack_cost_of => k_is)
   (case l_Rack_cost_of => k_is)
   (case c_Rack_cost_of => k_is)
   (case k_Rack_cost_of => k_is)
   (case a_Rack_mark_of => k_is)
   (case i_Rack_mark_of => k_is)
   (case l_Rack_mark_of => k_is)
   (case c_Rack_mark_of => k_is)
   (case k_Rack_mark_of => k_is)
   (case a_Rack_there => k_is)
   (case i_Rack_there => k_is)
   (case l_Rack_there => k_is)
   (case c_Rack_there => k_is)
   (case k_Rack_there => k_is)
   (case a_Rack_has_power => k_is)
   (case i_Rack_has_power => k_is)
   (case l_Rack_has_power => k_is)
   (case c_Rack_has_power => k_is)
   (case k_Rack_has_power => k_is)
   (case a_Rack_intents => k_is)
   (case i_Rack_intents => k_is)
   (case l_Rack_intents => k_is)
   (case c_Rack_intents => k_is)
   (case k_Rack_intents => k_is)
   (case a_Rack_events => k_is)
   (case i_Rack_events => k_is)
   (case l_Rack_events => k_is)
   (case c_Rack_events => k_is)
   (case k_Rack_events => k_is)
   (case a_Rack_look => k_is)
   (case i_Rack_look => k_is)
   (case l_Rack_look => k_is)
   (case c_Rack_look => k_is)
   (case k_Rack_look => k_is)
   (case a_Rack_lay => k_is)
   (case i_Rack_lay => k_is)
   (case l_Rack_lay => k_is)
   (case c_Rack_lay => k_is)
   (case k_Rack_lay => k_is)
   (case a_Rack_note => k_is)
   (case i_Rack_note => k_is)
   (case l_Rack_note => k_is)
   (case c_Rack_note => k_is)
   (case k_Rack_note => k_is)
   (case a_Rack_strike => k_is)
   (case i_Rack_strike => k_is)
   (case l_Rack_strike => k_is)
   (case c_Rack_strike => k_is)
   (case k_Rack_strike => k_is)
   (case a_Rack_move_mark => k_is)
   (case i_Rack_move_mark => k_is)
   (case l_Rack_move_mark => k_is)
   (case c_Rack_move_mark => k_is)
   (case k_Rack_move_mark => k_is)
   (case a_Rack_need_write => k_is)
   (case i_Rack_need_write => k_is)
   (case l_Rack_need_write => k_is)
   (case c_Rack_need_write => k_is)
   (case k_Rack_need_write => k_is)
   (case a_Rack_spend => k_is)
   (case i_Rack_spend => k_is)
   (case l_Rack_spend => k_is)
   (case c_Rack_spend => k_is)
   (case k_Rack_spend => k_is)
   (case a_Rack_check_slot => k_is)
   (case i_Rack_check_slot => k_is)
   (case l_Rack_check_slot => k_is)
   (case c_Rack_check_slot => k_is)
   (case k_Rack_check_slot => k_is)
   (case a_Rack_check_plank => k_is)
   (case i_Rack_check_plank => k_is)
   (case l_Rack_check_plank => k_is)
   (case c_Rack_check_plank => k_is)
   (case k_Rack_check_plank => k_is)
   (case a_Rack_check_stripe => k_is)
   (case i_Rack_check_stripe => k_is)
   (case l_Rack_check_stripe => k_is)
   (case c_Rack_check_stripe => k_is)
   (case k_Rack_check_stripe => k_is)
   (case a_Rack_check_both => k_is)
   (case i_Rack_check_both => k_is)
   (case l_Rack_check_both => k_is)
   (case c_Rack_check_both => k_is)
   (case k_Rack_check_both => k_is)
   (case a_Rack_check_there => k_is)
   (case i_Rack_check_there => k_is)
   (case l_Rack_check_there => k_is)
   (case c_Rack_check_there => k_is)
   (case k_Rack_check_there => k_is)
   (case a_cell_at => k_is)
   (case l_cell_at => k_is)
   (case c_cell_at => k_is)
   (case k_cell_at => k_is)
   (case a_mixed => k_is)
   (case l_mixed => k_is)
   (case c_mixed => k_is)
   (case k_mixed => k_is)
   (case a_stream => k_is)
   (case l_stream => k_is)
   (case c_stream => k_is)
   (case k_stream => k_is)
   (case a_whole => k_is)
   (case l_whole => k_is)
   (case c_whole => k_is)
   (case k_whole => k_is)
   (case a_place => k_is)
   (case l_place => k_is)
   (case c_place => k_is)
   (case k_place => k_is)
   (case a_cost => k_is)
   (case l_cost => k_is)
   (case c_cost => k_is)
   (case k_cost => k_is)
   (case a_do_one => k_is)
   (case l_do_one => k_is)
   (case c_do_one => k_is)
   (case k_do_one => k_is)
   (case a_do_other => k_is)
   (case l_do_other => k_is)
   (case c_do_other => k_is)
   (case k_do_other => k_is)
   (case a_under => k_is)
   (case l_under => k_is)
   (case c_under => k_is)
   (case k_under => k_is)
   (case a_told => k_is)
   (case l_told => k_is)
   (case c_told => k_is)
   (case k_told => k_is)
   (case a_built => k_is)
   (case l_built => k_is)
   (case c_built => k_is)
   (case k_built => k_is)
   (case a_wrong => k_is)
   (case l_wrong => k_is)
   (case c_wrong => k_is)
   (case k_wrong => k_is)
   (case a_due => k_is)
   (case l_due => k_is)
   (case c_due => k_is)
   (case k_due => k_is)
   (case a_seen => k_is)
   (case l_seen => k_is)
   (case c_seen => k_is)
   (case k_seen => k_is)
   (case a_right => k_is)
   (case l_right => k_is)
   (case c_right => k_is)
   (case k_right => k_is)
   (case a_one => k_is)
   (case l_one => k_is)
   (case c_one => k_is)
   (case k_one => k_is)
   (case a_made => k_is)
   (case l_made => k_is)
   (case c_made => k_is)
   (case k_made => k_is)
   (case a_law => k_is)
   (case l_law => k_is)
   (case c_law => k_is)
   (case k_law => k_is)
   (case a_SlowPlank__there => k_is)
   (case a_SlowPlank__look_at => k_is)
   (case a_SlowPlank__lay_at => k_is)
   (case a_LostPlank__price => k_is)
   (case a_LostPlank__look_at => k_is)
   (case a_SparePlank__price => k_is)
   (case a_SparePlank__look_at => k_is)
   (case a_SparePlank__lay_at => k_is)
   (case ucsp_Plank => first | k_is | rfl)
   (case ucrd_Plank => first | k_is | rfl)
   (case ucfc_Plank => first | k_is | rfl)
   (case tya_Plank => first | k_is | rfl)
   (case tyn_Plank => first | k_is | rfl)
   (case tyt_Plank => first | k_is | rfl)
   (case tym_Plank => first | k_is | rfl)
   (case tya_SlowPlank => first | k_is | rfl)
   (case tyn_SlowPlank => first | k_is | rfl)
   (case tyt_SlowPlank => first | k_is | rfl)
   (case tym_SlowPlank => first | k_is | rfl)
   (case tya_LostPlank => first | k_is | rfl)
   (case tyn_LostPlank => first | k_is | rfl)
   (case tyt_LostPlank => first | k_is | rfl)
   (case tym_LostPlank => first | k_is | rfl)
   (case tya_SparePlank => first | k_is | rfl)
   (case tyn_SparePlank => first | k_is | rfl)
   (case tyt_SparePlank => first | k_is | rfl)
   (case tym_SparePlank => first | k_is | rfl)
   (case ki_LostPlank_LostPlank => rfl)
   (case ki_SparePlank_SparePlank => rfl)
   (case kn_Plank_LostPlank => rfl)
   (case kn_Plank_SparePlank => rfl)
   (case kn_SlowPlank_LostPlank => rfl)
   (case kn_SlowPlank_SparePlank => rfl)
   (case kn_LostPlank_SparePlank => rfl)
   (case kn_SparePlank_LostPlank => rfl)
   (case kt_Plank => rfl)
   (case kt_SlowPlank => rfl)
   (case kt_LostPlank => rfl)
   (case kt_SparePlank => rfl)
   (case xc_NoShape => rfl)
   (case xcls_NoShape => rfl)
   (case xga_NoShape => k_is)
   (case xgt_NoShape => k_is)
   (case xca_NoShape => k_is)
   (case xhn_NoShape => k_is)
   (case xtk_NoShape => k_is)
   (case xmo_NoShape => k_is)
   (case xkc_NoShape => rfl)
   (case ko_NoShape_PlankError => rfl)
   (case ex_NoShape_NoShape => rfl)
   (case ex_NoShape_NoPlace => rfl)
   (case ex_NoShape_NoPower => rfl)
   (case ex_NoShape_WrongPlank => rfl)
   (case kv_NoShape => rfl)
   (case ka_NoShape_0 => rfl)
   (case xf_NoPlace => first | k_is | rfl)
   (case xk_NoPlace => first | k_is | rfl)
   (case xsa_NoPlace => first | k_is | rfl)
   (case xhd_NoPlace => first | k_is | rfl)
   (case no_NoPlace_place => k_is)
   (case xcls_NoPlace => rfl)
   (case xga_NoPlace => k_is)
   (case xgt_NoPlace => k_is)
   (case xca_NoPlace => k_is)
   (case xhn_NoPlace => k_is)
   (case xtk_NoPlace => k_is)
   (case xmo_NoPlace => k_is)
   (case xkc_NoPlace => rfl)
   (case ko_NoPlace_PlankError => rfl)
   (case ex_NoPlace_NoPlace => rfl)
   (case kv_NoPlace => rfl)
   (case ka_NoPlace_0 => rfl)
   (case ka_NoPlace_1 => rfl)
   (case xc_NoPower => rfl)
   (case xcls_NoPower => rfl)
   (case xga_NoPower => k_is)
   (case xgt_NoPower => k_is)
   (case xca_NoPower => k_is)
   (case xhn_NoPower => k_is)
   (case xtk_NoPower => k_is)
   (case xmo_NoPower => k_is)
   (case xkc_NoPower => rfl)
   (case ko_NoPower_PlankError => rfl)
   (case ko_NoPower_NoShape => rfl)
   (case ex_NoPower_NoPlace => rfl)
   (case ex_NoPower_NoPower => rfl)
   (case ex_NoPower_WrongPlank => rfl)
   (case kv_NoPower => rfl)
   (case ka_NoPower_0 => rfl)
   (case xf_WrongPlank => first | k_is | rfl)
   (case xk_WrongPlank => first | k_is | rfl)
   (case xsa_WrongPlank => first | k_is | rfl)
   (case xhd_WrongPlank => first | k_is | rfl)
   (case no_WrongPlank_plank => k_is)
   (case xcls_WrongPlank => rfl)
   (case xga_WrongPlank => k_is)
   (case xgt_WrongPlank => k_is)
   (case xca_WrongPlank => k_is)
   (case xhn_WrongPlank => k_is)
   (case xtk_WrongPlank => k_is)
   (case xmo_WrongPlank => k_is)
   (case xkc_WrongPlank => rfl)
   (case ko_WrongPlank_PlankError => rfl)
   (case ex_WrongPlank_NoPlace => rfl)
   (case ex_WrongPlank_WrongPlank => rfl)
   (case kv_WrongPlank => rfl)
   (case ka_WrongPlank_0 => rfl)
   (case ka_WrongPlank_1 => rfl)
   (case xusp => first | k_is | rfl)
   (case xurd => first | k_is | rfl)
   (case xufc => first | k_is | rfl)
   (case z_list => k_is)
   (case z_range => k_is)
   (case z_isinstance => k_is)
   (case z_enumerate => k_is)
   (case z_len => k_is)
   (case z_int => k_is)
   (case z_bool => k_is)
   (case z_ValueError => k_is)
   (case z_max => k_is)
   (case z_min => k_is)
   (case v_LEAST_PLANKS => k_is)
   (case v_MOST_PLANKS => k_is)
   (case v_MOST_STRIPES => k_is)
   (case v_MOST_SLOTS => k_is)
   (case v_LEAST_COST => k_is)
   (case v_MOST_COST => k_is)
  obtain ⟨a, T, hb⟩ := T
  have e0 := hmg.symm.trans T.m_law
  cases e0
  exact ⟨a.d_law, hb, fun base kb nb => My.ok_law T⟩
#print axioms PySem.Challenge.cw_spareplank_k36_what_is_refused_first_holds
