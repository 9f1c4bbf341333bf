import PyProof.Rows.All
import Wide.All
import OpenK.AllK
import Wide.FinOn
import Lean
import PyProof.EqAt
import PyProof.EqKinds
import PyProof.TupleCall
import PyProof.NeKinds
import PySem.Challenge.RW_spareplank_k14_shapes_refused

set_option Elab.async false
set_option linter.all false
set_option maxRecDepth 100000
/-! THE HAND LAYER, for ints, bools, texts, own classes, LISTS and tuples (index, slices, in, append, pop ..), calls, loops. Paste it whole ahead of your own text; what your proof does not reach may be deleted. -/
namespace L2
open PySem PySem.Spec PyProof.Rows

/-- a key: an int or a str -/
abbrev Key := Sum Int Str
def keyIs : Key → Value → Bool
  | .inl k, v => Value.isInt k v
  | .inr x, v => Value.isStrOf x v
def keyH (w : World) : Key → Int
  | .inl k => hashInt k
  | .inr x => hashStr w x
theorem keyIs_shape : ∀ {k : Key} {v : Value}, keyIs k v = true → (∃ i t, k = Sum.inl i ∧ v = Value.int i t) ∨ (∃ x t, k = Sum.inr x ∧ v = Value.str x t)
  | .inl i, v, h => by
    obtain ⟨t, e⟩ := Value.isInt_shape (k := i) (v := v) h
    exact .inl ⟨i, t, rfl, e⟩
  | .inr x, v, h => by
    obtain ⟨t, e⟩ := Value.isStrOf_shape (x := x) (v := v) h
    exact .inr ⟨x, t, rfl, e⟩
theorem keyIs_int (i : Int) (t : Tok) : keyIs (.inl i) (.int i t) = true := by simp [keyIs, Value.isInt]
theorem keyIs_str (x : Str) (t : Tok) : keyIs (.inr x) (.str x t) = true := by simp [keyIs, Value.isStrOf]
theorem key_ll (a b : Int) : decide ((Sum.inl a : Key) = Sum.inl b) = (a == b) := by
  by_cases e : a = b
  · subst e; simp
  · have h : ¬ (Sum.inl a : Key) = Sum.inl b := fun q => e (Sum.inl.inj q)
    rw [decide_eq_false h]
    exact (beq_eq_false_iff_ne.mpr e).symm
theorem key_rr (a b : Str) : decide ((Sum.inr a : Key) = Sum.inr b) = decide (a = b) := by
  by_cases e : a = b
  · subst e; simp
  · have h : ¬ (Sum.inr a : Key) = Sum.inr b := fun q => e (Sum.inr.inj q)
    rw [decide_eq_false h, decide_eq_false e]
theorem key_lr (a : Int) (b : Str) : decide ((Sum.inl a : Key) = Sum.inr b) = false := decide_eq_false (fun q => nomatch q)
theorem key_rl (a : Str) (b : Int) : decide ((Sum.inr a : Key) = Sum.inl b) = false := decide_eq_false (fun q => nomatch q)

def mixKind (prog : Program) (w : World) : PySem.KeyKind prog w Key where
  is := keyIs
  hash := keyH w
  inj := fun v a b ha hb => by
    rcases keyIs_shape ha with ⟨i, t, rfl, rfl⟩ | ⟨x, t, rfl, rfl⟩
    · rcases keyIs_shape hb with ⟨j, u, rfl, e⟩ | ⟨y, u, rfl, e⟩
      · injection e with e1 _; rw [e1]
      · exact nomatch e
    · rcases keyIs_shape hb with ⟨j, u, rfl, e⟩ | ⟨y, u, rfl, e⟩
      · exact nomatch e
      · injection e with e1 _; rw [e1]
  byValue := fun k v h => by
    rcases keyIs_shape h with ⟨i, t, rfl, rfl⟩ | ⟨x, t, rfl, rfl⟩ <;> rfl
  pyHash := fun hv h => by
    rcases keyIs_shape hv with ⟨i, t, rfl, rfl⟩ | ⟨x, t, rfl, rfl⟩
    · exact wpAny_pyHash_int h
    · exact wpAny_pyHash_str h
  eqBool := fun hu hv h => by
    rcases keyIs_shape hu with ⟨i, t, rfl, rfl⟩ | ⟨x, t, rfl, rfl⟩
    · rcases keyIs_shape hv with ⟨j, u, rfl, rfl⟩ | ⟨y, u, rfl, rfl⟩
      · rw [key_ll] at h; exact wpAny_eqBool_int h
      · rw [key_lr] at h; exact SeqAt.EqAt.int_str i t y u _ _ _ _ h
    · rcases keyIs_shape hv with ⟨j, u, rfl, rfl⟩ | ⟨y, u, rfl, rfl⟩
      · rw [key_rl] at h; exact SeqAt.EqAt.str_int x t j u _ _ _ _ h
      · rw [key_rr] at h; exact wpAny_eqBool_str h
  «strs» := fun k x t v h => by
    rcases keyIs_shape h with ⟨i, u, rfl, e⟩ | ⟨y, u, rfl, e⟩
    · exact nomatch e
    · injection e with e1 _
      subst e1
      cases v <;> rfl

theorem mixKind_is (prog : Program) (w : World) (k : Key) (v : Value) : (mixKind prog w).is k v = keyIs k v := rfl
theorem mixKind_int (prog : Program) (w : World) (i : Int) (t : Tok) : (mixKind prog w).is (.inl i) (.int i t) = true := keyIs_int i t
theorem mixKind_str (prog : Program) (w : World) (x : Str) (t : Tok) : (mixKind prog w).is (.inr x) (.str x t) = true := keyIs_str x t
end L2

namespace L2
open PySem PySem.Spec PyProof.Rows

/-- a value, without the heap -/
inductive V where
  | non | bl (b : Bool) | int (i : Int) | str (x : Str) | byt (b : Array UInt8) | flt (b : UInt64) | ref (a : Addr) | ty (n : String)
  deriving DecidableEq

def RelV : V → Value → Prop
  | .non, u => u = Value.none
  | .bl b, u => u = Value.bool b
  | .int i, u => ∃ t, u = Value.int i t
  | .str x, u => ∃ t, u = Value.str x t
  | .byt b, u => ∃ t, u = Value.bytes b t
  | .flt b, u => ∃ t, u = Value.float b t
  | .ref a, u => u = Value.ref a
  | .ty n, u => u = Value.type n

abbrev Vals : List V → List Value → Prop := Paired RelV
theorem Vals.length {xs : List V} {us : List Value} (r : Vals xs us) : xs.length = us.length := Paired.length r
theorem Vals.get : ∀ {xs : List V} {us : List Value} {i : Nat} {x : V}, Vals xs us → xs[i]? = some x → ∃ u, us[i]? = some u ∧ RelV x u
  | _, _, _, _, .nil, e => by simp at e
  | _, _, 0, _, .cons r _, e => by simp at e; subst e; exact ⟨_, rfl, r⟩
  | _, _, i + 1, x, .cons _ t, e => by
    obtain ⟨u, h1, h2⟩ := Vals.get (i := i) (x := x) t (by simpa using e)
    exact ⟨u, by simpa using h1, h2⟩
theorem Vals.set {x : V} {u : Value} (r : RelV x u) : ∀ {xs : List V} {us : List Value} (i : Nat), Vals xs us → Vals (xs.set i x) (us.set i u)
  | _, _, _, .nil => .nil
  | _, _, 0, .cons _ t => .cons r t
  | _, _, i + 1, .cons q t => .cons q (Vals.set r i t)
theorem Vals.append : ∀ {xs ys : List V} {us ws : List Value}, Vals xs us → Vals ys ws → Vals (xs ++ ys) (us ++ ws)
  | _, _, _, _, .nil, s => s
  | _, _, _, _, .cons r t, s => .cons r (Vals.append t s)
theorem Vals.take : ∀ {xs : List V} {us : List Value} (n : Nat), Vals xs us → Vals (xs.take n) (us.take n)
  | _, _, 0, _ => .nil
  | _, _, _ + 1, .nil => .nil
  | _, _, n + 1, .cons r t => .cons r (Vals.take n t)
theorem Vals.drop : ∀ {xs : List V} {us : List Value} (n : Nat), Vals xs us → Vals (xs.drop n) (us.drop n)
  | _, _, 0, r => r
  | _, _, _ + 1, .nil => .nil
  | _, _, n + 1, .cons _ t => Vals.drop n t
theorem Vals.none_of : ∀ {xs : List V} {us : List Value} {i : Nat}, Vals xs us → xs[i]? = none → us[i]? = none := fun {xs us i} r e => by
  have h1 := r.length
  have h2 : xs.length ≤ i := List.getElem?_eq_none_iff.mp e
  exact List.getElem?_eq_none_iff.mpr (by omega)

def RelO : Option V → Option Value → Prop
  | some v, some u => RelV v u
  | none, none => True
  | _, _ => False
def KV {κ : Type} : List (κ × V) → List (κ × Value) → Prop := Paired fun (p : κ × V) (q : κ × Value) => p.1 = q.1 ∧ RelV p.2 q.2

/-- a key of a dict (00_mix): an int or a text -/
def kV : Key → V
  | .inl i => .int i
  | .inr x => .str x

/-- what stands at a tracked address -/
inductive HO where
  /-- a list -/
  | lst (xs : List V)
  /-- a tuple (never changes) -/
  | tup (xs : List V)
  /-- a dict whose keys are ints and texts; one whose keys are tuples of ints and texts (the empty one is both) -/
  | dK (kvs : List (Key × V)) | dT (kvs : List (List Key × V))
  /-- a set of ints: its members, its size -/
  | set (S : Int → Bool) (n : Nat)
  /-- an instance of the class at C, its dict at dx, its attributes -/
  | ins (C dx : Addr) (fs : List (Str × V))
  /-- the dict of the instance at x -/
  | own (x : Addr)
  /-- the dict of an exception -/
  | xd (fs : List (Str × V))
  /-- a bound method, f of x -/
  | met (f x : Addr)
  /-- a range object lo, lo + 1, .. below hi -/
  | rng (lo hi : Int)
  /-- a thing that is known to the object (the script; a dict while a loop walks it): read, never written while it is so -/
  | frz (o : Obj) (u : HO)
  /-- a code object's table -/
  | tbl (ps : Array Value)
  /-- any other thing, by what is true of its one object (a def of one's own: SetO a S n := HO.ext fun h => ..) -/
  | ext (φ : Heap → Prop)

abbrev Hp := Addr → Option HO
def upd (H : Hp) (a : Addr) (o : HO) : Hp := fun b => if b = a then some o else H b
theorem upd_same {H : Hp} {a : Addr} {o : HO} : upd H a o a = some o := by unfold upd; rw [if_pos rfl]
theorem upd_ne {H : Hp} {a b : Addr} {o : HO} (h : b ≠ a) : upd H a o b = H b := by unfold upd; rw [if_neg h]
theorem upd_upd {H : Hp} {a : Addr} {o u : HO} : upd (upd H a o) a u = upd H a u := by
  funext b; unfold upd; split <;> rfl
/-- two objects of different content stand apart -/
theorem ne_of {H : Hp} {a b : Addr} {o u : HO} (h : H a = some o) (h' : H b = some u) (d : o ≠ u) : a ≠ b := by
  intro e; subst e; rw [h] at h'; exact d (Option.some.inj h')
theorem ne_of_none {H : Hp} {a b : Addr} {o : HO} (h : H a = some o) (h' : H b = none) : a ≠ b := by
  intro e; subst e; rw [h] at h'; cases h'

section
variable (P : Program) (w : World)
def ObjOk (H : Hp) (h : Heap) (a : Addr) : HO → Prop
  | .lst xs => xs.length ≤ sizeLine ∧ ∃ (its : List Value) (n : Nat), Vals xs its ∧ h.get? a = some { cls := .type "list", data := .seq its.toArray n }
  | .tup xs => xs.length ≤ sizeLine ∧ ∃ its : List Value, Vals xs its ∧ IsTup h a its.toArray
  | .dK kvs => kvs.length ≤ sizeLine ∧ (a == sysModules) = false ∧ ∃ vs, KV kvs vs ∧ h.DictOf (mixKind P w) a vs
  | .dT kvs => kvs.length ≤ sizeLine ∧ (a == sysModules) = false ∧ ∃ xs : List (List Key × Addr × Value),
      Paired (fun (p : List Key × V) (q : List Key × Addr × Value) => p.1 = q.1 ∧ H q.2.1 = some (.tup (p.1.map kV)) ∧ RelV p.2 q.2.2) kvs xs ∧
      ∃ o es ep, h.get? a = some o ∧ o.ExactDict ∧ o.data = .dict es ep ∧ es.toList = xs.map (entryOfKey (tupleKind (mixKind P w))) ∧ (xs.map (·.1)).Nodup
  | .set S n => h.SetOf (intKind P w) a S n
  | .ins C dx fs => H dx = some (.own a) ∧ fs.length ≤ 1000 ∧ dx ≠ a ∧ h.get? a = some (PySem.W.instObj C dx) ∧
      ∃ mA, h.Ns1 dx mA ∧ (∀ f, RelO (fs.lookup f) (mA f)) ∧ PySem.Within mA (fs.map (·.1))
  | .own _ => ∃ o, h.get? a = some o
  | .xd fs => ∃ mA, h.Ns1 a mA ∧ ∀ f, RelO (fs.lookup f) (mA f)
  | .rng lo hi => ∃ t u v, h.get? a = some { cls := .type "range", data := .fields #[.int lo t, .int hi u, .int 1 v] }
  | .frz o u => h.get? a = some o ∧ ObjOk H h a u
  | .tbl ps => h.get? a = some { cls := .none, data := .fields ps }
  | .met f x => h.get? a = some (PySem.W.methodObj (.ref f) (.ref x))
  | .ext φ => φ h ∧ (∃ o, h.get? a = some o) ∧ ∀ h1 h2 : Heap, φ h1 → (∀ o, h1.get? a = some o → h2.get? a = some o) → φ h2
/-- the abstract heap is held -/
def HOk (H : Hp) (h : Heap) : Prop := ∀ a o, H a = some o → ObjOk P w H h a o
end

section
variable {P : Program} {w : World} {H H' : Hp} {h h' : Heap} {a : Addr} {o : HO}
theorem ObjOk.lt (x : ObjOk P w H h a o) : a < h.objs.size := by
  cases o with
  | lst xs => obtain ⟨_, _, _, _, e⟩ := x; exact Heap.lt_size e
  | tup xs => obtain ⟨_, _, _, p⟩ := x; exact p.lt
  | dK kvs => obtain ⟨_, _, _, _, o, _, _, e, _⟩ := x; exact Heap.lt_size e
  | dT kvs => obtain ⟨_, _, _, _, o, _, _, e, _⟩ := x; exact Heap.lt_size e
  | set S n => obtain ⟨o, _, _, _, e, _⟩ := x; exact Heap.lt_size e
  | ins C dx fs => obtain ⟨_, _, _, e, _⟩ := x; exact Heap.lt_size e
  | own y => obtain ⟨_, e⟩ := x; exact Heap.lt_size e
  | xd fs => obtain ⟨_, ⟨_, _, _, e, _⟩, _⟩ := x; exact Heap.lt_size e
  | rng lo hi => obtain ⟨_, _, _, e⟩ := x; exact Heap.lt_size e
  | frz ob u => obtain ⟨e, _⟩ := x; exact Heap.lt_size e
  | tbl ps => exact Heap.lt_size (show h.get? a = some _ from x)
  | met f y => exact Heap.lt_size (show h.get? a = some _ from x)
  | ext φ => obtain ⟨_, ⟨_, e⟩, _⟩ := x; exact Heap.lt_size e
theorem Paired.mapP {α β : Type} {F G : α → β → Prop} : ∀ {l₁ : List α} {l₂ : List β}, Paired F l₁ l₂ → (∀ a b, F a b → G a b) → Paired G l₁ l₂
  | _, _, .nil, _ => .nil
  | _, _, .cons r t, f => .cons (f _ _ r) (Paired.mapP t f)
theorem Paired.imp' {α β : Type} {F G : α → β → Prop} (f : ∀ a b, F a b → G a b) {l₁ : List α} {l₂ : List β} (r : Paired F l₁ l₂) : Paired G l₁ l₂ := Paired.mapP r f
/-- what an object's description leans on: its own object, its own dict, the tuples -/
theorem ObjOk.stay (x : ObjOk P w H h a o) (k : ∀ b u, (b = a ∨ H b = some (.own a)) → h.get? b = some u → h'.get? b = some u)
    (ho : ∀ b, H b = some (.own a) → H' b = some (.own a)) (ht : ∀ b xs, H b = some (.tup xs) → H' b = some (.tup xs)) : ObjOk P w H' h' a o := by
  induction o with
  | lst xs => obtain ⟨z, its, n, r, e⟩ := x; exact ⟨z, its, n, r, k _ _ (.inl rfl) e⟩
  | tup xs => obtain ⟨z, its, r, ob, e, c⟩ := x; exact ⟨z, its, r, ob, k _ _ (.inl rfl) e, c⟩
  | dK kvs => obtain ⟨z, y, vs, r, ob, es, ep, e, c⟩ := x; exact ⟨z, y, vs, r, ob, es, ep, k _ _ (.inl rfl) e, c⟩
  | dT kvs =>
    obtain ⟨z, y, xs, r, ob, es, ep, e, c⟩ := x
    exact ⟨z, y, xs, Paired.mapP r fun p q z => ⟨z.1, ht _ _ z.2.1, z.2.2⟩, ob, es, ep, k _ _ (.inl rfl) e, c⟩
  | set S n => obtain ⟨ob, es, ep, t, e, c⟩ := x; exact ⟨ob, es, ep, t, k _ _ (.inl rfl) e, c⟩
  | ins C dx fs =>
    obtain ⟨d, z, ne, e, mA, ⟨od, es, ep, e2, c⟩, r⟩ := x
    exact ⟨ho _ d, z, ne, k _ _ (.inl rfl) e, mA, ⟨od, es, ep, k _ _ (.inr d) e2, c⟩, r⟩
  | own y => obtain ⟨ob, e⟩ := x; exact ⟨ob, k _ _ (.inl rfl) e⟩
  | xd fs => obtain ⟨mA, ⟨od, es, ep, e, c⟩, r⟩ := x; exact ⟨mA, ⟨od, es, ep, k _ _ (.inl rfl) e, c⟩, r⟩
  | rng lo hi => obtain ⟨t, u, v, e⟩ := x; exact ⟨t, u, v, k _ _ (.inl rfl) e⟩
  | frz ob u ih => obtain ⟨e, q⟩ := x; exact ⟨k _ _ (.inl rfl) e, ih q⟩
  | tbl ps =>
    have e : h.get? a = some { cls := .none, data := .fields ps } := x
    show h'.get? a = some { cls := .none, data := .fields ps }
    exact k a _ (.inl rfl) e
  | met f y =>
    have e : h.get? a = some (PySem.W.methodObj (.ref f) (.ref y)) := x
    show h'.get? a = some (PySem.W.methodObj (.ref f) (.ref y))
    exact k a _ (.inl rfl) e
  | ext φ => obtain ⟨p, ⟨o, e⟩, st⟩ := x; exact ⟨st _ _ p fun o q => k _ _ (.inl rfl) q, ⟨o, k _ _ (.inl rfl) e⟩, st⟩
theorem HOk.lt (x : HOk P w H h) (e : H a = some o) : a < h.objs.size := (x a o e).lt
theorem HOk.fresh (x : HOk P w H h) (e : h.objs.size ≤ a) : H a = none := by
  cases q : H a with
  | none => rfl
  | some u => exact absurd (Nat.lt_of_lt_of_le (x.lt q) e) (Nat.lt_irrefl _)
/-- every object of the heap is kept -/
theorem HOk.kept (x : HOk P w H h) (k : ∀ b u, h.get? b = some u → h'.get? b = some u) : HOk P w H h' := fun a o e =>
  (x a o e).stay (fun b u _ q => k b u q) (fun _ q => q) fun _ _ q => q
/-- a new object is laid and tracked -/
theorem HOk.laid (x : HOk P w H h) (k : ∀ b u, h.get? b = some u → h'.get? b = some u) (hp : h.objs.size ≤ a) (new : ObjOk P w (upd H a o) h' a o) : HOk P w (upd H a o) h' := fun b u e => by
  have hn := x.fresh hp
  by_cases hb : b = a
  · subst hb; rw [upd_same] at e; cases e; exact new
  · rw [upd_ne hb] at e
    exact (x b u e).stay (fun c v _ q => k c v q) (fun c q => by rw [upd_ne (ne_of_none q hn)]; exact q) fun c xs q => by rw [upd_ne (ne_of_none q hn)]; exact q
end

/-- what may be read as u: it is u, or a known u -/
def Rd (H : Hp) (a : Addr) (u : HO) : Prop := H a = some u ∨ ∃ o, H a = some (.frz o u)
theorem Rd.of {H : Hp} {a : Addr} {u : HO} (h : H a = some u) : Rd H a u := .inl h
theorem Rd.ok {P : Program} {w : World} {H : Hp} {h : Heap} {a : Addr} {u : HO} (r : Rd H a u) (x : HOk P w H h) : ObjOk P w H h a u := by
  rcases r with r | ⟨o, r⟩
  · exact x a u r
  · obtain ⟨_, q⟩ := x a _ r
    exact q
/-- what may be written -/
def Mut : Option HO → Prop
  | some (.lst _) => True
  | some (.dK _) => True
  | some (.dT _) => True
  | some (.set _ _) => True
  | some (.ins _ _ _) => True
  | some (.ext _) => True
  | _ => False
section
variable {P : Program} {w : World} {H : Hp} {h h' : Heap} {x e : Addr} {o' : HO}
/-- the object at e is changed: x itself, or the dict of the instance x -/
theorem HOk.write (ok : HOk P w H h) (mu : Mut (H x)) (he : e = x ∨ H e = some (.own x)) (k : ∀ b u, b ≠ e → h.get? b = some u → h'.get? b = some u) (heo : ∃ u, h'.get? e = some u)
    (new : ObjOk P w (upd H x o') h' x o') : HOk P w (upd H x o') h' := fun b u q => by
  have nown : ∀ c y, H c = some (.own y) → c ≠ x := fun c y r z => by subst z; rw [r] at mu; exact mu
  have ntup : ∀ c xs, H c = some (.tup xs) → c ≠ x := fun c xs r z => by subst z; rw [r] at mu; exact mu
  by_cases hb : b = x
  · subst hb; rw [upd_same] at q; cases q; exact new
  · rw [upd_ne hb] at q
    by_cases hbe : b = e
    · have q' : H b = some (.own x) := by
        rcases he with z | z
        · exact absurd (hbe.trans z) hb
        · rw [hbe]; exact z
      rw [q] at q'; cases q'
      obtain ⟨v, hv⟩ := heo
      exact ⟨v, by rw [hbe]; exact hv⟩
    · refine (ok b u q).stay (fun c v hc r => k c v ?_ r) (fun c r => by rw [upd_ne (nown c b r)]; exact r) fun c xs r => by rw [upd_ne (ntup c xs r)]; exact r
      rcases hc with rfl | hc
      · exact hbe
      · rintro rfl
        rcases he with z | z
        · exact nown c b hc z
        · rw [hc] at z; cases z; exact hb rfl
end

/-! ### kept unless tracked; of the frames at fs (the callers') the slots may change (an exception that passes writes there); of the records at ex (iterators) nothing is said -/
structure Un (fs ex : List Addr) (H H' : Hp) (h h' : Heap) : Prop where
  keep : ∀ b o, h.get? b = some o → H b = none → b ∉ fs → b ∉ ex → h'.get? b = some o
  slot : ∀ b o, h.get? b = some o → H b = none → b ∈ fs → b ∉ ex → ∃ sl, h'.get? b = some { o with slots := sl }
  free : ∀ b o, h.get? b = some o → H b = none → b ∉ ex → H' b = none
  there : ∀ b o, h.get? b = some o → b ∉ ex → ∃ o', h'.get? b = some o'
  tups : ∀ b xs, H b = some (.tup xs) → H' b = some (.tup xs)
  frzs : ∀ b o u, H b = some (.frz o u) → H' b = some (.frz o u)
  tbls : ∀ b ps, H b = some (.tbl ps) → ∃ more, H' b = some (.tbl (ps ++ more))
section
variable {fs fs' ex ex' : List Addr} {H H1 H2 : Hp} {h h1 h2 h' : Heap} {a x e : Addr} {o : HO}
theorem Un.any (u : Un fs ex H H1 h h1) {b : Addr} {ob : Obj} (q : h.get? b = some ob) (n : H b = none) (hx : b ∉ ex) : ∃ sl, h1.get? b = some { ob with slots := sl } := by
  by_cases hb : b ∈ fs
  · exact u.slot b ob q n hb hx
  · exact ⟨ob.slots, u.keep b ob q n hb hx⟩
theorem Un.trans (a : Un fs ex H H1 h h1) (b : Un fs ex H1 H2 h1 h2) : Un fs ex H H2 h h2 where
  keep := fun c ob q n hc hx => b.keep c ob (a.keep c ob q n hc hx) (a.free c ob q n hx) hc hx
  slot := fun c ob q n hc hx => by
    obtain ⟨sl, e1⟩ := a.slot c ob q n hc hx
    obtain ⟨sl', e2⟩ := b.slot c _ e1 (a.free c ob q n hx) hc hx
    exact ⟨sl', e2⟩
  free := fun c ob q n hx => by
    obtain ⟨o', e1⟩ := a.there c ob q hx
    exact b.free c o' e1 (a.free c ob q n hx) hx
  there := fun c ob q hx => by
    obtain ⟨o', e1⟩ := a.there c ob q hx
    exact b.there c o' e1 hx
  tups := fun c xs q => b.tups c xs (a.tups c xs q)
  frzs := fun c ob xs q => b.frzs c ob xs (a.frzs c ob xs q)
  tbls := fun c ps q => by
    obtain ⟨m1, e1⟩ := a.tbls c ps q
    obtain ⟨m2, e2⟩ := b.tbls c _ e1
    exact ⟨m1 ++ m2, by rw [e2, Array.append_assoc]⟩
theorem Un.kept (k : ∀ b u, h.get? b = some u → h'.get? b = some u) : Un fs ex H H h h' :=
  ⟨fun b ob q _ _ _ => k b ob q, fun b ob q _ _ _ => ⟨ob.slots, k b ob q⟩, fun _ _ _ n _ => n, fun b ob q _ => ⟨ob, k b ob q⟩, fun _ _ q => q, fun _ _ _ q => q, fun _ ps q => ⟨#[], by rw [q]; simp⟩⟩
theorem Un.refl : Un fs ex H H h h := Un.kept fun _ _ q => q
theorem Un.laid (k : ∀ b u, h.get? b = some u → h'.get? b = some u) (hp : h.objs.size ≤ a) (hn : H a = none) : Un fs ex H (upd H a o) h h' where
  keep := fun b u q _ _ _ => k b u q
  slot := fun b u q _ _ _ => ⟨u.slots, k b u q⟩
  free := fun b u q n _ => by rw [upd_ne (Nat.ne_of_lt (Nat.lt_of_lt_of_le (Heap.lt_size q) hp))]; exact n
  there := fun b u q _ => ⟨u, k b u q⟩
  tups := fun b xs q => by rw [upd_ne (ne_of_none q hn)]; exact q
  frzs := fun b u xs q => by rw [upd_ne (ne_of_none q hn)]; exact q
  tbls := fun b ps q => ⟨#[], by rw [upd_ne (ne_of_none q hn), q]; simp⟩
theorem Un.write (mu : Mut (H x)) (he : e = x ∨ H e = some (.own x)) (k : ∀ b u, b ≠ e → h.get? b = some u → h'.get? b = some u) (heo : ∃ u, h'.get? e = some u) : Un fs ex H (upd H x o) h h' := by
  have hx : ∀ b, H b = none → b ≠ x := fun b n z => by subst z; rw [n] at mu; exact mu
  have hb : ∀ b, H b = none → b ≠ e := fun b n z => by
    subst z
    rcases he with r | r
    · exact hx b n r
    · rw [n] at r; cases r
  have hm : ∀ b u, H b = some u → ¬ Mut (some u) → b ≠ x := fun b u q nm z => by subst z; rw [q] at mu; exact nm mu
  refine ⟨fun b u q n _ _ => k b u (hb b n) q, fun b u q n _ _ => ⟨u.slots, k b u (hb b n) q⟩, fun b u q n _ => by rw [upd_ne (hx b n)]; exact n, fun b u q _ => ?_,
    fun b xs q => by rw [upd_ne (hm b _ q fun z => z)]; exact q, fun b u xs q => by rw [upd_ne (hm b _ q fun z => z)]; exact q, fun b ps q => ⟨#[], by rw [upd_ne (hm b _ q fun z => z), q]; simp⟩⟩
  by_cases hbe : b = e
  · subst hbe; exact heo
  · exact ⟨u, k b u hbe q⟩
theorem Un.mono (u : Un fs ex H H1 h h1) (hs : ∀ b ∈ fs, b ∈ fs') (hx : ∀ b ∈ ex, b ∈ ex') : Un fs' ex' H H1 h h1 :=
  ⟨fun b ob q n hb he => u.keep b ob q n (fun z => hb (hs b z)) fun z => he (hx b z), fun _ _ q n _ he => u.any q n fun z => he (hx _ z), fun b ob q n he => u.free b ob q n fun z => he (hx b z), fun b ob q he => u.there b ob q fun z => he (hx b z), u.tups, u.frzs, u.tbls⟩
end

/-! ### the heap without what is tracked -/
def trk (h : Heap) (H : Hp) : List Addr := (List.range h.objs.size).filter fun a => (H a).isSome
def hidT (h : Heap) (H : Hp) : Heap := PySem.W.hideAll h (trk h H)
theorem hidT_size (h : Heap) (H : Hp) : (hidT h H).objs.size = h.objs.size := PySem.W.hideAll_size _ _
theorem hidT_get {h : Heap} {H : Hp} {b : Addr} {o : Obj} (e : h.get? b = some o) (n : H b = none) : (hidT h H).get? b = some o :=
  PySem.W.hideAll_get _ e fun hm => by
    have q : (H b).isSome = true := (List.mem_filter.mp hm).2
    rw [n] at q; simp at q
theorem of_hidT {h : Heap} {H : Hp} {b : Addr} {o : Obj} (e : (hidT h H).get? b = some o) : h.get? b = some o ∧ H b = none := by
  have e' : h.get? b = some o := PySem.W.of_hideAll (trk h H) e
  refine ⟨e', ?_⟩
  cases q : H b with
  | none => rfl
  | some x =>
    have hm : b ∈ trk h H := List.mem_filter.mpr ⟨List.mem_range.mpr (Heap.lt_size e'), by simp [q]⟩
    have z : (hidT h H).get? b = none := PySem.W.hideAll_none (trk h H) hm
    rw [z] at e; cases e

/-! ### OpenK's ledger, filled with every new object but one -/
def allNews (g h : Heap) (L : Addr) : List (Addr × Obj) := (List.range h.objs.size).filterMap fun a => if a = L ∨ (g.get? a).isSome = true then none else (h.get? a).map fun o => (a, o)
theorem mem_allNews {g h : Heap} {L a : Addr} {o : Obj} (h1 : a ≠ L) (h2 : g.get? a = none) (h3 : h.get? a = some o) : (a, o) ∈ allNews g h L :=
  List.mem_filterMap.mpr ⟨a, List.mem_range.mpr (Heap.lt_size h3), by simp [h1, h2, h3]⟩
theorem of_mem_allNews {g h : Heap} {L : Addr} {p : Addr × Obj} (hp : p ∈ allNews g h L) : p.1 ≠ L ∧ g.get? p.1 = none ∧ h.get? p.1 = some p.2 := by
  obtain ⟨b, _, e⟩ := List.mem_filterMap.mp hp
  split at e
  · cases e
  · rename_i hn
    cases q : h.get? b with
    | none => rw [q] at e; simp at e
    | some u =>
      rw [q] at e
      simp only [Option.map_some, Option.some.injEq] at e
      subst e
      refine ⟨fun z => hn (.inl z), ?_, q⟩
      show g.get? b = none
      cases r : g.get? b with
      | none => rfl
      | some v => exact (hn (.inr (by simp [r]))).elim
def rest (g h : Heap) (L d : Addr) : List (Addr × Obj) := (allNews g h L).filter fun p => decide (p.1 ≠ d)
theorem rest_ne {g h : Heap} {L d : Addr} : ∀ p ∈ rest g h L d, p.1 ≠ d := fun p hp => of_decide_eq_true (List.mem_filter.mp hp).2
theorem mem_rest {g h : Heap} {L d a : Addr} {o : Obj} (h1 : a ≠ L) (h2 : g.get? a = none) (h3 : h.get? a = some o) (h4 : a ≠ d) : (a, o) ∈ rest g h L d :=
  List.mem_filter.mpr ⟨mem_allNews h1 h2 h3, decide_eq_true h4⟩
theorem news_all {g h : Heap} {L : Addr} : News g L h (allNews g h L) := fun p hp => let ⟨a, b, c⟩ := of_mem_allNews hp; ⟨c, a, b⟩
theorem news_at {g h : Heap} {L d : Addr} {o : Obj} (h1 : d ≠ L) (h2 : g.get? d = none) (h3 : h.get? d = some o) : News g L h ((d, o) :: rest g h L d) := fun p hp => by
  rcases List.mem_cons.mp hp with rfl | hp
  · exact ⟨h3, h1, h2⟩
  · exact news_all p (List.mem_filter.mp hp).1
/-- behind a rule that changed d alone: all else but the frame is kept -/
theorem kept_of_news {g h h' : Heap} {L d : Addr} {m : Str → Option Value} (k : ∀ b o, g.get? b = some o → h.get? b = some o) (F : Fr g L h' m) (N : News g L h' (rest g h L d)) :
    ∀ b o, b ≠ L → b ≠ d → h.get? b = some o → h'.get? b = some o := fun b o h1 h2 e => by
  cases q : g.get? b with
  | some u =>
    have := k b u q
    rw [e] at this; cases this
    exact F.keep b _ q
  | none => exact (N (b, o) (mem_rest h1 q e h2)).1
end L2

namespace L2
open PySem PySem.Spec PyProof.Rows

/-- the module's facts, over the base: the heap at the law's entry without what is tracked there -/
structure Mod (K : PySem.W.Frag) (mg : Str → Option Value) (base : Heap) : Prop where
  kin : K.In base
  glob : base.Ns mainGlobals mg
  blt : ∃ mb, base.Ns builtinsNs mb ∧ ∀ x : Str, x ≠ "__name__" → mb x = bootBuiltins x
  nolimit : base.NoLimit

/-- the context: a def's body (or a comprehension's block) running. base: fixed through the whole law; s₀, H₀: the entry; outer: the frames whose slots others may change (a def's callers); stack: all frames that run;
   ex: iterators that were made ahead of the entry and are walked here (a comprehension's); fn: the names whose cells were made at the entry (a def: all; a comprehension's block: its own); calm: not within an except suite; pn: pins that every state bears; xe: what is wanted of an exception that leaves the code -/
structure Cx where
  prog : Program
  w : World
  K : PySem.W.Frag
  mg : Str → Option Value
  base : Heap
  A : Around
  N : List Str
  s₀ : Shared
  H₀ : Hp
  env : Env
  outer : List Env
  stack : List Env
  ex : List Addr
  fn : Str → Bool
  calm : Bool
  pn : List (Addr × Obj)
  xe : Value → Shared → Prop
/-- the callers' frames -/
def frs (l : List Env) : List Addr := l.filterMap (·.frame)
abbrev Cx.fs (X : Cx) : List Addr := frs X.outer

def Vis (sc : Scope) (x : Str) : Prop := sc.names.lookup x = some .local ∨ sc.names.lookup x = some .cell ∨ sc.names.lookup x = some .free
def Loc (sc : Scope) (x : Str) : Prop := sc.names.lookup x = some .local ∨ sc.names.lookup x = some .cell
def Look (env : Env) (h : Heap) (m : Str → Option Value) (x : Str) (u : Value) : Prop :=
  (env.kindOf x = some .local ∧ m x = some u) ∨ ((env.kindOf x = some .cell ∨ env.kindOf x = some .free) ∧ ∃ c, env.cells.lookup x = some c ∧ h.IsCell c (some u))

structure Cx.Ok (X : Cx) : Prop where
  mod : Mod X.K X.mg X.base
  kind : X.env.scope.kind = .function
  glob : X.env.globals = mainGlobals
  blt : X.env.builtins = builtinsNs
  above : X.s₀.heap.objs.size ≤ X.env.locals
  inj : ∀ x y c, X.env.cells.lookup x = some c → X.env.cells.lookup y = some c → x = y
  has : ∀ x, (X.env.kindOf x = some .cell ∨ X.env.kindOf x = some .free) → ∃ c, X.env.cells.lookup x = some c
  cab : ∀ x c, X.fn x = true → X.env.cells.lookup x = some c → X.s₀.heap.objs.size ≤ c
  hd : X.calm = true → X.A.handled = none
  frames : X.A.frames = some X.stack
  stk : X.stack = X.outer ∨ (X.stack = X.env :: X.outer ∧ X.env.frame = some X.env.locals)
  exf : ∀ b ∈ X.ex, b ≠ X.env.locals ∧ ∀ x c, X.env.cells.lookup x = some c → c ≠ b
  bs : ∀ b o, X.base.get? b = some o → X.s₀.heap.get? b = some o ∧ X.H₀ b = none
  bsz : X.base.objs.size ≤ X.s₀.heap.objs.size
  noex : ∀ b o, X.base.get? b = some o → b ∉ X.ex
  exfs : ∀ b ∈ X.ex, b ∉ X.fs
  funs : X.s₀.heap.FunFrames X.base X.outer
  frf : ∀ b ∈ X.fs, X.H₀ b = none

structure Inv (X : Cx) (pins : List (Addr × Obj)) (σ : List (Option V)) (H : Hp) (s : Shared) : Prop where
  ok : X.Ok
  os : s.os = X.s₀.os
  bare : AllBare s.gens
  base : Un X.fs X.ex X.H₀ H X.s₀.heap s.heap
  loc : ∃ m, s.heap.Ns X.env.locals m ∧ ∀ (i : Nat) (x : Str) (v : V), X.N[i]? = some x → σ[i]? = some (some v) → Vis X.env.scope x → ∃ u, RelV v u ∧ Look X.env s.heap m x u
  cell : ∀ x c, X.env.cells.lookup x = some c → ∃ v, s.heap.IsCell c v
  free : H X.env.locals = none
  freeC : ∀ x c, X.env.cells.lookup x = some c → H c = none
  pin : ∀ p ∈ X.pn ++ pins, s.heap.get? p.1 = some p.2 ∧ H p.1 = none ∧ p.1 ≠ X.env.locals ∧ p.1 ∉ X.fs ∧ ∀ v, p.2.data ≠ .cell v
  hok : HOk X.prog X.w H s.heap
  len : σ.length = X.N.length

section
variable {X : Cx} {pins : List (Addr × Obj)} {σ : List (Option V)} {H H' : Hp} {s : Shared} {h' : Heap}

theorem Cx.Ok.nofr (ok : X.Ok) {b : Addr} {o : Obj} (e : X.base.get? b = some o) : b ∉ X.fs := fun hb => by
  have := (ok.funs.mem hb).1
  rw [e] at this; cases this
theorem Inv.bs (I : Inv X pins σ H s) : ∀ b o, X.base.get? b = some o → s.heap.get? b = some o ∧ H b = none := fun b o e =>
  ⟨I.base.keep b o (I.ok.bs b o e).1 (I.ok.bs b o e).2 (I.ok.nofr e) (I.ok.noex b o e), I.base.free b o (I.ok.bs b o e).1 (I.ok.bs b o e).2 (I.ok.noex b o e)⟩
theorem Inv.bk (I : Inv X pins σ H s) : ∀ b o, X.base.get? b = some o → s.heap.get? b = some o := fun b o e => (I.bs b o e).1
theorem Inv.mod (I : Inv X pins σ H s) : Mod X.K X.mg X.base := I.ok.mod
theorem Inv.kIn (I : Inv X pins σ H s) : X.K.In s.heap := I.ok.mod.kin.keeps I.bk
theorem Inv.nolimit (I : Inv X pins σ H s) : s.heap.NoLimit := I.ok.mod.nolimit.keeps I.bk
/-- the frame over the base: for OpenK's rules (K.In X.base is I.mod.kin) -/
theorem Inv.fr (I : Inv X pins σ H s) : ∃ m, Fr X.base X.env.locals s.heap m :=
  let ⟨m, hn, _⟩ := I.loc
  ⟨m, hn, I.bk, Nat.le_trans I.ok.bsz I.ok.above⟩
theorem Inv.lt (I : Inv X pins σ H s) : X.env.locals < s.heap.objs.size := let ⟨_, hn, _⟩ := I.loc; hn.lt
theorem Inv.sz (I : Inv X pins σ H s) : X.s₀.heap.objs.size ≤ s.heap.objs.size := Nat.le_trans I.ok.above (Nat.le_of_lt I.lt)
theorem Inv.nofs (I : Inv X pins σ H s) {a : Addr} (h : s.heap.objs.size ≤ a) : a ∉ X.fs := fun hb => by
  obtain ⟨_, o, ho, _⟩ := I.ok.funs.mem hb
  exact absurd (Nat.lt_of_lt_of_le (Heap.lt_size ho) (Nat.le_trans I.sz h)) (Nat.lt_irrefl _)
theorem Inv.cne (I : Inv X pins σ H s) : ∀ x c, X.env.cells.lookup x = some c → c ≠ X.env.locals := fun x c e z => by
  obtain ⟨v, o, ho, hd⟩ := I.cell x c e
  obtain ⟨m, ⟨o', es, ep, ho', hd', _⟩, _⟩ := I.loc
  rw [z, ho'] at ho; cases ho; rw [hd'] at hd; cases hd
theorem Inv.funs (I : Inv X pins σ H s) : s.heap.FunFrames X.base X.outer := by
  have all : ∀ (l : List Env), (∀ b ∈ frs l, b ∈ X.fs) → X.s₀.heap.FunFrames X.base l → s.heap.FunFrames X.base l := by
    intro l
    induction l with
    | nil => intro _ _; trivial
    | cons env r ih =>
      intro hs hl
      obtain ⟨hk, ⟨L, o, hf, hn, ho, hd⟩, hr⟩ := hl
      have hL : L ∈ X.fs := hs L (by unfold frs; rw [List.filterMap_cons, hf]; exact List.mem_cons_self)
      obtain ⟨sl, e⟩ := I.base.slot L o ho (I.ok.frf L hL) hL fun z => I.ok.exfs L z hL
      exact ⟨hk, ⟨L, _, hf, hn, e, hd⟩, ih (fun b hb => hs b (by unfold frs; rw [List.filterMap_cons, hf]; exact List.mem_cons_of_mem _ hb)) hr⟩
  exact all X.outer (fun _ hb => hb) I.ok.funs

/-- the frames that run, for a call -/
theorem Inv.stack (I : Inv X pins σ H s) : s.heap.FunFrames X.base X.stack := by
  rcases I.ok.stk with e | ⟨e, hf⟩
  · rw [e]; exact I.funs
  · rw [e]
    obtain ⟨m, hn, _⟩ := I.loc
    refine .cons (by rw [I.ok.kind]; decide) hf hn ?_ I.funs
    exact Heap.get?_none_of_le (Nat.le_trans I.ok.bsz I.ok.above)
theorem Inv.stkSub (I : Inv X pins σ H s) : ∀ b ∈ frs X.stack, b ∈ X.env.locals :: X.fs := fun b hb => by
  rcases I.ok.stk with e | ⟨e, hf⟩
  · rw [e] at hb; exact List.mem_cons_of_mem _ hb
  · rw [e] at hb
    unfold frs at hb
    rw [List.filterMap_cons, hf] at hb
    exact hb
theorem Inv.stkFree (I : Inv X pins σ H s) : ∀ b ∈ frs X.stack, H b = none := fun b hb => by
  rcases List.mem_cons.mp (I.stkSub b hb) with e | hb
  · rw [e]; exact I.free
  · obtain ⟨_, o, ho, _⟩ := I.ok.funs.mem hb
    exact I.base.free b o ho (I.ok.frf b hb) fun z => I.ok.exfs b z hb

/-- THE STEP: the untracked objects but the frame and the records at ch are kept (the callers' frames up to slots), the frame's map is kept, the new abstract heap is held -/
theorem Inv.step {g' : Array GenState} {t' : Nat} {d' : Drawn} {ch : List Addr} (I : Inv X pins σ H s)
    (hch : ∀ b ∈ ch, (b ∈ X.ex ∨ X.s₀.heap.objs.size ≤ b) ∧ b ≠ X.env.locals ∧ (∀ x c, X.env.cells.lookup x = some c → c ≠ b) ∧ ∀ p ∈ X.pn ++ pins, p.1 ≠ b)
    (keep : ∀ b o, b ≠ X.env.locals → b ∉ X.fs → b ∉ ch → s.heap.get? b = some o → H b = none → h'.get? b = some o)
    (slot : ∀ b o, b ≠ X.env.locals → b ∈ X.fs → b ∉ ch → s.heap.get? b = some o → H b = none → ∃ sl, h'.get? b = some { o with slots := sl }) (free : ∀ b o, b ∉ ch → s.heap.get? b = some o → H b = none → H' b = none)
    (there : ∀ b o, b ∉ ch → s.heap.get? b = some o → ∃ o', h'.get? b = some o')
    (tups : ∀ b xs, H b = some (.tup xs) → H' b = some (.tup xs)) (frzs : ∀ b o u, H b = some (.frz o u) → H' b = some (.frz o u)) (tbls : ∀ b ps, H b = some (.tbl ps) → ∃ more, H' b = some (.tbl (ps ++ more)))
    (ns : ∀ m, s.heap.Ns X.env.locals m → h'.Ns X.env.locals m) (hok : HOk X.prog X.w H' h') (hg : AllBare g') :
    Inv X pins σ H' { s with heap := h', gens := g', drawn := d', toks := t' } := by
  have neL : ∀ b o, X.s₀.heap.get? b = some o → b ≠ X.env.locals := fun b o e => Nat.ne_of_lt (Nat.lt_of_lt_of_le (Heap.lt_size e) I.ok.above)
  have neC : ∀ b o, X.s₀.heap.get? b = some o → b ∉ X.ex → b ∉ ch := fun b o e hx hb => by
    rcases (hch b hb).1 with z | z
    · exact hx z
    · exact absurd (Nat.lt_of_lt_of_le (Heap.lt_size e) z) (Nat.lt_irrefl _)
  have cellK : ∀ x c, X.env.cells.lookup x = some c → ∀ v, s.heap.IsCell c v → h'.IsCell c v := fun x c e v ⟨o, ho, hd⟩ => by
    have nch : c ∉ ch := fun z => (hch c z).2.2.1 x c e rfl
    by_cases hc : c ∈ X.fs
    · obtain ⟨sl, q⟩ := slot c o (I.cne x c e) hc nch ho (I.freeC x c e)
      exact ⟨_, q, hd⟩
    · exact ⟨o, keep c o (I.cne x c e) hc nch ho (I.freeC x c e), hd⟩
  refine ⟨I.ok, I.os, hg, ⟨fun b o e n hb hx => ?_, fun b o e n hb hx => ?_, fun b o e n hx => ?_, fun b o e hx => ?_, fun b xs e => tups b xs (I.base.tups b xs e), fun b o xs e => frzs b o xs (I.base.frzs b o xs e), fun b ps e => ?_⟩, ?_, fun x c e => ?_, ?_, fun x c e => ?_, fun p hp => ?_, hok, I.len⟩
  · exact keep b o (neL b o e) hb (neC b o e hx) (I.base.keep b o e n hb hx) (I.base.free b o e n hx)
  · obtain ⟨sl, e1⟩ := I.base.slot b o e n hb hx
    obtain ⟨sl', e2⟩ := slot b _ (neL b o e) hb (neC b o e hx) e1 (I.base.free b o e n hx)
    exact ⟨sl', e2⟩
  · obtain ⟨o', e1⟩ := I.base.there b o e hx
    exact free b o' (neC b o e hx) e1 (I.base.free b o e n hx)
  · obtain ⟨o', e1⟩ := I.base.there b o e hx
    exact there b o' (neC b o e hx) e1
  · obtain ⟨m1, e1⟩ := I.base.tbls b ps e
    obtain ⟨m2, e2⟩ := tbls b _ e1
    exact ⟨m1 ++ m2, by rw [e2, Array.append_assoc]⟩
  · obtain ⟨m, hn, hl⟩ := I.loc
    refine ⟨m, ns m hn, fun i x v e1 e2 e3 => ?_⟩
    obtain ⟨u, r, l⟩ := hl i x v e1 e2 e3
    refine ⟨u, r, ?_⟩
    rcases l with l | ⟨k, c, e, z⟩
    · exact .inl l
    · exact .inr ⟨k, c, e, cellK x c e _ z⟩
  · obtain ⟨v, z⟩ := I.cell x c e
    exact ⟨v, cellK x c e v z⟩
  · obtain ⟨m, ⟨o, _, _, ho, _⟩, _⟩ := I.loc
    exact free _ o (fun z => (hch _ z).2.1 rfl) ho I.free
  · obtain ⟨v, o, ho, hd⟩ := I.cell x c e
    exact free c o (fun z => (hch c z).2.2.1 x c e rfl) ho (I.freeC x c e)
  · obtain ⟨e, n, ne, nf, d⟩ := I.pin p hp
    have nch : p.1 ∉ ch := fun z => (hch p.1 z).2.2.2 p hp rfl
    exact ⟨keep p.1 p.2 ne nf nch e n, free p.1 p.2 nch e n, ne, nf, d⟩
/-- .. where the frame's own object is kept too -/
theorem Inv.un {t' : Nat} (I : Inv X pins σ H s) (u : Un X.fs [] H H' s.heap h') (hok : HOk X.prog X.w H' h') : Inv X pins σ H' { s with heap := h', toks := t' } := by
  obtain ⟨m, ⟨o, es, ep, ho, r⟩, _⟩ := id I.loc
  obtain ⟨sl, hL⟩ := u.any ho I.free (by simp)
  exact I.step (g' := s.gens) (d' := s.drawn) (ch := []) (fun _ z => nomatch z) (fun b o _ hb _ e n => u.keep b o e n hb (by simp)) (fun b o _ hb _ e n => u.slot b o e n hb (by simp)) (fun b o _ e n => u.free b o e n (by simp)) (fun b o _ e => u.there b o e (by simp)) u.tups u.frzs u.tbls (fun m' hm => by
    obtain ⟨o', es', ep', ho', r'⟩ := hm
    rw [ho] at ho'; cases ho'
    exact ⟨_, es', ep', hL, r'⟩) hok I.bare
/-- behind a call (or a comprehension's block): the slots of this frame may have changed too, the records at ch may have turned -/
theorem Inv.call {g' : Array GenState} {t' : Nat} {d' : Drawn} {ch : List Addr} (I : Inv X pins σ H s) (u : Un (frs X.stack) ch H H' s.heap h') (hok : HOk X.prog X.w H' h') (hg : AllBare g')
    (hch : ∀ b ∈ ch, (b ∈ X.ex ∨ X.s₀.heap.objs.size ≤ b) ∧ b ≠ X.env.locals ∧ (∀ x c, X.env.cells.lookup x = some c → c ≠ b) ∧ ∀ p ∈ X.pn ++ pins, p.1 ≠ b) :
    Inv X pins σ H' { s with heap := h', gens := g', drawn := d', toks := t' } := by
  obtain ⟨m, ⟨o, es, ep, ho, r⟩, _⟩ := id I.loc
  obtain ⟨sl, hL⟩ := u.any ho I.free fun z => (hch _ z).2.1 rfl
  exact I.step (ch := ch) hch (fun b o hL hb hc e n => u.keep b o e n (fun z => (List.mem_cons.mp (I.stkSub b z)).elim hL hb) hc) (fun b o _ _ hc e n => u.any e n hc) (fun b o hc e n => u.free b o e n hc) (fun b o hc e => u.there b o e hc) u.tups u.frzs u.tbls (fun m' hm => by
    obtain ⟨o', es', ep', ho', r'⟩ := hm
    rw [ho] at ho'; cases ho'
    exact ⟨_, es', ep', hL, r'⟩) hok hg
/-- an untracked record of ours (an iterator) has turned -/
theorem Inv.turned {t' : Nat} {it : Addr} (I : Inv X pins σ H s) (k : ∀ b o, b ≠ it → s.heap.get? b = some o → h'.get? b = some o) (hn : H it = none) (hL : it ≠ X.env.locals)
    (h1 : it ∈ X.ex ∨ X.s₀.heap.objs.size ≤ it) (h2 : ∀ x c, X.env.cells.lookup x = some c → c ≠ it) (h3 : ∀ p ∈ X.pn ++ pins, p.1 ≠ it) : Inv X pins σ H { s with heap := h', toks := t' } := by
  have nit : ∀ b u, H b = some u → b ≠ it := fun b u e z => by rw [z, hn] at e; cases e
  refine I.step (g' := s.gens) (d' := s.drawn) (ch := [it]) (fun b hb => ?_) (fun b o _ _ hc e _ => k b o (fun z => hc (by simp [z])) e) (fun b o _ _ hc e _ => ⟨o.slots, k b o (fun z => hc (by simp [z])) e⟩) (fun _ _ _ _ n => n)
    (fun b o hc e => ⟨o, k b o (fun z => hc (by simp [z])) e⟩) (fun _ _ e => e) (fun _ _ _ e => e) (fun b ps e => ⟨#[], by rw [e]; simp⟩) (fun m hm => ?_) (fun b u e => ?_) I.bare
  · have e : b = it := by simpa using hb
    subst e
    exact ⟨h1, hL, h2, h3⟩
  · obtain ⟨o, es, ep, ho, r⟩ := hm
    exact ⟨o, es, ep, k _ o (Ne.symm hL) ho, r⟩
  · refine (I.hok b u e).stay (fun c v hc q => k c v ?_ q) (fun _ q => q) fun _ _ q => q
    rcases hc with z | z
    · rw [z]; exact nit b u e
    · exact nit c _ z
theorem Inv.tok (I : Inv X pins σ H s) (t : Nat) : Inv X pins σ H { s with toks := t } := I.un (h' := s.heap) (t' := t) Un.refl I.hok
/-- all objects kept -/
theorem Inv.kept {t' : Nat} (I : Inv X pins σ H s) (k : ∀ b u, s.heap.get? b = some u → h'.get? b = some u) : Inv X pins σ H { s with heap := h', toks := t' } := I.un (Un.kept k) (I.hok.kept k)
/-- a new object laid and tracked -/
theorem Inv.laid {a : Addr} {o : HO} {t' : Nat} (I : Inv X pins σ H s) (k : ∀ b u, s.heap.get? b = some u → h'.get? b = some u) (hp : s.heap.objs.size ≤ a) (new : ObjOk X.prog X.w (upd H a o) h' a o) :
    Inv X pins σ (upd H a o) { s with heap := h', toks := t' } := I.un (Un.laid k hp (I.hok.fresh hp)) (I.hok.laid k hp new)
/-- an object written -/
theorem Inv.write {x e : Addr} {o : HO} {t' : Nat} (I : Inv X pins σ H s) (mu : Mut (H x)) (he : e = x ∨ H e = some (.own x)) (k : ∀ b u, b ≠ e → s.heap.get? b = some u → h'.get? b = some u) (heo : ∃ u, h'.get? e = some u)
    (new : ObjOk X.prog X.w (upd H x o) h' x o) : Inv X pins σ (upd H x o) { s with heap := h', toks := t' } := I.un (Un.write mu he k heo) (I.hok.write mu he k heo new)
/-- forgetting slots, pins -/
theorem Inv.weak {σ' : List (Option V)} (I : Inv X pins σ H s) (hl : σ'.length = σ.length) (w : ∀ (i : Nat) v, σ'[i]? = some (some v) → σ[i]? = some (some v)) : Inv X pins σ' H s :=
  ⟨I.ok, I.os, I.bare, I.base, let ⟨m, hn, hl'⟩ := I.loc; ⟨m, hn, fun i x v e1 e2 e3 => hl' i x v e1 (w i v e2) e3⟩, I.cell, I.free, I.freeC, I.pin, I.hok, hl.trans I.len⟩
theorem Inv.pins_of {pins' : List (Addr × Obj)} (I : Inv X pins σ H s) (h : ∀ p ∈ pins', s.heap.get? p.1 = some p.2 ∧ H p.1 = none ∧ p.1 ≠ X.env.locals ∧ p.1 ∉ X.fs ∧ ∀ v, p.2.data ≠ .cell v) : Inv X pins' σ H s :=
  ⟨I.ok, I.os, I.bare, I.base, I.loc, I.cell, I.free, I.freeC, fun p hp => (List.mem_append.mp hp).elim (fun z => I.pin p (List.mem_append_left _ z)) (h p), I.hok, I.len⟩

theorem nodup_ix {N : List Str} (hN : N.Nodup) {i j : Nat} {x : Str} (a : N[i]? = some x) (b : N[j]? = some x) : i = j := by
  obtain ⟨h1, e1⟩ := List.getElem?_eq_some_iff.mp a
  obtain ⟨h2, e2⟩ := List.getElem?_eq_some_iff.mp b
  exact (List.getElem_inj hN).mp (e1.trans e2.symm)

/-- a name is stored; what changed -/
theorem store_ok2 {M : Model} {A : Around} {E : Value → Shared → Prop} {i : Nat} {x : Str} {v : V} {u : Value} {Q : Unit → Shared → Prop} (I : Inv X pins σ H s) (hN : X.N.Nodup) (hi : X.N[i]? = some x) (hx : Loc X.env.scope x) (r : RelV v u)
    (h : ∀ s', Inv X pins (σ.set i (some v)) H s' → (∃ a, Heap.SameBut a s.heap s'.heap ∧ (a = X.env.locals ∨ X.env.cells.lookup x = some a)) → Q () s') (hf : X.fn x = true ∨ X.env.scope.names.lookup x = some .local := by first | exact .inl rfl | exact .inr rfl | assumption) : wpAny M A (storeName X.env x u) Q E s := by
  obtain ⟨m, hn, hl⟩ := id I.loc
  have hcls : (X.env.scope.kind == .class || (X.env.scope.kind == .module && X.env.locals != X.env.globals)) = false := by rw [I.ok.kind]; rfl
  have hiσ : i < σ.length := by rw [I.len]; exact (List.getElem?_eq_some_iff.mp hi).1
  have cne := I.cne
  have tracked : ∀ {a : Addr} {h' : Heap}, (∃ o, s.heap.get? a = some o ∧ H a = none) → Heap.SameBut a s.heap h' → HOk X.prog X.w H h' := fun {a h'} ha hs b ob e => by
    obtain ⟨_, _, hfree⟩ := ha
    refine (I.hok b ob e).stay (fun c w' hc q => (hs.2 c ?_).trans q) (fun _ q => q) fun _ _ q => q
    rintro rfl
    rcases hc with rfl | hc
    · rw [hfree] at e; cases e
    · rw [hfree] at hc; cases hc
  rcases hx with hk | hk
  · refine wpAny_storeName_local hk hn (fun h' hn' hs => ?_) hcls
    obtain ⟨oL, _, _, hoL, _⟩ := id hn
    refine h _ ⟨I.ok, I.os, I.bare, ⟨fun b o e n hb hx => ?_, fun b o e n hb hx => ?_, I.base.free, fun b o e hx => ?_, I.base.tups, I.base.frzs, I.base.tbls⟩, ⟨_, hn', fun j y v' e1 e2 e3 => ?_⟩, fun y c e => ?_, I.free, I.freeC, fun p hp => ?_, tracked ⟨oL, hoL, I.free⟩ hs, by simpa using I.len⟩ ⟨_, hs, .inl rfl⟩
    · exact (hs.2 b (Nat.ne_of_lt (Nat.lt_of_lt_of_le (Heap.lt_size e) I.ok.above))).trans (I.base.keep b o e n hb hx)
    · obtain ⟨sl, e1⟩ := I.base.slot b o e n hb hx
      exact ⟨sl, (hs.2 b (Nat.ne_of_lt (Nat.lt_of_lt_of_le (Heap.lt_size e) I.ok.above))).trans e1⟩
    · obtain ⟨o', e1⟩ := I.base.there b o e hx
      exact ⟨o', (hs.2 b (Nat.ne_of_lt (Nat.lt_of_lt_of_le (Heap.lt_size e) I.ok.above))).trans e1⟩
    · by_cases hj : j = i
      · subst hj
        rw [hi] at e1; cases e1
        rw [List.getElem?_set_self hiσ] at e2
        cases e2
        exact ⟨u, r, .inl ⟨hk, by simp⟩⟩
      · rw [List.getElem?_set_ne (Ne.symm hj)] at e2
        obtain ⟨u', r', q⟩ := hl j y v' e1 e2 e3
        refine ⟨u', r', ?_⟩
        rcases q with ⟨k, e⟩ | ⟨k, c, e, z⟩
        · refine .inl ⟨k, ?_⟩
          have : y ≠ x := fun e => hj (nodup_ix hN e1 (e ▸ hi))
          simp [this, e]
        · exact .inr ⟨k, c, e, z.sameBut hs (cne y c e)⟩
    · obtain ⟨w', z⟩ := I.cell y c e
      exact ⟨w', z.sameBut hs (cne y c e)⟩
    · obtain ⟨e, n, ne, nf, d⟩ := I.pin p hp
      exact ⟨(hs.2 p.1 ne).trans e, n, ne, nf, d⟩
  · have hfn : X.fn x = true := by
      rcases hf with z | z
      · exact z
      · rw [z] at hk; cases hk
    obtain ⟨c, hc⟩ := I.ok.has x (.inl hk)
    obtain ⟨w', z⟩ := I.cell x c hc
    refine wpAny_storeName_cell I.ok.kind hk hc z (fun h' hc' hs => ?_)
    obtain ⟨oc, hoc, hocd⟩ := id z
    refine h { s with heap := h' } ⟨I.ok, I.os, I.bare, ⟨fun b o e n hb hx => ?_, fun b o e n hb hx => ?_, I.base.free, fun b o e hx => ?_, I.base.tups, I.base.frzs, I.base.tbls⟩, ⟨m, hn.sameBut hs (Ne.symm (cne x c hc)), fun j y v' e1 e2 e3 => ?_⟩, fun y c' e => ?_, I.free, I.freeC, fun p hp => ?_, tracked ⟨oc, hoc, I.freeC x c hc⟩ hs, by simpa using I.len⟩ ⟨c, hs, .inr hc⟩
    · exact (hs.2 b (Nat.ne_of_lt (Nat.lt_of_lt_of_le (Heap.lt_size e) (I.ok.cab x c hfn hc)))).trans (I.base.keep b o e n hb hx)
    · obtain ⟨sl, e1⟩ := I.base.slot b o e n hb hx
      exact ⟨sl, (hs.2 b (Nat.ne_of_lt (Nat.lt_of_lt_of_le (Heap.lt_size e) (I.ok.cab x c hfn hc)))).trans e1⟩
    · obtain ⟨o', e1⟩ := I.base.there b o e hx
      exact ⟨o', (hs.2 b (Nat.ne_of_lt (Nat.lt_of_lt_of_le (Heap.lt_size e) (I.ok.cab x c hfn hc)))).trans e1⟩
    · by_cases hj : j = i
      · subst hj
        rw [hi] at e1; cases e1
        rw [List.getElem?_set_self hiσ] at e2
        cases e2
        exact ⟨u, r, .inr ⟨.inl hk, c, hc, hc'⟩⟩
      · rw [List.getElem?_set_ne (Ne.symm hj)] at e2
        obtain ⟨u', r', q⟩ := hl j y v' e1 e2 e3
        refine ⟨u', r', ?_⟩
        rcases q with q | ⟨k, c', e, z'⟩
        · exact .inl q
        · refine .inr ⟨k, c', e, z'.sameBut hs ?_⟩
          rintro rfl
          exact hj (nodup_ix hN e1 (I.ok.inj _ _ _ e hc ▸ hi))
    · by_cases hcc : c' = c
      · subst hcc; exact ⟨_, hc'⟩
      · obtain ⟨w2, z2⟩ := I.cell y c' e
        exact ⟨w2, z2.sameBut hs hcc⟩
    · obtain ⟨e, n, ne, nf, d⟩ := I.pin p hp
      refine ⟨(hs.2 p.1 ?_).trans e, n, ne, nf, d⟩
      intro q
      rw [q, hoc] at e
      have q' : oc = p.2 := Option.some.inj e
      exact d w' (by rw [← q']; exact hocd)
theorem store_ok {M : Model} {A : Around} {E : Value → Shared → Prop} {i : Nat} {x : Str} {v : V} {u : Value} {Q : Unit → Shared → Prop} (I : Inv X pins σ H s) (hN : X.N.Nodup) (hi : X.N[i]? = some x) (hx : Loc X.env.scope x) (r : RelV v u)
    (h : ∀ s', Inv X pins (σ.set i (some v)) H s' → Q () s') (hf : X.fn x = true ∨ X.env.scope.names.lookup x = some .local := by first | exact .inl rfl | exact .inr rfl | assumption) : wpAny M A (storeName X.env x u) Q E s :=
  store_ok2 I hN hi hx r (fun s' I' _ => h s' I') hf
/-- behind a call or a block, the state as it is -/
theorem Inv.call' {s' : Shared} {ch : List Addr} (I : Inv X pins σ H s) (ho : s'.os = s.os) (u : Un (frs X.stack) ch H H' s.heap s'.heap) (hok : HOk X.prog X.w H' s'.heap) (hg : AllBare s'.gens)
    (hch : ∀ b ∈ ch, (b ∈ X.ex ∨ X.s₀.heap.objs.size ≤ b) ∧ b ≠ X.env.locals ∧ (∀ x c, X.env.cells.lookup x = some c → c ≠ b) ∧ ∀ p ∈ X.pn ++ pins, p.1 ≠ b) : Inv X pins σ H' s' := by
  obtain ⟨h', g', d', t', o'⟩ := s'
  have e : o' = s.os := ho
  subst e
  exact I.call (g' := g') (t' := t') (d' := d') u hok hg hch
end

/-! ### the judgements -/
/-- an exception: its class, its own dict's address (where it has one), the abstract heap behind it -/
abbrev XK := Value → Option Addr → Hp → Prop
abbrev St := List (Option V)
abbrev VK := V → Hp → Prop
/-- an expression's reading; a test's; an argument list's -/
abbrev TE := St → Hp → VK → Prop
abbrev TT := St → Hp → (Bool → Hp → Prop) → Prop
abbrev TA := St → Hp → (List V → Hp → Prop) → Prop
/-- what is wanted behind a statement -/
structure Ends where
  nx : St → Hp → Prop
  rt : VK
  bk : St → Hp → Prop := fun _ _ => False
  ct : St → Hp → Prop := fun _ _ => False
abbrev TS := Ends → St → Hp → Prop

def EP (X : Cx) (pins : List (Addr × Obj)) (σ : St) (Q : VK) (u : Value) (s' : Shared) : Prop := ∃ v H', Inv X pins σ H' s' ∧ RelV v u ∧ Q v H'
def TP (X : Cx) (pins : List (Addr × Obj)) (σ : St) (Q : Bool → Hp → Prop) (b : Bool) (s' : Shared) : Prop := ∃ H', Inv X pins σ H' s' ∧ Q b H'
def AP (X : Cx) (pins : List (Addr × Obj)) (σ : St) (Q : List V → Hp → Prop) (us : List Value) (s' : Shared) : Prop := ∃ vs H', Inv X pins σ H' s' ∧ Vals vs us ∧ Q vs H'
def SP (X : Cx) (pins : List (Addr × Obj)) (D : Ends) (f : Flow) (s' : Shared) : Prop :=
  match f with
  | .next => ∃ σ' H', Inv X pins σ' H' s' ∧ D.nx σ' H'
  | .brk => ∃ σ' H', Inv X pins σ' H' s' ∧ D.bk σ' H'
  | .cont => ∃ σ' H', Inv X pins σ' H' s' ∧ D.ct σ' H'
  | .ret u => ∃ v σ' H', Inv X pins σ' H' s' ∧ RelV v u ∧ D.rt v H'

def PE (X : Cx) (e : Expr) (t : TE) : Prop :=
  ∀ (pins : List (Addr × Obj)) (s : Shared) (σ : St) (H : Hp) (Q : VK), Inv X pins σ H s → t σ H Q → wpAny (model X.prog X.w) X.A (eval e X.env) (EP X pins σ Q) X.xe s
def PT (X : Cx) (e : Expr) (t : TT) : Prop :=
  ∀ (pins : List (Addr × Obj)) (s : Shared) (σ : St) (H : Hp) (Q : Bool → Hp → Prop), Inv X pins σ H s → t σ H Q → wpAny (model X.prog X.w) X.A (isTrue e X.env (eval e X.env)) (TP X pins σ Q) X.xe s
/-- a test whatever its 'whole' is (and, or) -/
def PW (X : Cx) (e : Expr) (t : TT) : Prop :=
  ∀ (whole : Sem Value) (pins : List (Addr × Obj)) (s : Shared) (σ : St) (H : Hp) (Q : Bool → Hp → Prop), Inv X pins σ H s → t σ H Q → wpAny (model X.prog X.w) X.A (isTrue e X.env whole) (TP X pins σ Q) X.xe s
theorem PW.pt {X : Cx} {e : Expr} {t : TT} (h : PW X e t) : PT X e t := h _
/-- an argument list (no star), from the left -/
def PA (X : Cx) (es : List Expr) (t : TA) : Prop :=
  ∀ (pos : Pos) (pins : List (Addr × Obj)) (s : Shared) (σ : St) (H : Hp) (Q : List V → Hp → Prop), Inv X pins σ H s → t σ H Q → wpAny (model X.prog X.w) X.A (spliced (backTo pos (starEach es X.env))) (AP X pins σ Q) X.xe s
def PS (X : Cx) (st : Stmt) (t : TS) : Prop :=
  ∀ (pins : List (Addr × Obj)) (s : Shared) (σ : St) (H : Hp) (D : Ends), Inv X pins σ H s → t D σ H → wpAny (model X.prog X.w) X.A (exec st X.env) (SP X pins D) X.xe s
def PSs (X : Cx) (st : List Stmt) (t : TS) : Prop :=
  ∀ (pins : List (Addr × Obj)) (s : Shared) (σ : St) (H : Hp) (D : Ends), Inv X pins σ H s → t D σ H → wpAny (model X.prog X.w) X.A (execs st X.env) (SP X pins D) X.xe s
/-- weaken the end -/
theorem thn {α : Type} {t : Sem α} {Q Q' : α → Shared → Prop} {M : Model} {A : Around} {E : Value → Shared → Prop} {s : Shared} (h : wpAny M A t Q E s) (hQ : ∀ a s, Q a s → Q' a s) : wpAny M A t Q' E s := wpAny_mono h hQ fun _ _ x => x
end L2

namespace L2
open PySem PySem.Spec PyProof.Rows
section
variable {X : Cx}

/-- two expressions in a row -/
theorem bin {a b : Expr} {ta tb : TE} (ha : PE X a ta) (hb : PE X b tb) {pins : List (Addr × Obj)} {s : Shared} {σ : St} {H : Hp} {R : V → V → Hp → Prop} (I : Inv X pins σ H s) (h : ta σ H fun x H1 => tb σ H1 fun y H2 => R x y H2)
    {α : Type} {Q : α → Shared → Prop} {f : Value → Value → Sem α}
    (hf : ∀ v u s2 x y H2, Inv X pins σ H2 s2 → RelV x v → RelV y u → R x y H2 → wpAny (model X.prog X.w) X.A (f v u) Q X.xe s2) :
    wpAny (model X.prog X.w) X.A (eval a X.env) (fun v s₁ => wpAny (model X.prog X.w) X.A (eval b X.env) (fun u s₂ => wpAny (model X.prog X.w) X.A (f v u) Q X.xe s₂) X.xe s₁) X.xe s := by
  refine thn (ha pins s σ H _ I h) fun v s1 ⟨x, H1, I1, r1, q1⟩ => ?_
  refine thn (hb pins s1 σ H1 _ I1 q1) fun u s2 ⟨y, H2, I2, r2, q2⟩ => ?_
  exact hf v u s2 x y H2 I2 r1 r2 q2

/-! ### names and constants -/
def tVar (i : Nat) : TE := fun σ H Q => ∃ v, σ[i]? = some (some v) ∧ Q v H
def tC (v : V) : TE := fun _ H Q => Q v H
theorem pe_var {i : Nat} {x : Str} {pos : Pos} (hN : X.N[i]? = some x) (hv : Vis X.env.scope x) (hd : (x == ("__debug__" : Str)) = false := by decide) (hcd : (x == ("__classdict__" : Str)) = false := by decide) : PE X (.Name x pos) (tVar i) := by
  intro pins s σ H Q I h
  obtain ⟨v, e, h⟩ := h
  obtain ⟨m, hn, hl⟩ := I.loc
  obtain ⟨u, r, l⟩ := hl i x v hN e hv
  have fin : EP X pins σ Q u s := ⟨v, H, I, r, h⟩
  rcases l with ⟨hk, hm⟩ | ⟨hk, c, hc, hcell⟩
  · exact wpAny_Name (wpAny_loadName_local I.ok.kind hk hn hm fin) hd
  · rcases hk with hk | hk
    · exact wpAny_Name (wpAny_loadName_cell I.ok.kind hk hc hcell fin) hd
    · exact wpAny_Name (wpAny_loadName_free I.ok.kind hk hc hcell fin hcd) hd
theorem pe_int {i j pos} : PE X (.Constant (.int i) j pos) (tC (.int i)) := fun _ _ _ H _ I h => wpAny_Constant_int ⟨.int i, H, I.tok _, ⟨_, rfl⟩, h⟩
theorem pe_bl {b j pos} : PE X (.Constant (.bool b) j pos) (tC (.bl b)) := fun _ _ _ H _ I h => Constant_bool ⟨.bl b, H, I, rfl, h⟩
theorem pe_non {j pos} : PE X (.Constant .none j pos) (tC .non) := fun _ _ _ H _ I h => Constant_none ⟨.non, H, I, rfl, h⟩
theorem pe_str {x j pos} : PE X (.Constant (.str x) j pos) (tC (.str x)) := fun _ _ _ H _ I h => Calls.Constant_str ⟨.str x, H, I.tok _, ⟨_, rfl⟩, h⟩

/-- a global name of the def -/
def Gl (X : Cx) (x : Str) : Prop := X.env.kindOf x = some .globalImplicit
theorem ld_glob {E : Value → Shared → Prop} {pins : List (Addr × Obj)} {s : Shared} {σ : St} {H : Hp} {x : Str} {u : Value} {pos : Pos} {Q : Value → Shared → Prop} (I : Inv X pins σ H s) (hg : Gl X x) (hm : X.mg x = some u) (h : Q u s)
    (hd : (x == ("__debug__" : Str)) = false := by decide) : wpAny (model X.prog X.w) X.A (eval (.Name x pos) X.env) Q E s :=
  Calls.Name_function_global I.ok.kind hg (Calls.loadGlobal_global (by rw [I.ok.glob]; exact I.mod.glob.keeps I.bk) hm h) hd
theorem ld_blt {E : Value → Shared → Prop} {pins : List (Addr × Obj)} {s : Shared} {σ : St} {H : Hp} {x : Str} {u : Value} {pos : Pos} {Q : Value → Shared → Prop} (I : Inv X pins σ H s) (hg : Gl X x) (hm : X.mg x = none) (hv : bootBuiltins x = some u) (h : Q u s)
    (hn : x ≠ "__name__" := by decide) (hd : (x == ("__debug__" : Str)) = false := by decide) : wpAny (model X.prog X.w) X.A (eval (.Name x pos) X.env) Q E s := by
  obtain ⟨mb, h1, h2⟩ := I.mod.blt
  exact Calls.Name_function_global I.ok.kind hg (Calls.loadGlobal_builtin (by rw [I.ok.glob]; exact I.mod.glob.keeps I.bk) hm (by rw [I.ok.blt]; exact h1.keeps I.bk) ((h2 x hn).trans hv) h) hd
/-- a module's constant, a class, a function, as a value -/
theorem pe_glob {x : Str} {v : V} {u : Value} {pos : Pos} (hg : Gl X x) (hm : X.mg x = some u) (r : RelV v u) (hd : (x == ("__debug__" : Str)) = false := by decide) : PE X (.Name x pos) (tC v) :=
  fun _ _ _ H _ I h => ld_glob I hg hm ⟨v, H, I, r, h⟩ hd
theorem pe_bltn {x : Str} {v : V} {u : Value} {pos : Pos} (hg : Gl X x) (hm : X.mg x = none) (hv : bootBuiltins x = some u) (r : RelV v u) (hn : x ≠ "__name__" := by decide) (hd : (x == ("__debug__" : Str)) = false := by decide) : PE X (.Name x pos) (tC v) :=
  fun _ _ _ H _ I h => ld_blt I hg hm hv ⟨v, H, I, r, h⟩ hn hd

/-! ### arithmetic -/
/-- two ints -/
def t2I (ta tb : TE) (k : Int → Int → Hp → Prop) : St → Hp → Prop := fun σ H => ta σ H fun x H1 => tb σ H1 fun y H2 => ∃ i j, x = .int i ∧ y = .int j ∧ k i j H2
def tAdd (ta tb : TE) : TE := fun σ H Q => t2I ta tb (fun i j H2 => Q (.int (i + j)) H2) σ H
def tSub (ta tb : TE) : TE := fun σ H Q => t2I ta tb (fun i j H2 => Q (.int (i - j)) H2) σ H
/-- the left factor below 2^64 -/
def tMul (ta tb : TE) : TE := fun σ H Q => t2I ta tb (fun i j H2 => (-(2 ^ 64) < i ∧ i < 2 ^ 64) ∧ Q (.int (i * j)) H2) σ H
variable {a b : Expr} {ta tb : TE} {pos : Pos}
theorem pe_add (ha : PE X a ta) (hb : PE X b tb) : PE X (.BinOp a .Add b pos) (tAdd ta tb) := by
  intro pins s σ H Q I h
  refine wpAny_BinOp (bin ha hb I h fun v u s2 x y H2 I2 rx ry q => ?_)
  obtain ⟨i, j, rfl, rfl, q⟩ := q
  obtain ⟨t, rfl⟩ := rx
  obtain ⟨t', rfl⟩ := ry
  exact add_int ⟨.int _, H2, I2.tok _, ⟨_, rfl⟩, q⟩
theorem pe_sub (ha : PE X a ta) (hb : PE X b tb) : PE X (.BinOp a .Sub b pos) (tSub ta tb) := by
  intro pins s σ H Q I h
  refine wpAny_BinOp (bin ha hb I h fun v u s2 x y H2 I2 rx ry q => ?_)
  obtain ⟨i, j, rfl, rfl, q⟩ := q
  obtain ⟨t, rfl⟩ := rx
  obtain ⟨t', rfl⟩ := ry
  exact sub_int ⟨.int _, H2, I2.tok _, ⟨_, rfl⟩, q⟩
theorem pe_mul (ha : PE X a ta) (hb : PE X b tb) : PE X (.BinOp a .Mult b pos) (tMul ta tb) := by
  intro pins s σ H Q I h
  refine wpAny_BinOp (bin ha hb I h fun v u s2 x y H2 I2 rx ry q => ?_)
  obtain ⟨i, j, rfl, rfl, ⟨q1, q2⟩, q⟩ := q
  obtain ⟨t, rfl⟩ := rx
  obtain ⟨t', rfl⟩ := ry
  exact mul_int ⟨.int _, H2, I2.tok _, ⟨_, rfl⟩, q⟩ (.of_left (intBits_le_64 q1 q2))

/-! ### comparisons -/
def PC (X : Cx) (op : CmpOp) (a b : Expr) (t : TE) : Prop :=
  ∀ (pins : List (Addr × Obj)) (s : Shared) (σ : St) (H : Hp) (Q : VK), Inv X pins σ H s → t σ H Q →
    wpAny (model X.prog X.w) X.A (eval a X.env) (fun v s₁ => wpAny (model X.prog X.w) X.A (eval b X.env) (fun u s₂ => wpAny (model X.prog X.w) X.A (compareOp op v u) (EP X pins σ Q) X.xe s₂) X.xe s₁) X.xe s
theorem nobehind (b : Expr) {op : CmpOp} (h : op ≠ .In) (h2 : op ≠ .NotIn) : behindInMarks op b = false := by
  have e1 : (op == CmpOp.In) = false := by cases op <;> first | rfl | exact absurd rfl h
  have e2 : (op == CmpOp.NotIn) = false := by cases op <;> first | rfl | exact absurd rfl h2
  cases b <;> simp [behindInMarks, e1, e2]
def tCmp (p : Int → Int → Bool) (ta tb : TE) : TE := fun σ H Q => t2I ta tb (fun i j H2 => Q (.bl (p i j)) H2) σ H
abbrev tLt : TE → TE → TE := tCmp fun i j => decide (i < j)
abbrev tLe : TE → TE → TE := tCmp fun i j => decide (i ≤ j)
abbrev tGt : TE → TE → TE := tCmp fun i j => decide (j < i)
abbrev tGe : TE → TE → TE := tCmp fun i j => decide (j ≤ i)
abbrev tEqI : TE → TE → TE := tCmp fun i j => decide (i = j)
abbrev tNeI : TE → TE → TE := tCmp fun i j => !decide (i = j)
/-- a comparison of two ints, by its rule -/
theorem pc_int {op : CmpOp} {p : Int → Int → Bool} (ha : PE X a ta) (hb : PE X b tb)
    (rule : ∀ (i j : Int) (t u : Tok) (Q : Value → Shared → Prop) (s : Shared), Q (.bool (p i j)) s → wpAny (model X.prog X.w) X.A (compareOp op (.int i t) (.int j u)) Q X.xe s) : PC X op a b (tCmp p ta tb) := by
  intro pins s σ H Q I h
  refine bin ha hb I h fun v u s2 x y H2 I2 rx ry q => ?_
  obtain ⟨i, j, rfl, rfl, q⟩ := q
  obtain ⟨t, rfl⟩ := rx
  obtain ⟨t', rfl⟩ := ry
  exact rule i j t t' _ s2 ⟨.bl _, H2, I2, rfl, q⟩
theorem pc_lt (ha : PE X a ta) (hb : PE X b tb) : PC X .Lt a b (tLt ta tb) := pc_int ha hb fun _ _ _ _ _ _ h => lt_int h
theorem pc_le (ha : PE X a ta) (hb : PE X b tb) : PC X .LtE a b (tLe ta tb) := pc_int ha hb fun _ _ _ _ _ _ h => le_int h
theorem pc_gt (ha : PE X a ta) (hb : PE X b tb) : PC X .Gt a b (tGt ta tb) := pc_int ha hb fun _ _ _ _ _ _ h => gt_int h
theorem pc_ge (ha : PE X a ta) (hb : PE X b tb) : PC X .GtE a b (tGe ta tb) := pc_int ha hb fun _ _ _ _ _ _ h => ge_int h
theorem pc_eqI (ha : PE X a ta) (hb : PE X b tb) : PC X .Eq a b (tEqI ta tb) := pc_int ha hb fun _ _ _ _ _ _ h => eq_int (by rw [Bool.beq_eq_decide_eq]; exact h)
theorem pc_neI (ha : PE X a ta) (hb : PE X b tb) : PC X .NotEq a b (tNeI ta tb) := pc_int ha hb fun _ _ _ _ _ _ h => ne_int (by rw [bne, Bool.beq_eq_decide_eq]; exact h)
/-- is None -/
def tIsN (ta : TE) : TE := fun σ H Q => ta σ H fun x H1 => Q (.bl (decide (x = .non))) H1
def tNotN (ta : TE) : TE := fun σ H Q => ta σ H fun x H1 => Q (.bl (!decide (x = .non))) H1
theorem RelV.none_iff {x : V} {v : Value} (r : RelV x v) : (v == Value.none) = decide (x = .non) := by
  cases x with
  | non => cases r; rfl
  | bl _ => cases r; rfl
  | int _ => obtain ⟨t, rfl⟩ := r; rfl
  | str _ => obtain ⟨t, rfl⟩ := r; rfl
  | byt _ => obtain ⟨t, rfl⟩ := r; rfl
  | flt _ => obtain ⟨t, rfl⟩ := r; rfl
  | ref _ => cases r; rfl
  | ty _ => cases r; rfl
theorem pc_isN {j pos'} (ha : PE X a ta) : PC X .Is a (.Constant .none j pos') (tIsN ta) := by
  intro pins s σ H Q I h
  refine thn (ha pins s σ H _ I h) fun v s1 ⟨x, H1, I1, r1, q1⟩ => ?_
  exact Constant_none (is_none_gen ⟨.bl _, H1, I1, by rw [r1.none_iff]; rfl, q1⟩)
theorem pc_notN {j pos'} (ha : PE X a ta) : PC X .IsNot a (.Constant .none j pos') (tNotN ta) := by
  intro pins s σ H Q I h
  refine thn (ha pins s σ H _ I h) fun v s1 ⟨x, H1, I1, r1, q1⟩ => ?_
  exact Constant_none (isnot_none_gen ⟨.bl _, H1, I1, by rw [r1.none_iff]; rfl, q1⟩)
/-- a comparison as a value, as a test -/
def tB (t : TE) : TT := fun σ H Q => t σ H fun x H1 => ∃ c, x = .bl c ∧ Q c H1
theorem pe_cmp {op : CmpOp} {t : TE} (h : PC X op a b t) (h1 : behindInMarks op b = false := by first | exact nobehind _ (by decide) (by decide) | rfl) : PE X (.Compare a [op] [b] pos) t := fun pins s σ H Q I hw => wpAny_Compare1 (h pins s σ H Q I hw) h1
theorem pt_cmp {op : CmpOp} {t : TE} (h : PC X op a b t) (h1 : behindInMarks op b = false := by first | exact nobehind _ (by decide) (by decide) | rfl) : PT X (.Compare a [op] [b] pos) (tB t) := by
  intro pins s σ H Q I hw
  refine wpAny_isTrue_Compare1 (thn (h pins s σ H _ I hw) fun v s1 h1 => thn h1 fun u s2 h2 => thn h2 fun c s3 ⟨x, H1, I1, r1, q1⟩ => ?_) h1
  obtain ⟨d, rfl, q⟩ := q1
  cases r1
  exact wpAny_truthy_bool ⟨H1, I1, q⟩
/-- an expression whose value is a bool, as a test -/
theorem pt_val {e : Expr} {t : TE} (h : PE X e t) (he : ∀ whole, isTrue e X.env whole = (do let v ← whole; standAt e.pos; holding [v] (truthy v)) := by intro _; rfl) : PT X e (tB t) := by
  intro pins s σ H Q I hw
  refine isTrue_plain (thn (h pins s σ H _ I hw) fun v s1 ⟨x, H1, I1, r1, q1⟩ => ?_) (he _)
  obtain ⟨d, rfl, q⟩ := q1
  cases r1
  exact wpAny_truthy_bool ⟨H1, I1, q⟩

/-! ### and, or, not -/
variable {tA tB' : TT} {rest : List Expr}
def tAnd (t u : TT) : TT := fun σ H Q => t σ H fun c H1 => if c = true then u σ H1 Q else Q false H1
def tOr (t u : TT) : TT := fun σ H Q => t σ H fun c H1 => if c = true then Q true H1 else u σ H1 Q
def tNot (t : TT) : TT := fun σ H Q => t σ H fun c H1 => Q (!c) H1
theorem pw_and1 (ha : PT X a tA) : PW X (.BoolOp .And [a] pos) tA := by
  intro wh pins s σ H Q I h
  refine isTrue_and (thn (ha pins s σ H Q I h) fun c s1 e => ?_)
  cases c with
  | true => exact isTrue_and_nil e
  | false => exact e
theorem pw_or1 (ha : PT X a tA) : PW X (.BoolOp .Or [a] pos) tA := by
  intro wh pins s σ H Q I h
  refine isTrue_or (thn (ha pins s σ H Q I h) fun c s1 e => ?_)
  cases c with
  | false => exact isTrue_or_nil e
  | true => exact e
theorem pw_and (ha : PT X a tA) (hb : PW X (.BoolOp .And (b :: rest) pos) tB') : PW X (.BoolOp .And (a :: b :: rest) pos) (tAnd tA tB') := by
  intro wh pins s σ H Q I h
  refine isTrue_and (thn (ha pins s σ H _ I h) fun c s1 ⟨H1, I1, q1⟩ => ?_)
  cases c with
  | true => exact hb wh pins s1 σ H1 Q I1 q1
  | false => exact ⟨H1, I1, q1⟩
theorem pw_or (ha : PT X a tA) (hb : PW X (.BoolOp .Or (b :: rest) pos) tB') : PW X (.BoolOp .Or (a :: b :: rest) pos) (tOr tA tB') := by
  intro wh pins s σ H Q I h
  refine isTrue_or (thn (ha pins s σ H _ I h) fun c s1 ⟨H1, I1, q1⟩ => ?_)
  cases c with
  | true => exact ⟨H1, I1, q1⟩
  | false => exact hb wh pins s1 σ H1 Q I1 q1
theorem pt_not (ha : PT X a tA) : PT X (.UnaryOp .Not a pos) (tNot tA) := by
  intro pins s σ H Q I h
  exact isTrue_not (ha pins s σ H (fun c H1 => Q (!c) H1) I h)
/-- .. as values (bools) -/
def tAndV (ta tb : TE) : TE := fun σ H Q => ta σ H fun x H1 => ∃ c, x = .bl c ∧ if c = true then tb σ H1 Q else Q (.bl false) H1
def tOrV (ta tb : TE) : TE := fun σ H Q => ta σ H fun x H1 => ∃ c, x = .bl c ∧ if c = true then Q (.bl true) H1 else tb σ H1 Q
def tNotV (ta : TE) : TE := fun σ H Q => ta σ H fun x H1 => ∃ c, x = .bl c ∧ Q (.bl (!c)) H1
theorem pe_one {op} {t : TE} (h : PE X a t) : PE X (.BoolOp op [a] pos) t := fun pins s σ H Q I hw => BoolOp_one (h pins s σ H Q I hw)
theorem pe_and (ha : PE X a ta) (hb : PE X (.BoolOp .And (b :: rest) pos) tb) : PE X (.BoolOp .And (a :: b :: rest) pos) (tAndV ta tb) := by
  intro pins s σ H Q I h
  refine BoolOp_and (thn (ha pins s σ H _ I h) fun v s1 ⟨x, H1, I1, r1, q1⟩ => ?_)
  obtain ⟨c, rfl, q1⟩ := q1
  cases r1
  refine wpAny_truthy_bool ?_
  cases c with
  | true => exact hb pins s1 σ H1 Q I1 q1
  | false => exact ⟨.bl false, H1, I1, rfl, q1⟩
theorem pe_or (ha : PE X a ta) (hb : PE X (.BoolOp .Or (b :: rest) pos) tb) : PE X (.BoolOp .Or (a :: b :: rest) pos) (tOrV ta tb) := by
  intro pins s σ H Q I h
  refine BoolOp_or (thn (ha pins s σ H _ I h) fun v s1 ⟨x, H1, I1, r1, q1⟩ => ?_)
  obtain ⟨c, rfl, q1⟩ := q1
  cases r1
  refine wpAny_truthy_bool ?_
  cases c with
  | false => exact hb pins s1 σ H1 Q I1 q1
  | true => exact ⟨.bl true, H1, I1, rfl, q1⟩
theorem pe_not (ha : PE X a ta) : PE X (.UnaryOp .Not a pos) (tNotV ta) := by
  intro pins s σ H Q I h
  refine UnaryOp_ (thn (ha pins s σ H _ I h) fun v s1 ⟨x, H1, I1, r1, q1⟩ => ?_)
  obtain ⟨c, rfl, q1⟩ := q1
  cases r1
  exact not_of (wpAny_truthy_bool ⟨.bl (!c), H1, I1, rfl, q1⟩)
/-- a if t else b -/
def tIf (t : TT) (ta tb : TE) : TE := fun σ H Q => t σ H fun c H1 => if c = true then ta σ H1 Q else tb σ H1 Q
theorem pe_ifExp {c : Expr} (hc : PT X c tA) (ha : PE X a ta) (hb : PE X b tb) : PE X (.IfExp c a b pos) (tIf tA ta tb) := by
  intro pins s σ H Q I h
  refine wpAny_IfExp (thn (hc pins s σ H _ I h) fun d s1 ⟨H1, I1, q1⟩ => ?_)
  cases d with
  | true => exact ha pins s1 σ H1 Q I1 q1
  | false => exact hb pins s1 σ H1 Q I1 q1
end
end L2

namespace L2
open PySem PySem.Spec PyProof.Rows

/-! ### a list, a tuple that is read: tracked, frozen, or an object of the module -/
def SqL (K : PySem.W.Frag) (H : Hp) (a : Addr) (xs : List V) : Prop :=
  Rd H a (.lst xs) ∨
    ∃ (o : Obj) (its : Array Value) (n : Nat), K.lookup a = some o ∧ o.cls = .type "list" ∧ o.dict = none ∧ o.data = .seq its n ∧ its.size ≤ sizeLine ∧ Vals xs its.toList
def SqT (K : PySem.W.Frag) (H : Hp) (a : Addr) (xs : List V) : Prop :=
  Rd H a (.tup xs) ∨
    ∃ (o : Obj) (its : Array Value) (n : Nat), K.lookup a = some o ∧ o.cls = .type "tuple" ∧ o.data = .seq its n ∧ its.size ≤ sizeLine ∧ Vals xs its.toList
def absV : Value → Option V
  | .none => some .non
  | .bool b => some (.bl b)
  | .int i _ => some (.int i)
  | .str x _ => some (.str x)
  | .bytes b _ => some (.byt b)
  | .float b _ => some (.flt b)
  | .ref a => some (.ref a)
  | .type n => some (.ty n)
  | _ => none
theorem RelV.abs {x : V} {u : Value} (r : RelV x u) : absV u = some x := by
  cases x with
  | non => cases r; rfl
  | bl _ => cases r; rfl
  | int _ => obtain ⟨t, rfl⟩ := r; rfl
  | str _ => obtain ⟨t, rfl⟩ := r; rfl
  | byt _ => obtain ⟨t, rfl⟩ := r; rfl
  | flt _ => obtain ⟨t, rfl⟩ := r; rfl
  | ref _ => cases r; rfl
  | ty _ => cases r; rfl
theorem RelV.inj {x y : V} {u : Value} (r : RelV x u) (q : RelV y u) : x = y := Option.some.inj (r.abs.symm.trans q.abs)
theorem Vals.inj : ∀ {xs ys : List V} {us : List Value}, Vals xs us → Vals ys us → xs = ys
  | _, _, _, .nil, .nil => rfl
  | _, _, _, .cons r t, .cons r' t' => by rw [r.inj r', Vals.inj t t']
section
variable {X : Cx} {pins : List (Addr × Obj)} {σ : St} {H : Hp} {s : Shared} {a : Addr} {xs ys : List V}
theorem SqL.of {K : PySem.W.Frag} (h : H a = some (.lst xs)) : SqL K H a xs := .inl (.inl h)
theorem SqT.of {K : PySem.W.Frag} (h : H a = some (.tup xs)) : SqT K H a xs := .inl (.inl h)
theorem Inv.list (I : Inv X pins σ H s) (h : SqL X.K H a xs) : ∃ its : List Value, Vals xs its ∧ PlainL s.heap a its.toArray ∧ xs.length ≤ sizeLine := by
  rcases h with h | ⟨o, its, n, hk, hc, hd, hs, hz, r⟩
  · obtain ⟨z, its, n, r, e⟩ := h.ok I.hok
    exact ⟨its, r, ⟨_, n, e, rfl, rfl, rfl⟩, z⟩
  · refine ⟨its.toList, r, ⟨o, n, I.kIn a o hk, hc, hd, by simpa using hs⟩, ?_⟩
    have e := r.length
    simp only [Array.length_toList] at e
    omega
theorem Inv.tuple (I : Inv X pins σ H s) (h : SqT X.K H a xs) : ∃ its : List Value, Vals xs its ∧ IsTup s.heap a its.toArray ∧ xs.length ≤ sizeLine := by
  rcases h with h | ⟨o, its, n, hk, hc, hs, hz, r⟩
  · obtain ⟨z, its, r, p⟩ := h.ok I.hok
    exact ⟨its, r, p, z⟩
  · refine ⟨its.toList, r, ⟨o, I.kIn a o hk, hc, n, by simpa using hs⟩, ?_⟩
    have e := r.length
    simp only [Array.length_toList] at e
    omega
theorem Inv.list_inj (I : Inv X pins σ H s) (h : SqL X.K H a xs) (h' : SqL X.K H a ys) : xs = ys := by
  obtain ⟨its, r, ⟨o, n, e, _, _, d⟩, _⟩ := I.list h
  obtain ⟨its', r', ⟨o', n', e', _, _, d'⟩, _⟩ := I.list h'
  rw [e] at e'; cases e'
  rw [d] at d'
  injection d' with d1 _
  have : its = its' := by simpa using congrArg Array.toList d1
  subst this
  exact r.inj r'
theorem Inv.tuple_inj (I : Inv X pins σ H s) (h : SqT X.K H a xs) (h' : SqT X.K H a ys) : xs = ys := by
  obtain ⟨its, r, ⟨o, e, _, n, d⟩, _⟩ := I.tuple h
  obtain ⟨its', r', ⟨o', e', _, n', d'⟩, _⟩ := I.tuple h'
  rw [e] at e'; cases e'
  rw [d] at d'
  injection d' with d1 _
  have : its = its' := by simpa using congrArg Array.toList d1
  subst this
  exact r.inj r'
end

/-! ### another wish about exceptions -/
abbrev Cx.wish (X : Cx) (E : Value → Shared → Prop) : Cx := { X with xe := E }
/-- no exception leaves -/
abbrev Cx.nox (X : Cx) : Cx := X.wish fun _ _ => False
theorem Cx.Ok.wish {X : Cx} (ok : X.Ok) (E : Value → Shared → Prop) : (X.wish E).Ok :=
  ⟨ok.mod, ok.kind, ok.glob, ok.blt, ok.above, ok.inj, ok.has, ok.cab, ok.hd, ok.frames, ok.stk, ok.exf, ok.bs, ok.bsz, ok.noex, ok.exfs, ok.funs, ok.frf⟩
theorem Cx.Ok.unwish {X : Cx} {E : Value → Shared → Prop} (ok : (X.wish E).Ok) : X.Ok :=
  ⟨ok.mod, ok.kind, ok.glob, ok.blt, ok.above, ok.inj, ok.has, ok.cab, ok.hd, ok.frames, ok.stk, ok.exf, ok.bs, ok.bsz, ok.noex, ok.exfs, ok.funs, ok.frf⟩
section
variable {X : Cx} {pins : List (Addr × Obj)} {σ : St} {H : Hp} {s : Shared} {E : Value → Shared → Prop}
theorem Inv.wish (I : Inv X pins σ H s) (E : Value → Shared → Prop) : Inv (X.wish E) pins σ H s := ⟨I.ok.wish E, I.os, I.bare, I.base, I.loc, I.cell, I.free, I.freeC, I.pin, I.hok, I.len⟩
theorem Inv.unwish (I : Inv (X.wish E) pins σ H s) : Inv X pins σ H s := ⟨I.ok.unwish, I.os, I.bare, I.base, I.loc, I.cell, I.free, I.freeC, I.pin, I.hok, I.len⟩
theorem SP.unwish {D : Ends} {f : Flow} {s' : Shared} (h : SP (X.wish E) pins D f s') : SP X pins D f s' := by
  cases f with
  | next => obtain ⟨σ', H', I, q⟩ := h; exact ⟨σ', H', I.unwish, q⟩
  | brk => obtain ⟨σ', H', I, q⟩ := h; exact ⟨σ', H', I.unwish, q⟩
  | cont => obtain ⟨σ', H', I, q⟩ := h; exact ⟨σ', H', I.unwish, q⟩
  | ret u => obtain ⟨v, σ', H', I, r, q⟩ := h; exact ⟨v, σ', H', I.unwish, r, q⟩
theorem PE.nox {e : Expr} {t : TE} (h : PE X.nox e t) : PE X e t := fun pins s σ H Q I hw =>
  wpAny_mono (h pins s σ H Q (I.wish _) hw) (fun _ _ ⟨v, H', I', r, q⟩ => ⟨v, H', I'.unwish, r, q⟩) fun _ _ z => False.elim z
theorem PT.nox {e : Expr} {t : TT} (h : PT X.nox e t) : PT X e t := fun pins s σ H Q I hw =>
  wpAny_mono (h pins s σ H Q (I.wish _) hw) (fun _ _ ⟨H', I', q⟩ => ⟨H', I'.unwish, q⟩) fun _ _ z => False.elim z
theorem PSs.nox {st : List Stmt} {t : TS} (h : PSs X.nox st t) : PSs X st t := fun pins s σ H D I hw =>
  wpAny_mono (h pins s σ H D (I.wish _) hw) (fun _ _ q => q.unwish) fun _ _ z => False.elim z
end

/-! ### blocks and small statements -/
section
variable {X : Cx} {st : Stmt} {rest : List Stmt} {t u : TS} {e : Expr} {te : TE} {pos : Pos}
def tNext : TS := fun D σ H => D.nx σ H
def tSeq (t u : TS) : TS := fun D σ H => t { D with nx := u D } σ H
theorem pss_nil : PSs X [] tNext := fun _ _ σ H _ I h => wpAny_execs_nil ⟨σ, H, I, h⟩
theorem pss_cons (h1 : PS X st t) (h2 : PSs X rest u) : PSs X (st :: rest) (tSeq t u) := by
  intro pins s σ H D I h
  refine wpAny_execs_cons (thn (h1 pins s σ H { D with nx := u D } I h) fun f s1 q => ?_)
  cases f with
  | next =>
    obtain ⟨σ', H', I', q⟩ := q
    exact h2 pins s1 σ' H' D I' q
  | ret v => exact q
  | brk => exact q
  | cont => exact q
theorem pss_one (h1 : PS X st t) : PSs X [st] t := by
  intro pins s σ H D I h
  refine wpAny_execs_cons (thn (h1 pins s σ H D I h) fun f s1 q => ?_)
  cases f with
  | next => exact wpAny_execs_nil q
  | ret v => exact q
  | brk => exact q
  | cont => exact q
def tBreak : TS := fun D σ H => D.bk σ H
def tCont : TS := fun D σ H => D.ct σ H
theorem ps_pass : PS X (.Pass pos) tNext := fun _ _ σ H _ I h => wpAny_Pass ⟨σ, H, I, h⟩
theorem ps_break : PS X (.Break pos) tBreak := fun _ _ σ H _ I h => wpAny_Break ⟨σ, H, I, h⟩
theorem ps_continue : PS X (.Continue pos) tCont := fun _ _ σ H _ I h => wpAny_Continue ⟨σ, H, I, h⟩
/-- in a def's body nothing is shown -/
theorem Inv.quiet {pins : List (Addr × Obj)} {σ : St} {H : Hp} {s : Shared} (I : Inv X pins σ H s) : interactive X.env = false := by simp [interactive, I.ok.kind]
/-- a docstring -/
theorem ps_doc {x j pos pos'} : PS X (.Expr (.Constant (.str x) j pos) pos') tNext := fun _ s σ H _ I h => wpAny_Expr (Calls.Constant_str (show SP X _ _ .next { s with toks := s.toks + 1 } from ⟨σ, H, I.tok _, h⟩)) I.quiet
/-- an expression whose value is dropped -/
def tDrop (te : TE) : TS := fun D σ H => te σ H fun _ H1 => D.nx σ H1
theorem ps_expr (he : PE X e te) (hs : swapsWith e none pos.line X.env = pure false := by rfl) : PS X (.Expr e pos) (tDrop te) := by
  intro pins s σ H D I h
  exact wpAny_Expr_any (thn (he pins s σ H _ I h) fun v s1 ⟨x, H1, I1, r1, q1⟩ => ⟨σ, H1, I1, q1⟩) I.quiet hs
def tRet (te : TE) : TS := fun D σ H => te σ H D.rt
theorem ps_ret (he : PE X e te) : PS X (.Return (some e) pos) (tRet te) := by
  intro pins s σ H D I h
  exact wpAny_Return_some (thn (he pins s σ H _ I h) fun v s1 ⟨x, H1, I1, r1, q1⟩ => ⟨x, σ, H1, I1, r1, q1⟩)
def tRetN : TS := fun D _ H => D.rt .non H
theorem ps_retN : PS X (.Return none pos) tRetN := fun _ _ σ H _ I h => wpAny_Return_none ⟨.non, σ, H, I, rfl, h⟩
def tIfS (c : TT) (t u : TS) : TS := fun D σ H => c σ H fun b H1 => if b = true then t D σ H1 else u D σ H1
theorem ps_if {c : Expr} {a b : List Stmt} {tc : TT} (hc : PT X c tc) (ha : PSs X a t) (hb : PSs X b u) : PS X (.If c a b pos) (tIfS tc t u) := by
  intro pins s σ H D I h
  refine wpAny_If (thn (hc pins s σ H _ I h) fun d s1 ⟨H1, I1, q1⟩ => ?_)
  cases d with
  | true => exact ha pins s1 σ H1 D I1 q1
  | false => exact hb pins s1 σ H1 D I1 q1
/-- code that the proof never comes to -/
def tNever : TS := fun _ _ _ => False
theorem ps_never : PS X st tNever := fun _ _ _ _ _ _ h => h.elim
theorem pss_never {sts : List Stmt} : PSs X sts tNever := fun _ _ _ _ _ _ h => h.elim
end

/-! ### targets -/
abbrev TG := V → St → Hp → (St → Hp → Prop) → Prop
abbrev TGs := List V → St → Hp → (St → Hp → Prop) → Prop
def PG (X : Cx) (target : Expr) (t : TG) : Prop :=
  ∀ (pins : List (Addr × Obj)) (s : Shared) (σ : St) (H : Hp) (v : V) (u : Value) (Q : St → Hp → Prop), Inv X pins σ H s → RelV v u → t v σ H Q →
    wpAny (model X.prog X.w) X.A (assign target X.env u) (fun _ s' => ∃ σ' H', Inv X pins σ' H' s' ∧ Q σ' H') X.xe s
/-- several targets, one after another -/
def PGs (X : Cx) (ts : List Expr) (t : TGs) : Prop :=
  ∀ (pins : List (Addr × Obj)) (s : Shared) (σ : St) (H : Hp) (vs : List V) (us : List Value) (Q : St → Hp → Prop), Inv X pins σ H s → Vals vs us → t vs σ H Q →
    wpAny (model X.prog X.w) X.A (assignInOrder ((assignEach ts X.env).map (·.2)) us) (fun _ s' => ∃ σ' H', Inv X pins σ' H' s' ∧ Q σ' H') X.xe s
/-- o[i] = v, by values -/
abbrev TSet := V → V → V → Hp → (Hp → Prop) → Prop
def PSet (X : Cx) (t : TSet) : Prop :=
  ∀ (pins : List (Addr × Obj)) (s : Shared) (σ : St) (H : Hp) (o i v : V) (ov iv u : Value) (Q : Hp → Prop), Inv X pins σ H s → RelV o ov → RelV i iv → RelV v u → t o i v H Q →
    wpAny (model X.prog X.w) X.A (setItem ov iv u) (fun _ s' => ∃ H', Inv X pins σ H' s' ∧ Q H') X.xe s
/-- a op= b, by values -/
abbrev TIp := V → V → Hp → VK → Prop
def PIp (X : Cx) (op : Operator) (t : TIp) : Prop :=
  ∀ (pins : List (Addr × Obj)) (s : Shared) (σ : St) (H : Hp) (x y : V) (v u : Value) (Q : VK), Inv X pins σ H s → RelV x v → RelV y u → t x y H Q →
    wpAny (model X.prog X.w) X.A (inplaceOp op v u) (EP X pins σ Q) X.xe s
section
variable {X : Cx} {pos : Pos}
def gName (i : Nat) : TG := fun v σ H Q => Q (σ.set i (some v)) H
theorem pg_name {i : Nat} {x : Str} (hN : X.N.Nodup) (hi : X.N[i]? = some x) (hx : Loc X.env.scope x) (hf : X.fn x = true ∨ X.env.scope.names.lookup x = some .local := by first | exact .inl rfl | exact .inr rfl | assumption) : PG X (.Name x pos) (gName i) := by
  intro pins s σ H v u Q I r h
  exact wpAny_assign_Name (store_ok I hN hi hx r (fun s' I' => ⟨_, H, I', h⟩) hf)
def gNil : TGs := fun vs σ H Q => vs = [] ∧ Q σ H
def gCons (t : TG) (u : TGs) : TGs := fun vs σ H Q => ∃ v r, vs = v :: r ∧ t v σ H fun σ' H' => u r σ' H' Q
theorem pgs_nil : PGs X [] gNil := by
  intro pins s σ H vs us Q I r h
  obtain ⟨e, h⟩ := h
  subst e
  cases r
  exact assignInOrder_nil ⟨σ, H, I, h⟩
theorem pgs_cons {e : Expr} {es : List Expr} {t : TG} {u : TGs} (h1 : PG X e t) (h2 : PGs X es u)
    (hs : (assignEach (e :: es) X.env).map (·.2) = assign e X.env :: (assignEach es X.env).map (·.2) := by rfl) : PGs X (e :: es) (gCons t u) := by
  intro pins s σ H vs us Q I r h
  obtain ⟨v, vr, e1, h⟩ := h
  subst e1
  cases r with
  | cons r rr =>
    rw [hs]
    refine assignInOrder_cons (thn (h1 pins s σ H _ _ _ I r h) fun _ s1 ⟨σ1, H1, I1, q1⟩ => ?_)
    exact h2 pins s1 σ1 H1 _ _ Q I1 rr q1
/-- (a, b, ..) = a tuple of that length -/
def gTup (K : PySem.W.Frag) (n : Nat) (t : TGs) : TG := fun v σ H Q => ∃ a xs, v = .ref a ∧ SqT K H a xs ∧ xs.length = n ∧ t xs σ H Q
theorem pg_tup {es : List Expr} {k : Nat} {t : TGs} {n : Nat} (hc : X.calm = true) (h : PGs X es t)
    (hn : (assignEach es X.env).length = n := by rfl) (hst : (assignEach es X.env).findIdx? (·.1) = none := by rfl) : PG X (.Tuple es k pos) (gTup X.K n t) := by
  intro pins s σ H v u Q I r hw
  obtain ⟨a, xs, e1, hq, hl, hw⟩ := hw
  subst e1
  cases r
  obtain ⟨its, rv, ht, hz⟩ := I.tuple hq
  refine assign_Tuple_tuple (I.ok.hd hc) ht (by simp [hn, ← hl, rv.length]) hst fun h' hx => ?_
  have I1 : Inv X pins σ H { s with heap := h' } := I.kept (t' := s.toks) fun b o e => hx b o (Nat.ne_of_lt (Heap.lt_size e)) e
  exact h pins _ σ H xs _ Q I1 (by simpa using rv) hw
/-- o[i] = .. -/
def gSub (to ti : TE) (t : TSet) : TG := fun v σ H Q => to σ H fun o H1 => ti σ H1 fun i H2 => t o i v H2 fun H3 => Q σ H3
theorem pg_sub {o i : Expr} {to ti : TE} {t : TSet} (ho : PE X o to) (hi : PE X i ti) (hs : PSet X t)
    (ha : ∀ v, assign (.Subscript o i pos) X.env v = (do
      let ov ← holding [v] (eval o X.env)
      let iv ← holding [v, ov] (eval i X.env)
      standAt pos
      holding [v, ov, iv] (setItem ov iv v)
      release [v, ov, iv] []) := by intro _; rfl) : PG X (.Subscript o i pos) (gSub to ti t) := by
  intro pins s σ H v u Q I r h
  rw [ha]
  refine wpAny_bind (wpAny_holding (thn (ho pins s σ H _ I h) fun ov s1 ⟨x, H1, I1, r1, q1⟩ => ?_))
  refine wpAny_bind (wpAny_holding (thn (hi pins s1 σ H1 _ I1 q1) fun iv s2 ⟨y, H2, I2, r2, q2⟩ => ?_))
  refine wpAny_bind (wpAny_standAt (wpAny_bind (wpAny_holding (thn (hs pins s2 σ H2 x y v ov iv u _ I2 r1 r2 r q2) fun _ s3 ⟨H3, I3, q3⟩ => ?_))))
  exact wpAny_release ⟨σ, H3, I3, q3⟩
/-- target = value -/
def tAsg (te : TE) (g : TG) : TS := fun D σ H => te σ H fun x H1 => g x σ H1 D.nx
theorem ps_asg {tg e : Expr} {te : TE} {g : TG} (he : PE X e te) (hg : PG X tg g) (hs : swapsWithSole [tg] e pos.line X.env = pure false := by rfl) (hw : swappedStores [tg] e X.env = pure none := by rfl)
    (h1 : (assignEach [tg] X.env).map (·.2) = [assign tg X.env] := by rfl) : PS X (.Assign [tg] e pos) (tAsg te g) := by
  intro pins s σ H D I h
  refine wpAny_Assign_stores (thn (he pins s σ H _ I h) fun v s1 ⟨x, H1, I1, r1, q1⟩ => ?_) hs hw
  rw [h1]
  exact thn (hg pins s1 σ H1 x v _ I1 r1 q1) fun _ s2 q => q
/-- name = value -/
theorem ps_set {i : Nat} {x : Str} {e : Expr} {te : TE} {pos' : Pos} (hN : X.N.Nodup) (hi : X.N[i]? = some x) (hx : Loc X.env.scope x) (he : PE X e te) (hs : swapsWith e (some (.Name x pos')) pos.line X.env = pure false := by rfl) (hf : X.fn x = true ∨ X.env.scope.names.lookup x = some .local := by first | exact .inl rfl | exact .inr rfl | assumption) :
    PS X (.Assign [.Name x pos'] e pos) (tAsg te (gName i)) := by
  intro pins s σ H D I h
  refine wpAny_Assign_Name (thn (he pins s σ H _ I h) fun v s1 ⟨y, H1, I1, r1, q1⟩ => ?_) hs
  exact store_ok I1 hN hi hx r1 (fun s2 I2 => ⟨_, H1, I2, q1⟩) hf
/-- a, b = x, y with plain local names: stored from the right; the pair itself is not tracked (the opening rows as in PyProof/Rows/TupAssign.lean:23) -/
def tPar (i j : Nat) (ta : TA) : TS := fun D σ H => ta σ H fun vs H1 => ∃ v w, vs = [v, w] ∧ D.nx ((σ.set i (some v)).set j (some w)) H1
theorem ps_par {i j : Nat} {x y : Str} {a b : Expr} {ta : TA} {px py pt : Pos} {kt k2 pt2} (hc : X.calm = true) (hN : X.N.Nodup) (hi : X.N[i]? = some x) (hj : X.N[j]? = some y) (hij : i ≠ j)
    (hx : X.env.scope.names.lookup x = some .local) (hy : X.env.scope.names.lookup y = some .local) (ha : PA X [a, b] ta)
    (hw : swappedStores [.Tuple [.Name x px, .Name y py] kt pt] (.Tuple [a, b] k2 pt2) X.env = pure (some [x, y]))
    (hs : swapsWithSole [.Tuple [.Name x px, .Name y py] kt pt] (.Tuple [a, b] k2 pt2) pos.line X.env = pure false := by rfl) :
    PS X (.Assign [.Tuple [.Name x px, .Name y py] kt pt] (.Tuple [a, b] k2 pt2) pos) (tPar i j ta) := by
  intro pins s σ H D I h
  rw [exec_Assign_arm]
  refine wpAny_bind (wpAny_standAt ?_)
  rw [hs]
  refine wpAny_bind (wpAny_pure ?_)
  rw [if_neg (by decide)]
  refine wpAny_bind (Tuple_ (thn (ha _ pins s σ H _ I h) fun us s1 ⟨vs, H1, I1, r1, q1⟩ => ?_))
  obtain ⟨v, w, e1, q1⟩ := q1
  subst e1
  obtain ⟨u1, u2, rfl, rv, rw'⟩ : ∃ u1 u2, us = [u1, u2] ∧ RelV v u1 ∧ RelV w u2 := by
    cases r1 with
    | cons p q =>
      cases q with
      | cons p' q' =>
        cases q'
        exact ⟨_, _, rfl, p, p'⟩
  refine wpAny_newObj_type ?_ (by show 2 ≤ sizeLine; decide)
  have I2 : Inv X pins σ H1 { s1 with heap := s1.heap.push { cls := .type "tuple", data := .seq [u1, u2].toArray } } := I1.kept (t' := s1.toks) fun b o e => Heap.get?_push_of_some _ e
  rw [hw]
  refine wpAny_bind (wpAny_pure ?_)
  show wpAny (model X.prog X.w) X.A (do rule "assign.swapped-stores"; let items ← unpackItems (.ref s1.heap.objs.size) 2 none; assignInOrder [fun v => bindName X.env y v, fun v => bindName X.env x v] items.reverse; pure Flow.next) _ _ _
  refine wpAny_bind (wpAny_rule (wpAny_bind (unpackItems_tuple (items := #[u1, u2]) (I.ok.hd hc) (IsTup.new s1.heap _) fun h' hx' => ?_)))
  have I3 := I2.kept (h' := h') (t' := s1.toks) fun b o e => hx' b o (Nat.ne_of_lt (Heap.lt_size e)) e
  show wpAny _ _ (assignInOrder [fun v => bindName X.env y v, fun v => bindName X.env x v] [u2, u1] >>= fun _ => pure Flow.next) _ _ _
  refine wpAny_bind (assignInOrder_cons (wpAny_bindName (store_ok I3 hN hj (.inl hy) rw' (fun s2 I4 => ?_) (.inr hy))))
  refine assignInOrder_cons (wpAny_bindName (store_ok I4 hN hi (.inl hx) rv (fun s3 I5 => assignInOrder_nil (wpAny_pure ?_)) (.inr hx)))
  rw [List.set_comm _ _ (Ne.symm hij)] at I5
  exact ⟨_, H1, I5, q1⟩
/-- name op= e -/
def tAug (i : Nat) (te : TE) (ti : TIp) : TS := fun D σ H => ∃ x, σ[i]? = some (some x) ∧ te σ H fun y H1 => ti x y H1 fun z H2 => D.nx (σ.set i (some z)) H2
theorem ps_aug {i : Nat} {x : Str} {e : Expr} {te : TE} {op : Operator} {ti : TIp} {pos' : Pos} (hN : X.N.Nodup) (hi : X.N[i]? = some x) (hx : Loc X.env.scope x) (he : PE X e te) (ho : PIp X op ti) (hf : X.fn x = true ∨ X.env.scope.names.lookup x = some .local := by first | exact .inl rfl | exact .inr rfl | assumption) :
    PS X (.AugAssign (.Name x pos') op e pos) (tAug i te ti) := by
  intro pins s σ H D I h
  obtain ⟨v, e1, h⟩ := h
  obtain ⟨m, hn, hl⟩ := I.loc
  have vis : Vis X.env.scope x := by rcases hx with k | k; exact .inl k; exact .inr (.inl k)
  obtain ⟨u, r, l⟩ := hl i x v hi e1 vis
  refine wpAny_AugAssign_Name ?_
  have go : wpAny (model X.prog X.w) X.A (eval e X.env) (fun w s₂ => wpAny (model X.prog X.w) X.A (inplaceOp op u w) (fun r s₃ => wpAny (model X.prog X.w) X.A (storeName X.env x r) (fun _ => SP X pins D .next) X.xe s₃) X.xe s₂) X.xe s := by
    refine thn (he pins s σ H _ I h) fun w s1 ⟨y, H1, I1, r1, q1⟩ => ?_
    refine thn (ho pins s1 σ H1 v y u w _ I1 r r1 q1) fun z s2 ⟨zv, H2, I2, r2, q2⟩ => ?_
    exact store_ok I2 hN hi hx r2 (fun s3 I3 => ⟨_, H2, I3, q2⟩) hf
  rcases l with ⟨hk, hm⟩ | ⟨hk, c, hc, hcell⟩
  · exact wpAny_loadName_local I.ok.kind hk hn hm go
  · rcases hk with hk | hk
    · exact wpAny_loadName_cell I.ok.kind hk hc hcell go
    · rcases hx with k | k
      · have : X.env.scope.names.lookup x = some .free := hk
        rw [k] at this; cases this
      · have : X.env.scope.names.lookup x = some .free := hk
        rw [k] at this; cases this
/-- o[i] op= e -/
def tAugS (to ti te : TE) (tget : V → V → Hp → VK → Prop) (tip : TIp) (tset : TSet) : TS := fun D σ H => to σ H fun o H1 => ti σ H1 fun i H2 => tget o i H2 fun x H3 => te σ H3 fun y H4 => tip x y H4 fun z H5 => tset o i z H5 fun H6 => D.nx σ H6
/-- o[i], by values -/
def PGet (X : Cx) (t : V → V → Hp → VK → Prop) : Prop :=
  ∀ (pins : List (Addr × Obj)) (s : Shared) (σ : St) (H : Hp) (o i : V) (ov iv : Value) (Q : VK), Inv X pins σ H s → RelV o ov → RelV i iv → t o i H Q →
    wpAny (model X.prog X.w) X.A (getItem ov iv) (EP X pins σ Q) X.xe s
theorem ps_augS {o i e : Expr} {to ti te : TE} {tget : V → V → Hp → VK → Prop} {tip : TIp} {tset : TSet} {op : Operator} {tpos : Pos} (ho : PE X o to) (hi : PE X i ti) (hg : PGet X tget) (he : PE X e te) (hp : PIp X op tip) (hs : PSet X tset)
    (ha : ∀ ov iv new, augStore i ov iv new = (do holding [new, ov, iv] (setItem ov iv new); release [new, ov, iv] []; pure .next) := by intros; rfl) : PS X (.AugAssign (.Subscript o i tpos) op e pos) (tAugS to ti te tget tip tset) := by
  intro pins s σ H D I h
  refine wpAny_AugAssign_SubscriptAny (thn (ho pins s σ H _ I h) fun ov s1 ⟨x1, H1, I1, r1, q1⟩ => ?_) ha
  refine thn (hi pins s1 σ H1 _ I1 q1) fun iv s2 ⟨x2, H2, I2, r2, q2⟩ => ?_
  refine thn (hg pins s2 σ H2 x1 x2 ov iv _ I2 r1 r2 q2) fun old s3 ⟨x3, H3, I3, r3, q3⟩ => ?_
  refine thn (he pins s3 σ H3 _ I3 q3) fun v s4 ⟨x4, H4, I4, r4, q4⟩ => ?_
  refine thn (hp pins s4 σ H4 x3 x4 old v _ I4 r3 r4 q4) fun new s5 ⟨x5, H5, I5, r5, q5⟩ => ?_
  exact thn (hs pins s5 σ H5 x1 x2 x5 ov iv new _ I5 r1 r2 r5 q5) fun _ s6 ⟨H6, I6, q6⟩ => ⟨σ, H6, I6, q6⟩
/-- ints -/
def ipI (f : Int → Int → Int) : TIp := fun x y H Q => ∃ i j, x = .int i ∧ y = .int j ∧ Q (.int (f i j)) H
theorem ip_add : PIp X .Add (ipI fun i j => i + j) := by
  intro pins s σ H x y v u Q I r1 r2 h
  obtain ⟨i, j, e1, e2, q⟩ := h
  subst e1; subst e2
  obtain ⟨t, rfl⟩ := r1
  obtain ⟨t', rfl⟩ := r2
  exact iadd_int ⟨.int _, H, I.tok _, ⟨_, rfl⟩, q⟩
theorem ip_sub : PIp X .Sub (ipI fun i j => i - j) := by
  intro pins s σ H x y v u Q I r1 r2 h
  obtain ⟨i, j, e1, e2, q⟩ := h
  subst e1; subst e2
  obtain ⟨t, rfl⟩ := r1
  obtain ⟨t', rfl⟩ := r2
  exact isub_int ⟨.int _, H, I.tok _, ⟨_, rfl⟩, q⟩
end

/-! ### while -/
section
variable {X : Cx} {pos : Pos}
/-- the invariant W with its measure -/
def tWhile (c : TT) (tb : TS) : TS := fun D σ H => ∃ W : Nat → St → Hp → Prop, (∃ m, W m σ H) ∧ ∀ m σ H, W m σ H →
  c σ H fun b H1 => if b = true then ∃ N : St → Hp → Prop, (∀ σ' H', N σ' H' → ∃ m', m' < m ∧ W m' σ' H') ∧ tb { D with nx := N, ct := N, bk := D.nx } σ H1 else D.nx σ H1
theorem ps_while {c : Expr} {body : List Stmt} {tc : TT} {tb : TS} (hp : PassesOwn (model X.prog X.w) X.A X.env X.xe) (hc : PT X c tc) (hb : PSs X body tb) : PS X (.While c body [] pos) (tWhile tc tb) := by
  intro pins s σ H D I h
  obtain ⟨W, ⟨m0, w0⟩, turn⟩ := h
  refine wpAny_While (codeAny_whileLoop (fun n s' => ∃ σ' H', Inv X pins σ' H' s' ∧ W n σ' H') ?_ m0 ⟨σ, H, I, w0⟩)
  rintro n s1 ⟨σ1, H1, I1, w1⟩
  refine wpAny_passesOwn hp (thn (hc pins s1 σ1 H1 _ I1 (turn n σ1 H1 w1)) fun b s2 ⟨H2, I2, q2⟩ => ?_)
  cases b with
  | true =>
    obtain ⟨N, hN, q2⟩ := q2
    rw [if_pos rfl]
    refine wpAny_passesOwn hp (thn (hb pins s2 σ1 H2 _ I2 q2) fun f s3 q3 => ?_)
    cases f with
    | next =>
      obtain ⟨σ3, H3, I3, n3⟩ := q3
      obtain ⟨m', hm, w3⟩ := hN σ3 H3 n3
      exact ⟨m', hm, σ3, H3, I3, w3⟩
    | cont =>
      obtain ⟨σ3, H3, I3, n3⟩ := q3
      obtain ⟨m', hm, w3⟩ := hN σ3 H3 n3
      exact ⟨m', hm, σ3, H3, I3, w3⟩
    | brk => exact q3
    | ret v => exact q3
  | false =>
    rw [if_neg Bool.false_ne_true]
    exact wpAny_execs_nil ⟨σ1, H2, I2, q2⟩
end

/-! ### what a loop or a comprehension walks -/
/-- at turn i: it yields x (the heap may grow), or it stops -/
structure It where
  go : Nat → Hp → Prop
  yld : Nat → Hp → V → Hp → Prop
  stop : Nat → Hp → Prop
/-- the iterator's own objects may turn: they are not the frame's, not pinned, younger than the entry (or a comprehension's own) -/
def FpOk (X : Cx) (pins : List (Addr × Obj)) (H : Hp) (b : Addr) : Prop :=
  H b = none ∧ b ≠ X.env.locals ∧ b ∉ X.fs ∧ (b ∈ X.ex ∨ X.s₀.heap.objs.size ≤ b) ∧ (∀ x c, X.env.cells.lookup x = some c → c ≠ b) ∧ ∀ p ∈ X.pn ++ pins, p.1 ≠ b
theorem Inv.fpOk {X : Cx} {pins : List (Addr × Obj)} {σ : St} {H H' : Hp} {s : Shared} {b : Addr} (I : Inv X pins σ H s) (hb : s.heap.objs.size ≤ b) (hn : H' b = none) : FpOk X pins H' b := by
  refine ⟨hn, Nat.ne_of_gt (Nat.lt_of_lt_of_le I.lt hb), I.nofs hb, .inr (Nat.le_trans I.sz hb), fun x c e z => ?_, fun p hp z => ?_⟩
  · obtain ⟨v, q⟩ := I.cell x c e
    exact absurd (Nat.lt_of_lt_of_le q.lt (by rw [z]; exact hb)) (Nat.lt_irrefl _)
  · exact absurd (Nat.lt_of_lt_of_le (Heap.lt_size (I.pin p hp).1) (by rw [z]; exact hb)) (Nat.lt_irrefl _)
structure Turn (P : Program) (w : World) (K : PySem.W.Frag) (tg : Expr) (J : It) (fp : List Addr) (it : Addr) (tn : Nat → Heap → Prop) : Prop where
  mem : it ∈ fp
  obj : ∀ i h, tn i h → ∀ b ∈ fp, ∃ o, h.get? b = some o ∧ ∀ v, o.data ≠ .cell v
  keep : ∀ i h h', tn i h → (∀ b ∈ fp, ∀ o, h.get? b = some o → h'.get? b = some o) → tn i h'
  item : ∀ (X : Cx), X.prog = P → X.w = w → X.K = K → X.calm = true → ∀ (i : Nat) (pins : List (Addr × Obj)) (s : Shared) (σ : St) (H : Hp) (E : Value → Shared → Prop), Inv X pins σ H s → (∀ b ∈ fp, FpOk X pins H b) → tn i s.heap → J.go i H →
    wpAny (model P w) X.A (pyNext (.ref it)) (fun r s1 => ∃ u, r = some u ∧
      wpAny (model P w) X.A (letOwnedTupleGo tg (.ref it) u) (fun _ s2 => ∃ x H', Inv X pins σ H' s2 ∧ RelV x u ∧ J.yld i H x H' ∧ tn (i + 1) s2.heap ∧ ∀ b ∈ fp, H' b = none) E s1) E s
  done : ∀ (X : Cx), X.prog = P → X.w = w → X.K = K → X.calm = true → ∀ (i : Nat) (pins : List (Addr × Obj)) (s : Shared) (σ : St) (H : Hp) (E : Value → Shared → Prop), Inv X pins σ H s → (∀ b ∈ fp, FpOk X pins H b) → tn i s.heap → J.stop i H →
    wpAny (model P w) X.A (pyNext (.ref it)) (fun r s1 => r = none ∧ Inv X pins σ H s1) E s
  self : ∀ (A : Around) (i : Nat) (s : Shared) (Q : Value → Shared → Prop) (E : Value → Shared → Prop), tn i s.heap → Q (.ref it) s → wpAny (model P w) A (pyIter (.ref it)) Q E s
abbrev TI := St → Hp → (It → Hp → Prop) → Prop
/-- an iterator has come -/
def PIE (X : Cx) (pins : List (Addr × Obj)) (σ : St) (tg : Expr) (R : It → Hp → Prop) (itv : Value) (s2 : Shared) : Prop :=
  ∃ (it : Addr) (fp : List Addr) (tn : Nat → Heap → Prop) (J : It) (H' : Hp), itv = .ref it ∧ Inv X pins σ H' s2 ∧ Turn X.prog X.w X.K tg J fp it tn ∧ tn 0 s2.heap ∧ (∀ b ∈ fp, FpOk X pins H' b) ∧ R J H'
def PI (X : Cx) (tg iter : Expr) (wi : TI) : Prop :=
  ∀ (pins : List (Addr × Obj)) (s : Shared) (σ : St) (H : Hp) (R : It → Hp → Prop), Inv X pins σ H s → wi σ H R →
    wpAny (model X.prog X.w) X.A (eval iter X.env) (fun v s1 => wpAny (model X.prog X.w) X.A (pyIter v) (PIE X pins σ tg R) X.xe s1) X.xe s

/-- the step ahead of the store is nothing for an iterator that keeps no tuple -/
theorem go_of {M : Model} {A : Around} {E : Value → Shared → Prop} {s : Shared} {tg : Expr} {it : Addr} {u : Value} {o : Obj} {n : String} {vs : Array Value} {Q : Unit → Shared → Prop} (ho : s.heap.get? it = some o) (hc : o.cls = .type n) (hd : o.data = .fields vs)
    (hn : ["enumerate", "zip", "dict_itemiterator", "dict_reverseitemiterator", "odict_iterator", "itertools.zip_longest", "itertools.pairwise"].contains n = false) (hQ : Q () s) : wpAny M A (letOwnedTupleGo tg (.ref it) u) Q E s := by
  unfold letOwnedTupleGo
  cases tg <;> first
    | exact wpAny_pure hQ
    | (cases u <;> first
        | exact wpAny_pure hQ
        | (refine wpAny_bind (wpAny_load ho ?_)
           rw [hc, hd]
           show wpAny M A (if (["enumerate", "zip", "dict_itemiterator", "dict_reverseitemiterator", "odict_iterator", "itertools.zip_longest", "itertools.pairwise"].contains n && vs[0]? == some (rawInt _)) = true then _ else _) Q E s
           rw [if_neg (by intro h; rw [hn, Bool.false_and] at h; cases h)]
           exact wpAny_pure hQ))

/-- the list at a, as it stands at each turn (a loop may append to it) -/
def Itl (K : PySem.W.Frag) (a : Addr) : It :=
  ⟨fun i H => ∃ xs x, SqL K H a xs ∧ xs[i]? = some x, fun i H x H' => H' = H ∧ ∀ xs, SqL K H a xs → xs[i]? = some x, fun i H => ∃ xs, SqL K H a xs ∧ xs.length ≤ i⟩
def Itt (K : PySem.W.Frag) (a : Addr) : It :=
  ⟨fun i H => ∃ xs x, SqT K H a xs ∧ xs[i]? = some x, fun i H x H' => H' = H ∧ ∀ xs, SqT K H a xs → xs[i]? = some x, fun i H => ∃ xs, SqT K H a xs ∧ xs.length ≤ i⟩
/-- lo, lo + 1, .. (n of them) -/
def Itr (lo : Int) (n : Nat) : It := ⟨fun i _ => i < n, fun i H x H' => H' = H ∧ x = .int (lo + i), fun i _ => n ≤ i⟩
theorem turn_list {P : Program} {w : World} {K : PySem.W.Frag} {tg : Expr} (a it : Addr) : Turn P w K tg (Itl K a) [it] it (fun i h => h.IsListIter it a i) where
  mem := by simp
  obj := fun i h st b hb => by
    have e : b = it := by simpa using hb
    subst e
    obtain ⟨o, e, c, d⟩ := st
    exact ⟨o, e, fun v z => by rw [d] at z; cases z⟩
  keep := fun i h h' st k => st.at fun o e => k it (by simp) o e
  item := by
    intro X hP hw hK hc i pins s σ H E I hf st hg
    subst hP hw hK
    obtain ⟨xs, x, hq, hx⟩ := hg
    obtain ⟨its, rv, p, hz⟩ := I.list hq
    obtain ⟨u, hu, ru⟩ := rv.get hx
    obtain ⟨f0, f1, f2, f3, f4, f5⟩ := hf it (by simp)
    refine wpAny_pyNext_list_item st p.isList (x := u) (by simpa using hu) fun h' st' sb => ?_
    have I1 : Inv X pins σ H { s with heap := h' } := I.turned (t' := s.toks) (fun b o hb e => (sb.2 b hb).trans e) f0 f1 f3 f4 f5
    obtain ⟨o, e, c, d⟩ := id st'
    exact ⟨u, rfl, go_of (s := { s with heap := h' }) e c d (by decide) ⟨x, H, I1, ru, ⟨rfl, fun ys hy => by rw [I.list_inj hy hq]; exact hx⟩, st', fun b hb => (hf b hb).1⟩⟩
  done := by
    intro X hP hw hK hc i pins s σ H E I hf st hg
    subst hP hw hK
    obtain ⟨xs, hq, hx⟩ := hg
    obtain ⟨its, rv, p, hz⟩ := I.list hq
    obtain ⟨f0, f1, f2, f3, f4, f5⟩ := hf it (by simp)
    have hl := rv.length
    exact wpAny_pyNext_list_end (I.ok.hd hc) st p.isList (by simp; omega) fun h' eb => ⟨rfl, I.turned (t' := s.toks) (fun b o hb e => eb b o hb e) f0 f1 f3 f4 f5⟩
  self := fun _ _ _ _ _ st h => wpAny_pyIter_listiter st h
theorem turn_tuple {P : Program} {w : World} {K : PySem.W.Frag} {tg : Expr} (a it : Addr) : Turn P w K tg (Itt K a) [it] it (fun i h => h.IsTupleIter it a i) where
  mem := by simp
  obj := fun i h st b hb => by
    have e : b = it := by simpa using hb
    subst e
    obtain ⟨o, e, c, d⟩ := st
    exact ⟨o, e, fun v z => by rw [d] at z; cases z⟩
  keep := fun i h h' st k => st.at fun o e => k it (by simp) o e
  item := by
    intro X hP hw hK hc i pins s σ H E I hf st hg
    subst hP hw hK
    obtain ⟨xs, x, hq, hx⟩ := hg
    obtain ⟨its, rv, p, hz⟩ := I.tuple hq
    obtain ⟨u, hu, ru⟩ := rv.get hx
    obtain ⟨f0, f1, f2, f3, f4, f5⟩ := hf it (by simp)
    refine wpAny_pyNext_tuple_item st (show s.heap.IsTuple a its.toArray from p) (x := u) (by simpa using hu) fun h' st' sb => ?_
    have I1 : Inv X pins σ H { s with heap := h' } := I.turned (t' := s.toks) (fun b o hb e => (sb.2 b hb).trans e) f0 f1 f3 f4 f5
    obtain ⟨o, e, c, d⟩ := id st'
    exact ⟨u, rfl, go_of (s := { s with heap := h' }) e c d (by decide) ⟨x, H, I1, ru, ⟨rfl, fun ys hy => by rw [I.tuple_inj hy hq]; exact hx⟩, st', fun b hb => (hf b hb).1⟩⟩
  done := by
    intro X hP hw hK hc i pins s σ H E I hf st hg
    subst hP hw hK
    obtain ⟨xs, hq, hx⟩ := hg
    obtain ⟨its, rv, p, hz⟩ := I.tuple hq
    obtain ⟨f0, f1, f2, f3, f4, f5⟩ := hf it (by simp)
    have hl := rv.length
    exact wpAny_pyNext_tuple_end (I.ok.hd hc) st (show s.heap.IsTuple a its.toArray from p) (by simp; omega) fun h' eb => ⟨rfl, I.turned (t' := s.toks) (fun b o hb e => eb b o hb e) f0 f1 f3 f4 f5⟩
  self := fun _ _ _ _ _ st h => wpAny_pyIter_tupleiter st h
theorem turn_range {P : Program} {w : World} {K : PySem.W.Frag} {tg : Expr} (it : Addr) (lo : Int) (n : Nat) : Turn P w K tg (Itr lo n) [it] it (fun i h => IsRangeIter h it (lo + (i : Nat) * 1) ((n : Int) - (i : Nat)) 1) where
  mem := by simp
  obj := fun i h st b hb => by
    have e : b = it := by simpa using hb
    subst e
    exact ⟨_, st, fun v z => by
      have z' : Data.fields _ = Data.cell v := z
      cases z'⟩
  keep := fun i h h' st k => k it (by simp) _ st
  item := by
    intro X hP hw hK hc i pins s σ H E I hf st hg
    subst hP hw hK
    obtain ⟨f0, f1, f2, f3, f4, f5⟩ := hf it (by simp)
    have W := Walks.range (prog := X.prog) (w := X.w) (I.ok.hd hc) it lo 1 n
    refine W.item i s _ _ hg st fun v h' tk hv st' kk => ?_
    obtain ⟨t, rfl⟩ := hv
    have I1 : Inv X pins σ H { s with heap := h', toks := tk } := I.turned (fun b o hb e => kk b o (by simpa using hb) e) f0 f1 f3 f4 f5
    refine ⟨_, rfl, go_of (s := { s with heap := h', toks := tk }) (n := "range_iterator") st' rfl rfl (by decide) ⟨.int (lo + i), H, I1, ⟨t, ?_⟩, ⟨rfl, rfl⟩, st', fun b hb => (hf b hb).1⟩⟩
    rw [Int.mul_one]
  done := by
    intro X hP hw hK hc i pins s σ H E I hf st hg
    subst hP hw hK
    obtain ⟨f0, f1, f2, f3, f4, f5⟩ := hf it (by simp)
    exact wpAny_pyNext_range_end (I.ok.hd hc) st (by have : n ≤ i := hg; omega) fun h' eb => ⟨rfl, I.turned (t' := s.toks) (fun b o hb e => eb b o hb e) f0 f1 f3 f4 f5⟩
  self := fun _ _ _ _ _ st h => wpAny_pyIter_rangeiter st h
end L2

namespace L2
open PySem PySem.Spec PyProof.Rows
section
variable {X : Cx} {tg : Expr}
def iList (K : PySem.W.Frag) (tl : TE) : TI := fun σ H R => tl σ H fun x H1 => ∃ a, x = .ref a ∧ (∃ xs, SqL K H1 a xs) ∧ R (Itl K a) H1
def iTup (K : PySem.W.Frag) (tl : TE) : TI := fun σ H R => tl σ H fun x H1 => ∃ a, x = .ref a ∧ (∃ xs, SqT K H1 a xs) ∧ R (Itt K a) H1
theorem pi_list {l : Expr} {tl : TE} (hl : PE X l tl) : PI X tg l (iList X.K tl) := by
  intro pins s σ H R I h
  refine thn (hl pins s σ H _ I h) fun v s1 ⟨x, H1, I1, r1, q1⟩ => ?_
  obtain ⟨a, e, ⟨xs, hq⟩, q⟩ := q1
  subst e
  cases r1
  obtain ⟨its, rv, p, hz⟩ := I1.list hq
  refine wpAny_pyIter_list p.isList ?_
  refine ⟨s1.heap.objs.size, [s1.heap.objs.size], _, _, H1, rfl, I1.kept (t' := s1.toks) fun b o e => Heap.get?_push_of_some _ e, turn_list a _, ⟨_, Heap.get?_push_size _ rfl, rfl, rfl⟩, fun b hb => ?_, q⟩
  have e : b = s1.heap.objs.size := by simpa using hb
  subst e
  exact I1.fpOk (Nat.le_refl _) (I1.hok.fresh (Nat.le_refl _))
theorem pi_tup {l : Expr} {tl : TE} (hl : PE X l tl) : PI X tg l (iTup X.K tl) := by
  intro pins s σ H R I h
  refine thn (hl pins s σ H _ I h) fun v s1 ⟨x, H1, I1, r1, q1⟩ => ?_
  obtain ⟨a, e, ⟨xs, hq⟩, q⟩ := q1
  subst e
  cases r1
  obtain ⟨its, rv, p, hz⟩ := I1.tuple hq
  refine wpAny_pyIter_tuple (show s1.heap.IsTuple a its.toArray from p) ?_
  refine ⟨s1.heap.objs.size, [s1.heap.objs.size], _, _, H1, rfl, I1.kept (t' := s1.toks) fun b o e => Heap.get?_push_of_some _ e, turn_tuple a _, ⟨_, Heap.get?_push_size _ rfl, rfl, rfl⟩, fun b hb => ?_, q⟩
  have e : b = s1.heap.objs.size := by simpa using hb
  subst e
  exact I1.fpOk (Nat.le_refl _) (I1.hok.fresh (Nat.le_refl _))
/-- a range object just made, walked -/
theorem range_it {pins : List (Addr × Obj)} {σ : St} {H : Hp} {s : Shared} {R : It → Hp → Prop} {E : Value → Shared → Prop} {lo hi : Int} {t u v : Tok} {tk : Nat} (I : Inv X pins σ H s) (h1 : -(2 ^ 62) ≤ lo) (h2 : lo < 2 ^ 62) (h3 : -(2 ^ 62) ≤ hi) (h4 : hi < 2 ^ 62)
    (q : R (Itr lo (hi - lo).toNat) H) : wpAny (model X.prog X.w) X.A (pyIter (.ref s.heap.objs.size)) (PIE X pins σ tg R) E { s with heap := s.heap.push { cls := .type "range", data := .fields #[.int lo t, .int hi u, .int 1 v] }, toks := tk } := by
  refine wpAny_pyIter_range (IsRange.new ..) (small_one h1 h2 h3 h4) ?_
  have I1 : Inv X pins σ H { s with heap := s.heap.push { cls := .type "range", data := .fields #[.int lo t, .int hi u, .int 1 v] }, toks := tk } := I.kept fun b o e => Heap.get?_push_of_some _ e
  refine ⟨(s.heap.push { cls := .type "range", data := .fields #[.int lo t, .int hi u, .int 1 v] }).objs.size, [(s.heap.push { cls := .type "range", data := .fields #[.int lo t, .int hi u, .int 1 v] }).objs.size], _, _, H, rfl,
    I1.kept (t' := tk) fun b o e => Heap.get?_push_of_some _ e, turn_range _ lo (hi - lo).toNat, ?_, fun b hb => ?_, q⟩
  · have e1 : lo + ((0 : Nat) : Int) * 1 = lo := by simp
    have e2 : (((hi - lo).toNat : Nat) : Int) - ((0 : Nat) : Int) = Builtin.Range.rangeSize lo hi 1 := by rw [rangeSize_one]; split <;> omega
    show IsRangeIter _ _ (lo + ((0 : Nat) : Int) * 1) ((((hi - lo).toNat : Nat) : Int) - ((0 : Nat) : Int)) 1
    rw [e1, e2]
    exact Heap.get?_push_size _ rfl
  · have e : b = (s.heap.push { cls := .type "range", data := .fields #[.int lo t, .int hi u, .int 1 v] }).objs.size := by simpa using hb
    subst e
    exact I1.fpOk (Nat.le_refl _) (I1.hok.fresh (Nat.le_refl _))
def iRng1 (ta : TA) : TI := fun σ H R => ta σ H fun vs H1 => ∃ j : Int, vs = [.int j] ∧ -(2 ^ 62) ≤ j ∧ j < 2 ^ 62 ∧ R (Itr 0 j.toNat) H1
def iRng2 (ta : TA) : TI := fun σ H R => ta σ H fun vs H1 => ∃ i j : Int, vs = [.int i, .int j] ∧ (-(2 ^ 62) ≤ i ∧ i < 2 ^ 62 ∧ -(2 ^ 62) ≤ j ∧ j < 2 ^ 62) ∧ R (Itr i (j - i).toNat) H1
theorem pi_range1 {a : Expr} {ta : TA} {p pos : Pos} (hg : Gl X "range") (hm : X.mg "range" = none) (ha : PA X [a] ta) (hs : starEach [a] X.env = [(false, eval a X.env)] := by rfl) : PI X tg (.Call (.Name "range" p) [a] [] pos) (iRng1 ta) := by
  intro pins s σ H R I h
  refine Call_ (ld_blt I hg hm boot_range (PyProof.Rows.callWith_type1 (thn (ha pos pins s σ H _ I h) fun us s1 ⟨vs, H1, I1, r1, q1⟩ => ?_) hs rfl))
  obtain ⟨j, e, q1, q2, q⟩ := q1
  subst e
  cases r1 with
  | cons r rr =>
    cases rr
    obtain ⟨t, rfl⟩ := r
    exact call_range_1 (range_it I1 (by omega) (by omega) q1 q2 (by simpa using q))
theorem pi_range2 {a b : Expr} {ta : TA} {p pos : Pos} (hg : Gl X "range") (hm : X.mg "range" = none) (ha : PA X [a, b] ta) (hs : starEach [a, b] X.env = [(false, eval a X.env), (false, eval b X.env)] := by rfl) (hs2 : starEach [b] X.env = [(false, eval b X.env)] := by rfl) :
    PI X tg (.Call (.Name "range" p) [a, b] [] pos) (iRng2 ta) := by
  intro pins s σ H R I h
  refine Call_ (ld_blt I hg hm boot_range (PyProof.Rows.callWith_type1 (thn (ha pos pins s σ H _ I h) fun us s1 ⟨vs, H1, I1, r1, q1⟩ => ?_) (by rw [hs, hs2]) (by rw [hs2]; rfl)))
  obtain ⟨i, j, e, ⟨q1, q2, q3, q4⟩, q⟩ := q1
  subst e
  cases r1 with
  | cons r rr =>
    cases rr with
    | cons r' rr =>
      cases rr
      obtain ⟨t, rfl⟩ := r
      obtain ⟨t', rfl⟩ := r'
      exact call_range_2 (range_it I1 q1 q2 q3 q4 q)

/-! ### for -/
/-- W: the invariant by the turn and a measure; N: what the body is to reach -/
def tFor (wi : TI) (g : TG) (tb : TS) : TS := fun D σ H => wi σ H fun J H1 => ∃ W : Nat → Nat → St → Hp → Prop, (∃ m, W 0 m σ H1) ∧ ∀ i m σ H, W i m σ H →
  (J.stop i H ∧ D.nx σ H) ∨ (J.go i H ∧ ∃ N : St → Hp → Prop, (∀ σ' H', N σ' H' → ∃ m', m' < m ∧ W (i + 1) m' σ' H') ∧ ∀ x H', J.yld i H x H' → g x σ H' fun σ2 H2 => tb { D with nx := N, ct := N, bk := D.nx } σ2 H2)
/-- the records at fp as they stand -/
def pinsAt (fp : List Addr) (h : Heap) : List (Addr × Obj) := fp.filterMap fun b => (h.get? b).map fun o => (b, o)
theorem mem_pinsAt {fp : List Addr} {h : Heap} {b : Addr} {o : Obj} (hb : b ∈ fp) (e : h.get? b = some o) : (b, o) ∈ pinsAt fp h := List.mem_filterMap.mpr ⟨b, hb, by rw [e]; rfl⟩
theorem of_pinsAt {fp : List Addr} {h : Heap} {p : Addr × Obj} (hp : p ∈ pinsAt fp h) : p.1 ∈ fp ∧ h.get? p.1 = some p.2 := by
  obtain ⟨b, hb, e⟩ := List.mem_filterMap.mp hp
  cases q : h.get? b with
  | none => rw [q] at e; cases e
  | some o =>
    rw [q] at e
    have e' : (b, o) = p := Option.some.inj e
    subst e'
    exact ⟨hb, q⟩
theorem Inv.pinned {pins : List (Addr × Obj)} {σ : St} {H : Hp} {s : Shared} {fp : List Addr} (I : Inv X pins σ H s) (hf : ∀ b ∈ fp, FpOk X pins H b) (ho : ∀ b ∈ fp, ∃ o, s.heap.get? b = some o ∧ ∀ v, o.data ≠ .cell v) : Inv X (pins ++ pinsAt fp s.heap) σ H s :=
  I.pins_of fun p hp => (List.mem_append.mp hp).elim (fun z => I.pin p (List.mem_append_right _ z)) fun z => by
    obtain ⟨hb, e⟩ := of_pinsAt z
    obtain ⟨f0, f1, f2, _⟩ := hf p.1 hb
    obtain ⟨o, e', d⟩ := ho p.1 hb
    rw [e] at e'; cases e'
    exact ⟨e, f0, f1, f2, d⟩
theorem Inv.unpinned {pins pl : List (Addr × Obj)} {σ : St} {H : Hp} {s : Shared} (I : Inv X (pins ++ pl) σ H s) : Inv X pins σ H s := I.pins_of fun p hp => I.pin p (List.mem_append_right _ (List.mem_append_left _ hp))
theorem ps_for {iter : Expr} {body : List Stmt} {wi : TI} {g : TG} {tb : TS} {pos : Pos} (hp : PassesOwn (model X.prog X.w) X.A X.env X.xe) (hc : X.calm = true) (hi : PI X tg iter wi) (hg : PG X tg g) (hb : PSs X body tb)
    (hs : ∀ x, foldedSetIterable iter X.env x = pure x := by intro _; rfl) : PS X (.For tg iter body [] pos) (tFor wi g tb) := by
  intro pins s σ H D I h
  refine wpAny_For (thn (hi pins s σ H _ I h) fun v s1 h1 => thn h1 fun itv s2 h2 => ?_) hs
  obtain ⟨it, fp, tn, J, H2, e, I2, T, st2, f2, W, ⟨m0, w0⟩, turn⟩ := h2
  subst e
  -- what stays true of the iterator's objects through the loop
  have stat : ∀ {H' : Hp}, (∀ b ∈ fp, H' b = none) → ∀ b ∈ fp, FpOk X pins H' b := fun hn b hb => ⟨hn b hb, (f2 b hb).2⟩
  refine codeAny_forLoop_any (fun n s' => ∃ i σ' H', Inv X pins σ' H' s' ∧ tn i s'.heap ∧ (∀ b ∈ fp, H' b = none) ∧ W i n σ' H') ?_ m0 ⟨0, σ, H2, I2, st2, fun b hb => (f2 b hb).1, w0⟩
  rintro n s3 ⟨i, σ3, H3, I3, st3, fr3, w3⟩
  rcases turn i n σ3 H3 w3 with ⟨stop, qn⟩ | ⟨go, N, hN, step⟩
  · refine wpAny_passesOwn hp (thn (T.done X rfl rfl rfl hc i pins s3 σ3 H3 X.xe I3 (stat fr3) st3 stop) fun r s4 ⟨hr, I4⟩ => ?_)
    subst hr
    exact wpAny_execs_nil ⟨σ3, H3, I4, qn⟩
  · refine wpAny_passesOwn hp (thn (T.item X rfl rfl rfl hc i pins s3 σ3 H3 X.xe I3 (stat fr3) st3 go) fun r s4 ⟨u, hr, h4⟩ => ?_)
    subst hr
    refine wpAny_passesOwn hp (thn h4 fun _ s5 ⟨x, H5, I5, r5, y5, st5, fr5⟩ => ?_)
    have I5' := I5.pinned (stat fr5) (T.obj _ _ st5)
    refine wpAny_passesOwn hp (thn (hg _ s5 σ3 H5 x u _ I5' r5 (step x H5 y5)) fun _ s6 ⟨σ6, H6, I6, q6⟩ => ?_)
    refine wpAny_passesOwn hp (thn (hb _ s6 σ6 H6 _ I6 q6) fun f s7 q7 => ?_)
    have again : ∀ {σ7 : St} {H7 : Hp}, Inv X (pins ++ pinsAt fp s5.heap) σ7 H7 s7 → N σ7 H7 → ∃ m, m < n ∧ ∃ i σ' H', Inv X pins σ' H' s7 ∧ tn i s7.heap ∧ (∀ b ∈ fp, H' b = none) ∧ W i m σ' H' := fun {σ7 H7} I7 n7 => by
      obtain ⟨m', hm, w7⟩ := hN σ7 H7 n7
      refine ⟨m', hm, i + 1, σ7, H7, I7.unpinned, T.keep _ _ _ st5 fun b hb o e => (I7.pin (b, o) (List.mem_append_right _ (List.mem_append_right _ (mem_pinsAt hb e)))).1, fun b hb => ?_, w7⟩
      obtain ⟨o, e, d⟩ := T.obj _ _ st5 b hb
      exact (I7.pin (b, o) (List.mem_append_right _ (List.mem_append_right _ (mem_pinsAt hb e)))).2.1
    cases f with
    | next => obtain ⟨σ7, H7, I7, n7⟩ := q7; exact again I7 n7
    | cont => obtain ⟨σ7, H7, I7, n7⟩ := q7; exact again I7 n7
    | brk => obtain ⟨σ7, H7, I7, q7⟩ := q7; exact ⟨σ7, H7, I7.unpinned, q7⟩
    | ret v => obtain ⟨x7, σ7, H7, I7, r7, q7⟩ := q7; exact ⟨x7, σ7, H7, I7.unpinned, r7, q7⟩
end

/-! ### the forms one uses -/
/-- over a list that the body leaves as it is -/
theorem for_list {K : PySem.W.Frag} {a : Addr} {xs : List V} {g : TG} {tb : TS} {D : Ends} {σ : St} {H : Hp} (Pv : Nat → St → Hp → Prop) (h0 : Pv 0 σ H) (hl : ∀ i σ H, i ≤ xs.length → Pv i σ H → SqL K H a xs)
    (hs : ∀ i x σ H, xs[i]? = some x → Pv i σ H → g x σ H fun σ2 H2 => tb { D with nx := Pv (i + 1), ct := Pv (i + 1), bk := D.nx } σ2 H2) (hd : ∀ σ H, Pv xs.length σ H → D.nx σ H) :
    ∃ W : Nat → Nat → St → Hp → Prop, (∃ m, W 0 m σ H) ∧ ∀ i m σ H, W i m σ H →
      ((Itl K a).stop i H ∧ D.nx σ H) ∨ ((Itl K a).go i H ∧ ∃ N : St → Hp → Prop, (∀ σ' H', N σ' H' → ∃ m', m' < m ∧ W (i + 1) m' σ' H') ∧ ∀ x H', (Itl K a).yld i H x H' → g x σ H' fun σ2 H2 => tb { D with nx := N, ct := N, bk := D.nx } σ2 H2) := by
  refine ⟨fun i m σ H => m = xs.length - i ∧ i ≤ xs.length ∧ Pv i σ H, ⟨xs.length, by simp, Nat.zero_le _, h0⟩, ?_⟩
  rintro i m σ H ⟨rfl, hi, p⟩
  have q := hl i σ H hi p
  by_cases hlt : i < xs.length
  · refine .inr ⟨⟨xs, xs[i], q, by simp [hlt]⟩, Pv (i + 1), fun σ' H' p' => ⟨xs.length - (i + 1), by omega, rfl, hlt, p'⟩, fun x H' y => ?_⟩
    obtain ⟨e, y⟩ := y
    subst e
    exact hs i x σ _ (y xs q) p
  · have e : i = xs.length := by omega
    subst e
    exact .inl ⟨⟨xs, q, Nat.le_refl _⟩, hd σ H p⟩
theorem for_tup {K : PySem.W.Frag} {a : Addr} {xs : List V} {g : TG} {tb : TS} {D : Ends} {σ : St} {H : Hp} (Pv : Nat → St → Hp → Prop) (h0 : Pv 0 σ H) (hl : ∀ i σ H, i ≤ xs.length → Pv i σ H → SqT K H a xs)
    (hs : ∀ i x σ H, xs[i]? = some x → Pv i σ H → g x σ H fun σ2 H2 => tb { D with nx := Pv (i + 1), ct := Pv (i + 1), bk := D.nx } σ2 H2) (hd : ∀ σ H, Pv xs.length σ H → D.nx σ H) :
    ∃ W : Nat → Nat → St → Hp → Prop, (∃ m, W 0 m σ H) ∧ ∀ i m σ H, W i m σ H →
      ((Itt K a).stop i H ∧ D.nx σ H) ∨ ((Itt K a).go i H ∧ ∃ N : St → Hp → Prop, (∀ σ' H', N σ' H' → ∃ m', m' < m ∧ W (i + 1) m' σ' H') ∧ ∀ x H', (Itt K a).yld i H x H' → g x σ H' fun σ2 H2 => tb { D with nx := N, ct := N, bk := D.nx } σ2 H2) := by
  refine ⟨fun i m σ H => m = xs.length - i ∧ i ≤ xs.length ∧ Pv i σ H, ⟨xs.length, by simp, Nat.zero_le _, h0⟩, ?_⟩
  rintro i m σ H ⟨rfl, hi, p⟩
  have q := hl i σ H hi p
  by_cases hlt : i < xs.length
  · refine .inr ⟨⟨xs, xs[i], q, by simp [hlt]⟩, Pv (i + 1), fun σ' H' p' => ⟨xs.length - (i + 1), by omega, rfl, hlt, p'⟩, fun x H' y => ?_⟩
    obtain ⟨e, y⟩ := y
    subst e
    exact hs i x σ _ (y xs q) p
  · have e : i = xs.length := by omega
    subst e
    exact .inl ⟨⟨xs, q, Nat.le_refl _⟩, hd σ H p⟩
theorem for_range {lo : Int} {n : Nat} {g : TG} {tb : TS} {D : Ends} {σ : St} {H : Hp} (Pv : Nat → St → Hp → Prop) (h0 : Pv 0 σ H)
    (hs : ∀ i σ H, i < n → Pv i σ H → g (.int (lo + i)) σ H fun σ2 H2 => tb { D with nx := Pv (i + 1), ct := Pv (i + 1), bk := D.nx } σ2 H2) (hd : ∀ σ H, Pv n σ H → D.nx σ H) :
    ∃ W : Nat → Nat → St → Hp → Prop, (∃ m, W 0 m σ H) ∧ ∀ i m σ H, W i m σ H →
      ((Itr lo n).stop i H ∧ D.nx σ H) ∨ ((Itr lo n).go i H ∧ ∃ N : St → Hp → Prop, (∀ σ' H', N σ' H' → ∃ m', m' < m ∧ W (i + 1) m' σ' H') ∧ ∀ x H', (Itr lo n).yld i H x H' → g x σ H' fun σ2 H2 => tb { D with nx := N, ct := N, bk := D.nx } σ2 H2) := by
  refine ⟨fun i m σ H => m = n - i ∧ i ≤ n ∧ Pv i σ H, ⟨n, by simp, Nat.zero_le _, h0⟩, ?_⟩
  rintro i m σ H ⟨rfl, hi, p⟩
  by_cases hlt : i < n
  · refine .inr ⟨hlt, Pv (i + 1), fun σ' H' p' => ⟨n - (i + 1), by omega, rfl, hlt, p'⟩, fun x H' y => ?_⟩
    obtain ⟨e, y⟩ := y
    subst e y
    exact hs i σ _ hlt p
  · have e : i = n := by omega
    subst e
    exact .inl ⟨Nat.le_refl _, hd σ H p⟩
/-- while, by a word and a measure of the state -/
theorem while_by {c : TT} {tb : TS} {D : Ends} {σ : St} {H : Hp} (Pv : St → Hp → Prop) (μ : St → Hp → Nat) (h0 : Pv σ H)
    (hs : ∀ σ H, Pv σ H → c σ H fun b H1 => if b = true then tb { D with nx := fun σ' H' => Pv σ' H' ∧ μ σ' H' < μ σ H, ct := fun σ' H' => Pv σ' H' ∧ μ σ' H' < μ σ H, bk := D.nx } σ H1 else D.nx σ H1)
    (mono : ∀ σ H Q Q', (∀ b H1, Q b H1 → Q' b H1) → c σ H Q → c σ H Q') : tWhile c tb D σ H := by
  refine ⟨fun m σ H => m = μ σ H ∧ Pv σ H, ⟨_, rfl, h0⟩, ?_⟩
  rintro m σ H ⟨rfl, p⟩
  refine mono σ H _ _ (fun b H1 q => ?_) (hs σ H p)
  cases b with
  | true => exact ⟨_, fun σ' H' ⟨p', l⟩ => ⟨_, l, rfl, p'⟩, q⟩
  | false => exact q
end L2

namespace L2
open PySem PySem.Spec PyProof.Rows

abbrev R2 := V → V → Hp → VK → Prop
/-- a two-place operation on values: f is binaryOp op, inplaceOp op or compareOp op -/
def OpR (X : Cx) (f : Value → Value → Sem Value) (r : R2) : Prop :=
  ∀ (pins : List (Addr × Obj)) (s : Shared) (σ : St) (H : Hp) (x y : V) (v u : Value) (Q : VK), Inv X pins σ H s → RelV x v → RelV y u → r x y H Q →
    wpAny (model X.prog X.w) X.A (f v u) (EP X pins σ Q) X.xe s
/-- a one-place operation -/
def UnR (X : Cx) (f : Value → Sem Value) (r : V → Hp → VK → Prop) : Prop :=
  ∀ (pins : List (Addr × Obj)) (s : Shared) (σ : St) (H : Hp) (x : V) (v : Value) (Q : VK), Inv X pins σ H s → RelV x v → r x H Q →
    wpAny (model X.prog X.w) X.A (f v) (EP X pins σ Q) X.xe s
/-- a call of a value that is known (a builtin, a type) with values -/
def CallR (X : Cx) (f : Value) (r : List V → Hp → VK → Prop) : Prop :=
  ∀ (pins : List (Addr × Obj)) (s : Shared) (σ : St) (H : Hp) (xs : List V) (us : List Value) (Q : VK), Inv X pins σ H s → Vals xs us → r xs H Q →
    wpAny (model X.prog X.w) X.A (call f us) (EP X pins σ Q) X.xe s
/-- a value's truth -/
def TruR (X : Cx) (r : V → Hp → (Bool → Hp → Prop) → Prop) : Prop :=
  ∀ (pins : List (Addr × Obj)) (s : Shared) (σ : St) (H : Hp) (x : V) (v : Value) (Q : Bool → Hp → Prop), Inv X pins σ H s → RelV x v → r x H Q →
    wpAny (model X.prog X.w) X.A (truthy v) (TP X pins σ Q) X.xe s

def tOp (r : R2) (ta tb : TE) : TE := fun σ H Q => ta σ H fun x H1 => tb σ H1 fun y H2 => r x y H2 Q
def tUn (r : V → Hp → VK → Prop) (ta : TE) : TE := fun σ H Q => ta σ H fun x H1 => r x H1 Q
/-- ints in, under C, and a value out -/
def rI (C : Int → Int → Prop) (g : Int → Int → V) : R2 := fun x y H Q => ∃ i j, x = .int i ∧ y = .int j ∧ C i j ∧ Q (g i j) H
def rI0 (g : Int → Int → V) : R2 := fun x y H Q => ∃ i j, x = .int i ∧ y = .int j ∧ Q (g i j) H
def rU (g : Int → V) : V → Hp → VK → Prop := fun x H Q => ∃ i, x = .int i ∧ Q (g i) H

section
variable {X : Cx} {a b c : Expr} {ta tb tc : TE} {pos : Pos}

theorem binT (ha : PE X a ta) (hb : PE X b tb) {pins : List (Addr × Obj)} {s : Shared} {σ : St} {H : Hp} {R : V → V → Hp → Prop} (I : Inv X pins σ H s)
    (h : ta σ H fun x H1 => tb σ H1 fun y H2 => R x y H2) {Q : Value → Shared → Prop} {f : Value → Value → Sem Value}
    (hf : ∀ v u s2 x y H2, Inv X pins σ H2 s2 → RelV x v → RelV y u → R x y H2 → wpAny (model X.prog X.w) X.A (f v u) Q X.xe s2) :
    wpAny (model X.prog X.w) X.A (eval a X.env) (fun v s₁ => wpAny (model X.prog X.w) X.A (eval b X.env) (fun u s₂ => wpAny (model X.prog X.w) X.A (f v u) Q X.xe s₂) X.xe s₁) X.xe s := by
  refine thn (ha pins s σ H _ I h) fun v s1 ⟨x, H1, I1, r1, q1⟩ => ?_
  refine thn (hb pins s1 σ H1 _ I1 q1) fun u s2 ⟨y, H2, I2, r2, q2⟩ => ?_
  exact hf v u s2 x y H2 I2 r1 r2 q2

theorem pe_op {op : Operator} {r : R2} (ho : OpR X (binaryOp op) r) (ha : PE X a ta) (hb : PE X b tb) : PE X (.BinOp a op b pos) (tOp r ta tb) := by
  intro pins s σ H Q I h
  exact wpAny_BinOp (binT ha hb I h fun v u s2 x y H2 I2 rx ry q => ho pins s2 σ H2 x y v u Q I2 rx ry q)
theorem pe_un {op : UnaryOp} {r : V → Hp → VK → Prop} (ho : UnR X (unaryOp op) r) (ha : PE X a ta) : PE X (.UnaryOp op a pos) (tUn r ta) := by
  intro pins s σ H Q I h
  exact UnaryOp_ (thn (ha pins s σ H _ I h) fun v s1 ⟨x, H1, I1, r1, q1⟩ => ho pins s1 σ H1 x v Q I1 r1 q1)
/-- a op= e at a name: the name's slot i -/
theorem augR {op : Operator} {r : R2} (ho : OpR X (inplaceOp op) r) {pins : List (Addr × Obj)} {s : Shared} {σ : St} {H : Hp} {x y : V} {v u : Value} {Q : VK} (I : Inv X pins σ H s)
    (rx : RelV x v) (ry : RelV y u) (q : r x y H Q) : wpAny (model X.prog X.w) X.A (inplaceOp op v u) (EP X pins σ Q) X.xe s := ho pins s σ H x y v u Q I rx ry q

/-! ### ints -/
theorem opI {f : Value → Value → Sem Value} {C : Int → Int → Prop} {g : Int → Int → Int}
    (rule : ∀ (i j : Int) (t u : Tok) (s : Shared) (Q : Value → Shared → Prop) (E : Value → Shared → Prop), C i j → Q (.int (g i j) s.toks) { s with toks := s.toks + 1 } → wpAny (model X.prog X.w) X.A (f (.int i t) (.int j u)) Q E s) :
    OpR X f (rI C fun i j => .int (g i j)) := by
  intro pins s σ H x y v u Q I rx ry h
  obtain ⟨i, j, rfl, rfl, hc, q⟩ := h
  obtain ⟨t, rfl⟩ := rx
  obtain ⟨t', rfl⟩ := ry
  exact rule i j t t' s _ _ hc ⟨.int (g i j), H, I.tok _, ⟨_, rfl⟩, q⟩
theorem opI0 {f : Value → Value → Sem Value} {g : Int → Int → Int}
    (rule : ∀ (i j : Int) (t u : Tok) (s : Shared) (Q : Value → Shared → Prop) (E : Value → Shared → Prop), Q (.int (g i j) s.toks) { s with toks := s.toks + 1 } → wpAny (model X.prog X.w) X.A (f (.int i t) (.int j u)) Q E s) :
    OpR X f (rI0 fun i j => .int (g i j)) := by
  intro pins s σ H x y v u Q I rx ry h
  obtain ⟨i, j, rfl, rfl, q⟩ := h
  obtain ⟨t, rfl⟩ := rx
  obtain ⟨t', rfl⟩ := ry
  exact rule i j t t' s _ _ ⟨.int (g i j), H, I.tok _, ⟨_, rfl⟩, q⟩
theorem opB0 {f : Value → Value → Sem Value} {g : Int → Int → Bool}
    (rule : ∀ (i j : Int) (t u : Tok) (s : Shared) (Q : Value → Shared → Prop) (E : Value → Shared → Prop), Q (.bool (g i j)) s → wpAny (model X.prog X.w) X.A (f (.int i t) (.int j u)) Q E s) :
    OpR X f (rI0 fun i j => .bl (g i j)) := by
  intro pins s σ H x y v u Q I rx ry h
  obtain ⟨i, j, rfl, rfl, q⟩ := h
  obtain ⟨t, rfl⟩ := rx
  obtain ⟨t', rfl⟩ := ry
  exact rule i j t t' s _ _ ⟨.bl (g i j), H, I, rfl, q⟩

def CDiv (i j : Int) : Prop := 0 < j ∧ j < 1073741824
def CDivN (i j : Int) : Prop := j ≠ 0 ∧ j.natAbs < 1073741824
def CPow (i j : Int) : Prop := 0 ≤ j ∧ j ≤ 1000000 ∧ i.natAbs < 2 ^ 64
def CMul (i j : Int) : Prop := (-(2 ^ 64) < i ∧ i < 2 ^ 64) ∨ (-(2 ^ 64) < j ∧ j < 2 ^ 64)
theorem CMul.ok {i j : Int} (h : CMul i j) : IntMulOk i j := by
  rcases h with ⟨h1, h2⟩ | ⟨h1, h2⟩
  · exact .of_left (intBits_le_64 h1 h2)
  · exact .of_right (intBits_le_64 h1 h2)
theorem two_pow_nn (k : Nat) : (0 : Int) ≤ 2 ^ k := by
  rw [two_pow_cast]
  exact Int.natCast_nonneg _

theorem op_add : OpR X (binaryOp .Add) (rI0 fun i j => .int (i + j)) := opI0 fun _ _ _ _ _ _ _ q => add_int q
theorem op_sub : OpR X (binaryOp .Sub) (rI0 fun i j => .int (i - j)) := opI0 fun _ _ _ _ _ _ _ q => sub_int q
theorem op_mul : OpR X (binaryOp .Mult) (rI CMul fun i j => .int (i * j)) := opI fun _ _ _ _ _ _ _ hc q => mul_int q hc.ok
/-- // by a positive divisor -/
theorem op_fdiv : OpR X (binaryOp .FloorDiv) (rI CDiv fun i j => .int (i / j)) := opI fun i j _ _ _ _ _ hc q => by
  have h1 : (0 : Int) < j := hc.1
  have h2 : j < 1073741824 := hc.2
  exact floordiv_int (by omega) (by rw [Int.fdiv_eq_ediv_of_nonneg i (by omega)]; exact q) (.inl (PyProof.noPylong_small (by omega)))
theorem op_fdivN : OpR X (binaryOp .FloorDiv) (rI CDivN fun i j => .int (i.fdiv j)) := opI fun _ _ _ _ _ _ _ hc q => floordiv_int hc.1 q (.inl (PyProof.noPylong_small hc.2))
/-- % by a positive divisor of any size -/
theorem op_mod : OpR X (binaryOp .Mod) (rI (fun _ j => 0 < j) fun i j => .int (i % j)) := opI fun i j _ _ _ _ _ hc q => by
  have h1 : (0 : Int) < j := hc
  exact mod_int' (by omega) (by rw [Int.fmod_eq_emod_of_nonneg i (by omega)]; exact q)
theorem op_modN : OpR X (binaryOp .Mod) (rI (fun _ j => j ≠ 0) fun i j => .int (i.fmod j)) := opI fun _ _ _ _ _ _ _ hc q => mod_int' hc q
theorem op_pow : OpR X (binaryOp .Pow) (rI CPow fun i j => .int (i ^ j.toNat)) := opI fun _ _ _ _ _ _ _ hc q => pow_int_small hc.1 hc.2.1 hc.2.2 q
theorem op_shl : OpR X (binaryOp .LShift) (rI CPow fun i j => .int (i * 2 ^ j.toNat)) := opI fun _ _ _ _ _ _ _ hc q => lshift_int_small hc.1 hc.2.1 hc.2.2 q
theorem op_shr : OpR X (binaryOp .RShift) (rI (fun _ j => 0 ≤ j) fun i j => .int (i / 2 ^ j.toNat)) := opI fun i j _ _ _ _ _ hc q =>
  rshift_int hc (by rw [Int.fdiv_eq_ediv_of_nonneg i (two_pow_nn _)]; exact q)
theorem op_and : OpR X (binaryOp .BitAnd) (rI0 fun i j => .int (Builtin.bitAnd i j)) := opI0 fun _ _ _ _ _ _ _ q => and_int q
theorem op_or : OpR X (binaryOp .BitOr) (rI0 fun i j => .int (Builtin.bitOr i j)) := opI0 fun _ _ _ _ _ _ _ q => or_int q
theorem op_xor : OpR X (binaryOp .BitXor) (rI0 fun i j => .int (Builtin.bitXor i j)) := opI0 fun _ _ _ _ _ _ _ q => xor_int q

theorem iop_add : OpR X (inplaceOp .Add) (rI0 fun i j => .int (i + j)) := opI0 fun _ _ _ _ _ _ _ q => iadd_int q
theorem iop_sub : OpR X (inplaceOp .Sub) (rI0 fun i j => .int (i - j)) := opI0 fun _ _ _ _ _ _ _ q => isub_int q
theorem iop_mul : OpR X (inplaceOp .Mult) (rI CMul fun i j => .int (i * j)) := opI fun _ _ _ _ _ _ _ hc q => imul_int q hc.ok
theorem iop_fdiv : OpR X (inplaceOp .FloorDiv) (rI CDiv fun i j => .int (i / j)) := opI fun i j _ _ _ _ _ hc q => by
  have h1 : (0 : Int) < j := hc.1
  have h2 : j < 1073741824 := hc.2
  exact ifloordiv_int (by omega) (by rw [Int.fdiv_eq_ediv_of_nonneg i (by omega)]; exact q) (.inl (PyProof.noPylong_small (by omega)))
theorem iop_mod : OpR X (inplaceOp .Mod) (rI (fun _ j => 0 < j) fun i j => .int (i % j)) := opI fun i j _ _ _ _ _ hc q => by
  have h1 : (0 : Int) < j := hc
  exact imod_int (by omega) (by rw [Int.fmod_eq_emod_of_nonneg i (by omega)]; exact q)
theorem iop_shl : OpR X (inplaceOp .LShift) (rI CPow fun i j => .int (i * 2 ^ j.toNat)) := opI fun _ _ _ _ _ _ _ hc q => ilshift_int_small hc.1 hc.2.1 hc.2.2 q
theorem iop_shr : OpR X (inplaceOp .RShift) (rI (fun _ j => 0 ≤ j) fun i j => .int (i / 2 ^ j.toNat)) := opI fun i j _ _ _ _ _ hc q =>
  irshift_int hc (by rw [Int.fdiv_eq_ediv_of_nonneg i (two_pow_nn _)]; exact q)
theorem iop_and : OpR X (inplaceOp .BitAnd) (rI0 fun i j => .int (Builtin.bitAnd i j)) := opI0 fun _ _ _ _ _ _ _ q => iand_int q
theorem iop_or : OpR X (inplaceOp .BitOr) (rI0 fun i j => .int (Builtin.bitOr i j)) := opI0 fun _ _ _ _ _ _ _ q => ior_int q
theorem iop_xor : OpR X (inplaceOp .BitXor) (rI0 fun i j => .int (Builtin.bitXor i j)) := opI0 fun _ _ _ _ _ _ _ q => ixor_int q

theorem unI {f : Value → Sem Value} {g : Int → Int}
    (rule : ∀ (i : Int) (t : Tok) (s : Shared) (Q : Value → Shared → Prop) (E : Value → Shared → Prop), Q (.int (g i) s.toks) { s with toks := s.toks + 1 } → wpAny (model X.prog X.w) X.A (f (.int i t)) Q E s) :
    UnR X f (rU fun i => .int (g i)) := by
  intro pins s σ H x v Q I rx h
  obtain ⟨i, rfl, q⟩ := h
  obtain ⟨t, rfl⟩ := rx
  exact rule i t s _ _ ⟨.int (g i), H, I.tok _, ⟨_, rfl⟩, q⟩
theorem un_neg : UnR X (unaryOp .USub) (rU fun i => .int (-i)) := unI fun _ _ _ _ _ q => neg_int q
theorem un_inv : UnR X (unaryOp .Invert) (rU fun i => .int (Builtin.bitNot i)) := unI fun _ _ _ _ _ q => invert_int q

/-! ### bools among ints: n += (a < b) -/
theorem op_add_ib : OpR X (binaryOp .Add) (fun x y H Q => ∃ i k, x = .int i ∧ y = .bl k ∧ Q (.int (i + b2i k)) H) := by
  intro pins s σ H x y v u Q I rx ry h
  obtain ⟨i, k, rfl, rfl, q⟩ := h
  obtain ⟨t, rfl⟩ := rx
  cases ry
  exact add_int_bool ⟨.int (i + b2i k), H, I.tok _, ⟨_, rfl⟩, q⟩
end

/-! ### comparisons -/
/-- the scalars that == tells apart as data does -/
def scal : V → V → Bool
  | .non, .non => true | .non, .int _ => true | .int _, .non => true | .non, .bl _ => true | .bl _, .non => true | .non, .str _ => true | .str _, .non => true
  | .int _, .int _ => true | .bl _, .bl _ => true | .str _, .str _ => true | .byt _, .byt _ => true
  | .int _, .str _ => true | .str _, .int _ => true | .bl _, .str _ => true | .str _, .bl _ => true
  | _, _ => false
def rEq : R2 := fun x y H Q => scal x y = true ∧ Q (.bl (decide (x = y))) H
def rNe : R2 := fun x y H Q => scal x y = true ∧ Q (.bl (!decide (x = y))) H

theorem dec_int {i j : Int} : decide (V.int i = V.int j) = (i == j) := by
  rw [Bool.eq_iff_iff]
  simp
theorem dec_bl {i j : Bool} : decide (V.bl i = V.bl j) = (i == j) := by
  rw [Bool.eq_iff_iff]
  simp
theorem dec_str {i j : Str} : decide (V.str i = V.str j) = (i == j) := by
  rw [Bool.eq_iff_iff]
  simp
theorem dec_byt {i j : Array UInt8} : decide (V.byt i = V.byt j) = (i.toList == j.toList) := by
  rw [Bool.eq_iff_iff]
  cases i
  cases j
  simp

section
variable {X : Cx} {a b c : Expr} {ta tb tc : TE} {pos : Pos}
theorem fin_bl {pins : List (Addr × Obj)} {σ : St} {H : Hp} {s : Shared} {Q : VK} {k k' : Bool} (I : Inv X pins σ H s) (q : Q (.bl k) H) (e : k = k') : EP X pins σ Q (.bool k') s := by
  subst e
  exact ⟨.bl k, H, I, rfl, q⟩
theorem op_eq : OpR X (compareOp .Eq) rEq := by
  intro pins s σ H x y v u Q I rx ry h
  obtain ⟨hs, q⟩ := h
  cases x with
  | non =>
    cases rx
    cases y with
    | non => cases ry; exact PySem.EqNone.eq_none_none (fin_bl I q (by simp))
    | bl j => cases ry; exact PySem.EqNone.eq_none_bool (fin_bl I q (by simp))
    | int j => obtain ⟨t', rfl⟩ := ry; exact PySem.EqNone.eq_none_int (fin_bl I q (by simp))
    | str j => obtain ⟨t', rfl⟩ := ry; exact PySem.EqNone.eq_none_str (fin_bl I q (by simp))
    | _ => exact absurd (show false = true from hs) Bool.false_ne_true
  | bl i =>
    cases rx
    cases y with
    | non => cases ry; exact PySem.EqNone.eq_bool_none (fin_bl I q (by simp))
    | bl j => cases ry; exact eq_bool (fin_bl I q dec_bl)
    | str j => obtain ⟨t', rfl⟩ := ry; exact PySem.EqMixed.eq_bool_str (fin_bl I q (by simp))
    | _ => exact absurd (show false = true from hs) Bool.false_ne_true
  | int i =>
    obtain ⟨t, rfl⟩ := rx
    cases y with
    | non => cases ry; exact PySem.EqNone.eq_int_none (fin_bl I q (by simp))
    | int j => obtain ⟨t', rfl⟩ := ry; exact eq_int (fin_bl I q dec_int)
    | str j => obtain ⟨t', rfl⟩ := ry; exact PySem.EqMixed.eq_int_str (fin_bl I q (by simp))
    | _ => exact absurd (show false = true from hs) Bool.false_ne_true
  | str i =>
    obtain ⟨t, rfl⟩ := rx
    cases y with
    | non => cases ry; exact PySem.EqNone.eq_str_none (fin_bl I q (by simp))
    | bl j => cases ry; exact PySem.EqMixed.eq_str_bool (fin_bl I q (by simp))
    | int j => obtain ⟨t', rfl⟩ := ry; exact PySem.EqMixed.eq_str_int (fin_bl I q (by simp))
    | str j => obtain ⟨t', rfl⟩ := ry; exact eq_str (fin_bl I q dec_str)
    | _ => exact absurd (show false = true from hs) Bool.false_ne_true
  | byt i =>
    obtain ⟨t, rfl⟩ := rx
    cases y with
    | byt j => obtain ⟨t', rfl⟩ := ry; exact PySem.W.eq_bytes (fin_bl I q dec_byt)
    | _ => exact absurd (show false = true from hs) Bool.false_ne_true
  | _ => cases y <;> exact absurd (show false = true from hs) Bool.false_ne_true
theorem op_ne : OpR X (compareOp .NotEq) rNe := by
  intro pins s σ H x y v u Q I rx ry h
  obtain ⟨hs, q⟩ := h
  cases x with
  | non =>
    cases rx
    cases y with
    | non => cases ry; exact PySem.EqNone.ne_none_none (fin_bl I q (by simp))
    | bl j => cases ry; exact PySem.EqNone.ne_none_bool (fin_bl I q (by simp))
    | int j => obtain ⟨t', rfl⟩ := ry; exact PySem.EqNone.ne_none_int (fin_bl I q (by simp))
    | str j => obtain ⟨t', rfl⟩ := ry; exact PySem.EqNone.ne_none_str (fin_bl I q (by simp))
    | _ => exact absurd (show false = true from hs) Bool.false_ne_true
  | bl i =>
    cases rx
    cases y with
    | non => cases ry; exact PySem.EqNone.ne_bool_none (fin_bl I q (by simp))
    | bl j => cases ry; exact ne_bool (fin_bl I q (congrArg not dec_bl))
    | str j => obtain ⟨t', rfl⟩ := ry; exact PySem.EqMixed.ne_bool_str (fin_bl I q (by simp))
    | _ => exact absurd (show false = true from hs) Bool.false_ne_true
  | int i =>
    obtain ⟨t, rfl⟩ := rx
    cases y with
    | non => cases ry; exact PySem.EqNone.ne_int_none (fin_bl I q (by simp))
    | int j => obtain ⟨t', rfl⟩ := ry; exact ne_int (fin_bl I q (congrArg not dec_int))
    | str j => obtain ⟨t', rfl⟩ := ry; exact PySem.EqMixed.ne_int_str (fin_bl I q (by simp))
    | _ => exact absurd (show false = true from hs) Bool.false_ne_true
  | str i =>
    obtain ⟨t, rfl⟩ := rx
    cases y with
    | non => cases ry; exact PySem.EqNone.ne_str_none (fin_bl I q (by simp))
    | bl j => cases ry; exact PySem.EqMixed.ne_str_bool (fin_bl I q (by simp))
    | int j => obtain ⟨t', rfl⟩ := ry; exact PySem.EqMixed.ne_str_int (fin_bl I q (by simp))
    | str j => obtain ⟨t', rfl⟩ := ry; exact ne_str (fin_bl I q (congrArg not dec_str))
    | _ => exact absurd (show false = true from hs) Bool.false_ne_true
  | byt i =>
    obtain ⟨t, rfl⟩ := rx
    cases y with
    | byt j => obtain ⟨t', rfl⟩ := ry; exact PySem.W.ne_bytes (fin_bl I q (congrArg not dec_byt))
    | _ => exact absurd (show false = true from hs) Bool.false_ne_true
  | _ => cases y <;> exact absurd (show false = true from hs) Bool.false_ne_true

theorem op_lt : OpR X (compareOp .Lt) (rI0 fun i j => .bl (decide (i < j))) := opB0 fun _ _ _ _ _ _ _ q => lt_int q
theorem op_le : OpR X (compareOp .LtE) (rI0 fun i j => .bl (decide (i ≤ j))) := opB0 fun _ _ _ _ _ _ _ q => le_int q
theorem op_gt : OpR X (compareOp .Gt) (rI0 fun i j => .bl (decide (j < i))) := opB0 fun _ _ _ _ _ _ _ q => gt_int q
theorem op_ge : OpR X (compareOp .GtE) (rI0 fun i j => .bl (decide (j ≤ i))) := opB0 fun _ _ _ _ _ _ _ q => ge_int q
theorem op_lt_str : OpR X (compareOp .Lt) (fun x y H Q => ∃ i j, x = .str i ∧ y = .str j ∧ Q (.bl (decide (i.cps.toList < j.cps.toList))) H) := by
  intro pins s σ H x y v u Q I rx ry h
  obtain ⟨i, j, rfl, rfl, q⟩ := h
  obtain ⟨t, rfl⟩ := rx
  obtain ⟨t', rfl⟩ := ry
  exact lt_str (fin_bl I q rfl)
/-- the one string within the other -/
theorem op_in_str : OpR X (compareOp .In) (fun x y H Q => ∃ i j, x = .str i ∧ y = .str j ∧ Q (.bl (!(Builtin.Str.occurrences j i 0 j.length 1).isEmpty)) H) := by
  intro pins s σ H x y v u Q I rx ry h
  obtain ⟨i, j, rfl, rfl, q⟩ := h
  obtain ⟨t, rfl⟩ := rx
  obtain ⟨t', rfl⟩ := ry
  exact in_str (fin_bl I q rfl)

/-- is None, is not None: the right side a value none -/
theorem op_isN : OpR X (compareOp .Is) (fun x y H Q => y = .non ∧ Q (.bl (decide (x = .non))) H) := by
  intro pins s σ H x y v u Q I rx ry h
  obtain ⟨rfl, q⟩ := h
  cases ry
  refine is_none_gen (fin_bl I q ?_)
  cases x <;> first
    | (cases rx; rfl)
    | (obtain ⟨t, rfl⟩ := rx; rfl)
theorem op_notN : OpR X (compareOp .IsNot) (fun x y H Q => y = .non ∧ Q (.bl (!decide (x = .non))) H) := by
  intro pins s σ H x y v u Q I rx ry h
  obtain ⟨rfl, q⟩ := h
  cases ry
  refine isnot_none_gen (fin_bl I q ?_)
  cases x <;> first
    | (cases rx; rfl)
    | (obtain ⟨t, rfl⟩ := rx; rfl)

theorem op_notin_str : OpR X (compareOp .NotIn) (fun x y H Q => ∃ i j, x = .str i ∧ y = .str j ∧ Q (.bl (!(!(Builtin.Str.occurrences j i 0 j.length 1).isEmpty))) H) := by
  intro pins s σ H x y v u Q I rx ry h
  obtain ⟨i, j, rfl, rfl, q⟩ := h
  obtain ⟨t, rfl⟩ := rx
  obtain ⟨t', rfl⟩ := ry
  exact notIn_str (fin_bl I q rfl)
/-- is, is not of two objects that are tracked lists or instances -/
def isObj : HO → Bool
  | .lst _ => true
  | .ins _ _ _ => true
  | _ => false
theorem obj_there {pins : List (Addr × Obj)} {s : Shared} {σ : St} {H : Hp} {a : Addr} {o : HO} (I : Inv X pins σ H s) (h : H a = some o) (p : isObj o = true) : ∃ ob, s.heap.get? a = some ob ∧ ob.cls ≠ .type "tuple" := by
  cases o with
  | lst xs =>
    obtain ⟨_, its, n, _, e⟩ : xs.length ≤ sizeLine ∧ ∃ (its : List Value) (n : Nat), Vals xs its ∧ s.heap.get? a = some { cls := .type "list", data := .seq its.toArray n } := I.hok a _ h
    exact ⟨_, e, (by show Value.type "list" ≠ .type "tuple"; decide +kernel)⟩
  | ins C dx fs =>
    have x := I.hok a _ h
    obtain ⟨_, _, _, e, _⟩ := x
    exact ⟨_, e, (by show Value.ref C ≠ .type "tuple"; exact fun z => by cases z)⟩
  | _ => exact absurd (show false = true from p) Bool.false_ne_true
theorem op_is_ref : OpR X (compareOp .Is) (fun x y H Q => ∃ a b oa ob, x = .ref a ∧ y = .ref b ∧ H a = some oa ∧ isObj oa = true ∧ H b = some ob ∧ isObj ob = true ∧ Q (.bl (decide (a = b))) H) := by
  intro pins s σ H x y v u Q I rx ry h
  obtain ⟨a, b, oa, ob, rfl, rfl, ha, pa, hb, pb, q⟩ := h
  cases rx
  cases ry
  obtain ⟨o1, e1, n1⟩ := obj_there I ha pa
  obtain ⟨o2, e2, _⟩ := obj_there I hb pb
  by_cases z : a = b
  · subst z
    exact wpAny_is_ref_self (fin_bl I q (by simp))
  · exact wpAny_is_ref_other z e1 e2 n1 (fin_bl I q (by simp [z]))
theorem op_isnot_ref : OpR X (compareOp .IsNot) (fun x y H Q => ∃ a b oa ob, x = .ref a ∧ y = .ref b ∧ H a = some oa ∧ isObj oa = true ∧ H b = some ob ∧ isObj ob = true ∧ Q (.bl (!decide (a = b))) H) := by
  intro pins s σ H x y v u Q I rx ry h
  obtain ⟨a, b, oa, ob, rfl, rfl, ha, pa, hb, pb, q⟩ := h
  cases rx
  cases ry
  obtain ⟨o1, e1, n1⟩ := obj_there I ha pa
  obtain ⟨o2, e2, _⟩ := obj_there I hb pb
  by_cases z : a = b
  · subst z
    exact wpAny_isNot_ref_self (fin_bl I q (by simp))
  · exact wpAny_isNot_ref_other z e1 e2 n1 (fin_bl I q (by simp [z]))

/-- two rules for one operation: by cases -/
theorem OpR.or {f : Value → Value → Sem Value} {r r' : R2} (h : OpR X f r) (h' : OpR X f r') : OpR X f (fun x y H Q => r x y H Q ∨ r' x y H Q) := by
  intro pins s σ H x y v u Q I rx ry q
  rcases q with q | q
  · exact h pins s σ H x y v u Q I rx ry q
  · exact h' pins s σ H x y v u Q I rx ry q

theorem nomark (b : Expr) {op : CmpOp} (h : op ≠ .In := by decide) (h2 : op ≠ .NotIn := by decide) : behindInMarks op b = false := by
  have e1 : (op == CmpOp.In) = false := by cases op <;> first | rfl | exact absurd rfl h
  have e2 : (op == CmpOp.NotIn) = false := by cases op <;> first | rfl | exact absurd rfl h2
  cases b <;> simp [behindInMarks, e1, e2]
/-- a comparison as a value; hm: nomark b, or (for in, not in) by with_unfolding_all rfl -/
theorem pe_cmpR {op : CmpOp} {r : R2} (ho : OpR X (compareOp op) r) (ha : PE X a ta) (hb : PE X b tb) (hm : behindInMarks op b = false) : PE X (.Compare a [op] [b] pos) (tOp r ta tb) := by
  intro pins s σ H Q I h
  exact wpAny_Compare1 (binT ha hb I h fun v u s2 x y H2 I2 rx ry q => ho pins s2 σ H2 x y v u Q I2 rx ry q) hm
/-- a reading of a value as a test -/
def tTest (t : TE) : TT := fun σ H Q => t σ H fun x H' => ∃ k, x = .bl k ∧ Q k H'
theorem pt_cmpR {op : CmpOp} {r : R2} (ho : OpR X (compareOp op) r) (ha : PE X a ta) (hb : PE X b tb) (hm : behindInMarks op b = false) : PT X (.Compare a [op] [b] pos) (tTest (tOp r ta tb)) := by
  intro pins s σ H Q I h
  refine wpAny_isTrue_Compare1 (thn (ha pins s σ H _ I h) fun v s1 ⟨x, H1, I1, r1, q1⟩ => thn (hb pins s1 σ H1 _ I1 q1) fun u s2 ⟨y, H2, I2, r2, q2⟩ =>
    thn (ho pins s2 σ H2 x y v u _ I2 r1 r2 q2) fun c s3 ⟨z, H3, I3, r3, k, e, q3⟩ => ?_) hm
  subst e
  cases r3
  exact wpAny_truthy_bool ⟨H3, I3, q3⟩
/-- a op1 b op2 c -/
def tChain (r r' : R2) (ta tb tc : TE) : TE := fun σ H Q => ta σ H fun x H1 => tb σ H1 fun y H2 => r x y H2 fun z H3 => ∃ k, z = .bl k ∧
  (if k = true then tc σ H3 fun w' H4 => r' y w' H4 Q else Q (.bl false) H3)
theorem pe_chain {op op' : CmpOp} {r r' : R2} (ho : OpR X (compareOp op) r) (ho' : OpR X (compareOp op') r') (ha : PE X a ta) (hb : PE X b tb) (hc : PE X c tc)
    (hm : lastMarks [op, op'] [b, c] = false := by with_unfolding_all rfl) : PE X (.Compare a [op, op'] [b, c] pos) (tChain r r' ta tb tc) := by
  intro pins s σ H Q I h
  refine Compare_chain (thn (ha pins s σ H _ I h) fun v s1 ⟨x, H1, I1, r1, q1⟩ => chain_link (thn (hb pins s1 σ H1 _ I1 q1) fun u s2 ⟨y, H2, I2, r2, q2⟩ =>
    thn (ho pins s2 σ H2 x y v u _ I2 r1 r2 q2) fun d s3 ⟨z, H3, I3, r3, k, e, q3⟩ => ?_)) hm
  subst e
  cases r3
  refine wpAny_truthy_bool ?_
  cases k with
  | false => exact ite_ff ⟨.bl false, H3, I3, rfl, q3⟩
  | true => exact ite_tt (chain_last (thn (hc pins s3 σ H3 _ I3 q3) fun w' s4 ⟨z', H4, I4, r4, q4⟩ => ho' pins s4 σ H4 y z' u w' Q I4 r2 r4 q4))
theorem pt_chain {op op' : CmpOp} {r r' : R2} (ho : OpR X (compareOp op) r) (ho' : OpR X (compareOp op') r') (ha : PE X a ta) (hb : PE X b tb) (hc : PE X c tc)
    (hm : lastMarks [op, op'] [b, c] = false := by with_unfolding_all rfl) : PT X (.Compare a [op, op'] [b, c] pos) (tTest (tChain r r' ta tb tc)) := by
  intro pins s σ H Q I h
  refine isTrue_chain (thn (ha pins s σ H _ I h) fun v s1 ⟨x, H1, I1, r1, q1⟩ => test_link (thn (hb pins s1 σ H1 _ I1 q1) fun u s2 ⟨y, H2, I2, r2, q2⟩ =>
    thn (ho pins s2 σ H2 x y v u _ I2 r1 r2 q2) fun d s3 ⟨z, H3, I3, r3, k, e, q3⟩ => ?_)) hm
  subst e
  cases r3
  refine wpAny_truthy_bool ?_
  cases k with
  | false =>
    obtain ⟨k', e', q'⟩ := q3
    cases e'
    exact ite_ff ⟨H3, I3, q'⟩
  | true =>
    refine ite_tt (test_last (thn (hc pins s3 σ H3 _ I3 q3) fun w' s4 ⟨z', H4, I4, r4, q4⟩ => thn (ho' pins s4 σ H4 y z' u w' _ I4 r2 r4 q4) fun d' s5 ⟨z2, H5, I5, r5, k2, e2, q5⟩ => ?_))
    subst e2
    cases r5
    exact wpAny_truthy_bool ⟨H5, I5, q5⟩

/-! ### truth -/
/-- a value's truth by the abstract heap -/
def TruV (K : PySem.W.Frag) (x : V) (H : Hp) (k : Bool) : Prop :=
  match x with
  | .non => k = false
  | .bl b => k = b
  | .int i => k = (i != 0)
  | .str y => y.length ≤ sizeLine ∧ k = ((y.length : Int) != 0)
  | .byt y => y.size ≤ sizeLine ∧ k = ((y.size : Int) != 0)
  | .ref p => (∃ xs, SqL K H p xs ∧ k = !xs.isEmpty) ∨ (∃ xs, SqT K H p xs ∧ k = !xs.isEmpty) ∨ ∃ kvs, H p = some (.dK kvs) ∧ k = !kvs.isEmpty
  | _ => False
theorem isEmpty_kv {κ : Type} {kvs : List (κ × V)} {vs : List (κ × Value)} (r : KV kvs vs) : (!vs.isEmpty) = !kvs.isEmpty := by
  cases r <;> rfl
theorem isEmpty_of {xs : List V} {its : List Value} (r : Vals xs its) : (!its.toArray.isEmpty) = !xs.isEmpty := by
  cases r <;> simp
theorem line63 : (sizeLine : Nat) < 2 ^ 63 := by rw [sizeLine_eq]; decide
theorem tru_ok : TruR X (fun x H Q => ∃ k, TruV X.K x H k ∧ Q k H) := by
  intro pins s σ H x v Q I rx h
  obtain ⟨k, e, q⟩ := h
  have hl := line63
  have hs : sizeLine = 16777216 := sizeLine_eq
  cases x with
  | non =>
    cases rx
    have e' : k = false := e
    subst e'
    exact truthy_none ⟨H, I, q⟩
  | bl b =>
    cases rx
    have e' : k = b := e
    subst e'
    exact wpAny_truthy_bool ⟨H, I, q⟩
  | int i =>
    obtain ⟨t, rfl⟩ := rx
    have e' : k = (i != 0) := e
    subst e'
    exact PySem.P.truthy_int ⟨H, I, q⟩
  | str y =>
    obtain ⟨t, rfl⟩ := rx
    obtain ⟨hy, e'⟩ : y.length ≤ sizeLine ∧ k = ((y.length : Int) != 0) := e
    subst e'
    exact PySem.P.truthy_str (by omega) ⟨H, I.tok _, q⟩
  | byt y =>
    obtain ⟨t, rfl⟩ := rx
    obtain ⟨hy, e'⟩ : y.size ≤ sizeLine ∧ k = ((y.size : Int) != 0) := e
    subst e'
    exact PySem.W.truthy_bytes (by omega) ⟨H, I.tok _, q⟩
  | ref p =>
    cases rx
    have e' : (∃ xs, SqL X.K H p xs ∧ k = !xs.isEmpty) ∨ (∃ xs, SqT X.K H p xs ∧ k = !xs.isEmpty) ∨ ∃ kvs, H p = some (.dK kvs) ∧ k = !kvs.isEmpty := e
    rcases e' with ⟨xs, hx, e'⟩ | ⟨xs, hx, e'⟩ | ⟨kvs, hx, e'⟩
    · subst e'
      obtain ⟨its, r, pl, hz⟩ := I.list hx
      have hlen := r.length
      exact wpAny_truthy_list pl.isList (by simp only [List.size_toArray]; omega) ⟨H, I.tok _, by rw [isEmpty_of r]; exact q⟩
    · subst e'
      obtain ⟨its, r, pl, hz⟩ := I.tuple hx
      have hlen := r.length
      exact truthy_tuple pl (by simp only [List.size_toArray]; omega) ⟨H, I.tok _, by rw [isEmpty_of r]; exact q⟩
    · subst e'
      obtain ⟨hz, hS, vs, r, m⟩ : kvs.length ≤ sizeLine ∧ (p == sysModules) = false ∧ ∃ vs, KV kvs vs ∧ s.heap.DictOf (mixKind X.prog X.w) p vs := I.hok p _ hx
      have hlen : kvs.length = vs.length := Paired.length r
      exact wpAny_truthy_dict hS m (by omega) ⟨H, I.tok _, by rw [isEmpty_kv r]; exact q⟩
  | _ => exact (show False from e).elim
/-- any expression whose test is its value's truth (a name, a call, a subscript, a field ..: he by fun _ => rfl) -/
theorem pt_truth (ha : PE X a ta) (he : ∀ whole, isTrue a X.env whole = (do let v ← whole; standAt a.pos; holding [v] (truthy v))) :
    PT X a (fun σ H Q => ta σ H fun x H' => ∃ k, TruV X.K x H' k ∧ Q k H') := by
  intro pins s σ H Q I h
  exact isTrue_plain (thn (ha pins s σ H _ I h) fun v s1 ⟨x, H1, I1, r1, q1⟩ => tru_ok pins s1 σ H1 x v Q I1 r1 q1) (he _)

/-! ### strs and bytes -/
theorem pe_byt {x : List UInt8} {k : Nat} : PE X (.Constant (.bytes x) k pos) (fun _ H Q => Q (.byt x.toArray) H) := fun _ _ _ H _ I h => PySem.W.Constant_bytes ⟨.byt x.toArray, H, I.tok _, ⟨_, rfl⟩, h⟩
theorem op_add_str : OpR X (binaryOp .Add) (fun x y H Q => ∃ i j, x = .str i ∧ y = .str j ∧ i.length + j.length ≤ sizeLine ∧ Q (.str (i ++ j)) H) := by
  intro pins s σ H x y v u Q I rx ry h
  obtain ⟨i, j, rfl, rfl, hz, q⟩ := h
  obtain ⟨t, rfl⟩ := rx
  obtain ⟨t', rfl⟩ := ry
  exact add_str (fun t' tk => ⟨.str (i ++ j), H, I.tok _, ⟨_, rfl⟩, q⟩) hz
theorem iop_add_str : OpR X (inplaceOp .Add) (fun x y H Q => ∃ i j, x = .str i ∧ y = .str j ∧ i.length + j.length ≤ sizeLine ∧ Q (.str (i ++ j)) H) := by
  intro pins s σ H x y v u Q I rx ry h
  obtain ⟨i, j, rfl, rfl, hz, q⟩ := h
  obtain ⟨t, rfl⟩ := rx
  obtain ⟨t', rfl⟩ := ry
  exact iadd_str (fun t' tk => ⟨.str (i ++ j), H, I.tok _, ⟨_, rfl⟩, q⟩) hz
theorem op_add_byt : OpR X (binaryOp .Add) (fun x y H Q => ∃ i j, x = .byt i ∧ y = .byt j ∧ i.size + j.size ≤ 16777216 ∧ Q (.byt (i ++ j)) H) := by
  intro pins s σ H x y v u Q I rx ry h
  obtain ⟨i, j, rfl, rfl, hz, q⟩ := h
  obtain ⟨t, rfl⟩ := rx
  obtain ⟨t', rfl⟩ := ry
  exact PySem.W.KBy.add_bytes hz (fun t' tk => ⟨.byt (i ++ j), H, I.tok _, ⟨_, rfl⟩, q⟩)

def PlainIxT (b : Expr) : Prop := ∀ o i, subscripted b false o i = operate [o, i] (getItem o i)
/-- s[i], 0 ≤ i < len -/
theorem pe_item_str (ha : PE X a ta) (hb : PE X b tb) (hs : PlainIxT b) :
    PE X (.Subscript a b pos) (tOp (fun x y H Q => ∃ z i c, x = .str z ∧ y = .int i ∧ 0 ≤ i ∧ i < 2 ^ 63 ∧ i < z.length ∧ z.cps[i.toNat]? = some c ∧ Q (.str ⟨#[c]⟩) H) ta tb) := by
  intro pins s σ H Q I h
  refine Subscript_ (binT ha hb I h fun v u s2 x y H2 I2 rx ry q => ?_)
  obtain ⟨z, i, c, rfl, rfl, h0, h63, h1, hc, q⟩ := q
  obtain ⟨t, rfl⟩ := rx
  obtain ⟨t', rfl⟩ := ry
  have e : seqIndex? i z.length = some i.toNat := PySem.StrLaws.seqIndex_nonneg h0 h1
  exact tail_any (typeIs_str s2 z t) slot_str_getitem.lookup (getItem_str (c := c) (by
    have e1 : decide (i < -(2 ^ 63 : Int)) = false := decide_eq_false (by omega)
    have e2 : decide (i ≥ 2 ^ 63) = false := decide_eq_false (by omega)
    rw [e1, e2] <;> rfl) (by rw [e]; exact hc) ⟨.str ⟨#[c]⟩, H2, I2.tok _, ⟨_, rfl⟩, q⟩) (hs _ _)
/-- b[i], 0 ≤ i < len -/
theorem pe_item_byt (ha : PE X a ta) (hb : PE X b tb) (hs : PlainIxT b) :
    PE X (.Subscript a b pos) (tOp (fun x y H Q => ∃ (z : List UInt8) (i : Int), x = .byt z.toArray ∧ y = .int i ∧ z.length ≤ sizeLine ∧ 0 ≤ i ∧ i < z.length ∧ Q (.int ((z.getD i.toNat 0).toNat : Nat)) H) ta tb) := by
  intro pins s σ H Q I h
  refine Subscript_ (binT ha hb I h fun v u s2 x y H2 I2 rx ry q => ?_)
  obtain ⟨z, i, rfl, rfl, hz, h0, h1, q⟩ := q
  obtain ⟨t, rfl⟩ := rx
  obtain ⟨t', rfl⟩ := ry
  have hl : sizeLine = 16777216 := sizeLine_eq
  exact tail_any (PySem.W.typeIs_bytes s2 z.toArray t) PySem.W.FB.slot_bytes_getitem.lookup (PySem.W.getItem_bytes (by omega) h0 h1 ⟨.int ((z.getD i.toNat 0).toNat : Nat), H2, I2.tok _, ⟨_, rfl⟩, q⟩) (hs _ _)

/-! ### scalar builtins, by CallR -/
theorem vals1 {x : V} {us : List Value} (r : Vals [x] us) : ∃ u, us = [u] ∧ RelV x u := by
  cases r with
  | cons r1 r2 => cases r2; exact ⟨_, rfl, r1⟩
theorem vals2 {x y : V} {us : List Value} (r : Vals [x, y] us) : ∃ u w', us = [u, w'] ∧ RelV x u ∧ RelV y w' := by
  cases r with
  | cons r1 r2 =>
    cases r2 with
    | cons r3 r4 => cases r4; exact ⟨_, _, rfl, r1, r3⟩
theorem call_abs : CallR X (.builtin "abs") (fun xs H Q => ∃ i, xs = [.int i] ∧ Q (.int (if i < 0 then -i else i)) H) := by
  intro pins s σ H xs us Q I r h
  obtain ⟨i, rfl, q⟩ := h
  obtain ⟨u, rfl, t, rfl⟩ := vals1 r
  exact call_abs_int fun u tk => ⟨.int (if i < 0 then -i else i), H, I.tok _, ⟨_, rfl⟩, q⟩
theorem call_max2 (hc : X.calm = true) : CallR X (.builtin "max") (fun xs H Q => ∃ i j, xs = [.int i, .int j] ∧ Q (.int (if j > i then j else i)) H) := by
  intro pins s σ H xs us Q I r h
  obtain ⟨i, j, rfl, q⟩ := h
  obtain ⟨u, w', rfl, ⟨t, rfl⟩, ⟨t', rfl⟩⟩ := vals2 r
  refine max_two_ints (I.ok.hd hc) fun h' tk k => ⟨_, H, I.kept k, ?_, q⟩
  by_cases hj : j > i
  · rw [if_pos hj, if_pos hj]; exact ⟨_, rfl⟩
  · rw [if_neg hj, if_neg hj]; exact ⟨_, rfl⟩
theorem call_min2 (hc : X.calm = true) : CallR X (.builtin "min") (fun xs H Q => ∃ i j, xs = [.int i, .int j] ∧ Q (.int (if j < i then j else i)) H) := by
  intro pins s σ H xs us Q I r h
  obtain ⟨i, j, rfl, q⟩ := h
  obtain ⟨u, w', rfl, ⟨t, rfl⟩, ⟨t', rfl⟩⟩ := vals2 r
  refine min_two_ints (I.ok.hd hc) fun h' tk k => ⟨_, H, I.kept k, ?_, q⟩
  by_cases hj : j < i
  · rw [if_pos hj, if_pos hj]; exact ⟨_, rfl⟩
  · rw [if_neg hj, if_neg hj]; exact ⟨_, rfl⟩
theorem call_int1 : CallR X (.type "int") (fun xs H Q => (∃ i, xs = [.int i] ∧ Q (.int i) H) ∨ ∃ k, xs = [.bl k] ∧ Q (.int (if k then 1 else 0)) H) := by
  intro pins s σ H xs us Q I r h
  rcases h with ⟨i, rfl, q⟩ | ⟨k, rfl, q⟩
  · obtain ⟨u, rfl, t, rfl⟩ := vals1 r
    exact call_int_int ⟨.int i, H, I, ⟨_, rfl⟩, q⟩
  · obtain ⟨u, rfl, r1⟩ := vals1 r
    cases r1
    exact call_int_bool ⟨.int (if k then 1 else 0), H, I.tok _, ⟨_, rfl⟩, q⟩
theorem call_bool1 : CallR X (.type "bool") (fun xs H Q => (∃ i, xs = [.int i] ∧ Q (.bl (i != 0)) H) ∨ ∃ k, xs = [.bl k] ∧ Q (.bl k) H) := by
  intro pins s σ H xs us Q I r h
  rcases h with ⟨i, rfl, q⟩ | ⟨k, rfl, q⟩
  · obtain ⟨u, rfl, t, rfl⟩ := vals1 r
    exact call_bool_int ⟨.bl (i != 0), H, I, rfl, q⟩
  · obtain ⟨u, rfl, r1⟩ := vals1 r
    cases r1
    exact call_bool_bool ⟨.bl k, H, I, rfl, q⟩
theorem call_str_int : CallR X (.type "str") (fun xs H Q => ∃ i, xs = [.int i] ∧ i.natAbs.log2 < 1920 ∧ Q (.str (toString i)) H) := by
  intro pins s σ H xs us Q I r h
  obtain ⟨i, rfl, hz, q⟩ := h
  obtain ⟨u, rfl, t, rfl⟩ := vals1 r
  exact PySem.P.str_of_int hz ⟨.str _, H, I.tok _, ⟨_, rfl⟩, q⟩
theorem call_ord : CallR X (.builtin "ord") (fun xs H Q => ∃ x, xs = [.str x] ∧ x.length = 1 ∧ Q (.int (x.cps.getD 0 0 : Nat)) H) := by
  intro pins s σ H xs us Q I r h
  obtain ⟨x, rfl, hz, q⟩ := h
  obtain ⟨u, rfl, t, rfl⟩ := vals1 r
  exact ord_of_one hz ⟨.int _, H, I.tok _, ⟨_, rfl⟩, q⟩
theorem call_chr : CallR X (.builtin "chr") (fun xs H Q => ∃ i, xs = [.int i] ∧ 0 ≤ i ∧ i ≤ 1114111 ∧ Q (.str ⟨#[i.toNat]⟩) H) := by
  intro pins s σ H xs us Q I r h
  obtain ⟨i, rfl, h0, h1, q⟩ := h
  obtain ⟨u, rfl, t, rfl⟩ := vals1 r
  exact chr_of_range h0 h1 ⟨.str _, H, I.tok _, ⟨_, rfl⟩, q⟩
/-- len of a str, a bytes, a list, a tuple -/
def LenV (K : PySem.W.Frag) (x : V) (H : Hp) (n : Nat) : Prop :=
  match x with
  | .str y => y.length ≤ sizeLine ∧ n = y.length
  | .byt y => y.size ≤ sizeLine ∧ n = y.size
  | .ref p => (∃ xs, SqL K H p xs ∧ n = xs.length) ∨ ∃ xs, SqT K H p xs ∧ n = xs.length
  | _ => False
theorem call_len : CallR X (.builtin "len") (fun xs H Q => ∃ x n, xs = [x] ∧ LenV X.K x H n ∧ Q (.int n) H) := by
  intro pins s σ H xs us Q I r h
  obtain ⟨x, n, rfl, e, q⟩ := h
  obtain ⟨u, rfl, rx⟩ := vals1 r
  have hl := line63
  have hs : sizeLine = 16777216 := sizeLine_eq
  cases x with
  | str y =>
    obtain ⟨t, rfl⟩ := rx
    obtain ⟨hy, e'⟩ : y.length ≤ sizeLine ∧ n = y.length := e
    subst e'
    exact len_str (by omega) ⟨.int _, H, I.tok _, ⟨_, rfl⟩, q⟩
  | byt y =>
    obtain ⟨t, rfl⟩ := rx
    obtain ⟨hy, e'⟩ : y.size ≤ sizeLine ∧ n = y.size := e
    subst e'
    exact PySem.W.len_bytes (by omega) ⟨.int _, H, I.tok _, ⟨_, rfl⟩, q⟩
  | ref p =>
    cases rx
    have e' : (∃ xs, SqL X.K H p xs ∧ n = xs.length) ∨ ∃ xs, SqT X.K H p xs ∧ n = xs.length := e
    rcases e' with ⟨xs, hx, e'⟩ | ⟨xs, hx, e'⟩
    · subst e'
      obtain ⟨its, r', pl, hz⟩ := I.list hx
      have hlen := r'.length
      exact Calls.call_len_list pl.isList (by simp only [List.size_toArray]; omega) ⟨.int xs.length, H, I.tok _, ⟨_, by simp only [List.size_toArray]; rw [hlen]⟩, q⟩
    · subst e'
      obtain ⟨its, r', pl, hz⟩ := I.tuple hx
      have hlen := r'.length
      exact len_tuple pl (by simp only [List.size_toArray]; omega) ⟨.int xs.length, H, I.tok _, ⟨_, by simp only [List.size_toArray]; rw [hlen]⟩, q⟩
  | _ => exact (show False from e).elim
/-- divmod: a new tuple -/
theorem call_divmod : CallR X (.builtin "divmod") (fun xs H Q => ∃ i j, xs = [.int i, .int j] ∧ CDiv i j ∧ ∀ p, H p = none → Q (.ref p) (upd H p (.tup [.int (i / j), .int (i % j)]))) := by
  intro pins s σ H xs us Q I r h
  obtain ⟨i, j, rfl, ⟨h1, h2⟩, q⟩ := h
  obtain ⟨u, w', rfl, ⟨t, rfl⟩, ⟨t', rfl⟩⟩ := vals2 r
  refine divmod_int (by omega) ?_ (.inl (PyProof.noPylong_small (by omega)))
  rw [Int.fdiv_eq_ediv_of_nonneg i (by omega), Int.fmod_eq_emod_of_nonneg i (by omega)]
  have hn : H s.heap.objs.size = none := I.hok.fresh (Nat.le_refl _)
  refine ⟨.ref s.heap.objs.size, _, ?_, rfl, q _ hn⟩
  refine I.laid (fun b o e => Heap.get?_push_of_some _ e) (Nat.le_refl _) ⟨by simp only [List.length_cons, List.length_nil]; rw [sizeLine_eq]; decide, [.int (i / j) s.toks, .int (i % j) (s.toks + 1)], .cons ⟨_, rfl⟩ (.cons ⟨_, rfl⟩ .nil), ?_⟩
  exact ⟨_, Heap.get?_push_size s.heap rfl, rfl, 0, rfl⟩
end
end L2

namespace L2
open PySem PySem.Spec PyProof.Rows

/-! ### an instance, its attributes a map -/
structure ObjM (h : Heap) (x dx C : Addr) (mA : Str → Option Value) : Prop where
  obj : h.get? x = some (PySem.W.instObj C dx)
  ns : h.Ns1 dx mA
  ne : dx ≠ x

theorem lookIn_ns {h : Heap} {dx : Addr} {mA : Str → Option Value} (n : h.Ns1 dx mA) : ∃ od, h.get? dx = some od ∧ ∀ name, PySem.W.lookIn name od = some (mA name) := by
  obtain ⟨o, es, ep, ho, hd, hk, _, hm⟩ := n
  refine ⟨o, ho, fun name => ?_⟩
  have e := hm name
  unfold nsFind findBy at e
  rw [← Array.find?_toList] at e
  unfold PySem.W.lookIn
  rw [hd]
  dsimp only
  split
  · rename_i y q
    rw [q] at e
    exact congrArg some e
  · rename_i q
    rw [q] at e
    have a : es.toList.any (·.refKey) = false := by
      rw [List.any_eq_false]
      intro y hy
      obtain ⟨z, t, hkey⟩ := hk y (Array.mem_toList_iff.mp hy)
      simp [DictEntry.refKey, hkey]
    have a' : ¬ es.toList.any (·.refKey) = true := by rw [a]; exact Bool.false_ne_true
    rw [if_neg a']
    exact congrArg some e

theorem ObjM.look {h : Heap} {x dx C : Addr} {mA : Str → Option Value} (I : ObjM h x dx C mA) : ∃ od, PySem.W.InstAt h x (PySem.W.instObj C dx) C (some od) ∧ ∀ name, PySem.W.lookIn name od = some (mA name) :=
  let ⟨od, ho, hl⟩ := lookIn_ns I.ns
  ⟨od, ⟨I.obj, rfl, rfl, ho⟩, hl⟩

section
variable {prog : Program} {w : World} {A : Around} {E : Value → Shared → Prop} {s : Shared} {K : PySem.W.Frag} {x dx C f : Addr} {mA : Str → Option Value} {name : Str} {v : Value}

theorem get_map {expr : Bool} {Q : Value → Shared → Prop} (X : K.In s.heap) (I : ObjM s.heap x dx C mA) (hg : PySem.W.plainGet K C name = true) (hh : PySem.W.hasDictIn K C = true)
    (ha : PySem.W.findIn K (.ref C) name = some none) (hv : mA name = some v) (hv' : PySem.W.handedIn v = true) (h : Q v { s with toks := s.toks + 1 }) :
    wpAny (model prog w) A (getAttr (.ref x) name expr) Q E s := by
  obtain ⟨od, J, hl⟩ := I.look
  exact PySem.W.get_value X J (PySem.W.plainGet_of hg).1 (PySem.W.findObj_own hh ha rfl (by rw [hl, hv])) hv' h

theorem get_const {expr : Bool} {a : Value} {Q : Value → Shared → Prop} (X : K.In s.heap) (I : ObjM s.heap x dx C mA) (hg : PySem.W.plainGet K C name = true) (hh : PySem.W.hasDictIn K C = true)
    (ha : PySem.W.findIn K (.ref C) name = some (some a)) (hn : PySem.W.specialIn K a "__get__" = some none) (hc : PySem.W.copiedNames.contains name = false) (hv : mA name = none) (hv' : PySem.W.handedIn a = true)
    (h : Q a { s with toks := s.toks + 1 }) : wpAny (model prog w) A (getAttr (.ref x) name expr) Q E s := by
  obtain ⟨od, J, hl⟩ := I.look
  exact PySem.W.get_value X J (PySem.W.plainGet_of hg).1 (PySem.W.findObj_cls hh ha hn hv' hc (by rw [hl, hv])) hv' h

theorem get_meth {pl : Sem Bool} {Q : Value × List Value → Shared → Prop} (X : K.In s.heap) (I : ObjM s.heap x dx C mA) (hg : PySem.W.plainGet K C name = true)
    (hf : PySem.W.findIn K (.ref C) name = some (some (.ref f))) (ht : PySem.W.isFn K (.ref f) = true) (hv : mA name = none) (h : Q (.ref f, [.ref x]) s) :
    wpAny (model prog w) A (getMethod (.ref x) name pl) Q E s := by
  obtain ⟨od, J, hl⟩ := I.look
  exact PySem.W.method_fn X J (PySem.W.plainGet_of hg).1 (PySem.W.plainGet_of hg).2 hf (beq_iff_eq.mp ht) (by show (PySem.W.lookIn name od).map (·.isSome) = some false; rw [hl, hv]; rfl) h

theorem set_map {ns : List Str} {Q : Unit → Shared → Prop} (X : K.In s.heap) (I : ObjM s.heap x dx C mA)
    (hs : PySem.W.findIn K (.ref C) "__setattr__" = some (some (.builtin "object.__setattr__"))) (hp : PySem.W.plainOver K C = true) (ht : PySem.W.takerIn K C name = some none) (hh : PySem.W.hasDictIn K C = true)
    (hw : PySem.Within mA ns) (hsz : ns.length ≤ sizeLine)
    (h : ∀ h', ObjM h' x dx C (fun y => if y = name then some v else mA y) → Heap.SameBut dx s.heap h' → Q () { s with heap := h', toks := s.toks + 2 }) :
    wpAny (model prog w) A (setAttr (.ref x) name v) Q E s := by
  obtain ⟨od, J, hl⟩ := I.look
  refine PySem.W.set_plain X J hs (PySem.W.osa_open (s := { s with toks := s.toks + 1 }) (r := none) X J hp ht fun b => ?_)
  obtain ⟨cd, hc, hd'⟩ := PySem.W.any_some hh
  have hx : s.heap.get? x = some ⟨.ref C, some dx, .plain, #[]⟩ := I.obj
  refine wpAny_bind (wpAny_pure (wpAny_bind (wpAny_bind (wpAny_loadPart hx (wpAny_bind (PySem.W.Looks.here (s := { s with toks := s.toks + 1 }) (PySem.W.looks_clsIn X hc) ?_))))))
  rw [hd']
  refine wpAny_pure (a := some dx) (wpAny_bind (wpAny_pure (wpAny_bind ?_)))
  refine wpAny_nsSet1 (s := { s with toks := s.toks + 1 }) I.ns fun h' hn2 hs2 => ?_
  obtain ⟨oD, esD, epD, hoD, hdD, hcD⟩ := hn2.count (PySem.Within.cons name v hw)
  refine wpAny_bind (wpAny_lookBehind hoD (by rw [hdD]; exact pastItsLine_dict (Nat.le_trans hcD (by rw [List.length_cons]; omega))) ?_)
  exact wpAny_pure (h _ ⟨(hs2.2 _ (Ne.symm I.ne)).trans I.obj, hn2, I.ne⟩ hs2)

/-- C(..): the dict at the heap's end, the instance behind it; then its __init__ -/
theorem make_map {R : Result → Shared → Prop} {vs : List Value} {kw : List (Str × Value)} (X : K.In s.heap) (hm : PySem.W.makesIn K C = true)
    (hi : PySem.W.findIn K (.ref C) "__init__" = some (some (.ref f))) (hf : PySem.W.typeIn K (.ref f) = some (.type "function"))
    (h : codeAny (model prog w) (A.under (.builtin "type.__call__" ⟨.ref C :: vs, kw⟩)) (.call (.ref f) ⟨.ref (s.heap.objs.size + 1) :: vs, kw⟩) (PySem.W.InitBack (s.heap.objs.size + 1) R)
      { s with heap := (s.heap.push PySem.W.emptyDict).push (PySem.W.instObj C s.heap.objs.size) }) :
    codeAny (model prog w) A (.call (.ref C) ⟨vs, kw⟩) R s := by
  obtain ⟨hh, g, d, t, os⟩ := s
  exact PySem.W.make_core (PySem.W.makes_of X hm) (PySem.W.looks_findIn X hi) (fun self => PySem.W.bind_fn X self hf) (.inl rfl) h
/-- C() where there is no __init__ but object's -/
theorem make_map0 {R : Result → Shared → Prop} (X : K.In s.heap) (hm : PySem.W.makesIn K C = true)
    (hi : PySem.W.findIn K (.ref C) "__init__" = some (some (.builtin "object.__init__")))
    (hb : ∀ self, PySem.W.Looks (model prog w) s.heap (bindSpecial (.builtin "object.__init__") self) (.builtin "object.__init__", [self]))
    (h : codeAny (model prog w) (A.under (.builtin "type.__call__" ⟨[.ref C], []⟩)) (.call (.builtin "object.__init__") ⟨[.ref (s.heap.objs.size + 1)], []⟩) (PySem.W.InitBack (s.heap.objs.size + 1) R)
      { s with heap := (s.heap.push PySem.W.emptyDict).push (PySem.W.instObj C s.heap.objs.size) }) :
    codeAny (model prog w) A (.call (.ref C) ⟨[], []⟩) R s := by
  obtain ⟨hh, g, d, t, os⟩ := s
  exact PySem.W.make_core (PySem.W.makes_of X hm) (PySem.W.looks_findIn X hi) hb (.inr ⟨rfl, rfl⟩) h
end

/-! ### the attributes as a list of pairs -/
def putF (f : Str) (v : V) : List (Str × V) → List (Str × V)
  | [] => [(f, v)]
  | (g, x) :: r => if g = f then (g, v) :: r else (g, x) :: putF f v r
theorem lookup_putF (f g : Str) (v : V) : ∀ fs : List (Str × V), (putF f v fs).lookup g = if g = f then some v else fs.lookup g
  | [] => by
    show List.lookup g [(f, v)] = _
    by_cases h : g = f
    · have hb : (g == f) = true := beq_iff_eq.mpr h
      simp only [List.lookup, hb, if_pos h]
    · have hb : (g == f) = false := beq_eq_false_iff_ne.mpr h
      simp only [List.lookup, hb, if_neg h]
  | (k, x) :: r => by
    have ih := lookup_putF f g v r
    rw [show putF f v ((k, x) :: r) = (if k = f then (k, v) :: r else (k, x) :: putF f v r) from rfl]
    by_cases hk : k = f
    · rw [if_pos hk]
      by_cases h : g = k
      · have hb : (g == k) = true := beq_iff_eq.mpr h
        simp only [List.lookup, hb, if_pos (h.trans hk)]
      · have hb : (g == k) = false := beq_eq_false_iff_ne.mpr h
        simp only [List.lookup, hb, if_neg (fun e : g = f => h (e.trans hk.symm))]
    · rw [if_neg hk]
      by_cases h : g = k
      · have hb : (g == k) = true := beq_iff_eq.mpr h
        simp only [List.lookup, hb, if_neg (fun e : g = f => hk (h.symm.trans e))]
      · have hb : (g == k) = false := beq_eq_false_iff_ne.mpr h
        simp only [List.lookup, hb]
        exact ih
theorem keys_putF (f : Str) (v : V) : ∀ fs : List (Str × V), f ∈ (putF f v fs).map (·.1) ∧ ∀ g, g ∈ fs.map (·.1) → g ∈ (putF f v fs).map (·.1)
  | [] => ⟨by simp [putF], fun g h => by simp at h⟩
  | (k, x) :: r => by
    obtain ⟨i1, i2⟩ := keys_putF f v r
    rw [show putF f v ((k, x) :: r) = (if k = f then (k, v) :: r else (k, x) :: putF f v r) from rfl]
    by_cases hk : k = f
    · rw [if_pos hk]
      subst hk
      exact ⟨by simp, fun g h => by simpa using h⟩
    · rw [if_neg hk]
      refine ⟨?_, fun g h => ?_⟩
      · rw [List.map_cons]
        exact List.mem_cons_of_mem _ i1
      · rw [List.map_cons] at h ⊢
        rcases List.mem_cons.mp h with e | e
        · exact List.mem_cons.mpr (.inl e)
        · exact List.mem_cons_of_mem _ (i2 g e)
theorem length_putF (f : Str) (v : V) : ∀ fs : List (Str × V), (putF f v fs).length ≤ fs.length + 1
  | [] => by simp [putF]
  | (k, x) :: r => by
    have ih := length_putF f v r
    rw [show putF f v ((k, x) :: r) = (if k = f then (k, v) :: r else (k, x) :: putF f v r) from rfl]
    by_cases hk : k = f
    · rw [if_pos hk, List.length_cons, List.length_cons]; omega
    · rw [if_neg hk, List.length_cons, List.length_cons]; omega

theorem RelO.some_of {v : V} {o : Option Value} (r : RelO (some v) o) : ∃ u, o = some u ∧ RelV v u := by
  cases o with
  | none => exact (show False from r).elim
  | some u => exact ⟨u, rfl, r⟩
theorem RelO.none_of {o : Option Value} (r : RelO none o) : o = none := by
  cases o with
  | none => rfl
  | some u => exact (show False from r).elim
theorem handed_of {v : V} {u : Value} (r : RelV v u) : PySem.W.handedIn u = true := by
  cases v with
  | non => cases (show u = Value.none from r); rfl
  | bl b => cases (show u = Value.bool b from r); rfl
  | int i => obtain ⟨t, e⟩ := (show ∃ t, u = Value.int i t from r); cases e; rfl
  | str x => obtain ⟨t, e⟩ := (show ∃ t, u = Value.str x t from r); cases e; rfl
  | byt b => obtain ⟨t, e⟩ := (show ∃ t, u = Value.bytes b t from r); cases e; rfl
  | flt b => obtain ⟨t, e⟩ := (show ∃ t, u = Value.float b t from r); cases e; rfl
  | ref a => cases (show u = Value.ref a from r); rfl
  | ty n => cases (show u = Value.type n from r); rfl

section
variable {P : Program} {w : World} {H H' : Hp} {h h' : Heap} {a C dx : Addr} {fs fs' : List (Str × V)}
theorem ins_get (hok : HOk P w H h) (e : H a = some (.ins C dx fs)) : ∃ mA, ObjM h a dx C mA ∧ (∀ f, RelO (fs.lookup f) (mA f)) ∧ PySem.Within mA (fs.map (·.1)) ∧ fs.length ≤ 1000 ∧ H dx = some (.own a) := by
  obtain ⟨d, z, ne, ob, mA, n, r, q⟩ := (show ObjOk P w H h a (.ins C dx fs) from hok a _ e)
  exact ⟨mA, ⟨ob, n, ne⟩, r, q, z, d⟩
end

/-! ### what of the text a class must have -/
structure Cls (K : PySem.W.Frag) (C : Addr) : Prop where
  pg : PySem.W.plainGet K C Str.empty = true
  hd : PySem.W.hasDictIn K C = true
  po : PySem.W.plainOver K C = true
  sa : PySem.W.findIn K (.ref C) "__setattr__" = some (some (.builtin "object.__setattr__"))
theorem Cls.get {K : PySem.W.Frag} {C : Addr} (c : Cls K C) (f : Str) : PySem.W.plainGet K C f = true := c.pg
/-- no class of it has the name -/
def NoAttr (K : PySem.W.Frag) (C : Addr) (f : Str) : Prop := PySem.W.findIn K (.ref C) f = some none
theorem NoAttr.taker {K : PySem.W.Frag} {C : Addr} {f : Str} (n : NoAttr K C f) : PySem.W.takerIn K C f = some none := by
  unfold PySem.W.takerIn
  rw [show PySem.W.findIn K (.ref C) f = some none from n]
  rfl
/-- a constant of the class -/
structure Con (K : PySem.W.Frag) (C : Addr) (f : Str) (v : V) (u : Value) : Prop where
  at_ : PySem.W.findIn K (.ref C) f = some (some u)
  rel : RelV v u
  get : PySem.W.specialIn K u "__get__" = some none
  cp : PySem.W.copiedNames.contains f = false
/-- a method: a plain def of the class or of one above it -/
structure Meth (K : PySem.W.Frag) (C : Addr) (m : Str) (f : Addr) : Prop where
  at_ : PySem.W.findIn K (.ref C) m = some (some (.ref f))
  fn : PySem.W.isFn K (.ref f) = true
  kp : PySem.W.keepIn K (.ref f) = true

section
variable {X : Cx} {pins : List (Addr × Obj)} {σ : St} {H : Hp} {s : Shared} {a C dx : Addr} {fs : List (Str × V)} {f : Str} {v : V} {A : Around} {E : Value → Shared → Prop}

theorem getattr_ok {b : Bool} {Q : Value → Shared → Prop} (I : Inv X pins σ H s) (e : H a = some (.ins C dx fs)) (c : Cls X.K C) (n : NoAttr X.K C f) (l : fs.lookup f = some v)
    (h : ∀ u s', Inv X pins σ H s' → RelV v u → Q u s') : wpAny (model X.prog X.w) A (getAttr (.ref a) f b) Q E s := by
  obtain ⟨mA, O, r, _, _, _⟩ := ins_get I.hok e
  obtain ⟨u, hu, ru⟩ := RelO.some_of (v := v) (o := mA f) (by rw [← l]; exact r f)
  exact get_map I.kIn O (c.get f) c.hd n hu (handed_of ru) (h u _ (I.tok _) ru)

theorem getcon_ok {b : Bool} {u : Value} {Q : Value → Shared → Prop} (I : Inv X pins σ H s) (e : H a = some (.ins C dx fs)) (c : Cls X.K C) (k : Con X.K C f v u) (l : fs.lookup f = none)
    (h : ∀ s', Inv X pins σ H s' → Q u s') : wpAny (model X.prog X.w) A (getAttr (.ref a) f b) Q E s := by
  obtain ⟨mA, O, r, _, _, _⟩ := ins_get I.hok e
  have hn : mA f = none := RelO.none_of (by rw [← l]; exact r f)
  exact get_const I.kIn O (c.get f) c.hd k.at_ k.get k.cp hn (handed_of k.rel) (h _ (I.tok _))

theorem getmeth_ok {m : Str} {g : Addr} {pl : Sem Bool} {Q : Value × List Value → Shared → Prop} (I : Inv X pins σ H s) (e : H a = some (.ins C dx fs)) (c : Cls X.K C) (k : Meth X.K C m g) (l : fs.lookup m = none)
    (h : Q (.ref g, [.ref a]) s) : wpAny (model X.prog X.w) A (getMethod (.ref a) m pl) Q E s := by
  obtain ⟨mA, O, r, _, _, _⟩ := ins_get I.hok e
  have hn : mA m = none := RelO.none_of (by rw [← l]; exact r m)
  exact get_meth I.kIn O (c.get m) k.at_ k.fn hn h

theorem setattr_ok {y : V} {u : Value} {Q : Unit → Shared → Prop} (I : Inv X pins σ H s) (e : H a = some (.ins C dx fs)) (c : Cls X.K C) (n : NoAttr X.K C f) (hl : fs.length < 1000) (ry : RelV y u)
    (h : ∀ s', Inv X pins σ (upd H a (.ins C dx (putF f y fs))) s' → Q () s') : wpAny (model X.prog X.w) A (setAttr (.ref a) f u) Q E s := by
  obtain ⟨mA, O, r, wi, _, ho⟩ := ins_get I.hok e
  have hz : (fs.map (·.1)).length ≤ sizeLine := by rw [List.length_map, sizeLine_eq]; omega
  refine set_map I.kIn O c.sa c.po n.taker c.hd wi hz fun h' O' sb => h _ ?_
  have hd : ∃ o, h'.get? dx = some o := let ⟨o, _, _, e', _⟩ := O'.ns; ⟨o, e'⟩
  refine I.write (x := a) (e := dx) (by rw [e]; exact True.intro) (.inr ho) (fun b q hb z => (sb.2 b hb).trans z) hd ?_
  refine ⟨by rw [upd_ne O.ne]; exact ho, ?_, O.ne, O'.obj, _, O'.ns, fun g => ?_, fun g hg => ?_⟩
  · have := length_putF f y fs; omega
  · show RelO ((putF f y fs).lookup g) (if g = f then some u else mA g)
    rw [lookup_putF]
    by_cases q : g = f
    · rw [if_pos q, if_pos q]; exact ry
    · rw [if_neg q, if_neg q]; exact r g
  · by_cases q : g = f
    · rw [q]; exact (keys_putF f y fs).1
    · refine (keys_putF f y fs).2 g (wi g fun z => hg ?_)
      show (if g = f then some u else mA g) = none
      rw [if_neg q]; exact z

/-- a new instance, tracked, without attributes -/
theorem Inv.made (I : Inv X pins σ H s) : Inv X pins σ (upd (upd H s.heap.objs.size (.own (s.heap.objs.size + 1))) (s.heap.objs.size + 1) (.ins C s.heap.objs.size []))
    { s with heap := (s.heap.push PySem.W.emptyDict).push (PySem.W.instObj C s.heap.objs.size) } := by
  have e1 : (s.heap.push PySem.W.emptyDict).get? s.heap.objs.size = some PySem.W.emptyDict := Heap.get?_push_size s.heap rfl
  have e2 : ((s.heap.push PySem.W.emptyDict).push (PySem.W.instObj C s.heap.objs.size)).get? (s.heap.objs.size + 1) = some (PySem.W.instObj C s.heap.objs.size) := by
    have := Heap.get?_push_size (s.heap.push PySem.W.emptyDict) (o := PySem.W.instObj C s.heap.objs.size) rfl
    rwa [Heap.size_push] at this
  have e3 : (s.heap.push PySem.W.emptyDict).Ns s.heap.objs.size (fun _ => none) := ⟨PySem.W.emptyDict, #[], _, e1, rfl, (fun e he => absurd he (by simp)), fun _ => rfl⟩
  have I1 := I.laid (a := s.heap.objs.size) (o := .own (s.heap.objs.size + 1)) (h' := s.heap.push PySem.W.emptyDict) (t' := s.toks) (fun b u q => Heap.get?_push_of_some _ q) (Nat.le_refl _) ⟨_, e1⟩
  refine I1.laid (a := s.heap.objs.size + 1) (o := .ins C s.heap.objs.size []) (t' := s.toks) (fun b u q => Heap.get?_push_of_some _ q) (Nat.le_of_eq (Heap.size_push _ _)) ?_
  have ne : s.heap.objs.size ≠ s.heap.objs.size + 1 := Nat.ne_of_lt (Nat.lt_succ_self _)
  refine ⟨by rw [upd_ne ne, upd_same], Nat.zero_le _, ne, e2, fun _ => none, (Heap.Ns1.of_empty e3).at fun o q => Heap.get?_push_of_some _ q, fun _ => True.intro, fun y hy => absurd rfl hy⟩

/-- e.f where nothing but the object is asked: through attributeBase (super) and the last hold -/
theorem attr_of {prog : Program} {w : World} {env : Env} {e : Expr} {f : Str} {pos : Pos} {s : Shared} {Q : Value → Shared → Prop} (hb : attributeBase e f env (eval e env) = eval e env)
    (h : wpAny (model prog w) A (eval e env) (fun o s₁ => wpAny (model prog w) A (getAttr o f true) Q E s₁) E s) : wpAny (model prog w) A (eval (.Attribute e f pos) env) Q E s :=
  Attribute_any_ h (by rw [arm_eval_Attribute, hb])
end

/-! ### readings and rules -/
/-- e.f, an attribute of the instance -/
def tFld (K : PySem.W.Frag) (ta : TE) (f : Str) : TE := fun σ H Q => ta σ H fun x H1 => ∃ a C dx fs v, x = .ref a ∧ H1 a = some (.ins C dx fs) ∧ Cls K C ∧ NoAttr K C f ∧ fs.lookup f = some v ∧ Q v H1
/-- e.f, a constant of the class -/
def tCon (K : PySem.W.Frag) (ta : TE) (f : Str) : TE := fun σ H Q => ta σ H fun x H1 => ∃ a C dx fs v u, x = .ref a ∧ H1 a = some (.ins C dx fs) ∧ Cls K C ∧ Con K C f v u ∧ fs.lookup f = none ∧ Q v H1
/-- e.f = value -/
def sFld (K : PySem.W.Frag) (ta tv : TE) (f : Str) : TS := fun D σ H => tv σ H fun y H1 => ta σ H1 fun x H2 => ∃ a C dx fs, x = .ref a ∧ H2 a = some (.ins C dx fs) ∧ Cls K C ∧ NoAttr K C f ∧ fs.length < 1000 ∧
  D.nx σ (upd H2 a (.ins C dx (putF f y fs)))
/-- an augmented operator on two values -/
def InOp (X : Cx) (op : Operator) (rd : V → V → Hp → VK → Prop) : Prop :=
  ∀ (pins : List (Addr × Obj)) (s : Shared) (σ : St) (H : Hp) (x y : V) (u v : Value) (Q : VK), Inv X pins σ H s → RelV x u → RelV y v → rd x y H Q → wpAny (model X.prog X.w) X.A (inplaceOp op u v) (EP X pins σ Q) X.xe s
/-- e.f op= value -/
def sFldAug (K : PySem.W.Frag) (ta tv : TE) (rd : V → V → Hp → VK → Prop) (f : Str) : TS := fun D σ H => ta σ H fun x H1 => ∃ a C dx fs v, x = .ref a ∧ H1 a = some (.ins C dx fs) ∧ Cls K C ∧ NoAttr K C f ∧ fs.lookup f = some v ∧
  tv σ H1 fun y H2 => rd v y H2 fun z H3 => ∃ dx' fs', H3 a = some (.ins C dx' fs') ∧ fs'.length < 1000 ∧ D.nx σ (upd H3 a (.ins C dx' (putF f z fs')))

section
variable {X : Cx} {o e value : Expr} {f : Str} {pos pos' tpos : Pos} {ta tv : TE}
theorem pe_fld (he : PE X e ta) (hb : attributeBase e f X.env (eval e X.env) = eval e X.env) : PE X (.Attribute e f pos) (tFld X.K ta f) := by
  intro pins s σ H Q I h
  refine attr_of hb (thn (he pins s σ H _ I h) fun u s1 ⟨x, H1, I1, rx, a, C, dx, fs, v, ex, ea, c, n, l, q⟩ => ?_)
  subst ex
  obtain rfl : u = Value.ref a := rx
  exact getattr_ok I1 ea c n l fun u' s2 I2 ru => ⟨v, H1, I2, ru, q⟩
theorem pe_con (he : PE X e ta) (hb : attributeBase e f X.env (eval e X.env) = eval e X.env) : PE X (.Attribute e f pos) (tCon X.K ta f) := by
  intro pins s σ H Q I h
  refine attr_of hb (thn (he pins s σ H _ I h) fun u s1 ⟨x, H1, I1, rx, a, C, dx, fs, v, u0, ex, ea, c, k, l, q⟩ => ?_)
  subst ex
  obtain rfl : u = Value.ref a := rx
  exact getcon_ok I1 ea c k l fun s2 I2 => ⟨v, H1, I2, k.rel, q⟩
theorem ps_fld (ha : PE X o ta) (hv : PE X value tv) (hs : swapsWith value (some (.Attribute o f pos')) pos.line X.env = pure false) : PS X (.Assign [.Attribute o f pos'] value pos) (sFld X.K ta tv f) := by
  intro pins s σ H D I h
  refine plainObj_wpAny_Assign_Attribute (thn (hv pins s σ H _ I h) fun u s1 ⟨y, H1, I1, ry, q⟩ => thn (ha pins s1 σ H1 _ I1 q) fun ov s2 ⟨x, H2, I2, rx, a, C, dx, fs, ex, ea, c, n, l, q2⟩ => ?_) hs
  subst ex
  obtain rfl : ov = Value.ref a := rx
  exact setattr_ok I2 ea c n l ry fun s3 I3 => ⟨σ, _, I3, q2⟩
theorem ps_fldaug {op : Operator} {rd : V → V → Hp → VK → Prop} (ha : PE X o ta) (hv : PE X value tv) (hop : InOp X op rd) : PS X (.AugAssign (.Attribute o f tpos) op value pos) (sFldAug X.K ta tv rd f) := by
  intro pins s σ H D I h
  refine wpAny_AugAssign_AttributeAny (thn (ha pins s σ H _ I h) fun ov s1 ⟨x, H1, I1, rx, a, C, dx, fs, v, ex, ea, c, n, l, q⟩ => ?_)
  subst ex
  obtain rfl : ov = Value.ref a := rx
  refine getattr_ok I1 ea c n l fun u s2 I2 ru => thn (hv pins s2 σ H1 _ I2 q) fun w3 s3 ⟨y, H2, I3, ry, q3⟩ => thn (hop pins s3 σ H2 v y u w3 _ I3 ru ry q3) fun w4 s4 ⟨z, H3, I4, rz, dx', fs', ea', l', q4⟩ => ?_
  exact setattr_ok I4 ea' c n l' rz fun s5 I5 => ⟨σ, _, I5, q4⟩
def rAdd : V → V → Hp → VK → Prop := fun x y H Q => ∃ i j, x = .int i ∧ y = .int j ∧ Q (.int (i + j)) H
def rSub : V → V → Hp → VK → Prop := fun x y H Q => ∃ i j, x = .int i ∧ y = .int j ∧ Q (.int (i - j)) H
theorem in_add : InOp X .Add rAdd := by
  rintro pins s σ H x y u v Q I rx ry ⟨i, j, rfl, rfl, q⟩
  obtain ⟨t, rfl⟩ := (show ∃ t, u = Value.int i t from rx)
  obtain ⟨t', rfl⟩ := (show ∃ t', v = Value.int j t' from ry)
  exact PyProof.Rows.iadd_int ⟨.int (i + j), H, I.tok _, ⟨_, rfl⟩, q⟩
theorem in_sub : InOp X .Sub rSub := by
  rintro pins s σ H x y u v Q I rx ry ⟨i, j, rfl, rfl, q⟩
  obtain ⟨t, rfl⟩ := (show ∃ t, u = Value.int i t from rx)
  obtain ⟨t', rfl⟩ := (show ∃ t', v = Value.int j t' from ry)
  exact PyProof.Rows.isub_int ⟨.int (i - j), H, I.tok _, ⟨_, rfl⟩, q⟩

/-- what is between an instance and its method: the tree of a method call -/
theorem methcall_of {pl : Sem Bool} {m : Str} {apos : Pos} {args : List Expr} {pins : List (Addr × Obj)} {s : Shared} {σ : St} {H : Hp} {Q : Value → Shared → Prop} {te : TE} (he : PE X e te) (I : Inv X pins σ H s)
    (h : te σ H fun x H1 => ∃ a C dx fs g, x = .ref a ∧ H1 a = some (.ins C dx fs) ∧ Cls X.K C ∧ Meth X.K C m g ∧ fs.lookup m = none ∧
      ∀ s1, Inv X pins σ H1 s1 → wpAny (model X.prog X.w) X.A (callWith pos (.ref g) [.ref a] (backTo pos (starEach args X.env)) (backToKw pos (keywordEach [] X.env))) Q X.xe s1)
    (ht : eval (.Call (.Attribute e m apos) args [] pos) X.env = (do
      let ov ← eval e X.env
      standAt apos.atName
      let (f, first) ← holding [ov] (getMethod ov m pl)
      callWith pos f first (backTo pos (starEach args X.env)) (backToKw pos (keywordEach [] X.env)))) :
    wpAny (model X.prog X.w) X.A (eval (.Call (.Attribute e m apos) args [] pos) X.env) Q X.xe s := by
  refine PySem.W.methodCall_KW (pl := pl) (thn (he pins s σ H _ I h) fun u s1 ⟨x, H1, I1, rx, a, C, dx, fs, g, ex, ea, c, k, l, q⟩ => ?_) ht
  subst ex
  obtain rfl : u = Value.ref a := rx
  exact getmeth_ok I1 ea c k l (q s1 I1)
end

/-! ### isinstance -/
section
variable {X : Cx} {pins : List (Addr × Obj)} {σ : St} {H : Hp} {s : Shared} {A : Around} {E : Value → Shared → Prop} {Q : Value → Shared → Prop} {c : Value} {b : Bool}
/-- the type of a value, as the fragment's deciders take it; for an instance its class -/
inductive TyOf (K : PySem.W.Frag) (H : Hp) : V → Value → Prop where
  | non : TyOf K H .non (.type "NoneType")
  | bl (x : Bool) : TyOf K H (.bl x) (.type "bool")
  | int (i : Int) : TyOf K H (.int i) (.type "int")
  | str (x : Str) : TyOf K H (.str x) (.type "str")
  | flt (x : UInt64) : TyOf K H (.flt x) (.type "float")
  | lst {a : Addr} {xs : List V} (e : H a = some (.lst xs)) : TyOf K H (.ref a) (.type "list")
  | frz {a : Addr} {o : Obj} {xs : List V} (e : H a = some (.frz o (.lst xs))) : TyOf K H (.ref a) (.type "list")
  | tup {a : Addr} {xs : List V} (e : H a = some (.tup xs)) : TyOf K H (.ref a) (.type "tuple")
  | dK {a : Addr} {kvs : List (Key × V)} (e : H a = some (.dK kvs)) : TyOf K H (.ref a) (.type "dict")
  | dT {a : Addr} {kvs : List (List Key × V)} (e : H a = some (.dT kvs)) : TyOf K H (.ref a) (.type "dict")
  | ins {a C dx : Addr} {fs : List (Str × V)} (e : H a = some (.ins C dx fs)) (cl : Cls K C) (ha : PySem.W.findIn K (.ref C) "__class__" = some (some (.builtin "object.__class__")))
      (hn : PySem.W.specialIn K (.builtin "object.__class__") "__get__" = some (some (.builtin "getset_descriptor.__get__"))) (htk : PySem.W.takesIn K (.builtin "object.__class__") = some true)
      (hm : PySem.W.mroIn K C (.type "object") = some true) : TyOf K H (.ref a) (.ref C)
/-- isinstance(x, c) for one class c, a built-in or an own one: kitOne's answer -/
theorem isinst_ok {x : V} {u t : Value} (I : Inv X pins σ H s) (rx : RelV x u) (ty : TyOf X.K H x t) (e : PySem.W.kitOne X.K t c = some b) (h : ∀ tk, Q (.bool b) { s with toks := tk }) :
    wpAny (model X.prog X.w) A (call (.builtin "isinstance") [u, c]) Q E s := by
  cases ty with
  | non => cases (show u = Value.none from rx); exact PySem.W.kia_one PySem.W.kitx_none I.kIn True.intro e (fun z => nomatch z) h
  | bl y => cases (show u = Value.bool y from rx); exact PySem.W.kia_one PySem.W.kitx_bool I.kIn True.intro e (fun z => nomatch z) h
  | int i => obtain ⟨t, q⟩ := (show ∃ t, u = Value.int i t from rx); cases q; exact PySem.W.kia_one PySem.W.kitx_int I.kIn True.intro e (fun z => nomatch z) h
  | str y => obtain ⟨t, q⟩ := (show ∃ t, u = Value.str y t from rx); cases q; exact PySem.W.kia_one PySem.W.kitx_str I.kIn True.intro e (fun z => nomatch z) h
  | flt y => obtain ⟨t, q⟩ := (show ∃ t, u = Value.float y t from rx); cases q; exact PySem.W.kia_one PySem.W.kitx_float I.kIn True.intro e (fun z => nomatch z) h
  | @lst a xs ea =>
    cases (show u = Value.ref a from rx)
    obtain ⟨_, _, n, _, h1⟩ := (show ObjOk X.prog X.w H s.heap a (.lst xs) from I.hok a _ ea)
    exact PySem.W.kia_one PySem.W.kitx_list I.kIn ⟨_, h1, rfl⟩ e (fun z => nomatch z) h
  | @frz a ob xs ea =>
    cases (show u = Value.ref a from rx)
    obtain ⟨_, _, _, n, _, h1⟩ := (show ObjOk X.prog X.w H s.heap a (.frz ob (.lst xs)) from I.hok a _ ea)
    exact PySem.W.kia_one PySem.W.kitx_list I.kIn ⟨_, h1, rfl⟩ e (fun z => nomatch z) h
  | @tup a xs ea =>
    cases (show u = Value.ref a from rx)
    obtain ⟨_, _, _, p⟩ := (show ObjOk X.prog X.w H s.heap a (.tup xs) from I.hok a _ ea)
    obtain ⟨o, h1, h2, _⟩ := p
    exact PySem.W.kia_one PySem.W.kitx_tuple I.kIn ⟨o, h1, h2⟩ e (fun z => nomatch z) h
  | @dK a kvs ea =>
    cases (show u = Value.ref a from rx)
    obtain ⟨_, _, vs, _, p⟩ := (show ObjOk X.prog X.w H s.heap a (.dK kvs) from I.hok a _ ea)
    obtain ⟨o, es, ep, h1, h2, _⟩ := p
    exact PySem.W.kia_one PySem.W.kitx_dict I.kIn ⟨o, h1, h2.1⟩ e (fun z => nomatch z) h
  | @dT a kvs ea =>
    cases (show u = Value.ref a from rx)
    obtain ⟨_, _, xs, _, o, es, ep, h1, h2, _⟩ := (show ObjOk X.prog X.w H s.heap a (.dT kvs) from I.hok a _ ea)
    exact PySem.W.kia_one PySem.W.kitx_dict I.kIn ⟨o, h1, h2.1⟩ e (fun z => nomatch z) h
  | @ins a C dx fs ea cl ha hn htk hm =>
    cases (show u = Value.ref a from rx)
    obtain ⟨mA, O, _⟩ := ins_get I.hok ea
    obtain ⟨od, J, _⟩ := O.look
    exact PySem.W.kia_one (PySem.W.kitx_own (cl.get _) cl.hd ha hn htk hm) I.kIn J e (fun z => nomatch z) h
end
end L2

namespace L2
open PySem PySem.Spec PyProof.Rows

/-! ### room -/
structure Room (k : Nat) (A : Around) : Prop where
  hd : A.handled = none
  dp : A.depth + 3 * k + 5 < recursionLimit
  un : A.units + 16 * k + 200 < cLine
  gd : A.guards = some [] := by rfl
theorem Room.mono {j k : Nat} {A : Around} (r : Room k A) (h : j ≤ k) : Room j A := ⟨r.hd, by have := r.dp; omega, by have := r.un; omega, r.gd⟩
theorem Room.deeper {k : Nat} {A : Around} (r : Room (k + 1) A) (env : Env) : Room k (A.deeper env) :=
  ⟨r.hd, by have := r.dp; show A.depth + 1 + 3 * k + 5 < _; omega, by have := r.un; show A.units + 3 + 16 * k + 200 < _; omega, r.gd⟩
theorem Room.in1 {k : Nat} {A : Around} (r : Room (k + 1) A) : Room k A.in1 :=
  ⟨r.hd, by have := r.dp; show A.depth + 3 * k + 5 < _; omega, by have := r.un; show A.units + 1 + 16 * k + 200 < _; omega, r.gd⟩
theorem make_depth {A : Around} {C : Addr} {us : List Value} {kw : List (Str × Value)} : (A.under (.builtin "type.__call__" ⟨.ref C :: us, kw⟩)).depth = A.depth + 1 := by
  first | rfl | simp [Around.under, Code.weight, Code.isCreation, Code.isGuard, Code.isCaller, Code.frames, Code.isFrame, guardIds]
theorem make_units {A : Around} {C : Addr} {us : List Value} {kw : List (Str × Value)} : (A.under (.builtin "type.__call__" ⟨.ref C :: us, kw⟩)).units = A.units + 1 := by
  first | rfl | simp [Around.under, Code.cUnits, Code.frames, Code.isFrame]
theorem Room.make {k : Nat} {A : Around} (r : Room (k + 1) A) (C : Addr) (us : List Value) (kw : List (Str × Value)) : Room k (A.under (.builtin "type.__call__" ⟨.ref C :: us, kw⟩)) :=
  ⟨r.hd, by have := r.dp; rw [make_depth]; omega, by have := r.un; rw [make_units]; omega, by have := r.gd; first | exact this | simp [Around.under, Code.weight, Code.isCreation, Code.isGuard, Code.isCaller, Code.frames, Code.isFrame, guardIds, this]⟩
theorem Room.depth {k : Nat} {A : Around} (r : Room k A) : A.depth < recursionLimit := by have := r.dp; omega
theorem Room.units {k : Nat} {A : Around} (r : Room k A) : A.units + 64 < cLine := by have := r.un; omega
theorem Room.units0 {k : Nat} {A : Around} (r : Room k A) : A.units < cLine := by have := r.un; omega

/-! ### argument lists and displays -/
def tNil : TA := fun _ H Q => Q [] H
def tCons (ta : TE) (tr : TA) : TA := fun σ H Q => ta σ H fun x H1 => tr σ H1 fun xs H2 => Q (x :: xs) H2
section
variable {X : Cx} {e : Expr} {es : List Expr} {te : TE} {t : TA} {pos : Pos}
theorem pa_nil : PA X [] tNil := fun _ _ _ _ H Q I h => Calls.spliced_nil ⟨[], H, I, .nil, h⟩
theorem pa_cons (ha : PE X e te) (hr : PA X es t) (hs : starEach (e :: es) X.env = (false, eval e X.env) :: starEach es X.env := by rfl) : PA X (e :: es) (tCons te t) := by
  intro pos pins s σ H Q I h
  rw [hs]
  show wpAny _ _ (spliced ((false, eval e X.env) :: backTo pos (starEach es X.env))) _ _ s
  refine Calls.spliced_cons (thn (ha pins s σ H _ I h) fun u s1 ⟨x, H1, I1, r1, q1⟩ => ?_)
  exact thn (hr pos pins s1 σ H1 _ I1 q1) fun us s2 ⟨xs, H2, I2, r2, q2⟩ => ⟨x :: xs, H2, I2, .cons r1 r2, q2⟩

/-- a tuple, a list of written items -/
def tTup (t : TA) : TE := fun σ H Q => t σ H fun xs H1 => xs.length ≤ sizeLine ∧ ∀ p, H1 p = none → Q (.ref p) (upd H1 p (.tup xs))
def tLst (t : TA) : TE := fun σ H Q => t σ H fun xs H1 => xs.length ≤ sizeLine ∧ ∀ p, H1 p = none → Q (.ref p) (upd H1 p (.lst xs))
theorem pe_tup {x1} (h : PA X es t) : PE X (.Tuple es x1 pos) (tTup t) := by
  intro pins s σ H Q I hq
  refine wpAny_Tuple_spliced (thn (h pos pins s σ H _ I hq) fun us s1 ⟨xs, H1, I1, r, z, q⟩ => ⟨by rw [← r.length]; exact z, ?_⟩)
  have hf : H1 s1.heap.objs.size = none := I1.hok.fresh (Nat.le_refl _)
  refine ⟨.ref s1.heap.objs.size, upd H1 s1.heap.objs.size (.tup xs), I1.laid (t' := s1.toks) (fun b u e => Heap.get?_push_of_some _ e) (Nat.le_refl _) ?_, rfl, q _ hf⟩
  exact ⟨z, us, r, ⟨_, Heap.get?_push_size _ rfl, rfl, _, rfl⟩⟩
theorem pe_lst (h : PA X es t) : PE X (.List es pos) (tLst t) := by
  intro pins s σ H Q I hq
  refine wpAny_List_spliced (thn (h pos pins s σ H _ I hq) fun us s1 ⟨xs, H1, I1, r, z, q⟩ => ⟨by rw [← r.length]; exact z, ?_⟩)
  have hf : H1 s1.heap.objs.size = none := I1.hok.fresh (Nat.le_refl _)
  refine ⟨.ref s1.heap.objs.size, upd H1 s1.heap.objs.size (.lst xs), I1.laid (t' := s1.toks) (fun b u e => Heap.get?_push_of_some _ e) (Nat.le_refl _) ?_, rfl, q _ hf⟩
  exact ⟨z, us, 0, r, Heap.get?_push_size _ rfl⟩
end

/-! ### what a def promises -/
/-- a def's promise: the bound arguments in the parameters' order, the heap, the wanted end, the wanted exception -/
abbrev Sp := List V → Hp → VK → XK → Prop
/-- how an exception lies behind a call (file 08 gives it): the callers' frames, abstract heap and state ahead of the call, the wish, the exception, the state -/
abbrev CXT := List Env → Hp → Shared → XK → Value → Shared → Prop

/-- the state at a call -/
structure Env0 (P : Program) (w : World) (K : PySem.W.Frag) (mg : Str → Option Value) (base : Heap) (A : Around) (outer : List Env) (s : Shared) (H : Hp) : Prop where
  frames : A.frames = some outer
  mod : Mod K mg base
  bs : ∀ b o, base.get? b = some o → s.heap.get? b = some o ∧ H b = none
  bsz : base.objs.size ≤ s.heap.objs.size
  funs : s.heap.FunFrames base outer
  frf : ∀ b ∈ frs outer, H b = none
  hok : HOk P w H s.heap
  bare : AllBare s.gens
/-- a call's end -/
def CE (outer : List Env) (P : Program) (w : World) (H : Hp) (s : Shared) (Q : VK) (u : Value) (s' : Shared) : Prop :=
  ∃ v H', s'.os = s.os ∧ AllBare s'.gens ∧ Un (frs outer) [] H H' s.heap s'.heap ∧ HOk P w H' s'.heap ∧ RelV v u ∧ Q v H'
def CR (CX : CXT) (outer : List Env) (P : Program) (w : World) (H : Hp) (s : Shared) (Q : VK) (E : XK) (r : Result) (s' : Shared) : Prop :=
  match r with
  | .ok (.ret u) => CE outer P w H s Q u s'
  | .ok _ => False
  | .error e => CX outer H s E e s'
structure FnOk (P : Program) (w : World) (K : PySem.W.Frag) (mg : Str → Option Value) (base : Heap) (CX : CXT) (k : Nat) (f : Addr) (fd : FuncData) (ps : List Str) (sp : Sp) : Prop where
  len : ∀ vs H Q E, sp vs H Q E → vs.length = ps.length
  run : ∀ (A : Around) (outer : List Env) (s : Shared) (H : Hp) (args : Args) (us : List Value) (vs : List V) (Q : VK) (E : XK), Room k A → Env0 P w K mg base A outer s H → BindsTo s fd args (ps.zip us) → Vals vs us → sp vs H Q E →
    codeAny (model P w) A (.call (.ref f) args) (CR CX outer P w H s Q E) s
theorem FnOk.mono {P : Program} {w : World} {K : PySem.W.Frag} {mg : Str → Option Value} {base : Heap} {CX : CXT} {j k : Nat} {f : Addr} {fd : FuncData} {ps : List Str} {sp : Sp} (F : FnOk P w K mg base CX j f fd ps sp) (h : j ≤ k) :
    FnOk P w K mg base CX k f fd ps sp := ⟨F.len, fun A outer s H args us vs Q E hr => F.run A outer s H args us vs Q E (hr.mono h)⟩
/-- a weaker promise -/
theorem FnOk.imp {P : Program} {w : World} {K : PySem.W.Frag} {mg : Str → Option Value} {base : Heap} {CX : CXT} {k : Nat} {f : Addr} {fd : FuncData} {ps : List Str} {sp sp' : Sp} (F : FnOk P w K mg base CX k f fd ps sp)
    (h : ∀ vs H Q E, sp' vs H Q E → sp vs H Q E) : FnOk P w K mg base CX k f fd ps sp' :=
  ⟨fun vs H Q E q => F.len vs H Q E (h _ _ _ _ q), fun A outer s H args us vs Q E hr he hb hv hs => F.run A outer s H args us vs Q E hr he hb hv (h _ _ _ _ hs)⟩

theorem Env0.make {P : Program} {w : World} {K : PySem.W.Frag} {mg : Str → Option Value} {base : Heap} {A : Around} {outer : List Env} {s : Shared} {H : Hp} (e : Env0 P w K mg base A outer s H) (C : Addr) (us : List Value) (kw : List (Str × Value)) :
    Env0 P w K mg base (A.under (.builtin "type.__call__" ⟨.ref C :: us, kw⟩)) outer s H := ⟨by first | exact e.frames | (simpa [Around.under, Code.envs, Code.isFrame, pushEnvs] using e.frames), e.mod, e.bs, e.bsz, e.funs, e.frf, e.hok, e.bare⟩
theorem Env0.in1 {P : Program} {w : World} {K : PySem.W.Frag} {mg : Str → Option Value} {base : Heap} {A : Around} {outer : List Env} {s : Shared} {H : Hp} (e : Env0 P w K mg base A outer s H) :
    Env0 P w K mg base A.in1 outer s H := ⟨e.frames, e.mod, e.bs, e.bsz, e.funs, e.frf, e.hok, e.bare⟩

section
variable {X : Cx} {pins : List (Addr × Obj)} {σ : St} {H : Hp} {s s' : Shared}
/-- from a body: what a callee wants -/
theorem Inv.env0 (I : Inv X pins σ H s) : Env0 X.prog X.w X.K X.mg X.base X.A X.stack s H :=
  ⟨I.ok.frames, I.ok.mod, I.bs, Nat.le_trans I.ok.bsz I.sz, I.stack, I.stkFree, I.hok, I.bare⟩
/-- behind a call -/
theorem Inv.after {Q : VK} {u : Value} (I : Inv X pins σ H s) (h : CE X.stack X.prog X.w H s Q u s') : EP X pins σ Q u s' := by
  obtain ⟨v, H', os, bare, un, hok, r, q⟩ := h
  obtain ⟨hh, g, d, t, os'⟩ := s'
  obtain rfl : os' = s.os := os
  exact ⟨v, H', I.call (h' := hh) (g' := g) (d' := d) (t' := t) (ch := []) un hok bare (fun b z => absurd z (by simp)), r, q⟩
end

/-! ### calls -/
/-- f(..): the written arguments, then the defaults dvs; E: what is wanted of an exception -/
def tCall (sp : Sp) (dvs : List V) (E : XK) (t : TA) : TE := fun σ H Q => t σ H fun vs H1 => sp (vs ++ dvs) H1 Q E
/-- o.m(..) of an instance of the class at C -/
def tMeth (C : Addr) (m : Str) (sp : Sp) (dvs : List V) (E : XK) (ta : TE) (t : TA) : TE := fun σ H Q => ta σ H fun x H1 => ∃ a dx fs, x = .ref a ∧ H1 a = some (.ins C dx fs) ∧ fs.lookup m = none ∧
  t σ H1 fun vs H2 => sp (x :: (vs ++ dvs)) H2 Q E
/-- C(..): a new instance and its dict, then __init__ -/
def tMake (C : Addr) (sp : Sp) (dvs : List V) (E : XK) (t : TA) : TE := fun σ H Q => t σ H fun vs H1 => ∀ x dx, H1 x = none → H1 dx = none → dx ≠ x →
  sp (.ref x :: (vs ++ dvs)) (upd (upd H1 dx (.own x)) x (.ins C dx [])) (fun v H2 => v = .non ∧ Q (.ref x) H2) E

/-- how the parameters are bound: us the positional arguments, kw the keywords' values by name, ds the defaults that fill up -/
def Binds (K : PySem.W.Frag) (fd : FuncData) (ps : List Str) (ds : List Value) : Prop :=
  ∀ (s : Shared) (us : List Value), K.In s.heap → (us ++ ds).length = ps.length → BindsTo s fd ⟨us, []⟩ (ps.zip (us ++ ds))
/-- every parameter is given -/
theorem Binds.all {K : PySem.W.Frag} {fd : FuncData} {ps : List Str} (h : ∀ us : List Value, us.length = ps.length → bindArgs fd ⟨us, []⟩ = pure (ps.zip us)) : Binds K fd ps [] := fun s us _ hl => by
  rw [List.append_nil] at hl ⊢
  exact .of_eq (h us hl)

/-- an exception of a callee reaches what this body wants of exceptions -/
def Passes (CX : CXT) (X : Cx) (E : XK) : Prop := ∀ (pins : List (Addr × Obj)) (σ : St) (H : Hp) (s : Shared) (e : Value) (s' : Shared), Inv X pins σ H s → CX X.stack H s E e s' → X.xe e s'

section
variable {X : Cx} {CX : CXT} {k : Nat} {f C : Addr} {fd : FuncData} {ps : List Str} {sp : Sp} {dvs : List V} {ds : List Value} {E : XK} {x m : Str} {p pos apos : Pos} {e o : Expr} {es : List Expr} {ta : TE} {t : TA}

/-- the callee runs -/
theorem run_fn {pins : List (Addr × Obj)} {σ : St} {H : Hp} {s : Shared} {Q : VK} {us : List Value} {vs : List V} (F : FnOk X.prog X.w X.K X.mg X.base CX k f fd ps sp) (hr : Room k X.A) (hb : Binds X.K fd ps ds) (hd : Vals dvs ds) (hx : Passes CX X E)
    (I : Inv X pins σ H s) (r : Vals vs us) (h : sp (vs ++ dvs) H Q E) : wpAny (model X.prog X.w) X.A (call (.ref f) us) (EP X pins σ Q) X.xe s := by
  have r2 : Vals (vs ++ dvs) (us ++ ds) := r.append hd
  have hl : (us ++ ds).length = ps.length := by rw [← r2.length]; exact F.len _ _ _ _ h
  refine wpAny_call (codeAny_mono (F.run X.A X.stack s H ⟨us, []⟩ (us ++ ds) (vs ++ dvs) Q E hr I.env0 (hb s us I.kIn hl) r2 h) fun r s' hq => ?_)
  cases r with
  | error e => exact hx pins σ H s e s' I hq
  | ok fl =>
    cases fl with
    | ret u => exact I.after hq
    | next => exact False.elim hq
    | brk => exact False.elim hq
    | cont => exact False.elim hq

theorem pe_call (F : FnOk X.prog X.w X.K X.mg X.base CX k f fd ps sp) (hr : Room k X.A) (hg : Gl X x) (hm : X.mg x = some (.ref f)) (hk : PySem.W.keepIn X.K (.ref f) = true) (hb : Binds X.K fd ps ds) (hd : Vals dvs ds) (hx : Passes CX X E)
    (ha : PA X (e :: es) t) (hdb : (x == ("__debug__" : Str)) = false := by decide) (he : starEach (e :: es) X.env = (false, eval e X.env) :: starEach es X.env := by rfl) (hpl : (backTo pos (starEach es X.env)).any (·.1) = false := by rfl) :
    PE X (.Call (.Name x p) (e :: es) [] pos) (tCall sp dvs E t) := by
  intro pins s σ H Q I h
  refine wpAny_Call_Name_kw (ld_glob I hg hm ?_ hdb)
  refine PySem.W.callWith_K (h₀ := X.base) I.ok.mod.kin hk (thn (ha pos pins s σ H _ I h) fun us s1 ⟨vs, H1, I1, r, q⟩ => ⟨I1.kIn, ?_⟩) he hpl
  exact run_fn F hr hb hd hx I1 r q
theorem pe_call0 (F : FnOk X.prog X.w X.K X.mg X.base CX k f fd ps sp) (hr : Room k X.A) (hg : Gl X x) (hm : X.mg x = some (.ref f)) (hk : PySem.W.keepIn X.K (.ref f) = true) (hb : Binds X.K fd ps ds) (hd : Vals dvs ds) (hx : Passes CX X E)
    (hdb : (x == ("__debug__" : Str)) = false := by decide) : PE X (.Call (.Name x p) [] [] pos) (tCall sp dvs E tNil) := by
  intro pins s σ H Q I h
  refine wpAny_Call_Name_kw (ld_glob I hg hm ?_ hdb)
  exact PySem.W.callWith_K0 I.kIn hk (run_fn (us := []) F hr hb hd hx I .nil h)

/-- o.m(e, ..) -/
theorem pe_meth {pl : Sem Bool} (he : PE X o ta) (c : Cls X.K C) (hm : Meth X.K C m f) (F : FnOk X.prog X.w X.K X.mg X.base CX k f fd ps sp) (hr : Room k X.A) (hb : Binds X.K fd ps ds) (hd : Vals dvs ds) (hx : Passes CX X E) (ha : PA X (e :: es) t)
    (hst : starEach (e :: es) X.env = (false, eval e X.env) :: starEach es X.env := by rfl) (hpl : (backTo pos (starEach es X.env)).any (·.1) = false := by rfl)
    (ht : eval (.Call (.Attribute o m apos) (e :: es) [] pos) X.env = (do
      let ov ← eval o X.env
      standAt apos.atName
      let (f, first) ← holding [ov] (getMethod ov m pl)
      callWith pos f first (backTo pos (starEach (e :: es) X.env)) (backToKw pos (keywordEach [] X.env))) := by rfl) :
    PE X (.Call (.Attribute o m apos) (e :: es) [] pos) (tMeth C m sp dvs E ta t) := by
  intro pins s σ H Q I h
  refine PySem.W.methodCall_KW (pl := pl) (thn (he pins s σ H _ I h) fun u s1 ⟨x, H1, I1, rx, a, dx, fs, ex, ea, l, q⟩ => ?_) ht
  subst ex
  obtain rfl : u = Value.ref a := rx
  refine getmeth_ok I1 ea c hm l ?_
  refine PySem.W.callWith_K (first := [.ref a]) (h₀ := X.base) I.ok.mod.kin hm.kp (thn (ha pos pins s1 σ H1 _ I1 q) fun us s2 ⟨vs, H2, I2, r, q2⟩ => ⟨I2.kIn, ?_⟩) hst hpl
  exact run_fn (us := .ref a :: us) (vs := .ref a :: vs) F hr hb hd hx I2 (.cons rfl r) q2
/-- o.m() -/
theorem pe_meth0 {pl : Sem Bool} (he : PE X o ta) (c : Cls X.K C) (hm : Meth X.K C m f) (F : FnOk X.prog X.w X.K X.mg X.base CX k f fd ps sp) (hr : Room k X.A) (hb : Binds X.K fd ps ds) (hd : Vals dvs ds) (hx : Passes CX X E)
    (ht : eval (.Call (.Attribute o m apos) [] [] pos) X.env = (do
      let ov ← eval o X.env
      standAt apos.atName
      let (f, first) ← holding [ov] (getMethod ov m pl)
      callWith pos f first (backTo pos (starEach [] X.env)) (backToKw pos (keywordEach [] X.env))) := by rfl) :
    PE X (.Call (.Attribute o m apos) [] [] pos) (tMeth C m sp dvs E ta tNil) := by
  intro pins s σ H Q I h
  refine PySem.W.methodCall_KW (pl := pl) (thn (he pins s σ H _ I h) fun u s1 ⟨x, H1, I1, rx, a, dx, fs, ex, ea, l, q⟩ => ?_) ht
  subst ex
  obtain rfl : u = Value.ref a := rx
  refine getmeth_ok I1 ea c hm l ?_
  exact PySem.W.callWith_K0 (first := [.ref a]) I1.kIn hm.kp (run_fn (us := [.ref a]) (vs := [.ref a]) F hr hb hd hx I1 (.cons rfl .nil) q)

/-- what a class must have to be made -/
structure Mk (K : PySem.W.Frag) (C f : Addr) : Prop where
  makes : PySem.W.makesIn K C = true
  init : PySem.W.findIn K (.ref C) "__init__" = some (some (.ref f))
  fn : PySem.W.isFn K (.ref f) = true
  kp : PySem.W.keepIn K (.ref C) = true

theorem run_make {pins : List (Addr × Obj)} {σ : St} {H : Hp} {s : Shared} {Q : VK} {us : List Value} {vs : List V} (M : Mk X.K C f) (F : FnOk X.prog X.w X.K X.mg X.base CX k f fd ps sp) (hr : Room (k + 1) X.A) (hb : Binds X.K fd ps ds) (hd : Vals dvs ds)
    (hx : Passes CX X E) (I : Inv X pins σ H s) (r : Vals vs us)
    (h : ∀ x dx, H x = none → H dx = none → dx ≠ x → sp (.ref x :: (vs ++ dvs)) (upd (upd H dx (.own x)) x (.ins C dx [])) (fun v H2 => v = .non ∧ Q (.ref x) H2) E) :
    wpAny (model X.prog X.w) X.A (call (.ref C) us) (EP X pins σ Q) X.xe s := by
  have hq := h (s.heap.objs.size + 1) s.heap.objs.size (I.hok.fresh (Nat.le_succ _)) (I.hok.fresh (Nat.le_refl _)) (Nat.ne_of_lt (Nat.lt_succ_self _))
  have I2 := Inv.made (C := C) I
  have r2 : Vals (V.ref (s.heap.objs.size + 1) :: (vs ++ dvs)) (Value.ref (s.heap.objs.size + 1) :: (us ++ ds)) := .cons rfl (r.append hd)
  have hl : (Value.ref (s.heap.objs.size + 1) :: us ++ ds).length = ps.length := by
    have e := r2.length
    rw [F.len _ _ _ _ hq] at e
    exact e.symm
  refine wpAny_call (make_map (f := f) I.kIn M.makes M.init (beq_iff_eq.mp M.fn) (codeAny_mono (F.run _ X.stack _ _ ⟨Value.ref (s.heap.objs.size + 1) :: us, []⟩ (Value.ref (s.heap.objs.size + 1) :: (us ++ ds)) _ _ E (hr.make C us [])
    (I2.env0.make C us []) (hb _ (Value.ref (s.heap.objs.size + 1) :: us) I2.kIn hl) r2 hq) fun r s' hq' => ?_))
  cases r with
  | error e => exact hx pins σ _ _ e s' I2 hq'
  | ok fl =>
    cases fl with
    | ret u =>
      obtain ⟨v, H', I3, rv, ev, q3⟩ := I2.after hq'
      subst ev
      exact ⟨rv, ⟨V.ref (s.heap.objs.size + 1), H', I3, rfl, q3⟩⟩
    | next => exact False.elim hq'
    | brk => exact False.elim hq'
    | cont => exact False.elim hq'
theorem pe_make (M : Mk X.K C f) (F : FnOk X.prog X.w X.K X.mg X.base CX k f fd ps sp) (hr : Room (k + 1) X.A) (hg : Gl X x) (hm : X.mg x = some (.ref C)) (hb : Binds X.K fd ps ds) (hd : Vals dvs ds) (hx : Passes CX X E)
    (ha : PA X (e :: es) t) (hdb : (x == ("__debug__" : Str)) = false := by decide) (he : starEach (e :: es) X.env = (false, eval e X.env) :: starEach es X.env := by rfl) (hpl : (backTo pos (starEach es X.env)).any (·.1) = false := by rfl) :
    PE X (.Call (.Name x p) (e :: es) [] pos) (tMake C sp dvs E t) := by
  intro pins s σ H Q I h
  refine wpAny_Call_Name_kw (ld_glob I hg hm ?_ hdb)
  refine PySem.W.callWith_K (h₀ := X.base) I.ok.mod.kin M.kp (thn (ha pos pins s σ H _ I h) fun us s1 ⟨vs, H1, I1, r, q⟩ => ⟨I1.kIn, ?_⟩) he hpl
  exact run_make M F hr hb hd hx I1 r q
theorem pe_make0 (M : Mk X.K C f) (F : FnOk X.prog X.w X.K X.mg X.base CX k f fd ps sp) (hr : Room (k + 1) X.A) (hg : Gl X x) (hm : X.mg x = some (.ref C)) (hb : Binds X.K fd ps ds) (hd : Vals dvs ds) (hx : Passes CX X E)
    (hdb : (x == ("__debug__" : Str)) = false := by decide) : PE X (.Call (.Name x p) [] [] pos) (tMake C sp dvs E tNil) := by
  intro pins s σ H Q I h
  refine wpAny_Call_Name_kw (ld_glob I hg hm ?_ hdb)
  exact PySem.W.callWith_K0 I.kIn M.kp (run_make (us := []) M F hr hb hd hx I .nil h)
end

/-! ### keywords -/
/-- the values of the keywords, from the left -/
def PK (X : Cx) (kws : List Keyword) (t : TA) : Prop :=
  ∀ (pos : Pos) (pins : List (Addr × Obj)) (s : Shared) (σ : St) (H : Hp) (Q : List V → Hp → Prop), Inv X pins σ H s → t σ H Q → wpAny (model X.prog X.w) X.A (evalAll ((backToKw pos (keywordEach kws X.env)).map (·.2))) (AP X pins σ Q) X.xe s
section
variable {X : Cx} {CX : CXT} {k : Nat} {f C : Addr} {fd : FuncData} {ps ks : List Str} {sp : Sp} {E : XK} {x m : Str} {p pos apos kpos : Pos} {e o : Expr} {es : List Expr} {kws : List Keyword} {te ta : TE} {t tk : TA} {nm : Option Str}
theorem pk_nil : PK X [] tNil := fun _ _ _ _ H Q I h => wpAny_evalAll_nil ⟨[], H, I, .nil, h⟩
theorem pk_cons (ha : PE X e te) (hr : PK X kws t) : PK X (⟨nm, e, kpos⟩ :: kws) (tCons te t) := by
  intro pos pins s σ H Q I h
  show wpAny _ _ (evalAll ((do let v ← eval e X.env; standAt pos; pure v) :: (backToKw pos (keywordEach kws X.env)).map (·.2))) _ _ s
  refine wpAny_evalAll_cons (wpAny_bind (thn (ha pins s σ H _ I h) fun u s1 ⟨x, H1, I1, r1, q1⟩ => wpAny_bind (wpAny_standAt (wpAny_pure ?_))))
  exact thn (hr pos pins s1 σ H1 _ I1 q1) fun us s2 ⟨xs, H2, I2, r2, q2⟩ => ⟨x :: xs, H2, I2, .cons r1 r2, q2⟩

/-- how a call with keywords binds: g puts the positional values us and the keywords' values ws (names ks) in the parameters' order, defaults among them -/
structure KBinds (K : PySem.W.Frag) (fd : FuncData) (ps ks : List Str) (g : List Value → List Value → List Value) (gV : List V → List V → List V) : Prop where
  to : ∀ (s : Shared) (us ws : List Value), K.In s.heap → (g us ws).length = ps.length → BindsTo s fd ⟨us, ks.zip ws⟩ (ps.zip (g us ws))
  rel : ∀ {vs : List V} {us : List Value} {zs : List V} {ws : List Value}, Vals vs us → Vals zs ws → Vals (gV vs zs) (g us ws)
def tCallK (sp : Sp) (gV : List V → List V → List V) (E : XK) (t tk : TA) : TE := fun σ H Q => t σ H fun vs H1 => tk σ H1 fun zs H2 => sp (gV vs zs) H2 Q E
variable {g : List Value → List Value → List Value} {gV : List V → List V → List V}
theorem run_fnk {pins : List (Addr × Obj)} {σ : St} {H : Hp} {s : Shared} {Q : VK} {us ws : List Value} {vs zs : List V} (F : FnOk X.prog X.w X.K X.mg X.base CX k f fd ps sp) (hr : Room k X.A) (hb : KBinds X.K fd ps ks g gV) (hx : Passes CX X E)
    (I : Inv X pins σ H s) (r : Vals vs us) (rz : Vals zs ws) (h : sp (gV vs zs) H Q E) : wpAny (model X.prog X.w) X.A (call (.ref f) us (ks.zip ws)) (EP X pins σ Q) X.xe s := by
  have r2 := hb.rel r rz
  have hl : (g us ws).length = ps.length := by rw [← r2.length]; exact F.len _ _ _ _ h
  refine wpAny_call (codeAny_mono (F.run X.A X.stack s H ⟨us, ks.zip ws⟩ (g us ws) (gV vs zs) Q E hr I.env0 (hb.to s us ws I.kIn hl) r2 h) fun r s' hq => ?_)
  cases r with
  | error e => exact hx pins σ H s e s' I hq
  | ok fl =>
    cases fl with
    | ret u => exact I.after hq
    | next => exact False.elim hq
    | brk => exact False.elim hq
    | cont => exact False.elim hq
/-- f(e, .., k = v, ..) -/
theorem pe_callK (F : FnOk X.prog X.w X.K X.mg X.base CX k f fd ps sp) (hr : Room k X.A) (hg : Gl X x) (hm : X.mg x = some (.ref f)) (hk : PySem.W.keepIn X.K (.ref f) = true) (hb : KBinds X.K fd ps ks g gV) (hx : Passes CX X E)
    (ha : PA X (e :: es) t) (hkw : PK X kws tk) (hall : (backToKw pos (keywordEach kws X.env)).all (·.1.isSome) = true := by rfl) (hks : (backToKw pos (keywordEach kws X.env)).filterMap (·.1) = ks := by rfl)
    (hdb : (x == ("__debug__" : Str)) = false := by decide) (he : starEach (e :: es) X.env = (false, eval e X.env) :: starEach es X.env := by rfl)
    (hpl : ((backTo pos (starEach (e :: es) X.env)).any (·.1) || (backToKw pos (keywordEach kws X.env)).any (·.1.isNone)) = false := by rfl) :
    PE X (.Call (.Name x p) (e :: es) kws pos) (tCallK sp gV E t tk) := by
  intro pins s σ H Q I h
  refine wpAny_Call_Name_kw (ld_glob I hg hm ?_ hdb)
  refine PySem.W.callWith_KW (h₀ := X.base) I.ok.mod.kin hk hall (thn (ha pos pins s σ H _ I h) fun us s1 ⟨vs, H1, I1, r, q⟩ => ?_) hpl he
  refine thn (hkw pos pins s1 σ H1 _ I1 q) fun ws s2 ⟨zs, H2, I2, rz, q2⟩ => ⟨I2.kIn, ?_⟩
  rw [hks]
  exact run_fnk F hr hb hx I2 r rz q2
end

/-! ### a def's body keeps its promise -/
/-- names: the parameters first -/
structure FnScope (N P : List Str) (sc : Scope) : Prop where
  kind : sc.kind = .function
  co : sc.isCoroutine = false
  gen : sc.isGenerator = false
  nd : N.Nodup
  pre : N.take P.length = P
  par : ∀ x ∈ P, sc.names.lookup x = some .local ∨ sc.names.lookup x = some .cell
  nofree : ∀ y ∈ sc.names, y.2 ≠ .free

theorem bindL_out {kindOf : Str → Option NameKind} {x : Str} : ∀ {binds : List (Str × Value)} {m : Str → Option Value}, (∀ v, (x, v) ∉ binds) → bindL kindOf binds m x = m x
  | [], _, _ => rfl
  | (n, v) :: r, m, h => by
    unfold bindL
    rw [bindL_out fun w hw => h w (List.mem_cons_of_mem _ hw)]
    split
    · have : x ≠ n := by rintro rfl; exact h v List.mem_cons_self
      simp [this]
    · rfl
theorem bindC_out {kindOf : Str → Option NameKind} {x : Str} : ∀ {binds : List (Str × Value)} {m : Str → Option Value}, (∀ v, (x, v) ∉ binds) → bindC kindOf binds m x = m x
  | [], _, _ => rfl
  | (n, v) :: r, m, h => by
    unfold bindC
    rw [bindC_out fun w hw => h w (List.mem_cons_of_mem _ hw)]
    split
    · rfl
    · have : x ≠ n := by rintro rfl; exact h v List.mem_cons_self
      simp [this]
theorem bindL_get {kindOf : Str → Option NameKind} {x : Str} {v : Value} : ∀ {P : List Str} {vs : List Value} {i : Nat} {m : Str → Option Value}, P.Nodup → P[i]? = some x → vs[i]? = some v → kindOf x = some .local →
    bindL kindOf (P.zip vs) m x = some v
  | [], _, _, _, _, h, _, _ => by simp at h
  | _ :: _, [], _, _, _, _, h, _ => by simp at h
  | p :: P, w :: vs, 0, m, nd, h1, h2, hk => by
    simp at h1 h2; subst h1; subst h2
    show bindL kindOf ((p, w) :: P.zip vs) m p = _
    unfold bindL
    rw [bindL_out fun v hv => (List.nodup_cons.mp nd).1 (List.of_mem_zip hv).1, if_pos hk]
    simp
  | p :: P, w :: vs, i + 1, m, nd, h1, h2, hk => by
    show bindL kindOf ((p, w) :: P.zip vs) m x = _
    unfold bindL
    exact bindL_get (i := i) (List.nodup_cons.mp nd).2 (by simpa using h1) (by simpa using h2) hk
theorem bindC_get {kindOf : Str → Option NameKind} {x : Str} {v : Value} : ∀ {P : List Str} {vs : List Value} {i : Nat} {m : Str → Option Value}, P.Nodup → P[i]? = some x → vs[i]? = some v → kindOf x ≠ some .local →
    bindC kindOf (P.zip vs) m x = some v
  | [], _, _, _, _, h, _, _ => by simp at h
  | _ :: _, [], _, _, _, _, h, _ => by simp at h
  | p :: P, w :: vs, 0, m, nd, h1, h2, hk => by
    simp at h1 h2; subst h1; subst h2
    show bindC kindOf ((p, w) :: P.zip vs) m p = _
    unfold bindC
    rw [bindC_out fun v hv => (List.nodup_cons.mp nd).1 (List.of_mem_zip hv).1, if_neg hk]
    simp
  | p :: P, w :: vs, i + 1, m, nd, h1, h2, hk => by
    show bindC kindOf ((p, w) :: P.zip vs) m x = _
    unfold bindC
    exact bindC_get (i := i) (List.nodup_cons.mp nd).2 (by simpa using h1) (by simpa using h2) hk

/-- the names' values at the entry -/
def start (N : List Str) (vs : List V) : St := vs.map some ++ List.replicate (N.length - vs.length) none

/-- the context of a def's body, at its entry; an exception leaves the frame, then lies as CX says -/
def cxOf (CX : CXT) (P : Program) (w : World) (K : PySem.W.Frag) (mg : Str → Option Value) (base : Heap) (N : List Str) (qual : Str) (scope : Scope) (f : Addr) (cd : Value) (A : Around) (outer : List Env) (s : Shared) (H : Hp) (E : XK) : Cx where
  prog := P
  w := w
  K := K
  mg := mg
  base := base
  A := A.deeper (envOfC qual scope s.heap.objs.size f cd)
  N := N
  s₀ := s
  H₀ := H
  env := envOfC qual scope s.heap.objs.size f cd
  outer := outer
  stack := envOfC qual scope s.heap.objs.size f cd :: outer
  ex := []
  calm := true
  fn := fun _ => true
  pn := []
  xe := fun e s' => wpAny (model P w) (A.deeper (envOfC qual scope s.heap.objs.size f cd)) (leaving (envOfC qual scope s.heap.objs.size f cd) e) (fun _ s'' => CX outer H s E e s'') (fun e' s'' => CX outer H s E e' s'') s'

theorem cell_has {sc : Scope} {n : Nat} {x : Str} (h : sc.names.lookup x = some .cell) : ∃ c, (cellsFrom n sc.names []).lookup x = some c := by
  have q := PySem.W.cellsFrom_some sc.names n [] (.inl h)
  exact Option.isSome_iff_exists.mp q

theorem inv_start {CX : CXT} {P : Program} {w : World} {K : PySem.W.Frag} {mg : Str → Option Value} {base : Heap} {N ps : List Str} {qual : Str} {scope : Scope} {f : Addr} {cd : Value} {A : Around} {outer : List Env} {s s1 : Shared} {H : Hp} {E : XK} {us : List Value} {vs : List V}
    (S : FnScope N ps scope) (hd : A.handled = none) (e0 : Env0 P w K mg base A outer s H) (hl : vs.length = ps.length) (r : Vals vs us)
    (x : InCallC s s.heap.objs.size (bindL (envOfC qual scope s.heap.objs.size f cd).kindOf (ps.zip us) fun _ => none) (cellsFrom (s.heap.objs.size + 1) scope.names []) (bindC (envOfC qual scope s.heap.objs.size f cd).kindOf (ps.zip us) fun _ => none) s1) :
    Inv (cxOf CX P w K mg base N qual scope f cd A outer s H E) [] (start N vs) H s1 := by
  have hpl : ps.length ≤ N.length := by have := congrArg List.length S.pre; rw [List.length_take] at this; omega
  obtain ⟨h1, tk, rfl, hk⟩ := x.done
  have noA : ∀ b : Addr, b ∉ (cxOf CX P w K mg base N qual scope f cd A outer s H E).ex := fun b z => absurd (show b ∈ ([] : List Addr) from z) (by simp)
  refine ⟨⟨e0.mod, S.kind, rfl, rfl, Nat.le_refl _, fun y z c h1 h2 => ?_, fun y hy => ?_, fun y c _ h => ?_, fun _ => hd, Around.frames_deeper e0.frames, .inr ⟨rfl, rfl⟩, fun b z => absurd z (noA b), e0.bs, e0.bsz, fun b _ _ => noA b, fun b z => absurd z (noA b), e0.funs, e0.frf⟩,
    rfl, e0.bare, Un.kept hk, ⟨_, x.toInCall.ns, fun i y v h1 h2 h3 => ?_⟩, fun y c h => ⟨_, x.cell y c h⟩, e0.hok.fresh (Nat.le_refl _), fun y c h => ?_, fun p hp => absurd (show p ∈ ([] : List (Addr × Obj)) from hp) (by simp), e0.hok.kept hk, ?_⟩
  · exact name_of_addr x.apart (PySem.mem_of_lookup h1) (PySem.mem_of_lookup h2)
  · have hy : scope.names.lookup y = some .cell ∨ scope.names.lookup y = some .free := hy
    rcases hy with hy | hy
    · exact cell_has hy
    · exact absurd rfl (S.nofree _ (PySem.mem_of_lookup hy))
  · exact Nat.le_of_lt (x.above y c (PySem.mem_of_lookup h))
  · have hi : i < vs.length := by
      unfold start at h2
      by_cases hi : i < vs.length
      · exact hi
      · rw [List.getElem?_append_right (by simpa using hi)] at h2
        rw [List.getElem?_replicate] at h2
        split at h2 <;> cases h2
    have ha : vs[i]? = some v := by
      unfold start at h2
      rw [List.getElem?_append_left (by simpa using hi), List.getElem?_map] at h2
      cases e : vs[i]? with
      | none => rw [e] at h2; cases h2
      | some a => rw [e] at h2; cases h2; rfl
    obtain ⟨u, hu, rv⟩ := r.get ha
    have hp : ps[i]? = some y := by
      rw [← S.pre, List.getElem?_take_of_lt (by omega)]; exact h1
    have ndP : ps.Nodup := by rw [← S.pre]; exact S.nd.sublist (List.take_sublist _ _)
    refine ⟨u, rv, ?_⟩
    rcases S.par y (List.mem_of_getElem? hp) with k | k
    · exact .inl ⟨k, bindL_get ndP hp hu k⟩
    · obtain ⟨c, e⟩ := cell_has (n := s.heap.objs.size + 1) k
      refine .inr ⟨.inl k, c, e, ?_⟩
      have q := x.cell y c e
      rw [bindC_get ndP hp hu (by show scope.names.lookup y ≠ _; rw [k]; decide)] at q
      exact q
  · exact e0.hok.fresh (Nat.le_of_lt (x.above y c (PySem.mem_of_lookup h)))
  · unfold start
    show _ = N.length
    rw [List.length_append, List.length_map, List.length_replicate]
    omega

/-- THE RULE: a def (or a method) of the text, by its body. The body's reading t is chosen for each entry; it is run at the parameters' values -/
theorem fn_of {CX : CXT} {P : Program} {w : World} {K : PySem.W.Frag} {mg : Str → Option Value} {base : Heap} {k : Nat} {f : Addr} {name qual : Str} {params : Arguments} {body : List Stmt} {scope : Scope} {dV kV doc pm cdv ct oc : Value} {an od : Option Addr}
    {osl : Array (Option Value)} {N ps : List Str} {sp : Sp} (lk : K.lookup f = some ⟨oc, od, .func (PySem.W.fnOf name qual params body scope dV kV doc pm an cdv ct), osl⟩) (hcd : PySem.W.codeIn K cdv qual = true) (S : FnScope N ps scope)
    (len : ∀ vs H Q E, sp vs H Q E → vs.length = ps.length)
    (hbody : ∀ (A : Around) (outer : List Env) (s : Shared) (H : Hp) (vs : List V) (Q : VK) (E : XK), Room k (A.deeper (envOfC qual scope s.heap.objs.size f cdv)) → sp vs H Q E →
      ∃ t, PSs (cxOf CX P w K mg base N qual scope f cdv A outer s H E) body t ∧ t { nx := fun _ H' => Q .non H', rt := Q } (start N vs) H) :
    FnOk P w K mg base CX (k + 1) f (PySem.W.fnOf name qual params body scope dV kV doc pm an cdv ct) ps sp := by
  refine ⟨len, fun A outer s H args us vs Q E hr e0 hb r hsp => ?_⟩
  have hl := len _ _ _ _ hsp
  have KX : K.In s.heap := e0.mod.kin.keeps fun b o e => (e0.bs b o e).1
  have lim : s.heap.NoLimit := e0.mod.nolimit.keeps fun b o e => (e0.bs b o e).1
  have hkind : ∀ y ∈ ps.zip us, scope.names.lookup y.1 = some .local ∨ (scope.names.lookup y.1 = some .cell ∧ ((cellsFrom (s.heap.objs.size + 1) scope.names []).lookup y.1).isSome = true) := fun ⟨n, v⟩ hy => by
    rcases S.par n (List.of_mem_zip hy).1 with q | q
    · exact .inl q
    · exact .inr ⟨q, PySem.W.cellsFrom_some _ _ _ (.inl q)⟩
  refine codeAny_call_function hr.depth (KX _ _ lk) rfl S.co S.gen rfl (PySem.W.codeRec_of KX hcd) (hb _ _ _ _ ?_)
  refine wpAny_newFunctionEnv_cells S.kind hkind fun env he s1 x => ?_
  subst he
  refine ⟨lim.keeps x.toInCall.keep, codeAny_func ?_⟩
  obtain ⟨t, ht, hq⟩ := hbody A outer s H vs Q E (hr.deeper _) hsp
  have I : Inv (cxOf CX P w K mg base N qual scope f cdv A outer s H E) [] (start N vs) H s1 := inv_start S hr.hd e0 hl r x
  refine wpAny_mono (ht [] s1 (start N vs) H _ I hq) (fun fl s' hs => ?_) fun e s' hs => hs
  have fin : ∀ {σ' : St} {H' : Hp} {v : V} {u : Value}, Inv (cxOf CX P w K mg base N qual scope f cdv A outer s H E) [] σ' H' s' → RelV v u → Q v H' → CE outer P w H s Q u s' :=
    fun {σ' H' v u} J rv q => ⟨v, H', J.os, J.bare, J.base, J.hok, rv, q⟩
  cases fl with
  | ret u =>
    obtain ⟨v, σ', H', J, rv, q⟩ := hs
    exact fin J rv q
  | next =>
    obtain ⟨σ', H', J, q⟩ := hs
    exact fin (v := V.non) (u := Value.none) J rfl q
  | brk =>
    obtain ⟨_, _, _, q⟩ := hs
    exact False.elim q
  | cont =>
    obtain ⟨_, _, _, q⟩ := hs
    exact False.elim q
end L2

namespace L2
open PySem PySem.Spec PyProof.Rows
section
variable {X : Cx} {x : Str} {p pos : Pos} {e : Expr} {es : List Expr} {t : TA} {id T : String} {r : List V → Hp → VK → Prop}

def tCB (r : List V → Hp → VK → Prop) (t : TA) : TE := fun σ H Q => t σ H fun vs H1 => r vs H1 Q
/-- f(e, ..), f a built-in function -/
theorem pe_callB (hc : CallR X (.builtin id) r) (hg : Gl X x) (hm : X.mg x = none) (hv : bootBuiltins x = some (.builtin id)) (ha : PA X (e :: es) t) (hn : x ≠ "__name__" := by decide) (hdb : (x == ("__debug__" : Str)) = false := by decide)
    (he : starEach (e :: es) X.env = (false, eval e X.env) :: starEach es X.env := by rfl) (hpl : (backTo pos (starEach es X.env)).any (·.1) = false := by rfl) : PE X (.Call (.Name x p) (e :: es) [] pos) (tCB r t) := by
  intro pins s σ H Q I h
  refine wpAny_Call_Name_kw (ld_blt I hg hm hv ?_ hn hdb)
  exact PyProof.Rows.callWith_builtin1 (thn (ha pos pins s σ H _ I h) fun us s1 ⟨vs, H1, I1, r1, q1⟩ => hc pins s1 σ H1 vs us Q I1 r1 q1) he hpl
/-- T(e, ..), T a built-in type -/
theorem pe_callTy (hc : CallR X (.type T) r) (hg : Gl X x) (hm : X.mg x = none) (hv : bootBuiltins x = some (.type T)) (ha : PA X (e :: es) t) (hn : x ≠ "__name__" := by decide) (hdb : (x == ("__debug__" : Str)) = false := by decide)
    (he : starEach (e :: es) X.env = (false, eval e X.env) :: starEach es X.env := by rfl) (hpl : (backTo pos (starEach es X.env)).any (·.1) = false := by rfl) : PE X (.Call (.Name x p) (e :: es) [] pos) (tCB r t) := by
  intro pins s σ H Q I h
  refine wpAny_Call_Name_kw (ld_blt I hg hm hv ?_ hn hdb)
  exact PyProof.Rows.callWith_type1 (thn (ha pos pins s σ H _ I h) fun us s1 ⟨vs, H1, I1, r1, q1⟩ => hc pins s1 σ H1 vs us Q I1 r1 q1) he hpl
/-- T() -/
theorem pe_callTy0 (hc : CallR X (.type T) r) (hg : Gl X x) (hm : X.mg x = none) (hv : bootBuiltins x = some (.type T)) (hn : x ≠ "__name__" := by decide) (hdb : (x == ("__debug__" : Str)) = false := by decide) :
    PE X (.Call (.Name x p) [] [] pos) (tCB r tNil) := by
  intro pins s σ H Q I h
  refine wpAny_Call_Name_kw (ld_blt I hg hm hv ?_ hn hdb)
  exact PyProof.Rows.callWith_type0 (hc pins s σ H [] [] Q I .nil h)
end
end L2

namespace HT
open PySem PyProof.Rows

/-- t < u of tuples of ints -/
def lexLt : List Int → List Int → Bool
  | [], [] => false
  | [], _ :: _ => true
  | _ :: _, [] => false
  | x :: xs, y :: ys => if x = y then lexLt xs ys else decide (x < y)
theorem lexLt_cons (x y : Int) (xs ys : List Int) : lexLt (x :: xs) (y :: ys) = if x = y then lexLt xs ys else decide (x < y) := rfl
theorem lexLt_nil_nil : lexLt [] [] = false := rfl
theorem lexLt_nil_cons (y : Int) (ys : List Int) : lexLt [] (y :: ys) = true := rfl
theorem lexLt_cons_nil (x : Int) (xs : List Int) : lexLt (x :: xs) [] = false := rfl

theorem eqAt_int (A : Around) (s : Shared) (a : Int) (t : Tok) (c : Int) (u : Tok) : ∃ e, SeqAt.EqAt A s (.int a t) (.int c u) e ∧ (e = true ↔ a = c) :=
  ⟨(a == c), SeqAt.EqAt.int_int a t c u, by simp⟩
theorem rcLt_int (A : Around) (s : Shared) (a : Int) (t : Tok) (c : Int) (u : Tok) (prog : Program) (w : World) (E : Value → Shared → Prop) (Q : Value → Shared → Prop) (h : Q (.bool (decide (a < c))) s) :
    wpAny (model prog w) A (richCompare .Lt (.int a t) (.int c u)) Q E s :=
  (PyProof.Rows.lt_int h : wpAny (model prog w) A (compareOp .Lt (.int a t) (.int c u)) Q E s)

section
open PySem.SeqAt
open PySem.AutoSeq1 (wpAny_loadPart')
open PySem.MeetsSeq PySem.MeetsSeq2 PySem.MeetsSeq3

theorem tuple_lt_ints (l b : Addr) (items items2 : Array Value) (n n2 : Nat) (dd dd2 : Option Addr) (sl sl2 : Array (Option Value)) (ns ms : List Int) (hi : IntsAre items.toList ns) (hj : IntsAre items2.toList ms) :
    Meets (Builtin.«tuple.__lt__» ⟨[.ref l, .ref b], []⟩)
      (fun _ R s => s.heap.get? l = some { cls := .type "tuple", dict := dd, data := .seq items n, slots := sl } ∧ s.heap.get? b = some { cls := .type "tuple", dict := dd2, data := .seq items2 n2, slots := sl2 } ∧
        R (.ok (.ret (.bool (lexLt ns ms)))) s) :=
  .of_wp fun prog w A R s h => by
    obtain ⟨hp, g, d, tk, os⟩ := s; obtain ⟨hl, hb, h⟩ := h
    have f2 := AutoSeq1.sub_tuple_tuple
    have z1 : items.size = ns.length := by rw [← hi.length]; simp
    have z2 : items2.size = ms.length := by rw [← hj.length]; simp
    wp_walk using wpAny_loadPart' hl, wpAny_loadPart' hb, wpAny_forIn_list _ (fun rest b s' => b.1 = none ∧ s' = ⟨hp, g, d, tk, os⟩ ∧ ∃ (vs ws : List Value) (ns' ms' : List Int), rest = vs.zip ws ∧
      IntsAre vs ns' ∧ IntsAre ws ms' ∧ ns'.length + items2.size = ms'.length + items.size ∧ R (.ok (.ret (.bool (lexLt ns' ms')))) ⟨hp, g, d, tk, os⟩) _
    case turn =>
      rintro ⟨y, x⟩ rest b s' ⟨hb', rfl, vs, ws, ns', ms', hz, hvi, hwi, hlen, hR⟩
      cases hvi with
      | nil => rw [List.zip_nil_left] at hz; cases hz
      | cons a t hvi' =>
        cases hwi with
        | nil => rw [List.zip_nil_right] at hz; cases hz
        | cons c u hwi' =>
          rw [List.zip_cons_cons] at hz
          injection hz with hyx hrest
          injection hyx with hy hx
          subst hy hx
          rw [lexLt_cons] at hR
          simp only [List.length_cons] at hlen
          obtain ⟨e, he, hiff⟩ := eqAt_int A.in1 ⟨hp, g, d, tk, os⟩ a t c u
          refine wpAny_bind (he prog w _ _ ?_)
          cases e with
          | true =>
            rw [if_pos (hiff.mp rfl)] at hR
            wp_walk
            exact ⟨rfl, rfl, _, _, _, _, hrest, hvi', hwi', by omega, hR⟩
          | false =>
            rw [if_neg (fun q => absurd (hiff.mpr q) Bool.false_ne_true)] at hR
            have hri := rcLt_int A.in1 ⟨hp, g, d, tk, os⟩ a t c u prog w
            wp_walk using hri
            exact ⟨_, rfl, by simpa using hR⟩
    case fin =>
      rintro ⟨b1, b2⟩ s' ⟨hb', rfl, vs, ws, ns', ms', hz, hvi, hwi, hlen, hR⟩
      simp only at hb'
      subst hb'
      have hv : lexLt ns' ms' = decide (items.size < items2.size) := by
        cases hvi with
        | nil =>
          cases hwi with
          | nil =>
            simp only [List.length_nil] at hlen
            rw [lexLt_nil_nil]
            exact (decide_eq_false (by omega)).symm
          | cons c u hw =>
            simp only [List.length_nil, List.length_cons] at hlen
            rw [lexLt_nil_cons]
            exact (decide_eq_true (by omega)).symm
        | cons a t hv =>
          cases hwi with
          | nil =>
            simp only [List.length_nil, List.length_cons] at hlen
            rw [lexLt_cons_nil]
            exact (decide_eq_false (by omega)).symm
          | cons c u hw =>
            rw [List.zip_cons_cons] at hz
            cases hz
      rw [hv] at hR
      wp_walk
      exact ⟨_, rfl, by simpa [Builtin.Tuple.tupleCompareSizes] using hR⟩
    case h =>
      exact ⟨rfl, rfl, items.toList, items2.toList, ns, ms, rfl, hi, hj, by omega, h⟩
end

section
variable {prog : Program} {w : World} {A : Around} {E : Value → Shared → Prop} {s : Shared}

theorem lt_tupInts {l b : Addr} {items items2 : Array Value} {ns ms : List Int} {Q : Value → Shared → Prop} (hl : IsTup s.heap l items) (hb : IsTup s.heap b items2) (hi : IntsAre items.toList ns) (hj : IntsAre items2.toList ms)
    (hu : A.units < cLine) (h : Q (.bool (lexLt ns ms)) s) : wpAny (model prog w) A (compareOp .Lt (.ref l) (.ref b)) Q E s := by
  obtain ⟨⟨cls, dd, data, sl⟩, ho, hc, n, hd⟩ := id hl
  obtain ⟨⟨cls2, dd2, data2, sl2⟩, ho2, hc2, n2, hd2⟩ := id hb
  simp only at hc hd hc2 hd2
  subst hc hd hc2 hd2
  exact richCompare_meets_room (op := .Lt) ⟨_, ho, rfl⟩ ⟨_, ho2, rfl⟩ PySem.F.slot_tuple_lt PySem.F.entry_tuple_lt (PySem.F.args_tuple_lt_2 _ _) (tuple_lt_ints l b items items2 n n2 dd dd2 sl sl2 ns ms hi hj)
    ⟨ho, ho2, show Value.bool (lexLt ns ms) ≠ Value.notImplemented ∧ Q (.bool (lexLt ns ms)) s from ⟨(fun x => nomatch x), h⟩⟩ hu

/-- t + u, t not empty -/
theorem cat_tup {t b : Addr} {vs ws : List Value} {Q : Value → Shared → Prop} (ht : IsTup s.heap t vs.toArray) (hb : IsTup s.heap b ws.toArray) (hv : vs ≠ [])
    (h1 : ws = [] → Q (.ref t) s) (h2 : ws ≠ [] → Q (.ref s.heap.objs.size) { s with heap := s.heap.push { cls := .type "tuple", data := .seq (vs ++ ws).toArray } })
    (hsz : vs.length + ws.length ≤ sizeLine) : wpAny (model prog w) A (binaryOp .Add (.ref t) (.ref b)) Q E s := by
  obtain ⟨⟨cls, dd, data, sl⟩, ho, hc, n, hd⟩ := id ht
  obtain ⟨⟨cls2, dd2, data2, sl2⟩, ho2, hc2, n2, hd2⟩ := id hb
  simp only at hc hd hc2 hd2
  subst hc hd hc2 hd2
  have e : vs.toArray ++ ws.toArray = (vs ++ ws).toArray := by simp
  by_cases hw : ws = []
  · exact concat_meets ⟨_, ho, rfl⟩ ⟨_, ho2, rfl⟩ noFill_tuple_add seq_tuple_add PySem.F.slot_tuple_add PySem.F.entry_tuple_add (PySem.F.args_tuple_add_2 _ _)
      (tuple_addW1 t b vs.toArray ws.toArray n n2 dd dd2 sl sl2 (by simpa using hv) (by simp [hw])) ⟨ho, ho2, h1 hw⟩
  · refine concat_meets ⟨_, ho, rfl⟩ ⟨_, ho2, rfl⟩ noFill_tuple_add seq_tuple_add PySem.F.slot_tuple_add PySem.F.entry_tuple_add (PySem.F.args_tuple_add_2 _ _)
      (tuple_addW2 t b vs.toArray ws.toArray n n2 dd dd2 sl sl2 (by simpa using hv) (by simpa using hw) (by rw [List.size_toArray, List.size_toArray]; exact hsz)) ⟨ho, ho2, ?_⟩
    rw [e]
    exact h2 hw

/-! ### t[a:b], not the whole -/
/-- a slice's bound as a place among n (d where it is left out) -/
def sIx (n d : Nat) : Option Int → Nat
  | none => d
  | some v => if v < 0 then (v + (n : Int)).toNat else min v.toNat n
theorem sIx_none (n d : Nat) : sIx n d none = d := rfl
theorem sIx_nat (n d k : Nat) : sIx n d (some (k : Int)) = min k n := by
  show (if (k : Int) < 0 then ((k : Int) + (n : Int)).toNat else min (k : Int).toNat n) = min k n
  rw [if_neg (by omega), Int.toNat_natCast]
theorem sIx_le (n d : Nat) (hd : d ≤ n) (o : Option Int) : sIx n d o ≤ n := by
  cases o with
  | none => exact hd
  | some v =>
    show (if v < 0 then (v + (n : Int)).toNat else min v.toNat n) ≤ n
    by_cases hv : v < 0
    · rw [if_pos hv]; omega
    · rw [if_neg hv]; exact Nat.min_le_right _ _
theorem clip_eq (v : Int) (n d : Nat) : (if v < 0 then max (v + (n : Int)) 0 else min v (n : Int)) = ((sIx n d (some v) : Nat) : Int) := by
  show (if v < 0 then max (v + (n : Int)) 0 else min v (n : Int)) = (((if v < 0 then (v + (n : Int)).toNat else min v.toNat n) : Nat) : Int)
  by_cases hv : v < 0
  · simp only [if_pos hv]; omega
  · simp only [if_neg hv]; omega
theorem adjust_gen (lo hi : Option Int) (n : Nat) : Builtin.Slice.sliceAdjust lo hi 1 (n : Int) = (((sIx n 0 lo : Nat) : Int), ((sIx n n hi : Nat) : Int)) := by
  have h1 : ¬ ((1 : Int) < 0) := by omega
  unfold Builtin.Slice.sliceAdjust
  simp only [h1, if_false]
  refine Prod.ext ?_ ?_
  · cases lo with
    | none => rfl
    | some v => exact clip_eq v n 0
  · cases hi with
    | none => rfl
    | some v => exact clip_eq v n n
theorem places_gen (i j : Nat) : Builtin.Slice.slicePlaces (i : Int) (j : Int) 1 = j - i := by
  unfold Builtin.Slice.slicePlaces
  have h1 : (1 : Int) > 0 := by omega
  simp only [h1, if_true, Int.ediv_one]
  split <;> omega
theorem slicePart_ {v : Value} {o : Option Int} {Q : Option Int → Shared → Prop} (p : IsPart v o) (h : Q o s) : wpAny (model prog w) A (Builtin.Slice.slicePartIndex v) Q E s := by
  cases p with
  | none => exact slicePart_none h
  | int i t => exact slicePart_int h
theorem sliceApplied_gen {sl : Addr} {vl vu : Value} {lo hi : Option Int} {n : Nat} {Q : Int × Int × Nat → Shared → Prop} (hs : s.heap.IsSliceOf sl vl vu .none) (pl : IsPart vl lo) (pu : IsPart vu hi)
    (h : Q (((sIx n 0 lo : Nat) : Int), 1, sIx n n hi - sIx n 0 lo) s) : wpAny (model prog w) A (Builtin.Slice.sliceApplied (.ref sl) (pure (n : Int))) Q E s := by
  obtain ⟨os, hos, hcs, hds⟩ := id hs
  unfold Builtin.Slice.sliceApplied Builtin.Slice.sliceFields
  refine wpAny_bind (wpAny_bind (wpAny_field hos hds (x := vl) rfl (wpAny_bind (wpAny_field hos hds (x := vu) rfl (wpAny_bind (wpAny_field hos hds (x := .none) rfl (wpAny_pure ?_)))))))
  refine wpAny_bind (slicePart_none ?_)
  show wpAny _ _ (if ((1 : Int) == 0) = true then _ else _) _ _ s
  rw [if_neg (by decide)]
  refine wpAny_bind (slicePart_ pl (wpAny_bind (slicePart_ pu (wpAny_bind (wpAny_pure ?_)))))
  show wpAny _ _ (match Builtin.Slice.sliceAdjust lo hi 1 (n : Int) with | (lo, hi) => pure (lo, (1 : Int), Builtin.Slice.slicePlaces lo hi 1)) _ _ s
  rw [adjust_gen lo hi n]
  show wpAny _ _ (pure (((sIx n 0 lo : Nat) : Int), (1 : Int), Builtin.Slice.slicePlaces ((sIx n 0 lo : Nat) : Int) ((sIx n n hi : Nat) : Int) 1)) _ _ s
  rw [places_gen]
  exact wpAny_pure h
theorem pick_gen (xs : Array Value) (i k : Nat) : ((List.range k).filterMap fun (m : Nat) => xs[((i : Int) + (m : Int) * 1).toNat]?).toArray = ((xs.toList.drop i).take k).toArray := by
  have e : (fun (m : Nat) => xs[((i : Int) + (m : Int) * 1).toNat]?) = fun m => xs[i + m]? := by
    funext m
    have : ((i : Int) + (m : Int) * 1).toNat = i + m := by omega
    rw [this]
  rw [e]
  have := pick_run xs i k
  rw [List.filterMap_map] at this
  have e2 : ((fun x => xs[x]?) ∘ fun x => i + x) = fun m => xs[i + m]? := rfl
  rw [e2] at this
  rw [this]

theorem getItem_tuple_cut {t sl : Addr} {items : Array Value} {vl vu : Value} {lo hi : Option Int} {Q : Value → Shared → Prop} (ht : IsTup s.heap t items) (hs : s.heap.IsSliceOf sl vl vu .none) (pl : IsPart vl lo) (pu : IsPart vu hi)
    (hw : ¬ (sIx items.size 0 lo = 0 ∧ sIx items.size items.size hi = items.size))
    (h : Q (.ref s.heap.objs.size) { s with heap := s.heap.push { cls := .type "tuple", data := .seq ((items.toList.drop (sIx items.size 0 lo)).take (sIx items.size items.size hi - sIx items.size 0 lo)).toArray } })
    (hsz : items.size ≤ sizeLine) : wpAny (model prog w) A (getItem (.ref t) (.ref sl)) Q E s := by
  have htake : sizeOk (.seq ((items.toList.drop (sIx items.size 0 lo)).take (sIx items.size items.size hi - sIx items.size 0 lo)).toArray) := by
    show ((items.toList.drop (sIx items.size 0 lo)).take (sIx items.size items.size hi - sIx items.size 0 lo)).toArray.size ≤ sizeLine
    rw [List.size_toArray, List.length_take, List.length_drop, Array.length_toList]
    omega
  have hj : sIx items.size items.size hi ≤ items.size := sIx_le _ _ (Nat.le_refl _) hi
  obtain ⟨os, hos, hcs, hds⟩ := id hs
  have hTs : s.TypeIs (.ref sl) "slice" := ⟨os, hos, hcs⟩
  unfold getItem
  try with_reducible refine wpAny_holding ?_
  first | refine wpAny_bind (wpAny_pure ?_) | skip
  refine wpAny_bind (wpAny_sequenceKey ht.typeIs (by decide) ?_)
  refine wpAny_bind (wpAny_callSpecial?_slot (name := Str.ofString "__getitem__") ht.typeIs PyProof.Rows.slot_tuple_getitem
    (wpAny_call_entry PyProof.Rows.slot_tuple_getitem ht.typeIs entry_tuple_getitem ?_ (args_tuple_getitem _ _)))
  show wpAny _ _ (Builtin.Tuple.tupleItemsOf (.ref t) >>= _) _ _ s
  refine wpAny_bind (tupleItemsOf_ ht ?_)
  refine wpAny_bind (wpAny_typeOf hTs ?_)
  rw [if_pos (by decide)]
  refine wpAny_bind (sliceApplied_gen hs pl pu ?_)
  have hno : ¬ ((((sIx items.size 0 lo : Nat) : Int) == 0 && (1 : Int) == 1 && (sIx items.size items.size hi - sIx items.size 0 lo) == items.size) = true) := by
    intro q
    rw [Bool.and_eq_true, Bool.and_eq_true] at q
    have q1 : ((sIx items.size 0 lo : Nat) : Int) = 0 := eq_of_beq q.1.1
    have q2 : sIx items.size items.size hi - sIx items.size 0 lo = items.size := eq_of_beq q.2
    exact hw ⟨by omega, by omega⟩
  show wpAny _ _ (if (((sIx items.size 0 lo : Nat) : Int) == 0 && (1 : Int) == 1 && (sIx items.size items.size hi - sIx items.size 0 lo) == items.size) = true then _ else _) _ _ s
  rw [if_neg hno, pick_gen]
  first
    | exact wpAny_bind (m := Builtin.Tuple.tupleExact _) (wpAny_newObj_type (wpAny_pure ⟨_, rfl, wpAny_pure h⟩) htake)
    | exact wpAny_bind (m := Builtin.Tuple.tupleExact _) (wpAny_newObj_type (wpAny_bind (wpAny_pure (wpAny_pure ⟨_, rfl, wpAny_pure h⟩))) htake)
    | exact wpAny_bind (wpAny_bind (m := Builtin.Tuple.tupleExact _) (wpAny_newObj_type (wpAny_pure (wpAny_pure ⟨_, rfl, wpAny_pure h⟩)) htake))
    | exact wpAny_bind (wpAny_bind (m := Builtin.Tuple.tupleExact _) (wpAny_newObj_type (wpAny_pure ⟨_, rfl, wpAny_pure h⟩) htake))
end
end HT

namespace L2
open PySem PySem.Spec PyProof.Rows

/-! ### the parts of a slice -/
abbrev TO := St → Hp → (Option Int → Hp → Prop) → Prop
/-- a slice's part (left out, or an int) -/
def PO (X : Cx) (e : Option Expr) (t : TO) : Prop :=
  ∀ (pins : List (Addr × Obj)) (s : Shared) (σ : St) (H : Hp) (Q : Option Int → Hp → Prop), Inv X pins σ H s → t σ H Q →
    wpAny (model X.prog X.w) X.A (evalPart e X.env) (fun u s' => ∃ o H', Inv X pins σ H' s' ∧ IsPart u o ∧ Q o H') X.xe s
def tNoPart : TO := fun _ H Q => Q none H
def tPart (t : TE) : TO := fun σ H Q => t σ H fun x H1 => ∃ i, x = .int i ∧ Q (some i) H1

theorem intsAre_of {ns : List Int} : ∀ {us : List Value}, Vals (ns.map V.int) us → IntsAre us ns := by
  induction ns with
  | nil => intro us r; rw [List.map_nil] at r; cases r; exact .nil
  | cons n ns ih =>
    intro us r
    rw [List.map_cons] at r
    cases r with
    | cons r1 r2 =>
      obtain ⟨t, e⟩ := r1
      subst e
      exact .cons n t (ih r2)

section
variable {X : Cx} {e : Expr} {te : TE} {lo hi : Option Expr} {tl th : TO} {pos p2 : Pos}

theorem po_none : PO X none tNoPart := by
  intro pins s σ H Q I h
  rw [evalPart_none]
  exact wpAny_pure ⟨none, H, I, .none, h⟩
theorem po_some (h : PE X e te) : PO X (some e) (tPart te) := by
  intro pins s σ H Q I hw
  rw [evalPart_some]
  refine thn (h pins s σ H _ I hw) fun u s1 ⟨x, H1, I1, r1, q1⟩ => ?_
  obtain ⟨i, rfl, q⟩ := q1
  obtain ⟨t, rfl⟩ := r1
  exact ⟨some i, H1, I1, .int i t, q⟩

/-- what a slice of a value is, by values: the slice object stands at sl -/
def SlR (X : Cx) (r : V → Option Int → Option Int → Hp → VK → Prop) : Prop :=
  ∀ (pins : List (Addr × Obj)) (s : Shared) (σ : St) (H : Hp) (x : V) (v vl vu : Value) (lo hi : Option Int) (sl : Addr) (Q : VK), Inv X pins σ H s → RelV x v → s.heap.IsSliceOf sl vl vu .none → IsPart vl lo → IsPart vu hi → r x lo hi H Q →
    ∃ T id, typeLookup (.type T) "__getitem__" = pure (some (.builtin id)) ∧ s.TypeIs v T ∧ wpAny (model X.prog X.w) X.A (getItem v (.ref sl)) (EP X pins σ Q) X.xe s
theorem SlR.or {r r' : V → Option Int → Option Int → Hp → VK → Prop} (h : SlR X r) (h' : SlR X r') : SlR X (fun x lo hi H Q => r x lo hi H Q ∨ r' x lo hi H Q) := by
  intro pins s σ H x v vl vu lo hi sl Q I rx hs pl pu q
  rcases q with q | q
  · exact h pins s σ H x v vl vu lo hi sl Q I rx hs pl pu q
  · exact h' pins s σ H x v vl vu lo hi sl Q I rx hs pl pu q
def tSl (r : V → Option Int → Option Int → Hp → VK → Prop) (te : TE) (tl th : TO) : TE := fun σ H Q => te σ H fun x H1 => tl σ H1 fun l H2 => th σ H2 fun u H3 => r x l u H3 Q
/-- a[lo:hi], any a -/
theorem pe_slice {r : V → Option Int → Option Int → Hp → VK → Prop} (hr : SlR X r) (he : PE X e te) (hl : PO X lo tl) (hu : PO X hi th) : PE X (.Subscript e (.Slice lo hi none p2) pos) (tSl r te tl th) := by
  intro pins s σ H Q I h
  refine Subscript_ (thn (he pins s σ H _ I h) fun v s1 ⟨x, H1, I1, r1, q1⟩ => ?_)
  refine wpAny_Slice (thn (hl pins s1 σ H1 _ I1 q1) fun vl s2 ⟨l, H2, I2, pl, q2⟩ => thn (hu pins s2 σ H2 _ I2 q2) fun vu s3 ⟨u, H3, I3, pu, q3⟩ => ?_)
  rw [evalPart_none]
  refine wpAny_pure ?_
  have I4 : Inv X pins σ H3 { s3 with heap := s3.heap.push { cls := .type "slice", data := .fields #[vl, vu, .none] } } := I3.kept (t' := s3.toks) fun b ob q => Heap.get?_push_of_some _ q
  obtain ⟨T, id, hT, ht, hg⟩ := hr pins { s3 with heap := s3.heap.push { cls := .type "slice", data := .fields #[vl, vu, .none] } } σ H3 x v vl vu l u s3.heap.objs.size Q I4 r1 (Heap.IsSliceOf.new ..) pl pu q3
  show wpAny (model X.prog X.w) X.A (subscriptTail e (.Slice lo hi none p2) v (.ref s3.heap.objs.size)) (EP X pins σ Q) X.xe { s3 with heap := s3.heap.push { cls := .type "slice", data := .fields #[vl, vu, .none] } }
  exact tail_any (ops := [.ref s3.heap.objs.size, v]) ht hT hg (by with_unfolding_all rfl)

/-- the items of xs[lo:hi] -/
def cutV (xs : List V) (lo hi : Option Int) : List V := (xs.drop (HT.sIx xs.length 0 lo)).take (HT.sIx xs.length xs.length hi - HT.sIx xs.length 0 lo)
theorem cutV_length (xs : List V) (lo hi : Option Int) : (cutV xs lo hi).length ≤ xs.length := by
  unfold cutV
  rw [List.length_take, List.length_drop]
  omega
/-- t[lo:hi], not the whole of it (the whole would be t itself) -/
def rSlT (K : PySem.W.Frag) : V → Option Int → Option Int → Hp → VK → Prop := fun x lo hi H Q => ∃ a xs, x = .ref a ∧ SqT K H a xs ∧
  ¬ (HT.sIx xs.length 0 lo = 0 ∧ HT.sIx xs.length xs.length hi = xs.length) ∧ ∀ p, H p = none → Q (.ref p) (upd H p (.tup (cutV xs lo hi)))
theorem sl_tup : SlR X (rSlT X.K) := by
  intro pins s σ H x v vl vu lo hi sl Q I rx hs pl pu h
  obtain ⟨a, xs, rfl, hx, hw, q⟩ := h
  cases rx
  obtain ⟨its, r, ht, hz⟩ := I.tuple hx
  have hlen : its.toArray.size = xs.length := by rw [List.size_toArray]; exact r.length.symm
  refine ⟨"tuple", _, PyProof.Rows.slot_tuple_getitem.lookup, ht.typeIs, ?_⟩
  refine HT.getItem_tuple_cut ht hs pl pu (by rw [hlen]; exact hw) ?_ (by rw [hlen]; exact hz)
  rw [hlen]
  refine ⟨.ref s.heap.objs.size, _, I.laid (t' := s.toks) (o := .tup (cutV xs lo hi)) (fun b ob q => Heap.get?_push_of_some _ q) (Nat.le_refl _) ?_, rfl, q _ (I.hok.fresh (Nat.le_refl _))⟩
  exact ⟨Nat.le_trans (cutV_length xs lo hi) hz, _, (r.drop (HT.sIx xs.length 0 lo)).take (HT.sIx xs.length xs.length hi - HT.sIx xs.length 0 lo), IsTup.new _ _⟩

/-! ### t < u, t + u -/
def rLtT (K : PySem.W.Frag) : R2 := fun x y H Q => ∃ a b ns ms, x = .ref a ∧ y = .ref b ∧ SqT K H a (ns.map V.int) ∧ SqT K H b (ms.map V.int) ∧ Q (.bl (HT.lexLt ns ms)) H
theorem op_ltT (hu : X.A.units < cLine) : OpR X (compareOp .Lt) (rLtT X.K) := by
  intro pins s σ H x y v u Q I rx ry h
  obtain ⟨a, b, ns, ms, rfl, rfl, ha, hb, q⟩ := h
  cases rx
  cases ry
  obtain ⟨its, r1, p1, _⟩ := I.tuple ha
  obtain ⟨its2, r2, p2, _⟩ := I.tuple hb
  have i1 : IntsAre its.toArray.toList ns := intsAre_of r1
  have i2 : IntsAre its2.toArray.toList ms := intsAre_of r2
  exact HT.lt_tupInts p1 p2 i1 i2 hu ⟨.bl (HT.lexLt ns ms), H, I, rfl, q⟩
/-- t + u, t not empty: u empty gives t itself -/
def rCatT (K : PySem.W.Frag) : R2 := fun x y H Q => ∃ a b xs ys, x = .ref a ∧ y = .ref b ∧ SqT K H a xs ∧ SqT K H b ys ∧ xs ≠ [] ∧ xs.length + ys.length ≤ sizeLine ∧
  (ys = [] → Q (.ref a) H) ∧ (ys ≠ [] → ∀ p, H p = none → Q (.ref p) (upd H p (.tup (xs ++ ys))))
theorem Vals.nil_iff {xs : List V} {us : List Value} (r : Vals xs us) : us = [] ↔ xs = [] := by
  cases r with
  | nil => simp
  | cons _ _ => simp
theorem op_catT : OpR X (binaryOp .Add) (rCatT X.K) := by
  intro pins s σ H x y v u Q I rx ry h
  obtain ⟨a, b, xs, ys, rfl, rfl, ha, hb, hx, hz, q1, q2⟩ := h
  cases rx
  cases ry
  obtain ⟨its, r1, p1, _⟩ := I.tuple ha
  obtain ⟨its2, r2, p2, _⟩ := I.tuple hb
  refine HT.cat_tup p1 p2 (fun z => hx (r1.nil_iff.mp z)) (fun z => ⟨.ref a, H, I, rfl, q1 (r2.nil_iff.mp z)⟩) (fun z => ?_) (by rw [← r1.length, ← r2.length]; exact hz)
  refine ⟨.ref s.heap.objs.size, _, I.laid (t' := s.toks) (o := .tup (xs ++ ys)) (fun b ob q => Heap.get?_push_of_some _ q) (Nat.le_refl _) ?_, rfl, q2 (fun w => z (r2.nil_iff.mpr w)) _ (I.hok.fresh (Nat.le_refl _))⟩
  exact ⟨by rw [List.length_append]; exact hz, _, r1.append r2, IsTup.new _ _⟩
/-- tuple(t) -/
theorem call_tupleT : CallR X (.type "tuple") (fun xs H Q => ∃ a ys, xs = [.ref a] ∧ SqT X.K H a ys ∧ Q (.ref a) H) := by
  intro pins s σ H xs us Q I r h
  obtain ⟨a, ys, rfl, ha, q⟩ := h
  obtain ⟨u, rfl, ru⟩ := vals1 r
  cases ru
  obtain ⟨its, _, p1, _⟩ := I.tuple ha
  exact call_tuple_same (items := its.toArray) p1 ⟨.ref a, H, I, rfl, q⟩
end
end L2

namespace L2
open PySem PySem.Spec PyProof.Rows

/-! ### places -/
/-- the place that an index of any sign means -/
def ixN (n : Nat) (i : Int) : Option Nat := if 0 ≤ i then (if i < n then some i.toNat else none) else if -(n : Int) ≤ i then some (i + n).toNat else none
def atI {α : Type} (xs : List α) (i : Int) : Option α := (ixN xs.length i).bind fun j => xs[j]?
theorem ixN_seq {n : Nat} {i : Int} {j : Nat} (h : ixN n i = some j) : seqIndex? i n = some j ∧ j < n ∧ -(n : Int) ≤ i ∧ i < n := by
  unfold ixN at h
  by_cases h0 : 0 ≤ i
  · rw [if_pos h0] at h
    by_cases h1 : i < n
    · rw [if_pos h1] at h
      have e : i.toNat = j := Option.some.inj h
      exact ⟨by rw [seqIndex_of h0 h1, e], by omega, by omega, h1⟩
    · rw [if_neg h1] at h; cases h
  · rw [if_neg h0] at h
    by_cases h1 : -(n : Int) ≤ i
    · rw [if_pos h1] at h
      have e : (i + n).toNat = j := Option.some.inj h
      exact ⟨by rw [seqIndex_neg (by omega) h1, e], by omega, h1, by omega⟩
    · rw [if_neg h1] at h; cases h
theorem atI_get {α : Type} {xs : List α} {i : Int} {v : α} (h : atI xs i = some v) : ∃ j, seqIndex? i xs.length = some j ∧ xs[j]? = some v ∧ j < xs.length ∧ -(xs.length : Int) ≤ i ∧ i < xs.length := by
  unfold atI at h
  cases e : ixN xs.length i with
  | none => rw [e] at h; cases h
  | some j =>
    rw [e] at h
    obtain ⟨h1, h2, h3, h4⟩ := ixN_seq e
    exact ⟨j, h1, h, h2, h3, h4⟩
theorem atI_nat {α : Type} {xs : List α} {j : Nat} {v : α} (h : xs[j]? = some v) : atI xs (j : Int) = some v := by
  have hj : j < xs.length := (List.getElem?_eq_some_iff.mp h).1
  have e : ixN xs.length (j : Int) = some j := by
    unfold ixN
    rw [if_pos (by omega), if_pos (by omega)]; simp
  unfold atI; rw [e]; exact h
theorem atI_last {α : Type} (xs : List α) (v : α) : atI (xs ++ [v]) (-1) = some v := by
  have hl : (xs ++ [v]).length = xs.length + 1 := by simp
  have e : ixN (xs ++ [v]).length (-1) = some xs.length := by
    unfold ixN
    rw [hl, if_neg (by decide), if_pos (by omega)]
    congr 1
    omega
  unfold atI
  rw [e]
  show (xs ++ [v])[xs.length]? = some v
  simp

/-! ### what may be subscripted -/
/-- what stands as an index of a plain subscript -/
def PlainIx (b : Expr) : Prop := ∀ o i, subscripted b false o i = operate [o, i] (getItem o i)
/-- a subscript by values -/
def IxR (X : Cx) (r : R2) : Prop :=
  ∀ (value slice : Expr) (pins : List (Addr × Obj)) (s : Shared) (σ : St) (H : Hp) (x y : V) (v u : Value) (Q : VK), Inv X pins σ H s → RelV x v → RelV y u → r x y H Q →
    subscripted slice false v u = operate [v, u] (getItem v u) → wpAny (model X.prog X.w) X.A (subscriptTail value slice v u) (EP X pins σ Q) X.xe s
/-- a call of a builtin's method by values: the receiver, the arguments -/
def MtR (X : Cx) (id : String) (r : V → List V → Hp → VK → Prop) : Prop :=
  ∀ (pins : List (Addr × Obj)) (s : Shared) (σ : St) (H : Hp) (x : V) (xs : List V) (v : Value) (us : List Value) (Q : VK), Inv X pins σ H s → RelV x v → Vals xs us → r x xs H Q →
    wpAny (model X.prog X.w) X.A (call (.builtin id) (v :: us)) (EP X pins σ Q) X.xe s
section
variable {X : Cx} {a b : Expr} {ta tb : TE} {pos : Pos}
theorem IxR.or {r r' : R2} (h : IxR X r) (h' : IxR X r') : IxR X (fun x y H Q => r x y H Q ∨ r' x y H Q) := by
  intro value slice pins s σ H x y v u Q I rx ry q hs
  rcases q with q | q
  · exact h value slice pins s σ H x y v u Q I rx ry q hs
  · exact h' value slice pins s σ H x y v u Q I rx ry q hs
theorem MtR.or {id : String} {r r' : V → List V → Hp → VK → Prop} (h : MtR X id r) (h' : MtR X id r') : MtR X id (fun x xs H Q => r x xs H Q ∨ r' x xs H Q) := by
  intro pins s σ H x xs v us Q I rx rs q
  rcases q with q | q
  · exact h pins s σ H x xs v us Q I rx rs q
  · exact h' pins s σ H x xs v us Q I rx rs q
/-- a[b] -/
theorem pe_ix {r : R2} (hr : IxR X r) (ha : PE X a ta) (hb : PE X b tb) (hs : PlainIx b) : PE X (.Subscript a b pos) (tOp r ta tb) := by
  intro pins s σ H Q I h
  exact Subscript_ (binT ha hb I h fun v u s2 x y H2 I2 rx ry q => hr a b pins s2 σ H2 x y v u Q I2 rx ry q (hs _ _))

def rIxL (K : PySem.W.Frag) : R2 := fun x y H Q => ∃ p xs i v, x = .ref p ∧ y = .int i ∧ SqL K H p xs ∧ atI xs i = some v ∧ Q v H
def rIxT (K : PySem.W.Frag) : R2 := fun x y H Q => ∃ p xs i v, x = .ref p ∧ y = .int i ∧ SqT K H p xs ∧ atI xs i = some v ∧ Q v H
def rIxS : R2 := fun x y H Q => ∃ z i c, x = .str z ∧ y = .int i ∧ z.length ≤ sizeLine ∧ atI z.cps.toList i = some c ∧ Q (.str ⟨#[c]⟩) H
theorem ix_list : IxR X (rIxL X.K) := by
  intro value slice pins s σ H x y v u Q I rx ry h hs
  obtain ⟨p, xs, i, z, rfl, rfl, hq, he, q⟩ := h
  cases rx
  obtain ⟨t, rfl⟩ := ry
  obtain ⟨its, r, pl, hz⟩ := I.list hq
  obtain ⟨j, h1, h2, h3, h4, h5⟩ := atI_get he
  obtain ⟨w, ew, rw'⟩ := r.get h2
  have hl := r.length
  have hn := line63
  have fin : EP X pins σ Q w s := ⟨z, H, I, rw', q⟩
  by_cases h0 : 0 ≤ i
  · have hj : i.toNat = j := by
      rw [seqIndex_of h0 h5] at h1
      exact Option.some.inj h1
    exact item_listR pl.isList h0 (by omega) (by rw [hj]; simpa using ew) fin hs
  · have hj : (i + (its.toArray.size : Int)).toNat = j := by
      rw [seqIndex_neg (by omega) h4] at h1
      rw [List.size_toArray, ← hl]
      exact Option.some.inj h1
    exact subscriptTail_builtinR (x := w) pl.isList.typeIs slot_list_getitem.lookup
      (wpAny_getItem_list_neg (Q := fun r s' => r = w ∧ EP X pins σ Q r s') pl.isList (by omega) (by rw [List.size_toArray] <;> omega) (by omega) (by rw [hj]; simpa using ew) ⟨rfl, fin⟩) hs
theorem ix_tup : IxR X (rIxT X.K) := by
  intro value slice pins s σ H x y v u Q I rx ry h hs
  obtain ⟨p, xs, i, z, rfl, rfl, hq, he, q⟩ := h
  cases rx
  obtain ⟨t, rfl⟩ := ry
  obtain ⟨its, r, pl, hz⟩ := I.tuple hq
  obtain ⟨j, h1, h2, h3, h4, h5⟩ := atI_get he
  obtain ⟨w, ew, rw'⟩ := r.get h2
  have hl := r.length
  have hn := line63
  have fin : EP X pins σ Q w s := ⟨z, H, I, rw', q⟩
  exact subscriptTail_builtinR (x := w) pl.typeIs slot_tuple_getitem.lookup
    (getItem_tuple (j := j) (Q := fun r s' => r = w ∧ EP X pins σ Q r s') pl (by omega) (by omega) (by rw [List.size_toArray, ← hl]; exact h1) (by simpa using ew) ⟨rfl, fin⟩) hs
theorem ix_str : IxR X rIxS := by
  intro value slice pins s σ H x y v u Q I rx ry h hs
  obtain ⟨z, i, c, rfl, rfl, hz, he, q⟩ := h
  obtain ⟨t, rfl⟩ := rx
  obtain ⟨t', rfl⟩ := ry
  obtain ⟨j, h1, h2, h3, h4, h5⟩ := atI_get he
  have hl : z.cps.toList.length = z.length := by simp [Str.length]
  rw [hl] at h1 h4 h5
  have hn := line63
  exact tail_any (typeIs_str s z t) slot_str_getitem.lookup (getItem_str (c := c) (by
    have e1 : decide (i < -(2 ^ 63 : Int)) = false := decide_eq_false (by omega)
    have e2 : decide (i ≥ 2 ^ 63) = false := decide_eq_false (by omega)
    rw [e1, e2, Bool.or_false]) (by rw [h1]; simpa using h2) ⟨.str ⟨#[c]⟩, H, I.tok _, ⟨_, rfl⟩, q⟩) hs
/-- list, tuple or str -/
def rIx (K : PySem.W.Frag) : R2 := fun x y H Q => rIxL K x y H Q ∨ rIxT K x y H Q ∨ rIxS x y H Q
theorem ix_seq : IxR X (rIx X.K) := ix_list.or (ix_tup.or ix_str)

/-! ### xs[i] = v, any sign -/
/-- the list's object behind a store -/
theorem mapSeq_set (its : List Value) (n j : Nat) (u : Value) : Obj.mapSeq (·.setIfInBounds j u) { cls := .type "list", data := .seq its.toArray n } = { cls := .type "list", data := .seq (its.set j u).toArray n } := by
  simp [Obj.mapSeq]
theorem Inv.lst {pins : List (Addr × Obj)} {σ : St} {H : Hp} {s : Shared} {p : Addr} {xs : List V} (I : Inv X pins σ H s) (h : H p = some (.lst xs)) :
    ∃ (its : List Value) (n : Nat), Vals xs its ∧ s.heap.get? p = some { cls := .type "list", data := .seq its.toArray n } ∧ xs.length ≤ sizeLine := by
  obtain ⟨z, its, n, r, e⟩ := I.hok p _ h
  exact ⟨its, n, r, e, z⟩
/-- the list at p is written by an update of its object -/
theorem Inv.lstUpd {pins : List (Addr × Obj)} {σ : St} {H : Hp} {s : Shared} {p : Addr} {xs ys : List V} {its its' : List Value} {n n' : Nat} {f : Obj → Obj} (I : Inv X pins σ H s) (h : H p = some (.lst xs))
    (ho : s.heap.get? p = some { cls := .type "list", data := .seq its.toArray n }) (hf : f { cls := .type "list", data := .seq its.toArray n } = { cls := .type "list", data := .seq its'.toArray n' }) (r : Vals ys its') (hz : ys.length ≤ sizeLine) (t : Nat) :
    Inv X pins σ (upd H p (.lst ys)) { s with heap := s.heap.update p f, toks := t } := by
  have e : (s.heap.update p f).get? p = some { cls := .type "list", data := .seq its'.toArray n' } := by
    rw [Heap.get?_update_self f ho (by rw [hf] <;> rfl), hf]
  refine I.write (x := p) (e := p) (by rw [h]; trivial) (.inl rfl) (fun b u hb q => (Heap.get?_update_other _ _ (Ne.symm hb)).trans q) ⟨_, e⟩ ?_
  exact ⟨hz, its', n', r, e⟩
def rSetL : V → V → V → Hp → (Hp → Prop) → Prop := fun o i v H Q => ∃ p xs k j, o = .ref p ∧ i = .int k ∧ H p = some (.lst xs) ∧ ixN xs.length k = some j ∧ Q (upd H p (.lst (xs.set j v)))
theorem set_list : PSet X rSetL := by
  intro pins s σ H o i v ov iv u Q I ro ri rv h
  obtain ⟨p, xs, k, j, rfl, rfl, hp, hj, q⟩ := h
  cases ro
  obtain ⟨t, rfl⟩ := ri
  obtain ⟨its, n, r, ho, hz⟩ := I.lst hp
  obtain ⟨h1, h2, h3, h4⟩ := ixN_seq hj
  have hl := r.length
  have hn := line63
  have I' : Inv X pins σ (upd H p (.lst (xs.set j v))) { s with heap := s.heap.update p (Obj.mapSeq (·.setIfInBounds j u)) } :=
    I.lstUpd hp ho (mapSeq_set its n j u) (r.set rv j) (by rw [List.length_set]; exact hz) s.toks
  by_cases h0 : 0 ≤ k
  · have hk : k.toNat = j := by
      rw [seqIndex_of h0 h4] at h1
      exact Option.some.inj h1
    exact PySem.W.ki_setAt ho h0 (by omega) (by rw [List.size_toArray, ← hl]; exact h4) (by rw [hk]; exact ⟨_, I', q⟩)
  · have hk : (k + (its.toArray.size : Int)).toNat = j := by
      rw [seqIndex_neg (by omega) h3] at h1
      rw [List.size_toArray, ← hl]
      exact Option.some.inj h1
    exact PySem.W.ki_setBack ho (by omega) (by rw [List.size_toArray, ← hl]; exact h3) (by omega) (by rw [hk]; exact ⟨_, I', q⟩)

/-! ### slices -/
theorem slice_bounds (lo hi : Option Int) (n : Nat) : (sliceBounds lo hi none n).1 = ((HT.sIx n 0 lo : Nat) : Int) ∧ (sliceBounds lo hi none n).2.1 = ((HT.sIx n n hi : Nat) : Int) ∧ (sliceBounds lo hi none n).2.2 = 1 := by
  refine ⟨?_, ?_, rfl⟩
  · cases lo with
    | none => simp [sliceBounds, HT.sIx]
    | some i =>
      simp only [sliceBounds, HT.sIx, Option.getD_none, show (1 : Int) > 0 by decide, if_true]
      by_cases h : i < 0
      · simp only [h, if_true] <;> omega
      · simp only [h, if_false] <;> omega
  · cases hi with
    | none => simp [sliceBounds, HT.sIx]
    | some i =>
      simp only [sliceBounds, HT.sIx, Option.getD_none, show (1 : Int) > 0 by decide, if_true]
      by_cases h : i < 0
      · simp only [h, if_true] <;> omega
      · simp only [h, if_false] <;> omega
theorem slicePick_cut (its : List Value) (lo hi : Option Int) : slicePick its.toArray lo hi none = ((its.drop (HT.sIx its.length 0 lo)).take (HT.sIx its.length its.length hi - HT.sIx its.length 0 lo)).toArray := by
  obtain ⟨h1, h2, h3⟩ := slice_bounds lo hi its.toArray.size
  unfold slicePick
  rw [h1, h2, h3]
  simp only [sliceRange_one, pick_run, List.size_toArray] <;> rfl
/-- xs[lo:hi] of a list: a new list -/
def rSlL (K : PySem.W.Frag) : V → Option Int → Option Int → Hp → VK → Prop := fun x lo hi H Q => ∃ a xs, x = .ref a ∧ SqL K H a xs ∧ ∀ p, H p = none → Q (.ref p) (upd H p (.lst (cutV xs lo hi)))
theorem sl_list : SlR X (rSlL X.K) := by
  intro pins s σ H x v vl vu lo hi sl Q I rx hs pl pu h
  obtain ⟨a, xs, rfl, hx, q⟩ := h
  cases rx
  obtain ⟨its, r, ht, hz⟩ := I.list hx
  have hlen := r.length
  refine ⟨"list", _, slot_list_getitem.lookup, ht.isList.typeIs, ?_⟩
  refine wpAny_getItem_list_slice ht.isList hs pl pu .none (by simp) ?_ (by rw [List.size_toArray] <;> omega)
  rw [slicePick_cut, ← hlen]
  refine ⟨.ref s.heap.objs.size, _, I.laid (t' := s.toks) (o := .lst (cutV xs lo hi)) (fun b ob q => Heap.get?_push_of_some _ q) (Nat.le_refl _) ?_, rfl, q _ (I.hok.fresh (Nat.le_refl _))⟩
  exact ⟨Nat.le_trans (cutV_length xs lo hi) hz, _, 0, (r.drop (HT.sIx xs.length 0 lo)).take (HT.sIx xs.length xs.length hi - HT.sIx xs.length 0 lo), Heap.get?_push_size _ rfl⟩

/-! ### in, not in: flat items -/
def flatV : V → Bool
  | .non => true
  | .bl _ => true
  | .int _ => true
  | .str _ => true
  | _ => false
/-- == of flat values -/
def eqV : V → V → Bool
  | .non, .non => true
  | .bl a, .bl b => a == b
  | .bl a, .int b => (if a then 1 else 0) == b
  | .int a, .bl b => a == (if b then 1 else 0)
  | .int a, .int b => a == b
  | .str a, .str b => a == b
  | _, _ => false
theorem eqAt_V {A : Around} {s : Shared} {y x : V} {u v : Value} (ry : RelV y u) (rx : RelV x v) (fy : flatV y = true) (fx : flatV x = true) : SeqAt.EqAt A s u v (eqV y x) := by
  cases y with
  | non =>
    cases ry
    cases x with
    | non => cases rx; exact SeqAt.EqAt.same _
    | bl b => cases rx; exact SeqAt.EqAt.none_bool b
    | int b => obtain ⟨t, rfl⟩ := rx; exact SeqAt.EqAt.none_int b t
    | str b => obtain ⟨t, rfl⟩ := rx; exact SeqAt.EqAt.none_str b t
    | _ => exact absurd (show false = true from fx) Bool.false_ne_true
  | bl a =>
    cases ry
    cases x with
    | non => cases rx; exact SeqAt.EqAt.bool_none a
    | bl b => cases rx; exact SeqAt.EqAt.bool_bool a b
    | int b => obtain ⟨t, rfl⟩ := rx; exact SeqAt.EqAt.bool_int a b t
    | str b => obtain ⟨t, rfl⟩ := rx; exact SeqAt.EqAt.bool_str a b t
    | _ => exact absurd (show false = true from fx) Bool.false_ne_true
  | int a =>
    obtain ⟨t', rfl⟩ := ry
    cases x with
    | non => cases rx; exact SeqAt.EqAt.int_none a t'
    | bl b => cases rx; exact SeqAt.EqAt.int_bool a t' b
    | int b => obtain ⟨t, rfl⟩ := rx; exact SeqAt.EqAt.int_int a t' b t
    | str b => obtain ⟨t, rfl⟩ := rx; exact SeqAt.EqAt.int_str a t' b t
    | _ => exact absurd (show false = true from fx) Bool.false_ne_true
  | str a =>
    obtain ⟨t', rfl⟩ := ry
    cases x with
    | non => cases rx; exact SeqAt.EqAt.str_none a t'
    | bl b => cases rx; exact SeqAt.EqAt.str_bool a t' b
    | int b => obtain ⟨t, rfl⟩ := rx; exact SeqAt.EqAt.str_int a t' b t
    | str b => obtain ⟨t, rfl⟩ := rx; exact SeqAt.EqAt.str_str a t' b t
    | _ => exact absurd (show false = true from fx) Bool.false_ne_true
  | _ => exact absurd (show false = true from fy) Bool.false_ne_true
/-- the items' answers, read off the values (a value's own answer does not lean on its token) -/
def eqU (x : V) (u : Value) : Bool := match u with
  | .none => eqV .non x
  | .bool b => eqV (.bl b) x
  | .int i _ => eqV (.int i) x
  | .str z _ => eqV (.str z) x
  | _ => false
theorem eqU_of {x y : V} {u : Value} (r : RelV y u) (f : flatV y = true) : eqU x u = eqV y x := by
  cases y with
  | non => cases r; rfl
  | bl b => cases r; rfl
  | int i => obtain ⟨t, rfl⟩ := r; rfl
  | str z => obtain ⟨t, rfl⟩ := r; rfl
  | _ => exact absurd (show false = true from f) Bool.false_ne_true
theorem any_eqU {x : V} : ∀ {xs : List V} {us : List Value}, Vals xs us → xs.all flatV = true → us.any (eqU x) = xs.any fun y => eqV y x
  | _, _, .nil, _ => rfl
  | y :: xs, u :: us, .cons r t, f => by
    rw [List.all_cons, Bool.and_eq_true] at f
    rw [List.any_cons, List.any_cons, eqU_of r f.1, any_eqU t f.2]
theorem mem_eqAt {A : Around} {s : Shared} {x : V} {v : Value} (rx : RelV x v) (fx : flatV x = true) : ∀ {xs : List V} {us : List Value}, Vals xs us → xs.all flatV = true → ∀ u ∈ us, SeqAt.EqAt A s u v (eqU x u)
  | _, _, .nil, _ => fun u hu => by cases hu
  | y :: xs, u :: us, .cons r t, f => fun u' hu => by
    rw [List.all_cons, Bool.and_eq_true] at f
    rcases List.mem_cons.mp hu with rfl | hu
    · rw [eqU_of r f.1]; exact eqAt_V r rx f.1 fx
    · exact mem_eqAt rx fx t f.2 u' hu
def inV (x : V) (xs : List V) : Bool := xs.any fun y => eqV y x
/-- x in a list or tuple of flat items -/
def rIn (K : PySem.W.Frag) (neg : Bool) : R2 := fun x y H Q => ∃ p xs, y = .ref p ∧ (SqL K H p xs ∨ SqT K H p xs) ∧ flatV x = true ∧ xs.all flatV = true ∧ Q (.bl (if neg then !inV x xs else inV x xs)) H
theorem op_in_seq : OpR X (compareOp .In) (rIn X.K false) := by
  intro pins s σ H x y v u Q I rx ry h
  obtain ⟨p, xs, rfl, hq, fx, fs, q⟩ := h
  cases ry
  rcases hq with hq | hq
  · obtain ⟨its, r, pl, hz⟩ := I.list hq
    refine SeqAt.in_listAt (eqU x) pl.isList (fun w hw => mem_eqAt rx fx r fs w (by simpa using hw)) ⟨.bl _, H, I, rfl, ?_⟩
    rw [show its.toArray.any (eqU x) = its.any (eqU x) by simp, any_eqU r fs]
    exact q
  · obtain ⟨its, r, pl, hz⟩ := I.tuple hq
    refine SeqAt.in_tupleAt (eqU x) pl (fun w hw => mem_eqAt rx fx r fs w (by simpa using hw)) ⟨.bl _, H, I, rfl, ?_⟩
    rw [show its.toArray.any (eqU x) = its.any (eqU x) by simp, any_eqU r fs]
    exact q
theorem op_notIn_seq : OpR X (compareOp .NotIn) (rIn X.K true) := by
  intro pins s σ H x y v u Q I rx ry h
  obtain ⟨p, xs, rfl, hq, fx, fs, q⟩ := h
  cases ry
  rcases hq with hq | hq
  · obtain ⟨its, r, pl, hz⟩ := I.list hq
    refine SeqAt.notIn_listAt (eqU x) pl.isList (fun w hw => mem_eqAt rx fx r fs w (by simpa using hw)) ⟨.bl _, H, I, rfl, ?_⟩
    rw [show its.toArray.any (eqU x) = its.any (eqU x) by simp, any_eqU r fs]
    exact q
  · obtain ⟨its, r, pl, hz⟩ := I.tuple hq
    refine SeqAt.notIn_tupleAt (eqU x) pl (fun w hw => mem_eqAt rx fx r fs w (by simpa using hw)) ⟨.bl _, H, I, rfl, ?_⟩
    rw [show its.toArray.any (eqU x) = its.any (eqU x) by simp, any_eqU r fs]
    exact q
theorem op_notIn_str : OpR X (compareOp .NotIn) (fun x y H Q => ∃ i j, x = .str i ∧ y = .str j ∧ Q (.bl (!(!(Builtin.Str.occurrences j i 0 j.length 1).isEmpty))) H) := by
  intro pins s σ H x y v u Q I rx ry h
  obtain ⟨i, j, rfl, rfl, q⟩ := h
  obtain ⟨t, rfl⟩ := rx
  obtain ⟨t', rfl⟩ := ry
  exact notIn_str ⟨.bl _, H, I, rfl, q⟩

/-! ### len, list(x), tuple(x) of any list or tuple that is read -/
theorem call_len_seq : CallR X (.builtin "len") (fun xs H Q => ∃ p ys, xs = [.ref p] ∧ (SqL X.K H p ys ∨ SqT X.K H p ys) ∧ Q (.int ys.length) H) := by
  intro pins s σ H xs us Q I r h
  obtain ⟨p, ys, rfl, hq, q⟩ := h
  obtain ⟨u, rfl, rx⟩ := vals1 r
  cases rx
  have hn := line63
  rcases hq with hq | hq
  · obtain ⟨its, r', pl, hz⟩ := I.list hq
    have hlen := r'.length
    exact Calls.call_len_list pl.isList (by simp only [List.size_toArray] <;> omega) ⟨.int ys.length, H, I.tok _, ⟨s.toks + 1, by rw [List.size_toArray, hlen]⟩, q⟩
  · obtain ⟨its, r', pl, hz⟩ := I.tuple hq
    have hlen := r'.length
    exact len_tuple pl (by simp only [List.size_toArray] <;> omega) ⟨.int ys.length, H, I.tok _, ⟨s.toks + 1, by rw [List.size_toArray, hlen]⟩, q⟩
theorem call_len_str : CallR X (.builtin "len") (fun xs H Q => ∃ z, xs = [.str z] ∧ z.length ≤ sizeLine ∧ Q (.int z.length) H) := by
  intro pins s σ H xs us Q I r h
  obtain ⟨z, rfl, hz, q⟩ := h
  obtain ⟨u, rfl, t, rfl⟩ := vals1 r
  have hn := line63
  exact len_str (by omega) ⟨.int z.length, H, I.tok _, ⟨_, rfl⟩, q⟩
theorem CallR.or {f : Value} {r r' : List V → Hp → VK → Prop} (h : CallR X f r) (h' : CallR X f r') : CallR X f (fun xs H Q => r xs H Q ∨ r' xs H Q) := by
  intro pins s σ H xs us Q I rs q
  rcases q with q | q
  · exact h pins s σ H xs us Q I rs q
  · exact h' pins s σ H xs us Q I rs q
theorem call_list_of : CallR X (.type "list") (fun xs H Q => ∃ p ys, xs = [.ref p] ∧ (SqL X.K H p ys ∨ SqT X.K H p ys) ∧ ∀ l, H l = none → Q (.ref l) (upd H l (.lst ys))) := by
  intro pins s σ H xs us Q I r h
  obtain ⟨p, ys, rfl, hq, q⟩ := h
  obtain ⟨u, rfl, rx⟩ := vals1 r
  cases rx
  have fin : ∀ (its : List Value), Vals ys its → ys.length ≤ sizeLine → ∀ (h' : Heap) (c' : Nat), (∀ b o', s.heap.get? b = some o' → h'.get? b = some o') →
      h'.get? s.heap.objs.size = some { cls := .type "list", dict := none, data := .seq its.toArray c', slots := #[] } → EP X pins σ Q (.ref s.heap.objs.size) { s with heap := h' } := fun its r' hz h' c' kp e =>
    ⟨.ref s.heap.objs.size, _, I.laid (t' := s.toks) kp (Nat.le_refl _) (show ObjOk X.prog X.w _ h' _ (.lst ys) from ⟨hz, its, c', r', e⟩), rfl, q _ (I.hok.fresh (Nat.le_refl _))⟩
  rcases hq with hq | hq
  · obtain ⟨its, r', pl, hz⟩ := I.list hq
    have hlen := r'.length
    obtain ⟨o, ho, hc, n, hd⟩ := pl.isList
    exact call_list_seq p (.inl rfl) ho hc hd (fun h' c' kp e => fin its r' hz h' c' kp e) (by simp only [List.size_toArray] <;> omega)
  · obtain ⟨its, r', pl, hz⟩ := I.tuple hq
    have hlen := r'.length
    obtain ⟨o, ho, hc, n, hd⟩ := pl
    exact call_list_seq p (.inr rfl) ho hc hd (fun h' c' kp e => fin its r' hz h' c' kp e) (by simp only [List.size_toArray] <;> omega)
theorem call_tuple_of : CallR X (.type "tuple") (fun xs H Q => ∃ p ys, xs = [.ref p] ∧ ((SqL X.K H p ys ∧ ∀ l, H l = none → Q (.ref l) (upd H l (.tup ys))) ∨ (SqT X.K H p ys ∧ Q (.ref p) H))) := by
  intro pins s σ H xs us Q I r h
  obtain ⟨p, ys, rfl, h⟩ := h
  obtain ⟨u, rfl, rx⟩ := vals1 r
  cases rx
  rcases h with ⟨hq, q⟩ | ⟨hq, q⟩
  · obtain ⟨its, r', pl, hz⟩ := I.list hq
    have hlen := r'.length
    refine call_tuple_list pl.isList (fun h' kp => ?_) (by simp only [List.size_toArray] <;> omega)
    have I1 : Inv X pins σ H { s with heap := h' } := I.kept (t' := s.toks) kp
    have I2 : Inv X pins σ (upd H h'.objs.size (.tup ys)) { s with heap := h'.push { cls := .type "tuple", data := .seq its.toArray } } :=
      I1.laid (t' := s.toks) (fun b o e => Heap.get?_push_of_some _ e) (Nat.le_refl _) (show ObjOk X.prog X.w _ _ _ (.tup ys) from ⟨hz, its, r', IsTup.new _ _⟩)
    exact ⟨.ref h'.objs.size, _, I2, rfl, q _ (I1.hok.fresh (Nat.le_refl _))⟩
  · obtain ⟨its, r', pl, hz⟩ := I.tuple hq
    exact call_tuple_same pl ⟨.ref p, H, I, rfl, q⟩

/-! ### the call of a builtin's method: o.m(..) -/
/-- the value is of that builtin type -/
def tyV (K : PySem.W.Frag) (T : String) (x : V) (H : Hp) : Prop := match x with
  | .str _ => T = "str"
  | .int _ => T = "int"
  | .ref p => (T = "list" ∧ ∃ xs, SqL K H p xs) ∨ (T = "tuple" ∧ ∃ o, K.lookup p = some o ∧ o.cls = .type "tuple" ∧ o.dict = none) ∨
      (T = "dict" ∧ ((∃ kvs, H p = some (.dK kvs)) ∨ ∃ kvs, H p = some (.dT kvs))) ∨ (T = "set" ∧ ∃ S n, H p = some (.set S n))
  | _ => False
theorem tyV_is {pins : List (Addr × Obj)} {σ : St} {H : Hp} {s : Shared} {T : String} {x : V} {v : Value} (I : Inv X pins σ H s) (r : RelV x v) (ty : tyV X.K T x H) :
    s.TypeIs v T ∧ ∀ a, v = .ref a → ∃ ob, s.heap.get? a = some ob ∧ ob.dict = none := by
  cases x with
  | str z =>
    obtain ⟨t, rfl⟩ := r
    cases (show T = "str" from ty)
    exact ⟨typeIs_str s z t, fun _ e => nomatch e⟩
  | int i =>
    obtain ⟨t, rfl⟩ := r
    cases (show T = "int" from ty)
    exact ⟨typeIs_int s i t, fun _ e => nomatch e⟩
  | ref p =>
    cases r
    rcases ty with ⟨rfl, xs, hq⟩ | ⟨rfl, o, hk, hc, hd⟩ | ⟨rfl, hk⟩ | ⟨rfl, S, n, hk⟩
    · obtain ⟨its, _, pl, _⟩ := I.list hq
      refine ⟨pl.isList.typeIs, fun a e => ?_⟩
      cases e
      obtain ⟨o, n, e, c, hd, _⟩ := pl
      exact ⟨o, e, hd⟩
    · refine ⟨⟨o, I.kIn p o hk, hc⟩, fun a e => ?_⟩
      cases e
      exact ⟨o, I.kIn _ o hk, hd⟩
    · have z : ∃ o, s.heap.get? p = some o ∧ o.ExactDict := by
        rcases hk with ⟨kvs, hk⟩ | ⟨kvs, hk⟩
        · obtain ⟨_, _, _, _, o, _, _, e, ex, _⟩ := I.hok p _ hk
          exact ⟨o, e, ex⟩
        · obtain ⟨_, _, _, _, o, _, _, e, ex, _⟩ := I.hok p _ hk
          exact ⟨o, e, ex⟩
      obtain ⟨o, e, ex⟩ := z
      refine ⟨⟨o, e, ex.1⟩, fun a e2 => ?_⟩
      cases e2
      exact ⟨o, e, ex.2.1⟩
    · obtain ⟨o, _, _, _, e, ex, _⟩ := I.hok p _ hk
      refine ⟨⟨o, e, ex.1⟩, fun a e2 => ?_⟩
      cases e2
      exact ⟨o, e, ex.2.1⟩
  | _ => exact False.elim ty
def tBM0 (K : PySem.W.Frag) (T : String) (r : V → List V → Hp → VK → Prop) (to : TE) : TE := fun σ H Q => to σ H fun x H1 => tyV K T x H1 ∧ r x [] H1 Q
def tBM (K : PySem.W.Frag) (T : String) (r : V → List V → Hp → VK → Prop) (to : TE) (t : TA) : TE := fun σ H Q => to σ H fun x H1 => tyV K T x H1 ∧ t σ H1 fun xs H2 => r x xs H2 Q
variable {o e : Expr} {es : List Expr} {to : TE} {t : TA} {name : Str} {apos cpos : Pos} {T id : String} {r : V → List V → Hp → VK → Prop}
theorem pe_bm0 (pa : PlainAttrs T) (slot : Slot T name id) (hty : typeOf (.builtin id) = pure (.type "method_descriptor")) (hm : MtR X id r) (ho : PE X o to)
    (hbase : attributeBase o name X.env (eval o X.env) = eval o X.env := by rfl) (hline : (apos.endLine == cpos.line) = true := by rfl) : PE X (.Call (.Attribute o name apos) [] [] cpos) (tBM0 X.K T r to) := by
  intro pins s σ H Q I h
  refine wpAny_Call_method0_late hbase hline (thn (ho pins s σ H _ I h) fun v s1 ⟨x, H1, I1, r1, ty, q1⟩ => ?_)
  obtain ⟨h1, h2⟩ := tyV_is I1 r1 ty
  exact ⟨T, id, pa, slot, hty, h1, h2, Calls.callWith_builtin rfl (PySem.evalArgs_none (hm pins s1 σ H1 x [] v [] Q I1 r1 .nil q1))⟩
theorem pe_bm (pa : PlainAttrs T) (slot : Slot T name id) (hty : typeOf (.builtin id) = pure (.type "method_descriptor")) (hm : MtR X id r) (ho : PE X o to) (ha : PA X (e :: es) t)
    (hbase : attributeBase o name X.env (eval o X.env) = eval o X.env := by rfl)
    (hfew : ((backTo cpos (starEach (e :: es) X.env)).all (fun x => !x.1) && (backToKw cpos (keywordEach [] X.env)).all (fun x => x.1.isSome)
      && decide ((e :: es).length + ([] : List Keyword).length + (if ([] : List Keyword).isEmpty then 0 else 1) < 30)) = true := by rfl)
    (hline : (apos.endLine == cpos.line) = true := by rfl) (hs : starEach (e :: es) X.env = (false, eval e X.env) :: starEach es X.env := by rfl) (hplain : (backTo cpos (starEach es X.env)).any (·.1) = false := by rfl) :
    PE X (.Call (.Attribute o name apos) (e :: es) [] cpos) (tBM X.K T r to t) := by
  intro pins s σ H Q I h
  refine wpAny_Call_method_late hbase hfew hline rfl (thn (ho pins s σ H _ I h) fun v s1 ⟨x, H1, I1, r1, ty, q1⟩ => ?_)
  obtain ⟨h1, h2⟩ := tyV_is I1 r1 ty
  refine ⟨T, id, pa, slot, hty, h1, h2, ?_⟩
  have hA := ha cpos pins s1 σ H1 _ I1 q1
  rw [hs] at hA ⊢
  refine Calls.callWith_builtin (by show (false || (backTo cpos (starEach es X.env)).any (·.1)) = false; rw [hplain] <;> rfl) (Calls.evalArgs_plain ?_)
  exact thn hA fun us s2 ⟨vs, H2, I2, r2, q2⟩ => hm pins s2 σ H2 x vs v us Q I2 r1 r2 q2
/- xs.append(e), list.index on a module's tuple .. are MtR facts of 06m -/
end
end L2

namespace L2
open PySem PySem.Spec PyProof.Rows

def MtM (X : Cx) (id : String) (r : V → List V → Hp → VK → Prop) : Prop :=
  ∀ (pins : List (Addr × Obj)) (s : Shared) (σ : St) (H : Hp) (x : V) (xs : List V) (v : Value) (us : List Value) (Q : VK), Inv X pins σ H s → RelV x v → Vals xs us → r x xs H Q →
    wpAny (model X.prog X.w) X.A (call (.builtin id) (v :: us)) (EP X pins σ Q) X.xe s

/-! ### lists of values -/
theorem Vals.one : ∀ {x : V} {us : List Value}, Vals [x] us → ∃ u, us = [u] ∧ RelV x u
  | _, _, .cons r .nil => ⟨_, rfl, r⟩
theorem Vals.two : ∀ {x y : V} {us : List Value}, Vals [x, y] us → ∃ u v, us = [u, v] ∧ RelV x u ∧ RelV y v
  | _, _, _, .cons r (.cons q .nil) => ⟨_, _, rfl, r, q⟩
theorem Vals.zero : ∀ {us : List Value}, Vals [] us → us = []
  | _, .nil => rfl
theorem Vals.dropLast {xs : List V} {us : List Value} (h : Vals xs us) : Vals xs.dropLast us.dropLast := by
  induction h with
  | nil => exact .nil
  | cons r t ih =>
    cases t with
    | nil => exact .nil
    | cons q t' => exact .cons r ih
theorem Vals.eraseIdx : ∀ {xs : List V} {us : List Value} (i : Nat), Vals xs us → Vals (xs.eraseIdx i) (us.eraseIdx i)
  | _, _, _, .nil => .nil
  | _, _, 0, .cons _ t => t
  | _, _, i + 1, .cons r t => .cons r (Vals.eraseIdx i t)
theorem Vals.reverse {xs : List V} {us : List Value} (h : Vals xs us) : Vals xs.reverse us.reverse := by
  induction h with
  | nil => exact .nil
  | cons r t ih => rw [List.reverse_cons, List.reverse_cons]; exact Vals.append ih (.cons r .nil)
theorem Vals.rep {xs : List V} {us : List Value} (h : Vals xs us) : ∀ k : Nat, Vals (List.replicate k xs).flatten (List.replicate k us).flatten
  | 0 => .nil
  | k + 1 => by
    rw [List.replicate_succ, List.replicate_succ, List.flatten_cons, List.flatten_cons]
    exact Vals.append h (Vals.rep h k)
theorem erase_last {α : Type} (l : List α) : l.eraseIdx (l.length - 1) = l.dropLast := by
  induction l with
  | nil => rfl
  | cons a r ih =>
    cases r with
    | nil => rfl
    | cons b r =>
      have e : (a :: b :: r).length - 1 = ((b :: r).length - 1) + 1 := by
        have h1 : (a :: b :: r).length = r.length + 2 := rfl
        have h2 : (b :: r).length = r.length + 1 := rfl
        omega
      rw [e, List.eraseIdx_cons_succ, ih]
      all_goals rfl
theorem len_erase {α : Type} : ∀ (l : List α) (i : Nat), (l.eraseIdx i).length ≤ l.length
  | [], _ => Nat.le_refl _
  | _ :: _, 0 => Nat.le_succ _
  | _ :: r, i + 1 => Nat.succ_le_succ (len_erase r i)
theorem foldl_rep (its : List Value) : ∀ (k : Nat) (acc : List Value),
    List.foldl (fun x1 x2 => x1 ++ x2) acc.toArray (List.replicate k its.toArray) = (acc ++ (List.replicate k its).flatten).toArray
  | 0, acc => by simp
  | k + 1, acc => by
    have e : acc.toArray ++ its.toArray = (acc ++ its).toArray := by simp
    have e2 : (acc ++ its) ++ (List.replicate k its).flatten = acc ++ (List.replicate (k + 1) its).flatten := by
      rw [List.replicate_succ, List.flatten_cons, List.append_assoc]
    rw [← e2, ← foldl_rep its k (acc ++ its), ← e, List.replicate_succ, List.foldl_cons]

section
variable {X : Cx} {pins : List (Addr × Obj)} {σ : St} {H : Hp} {s : Shared} {l b : Addr} {xs ys zs : List V}

/-! ### the two steps: a tracked list is rewritten, a new list is laid -/
theorem Inv.lset {its its' : List Value} {n : Nat} {f : Array Value → Array Value} {t' : Nat} (I : Inv X pins σ H s) (hH : H l = some (.lst xs))
    (e : s.heap.get? l = some { cls := .type "list", data := .seq its.toArray n }) (hf : f its.toArray = its'.toArray) (hv : Vals ys its') (hz : ys.length ≤ sizeLine) :
    Inv X pins σ (upd H l (.lst ys)) { s with heap := s.heap.update l (Obj.mapSeq f), toks := t' } := by
  have q := PySem.IsL.update e f
  rw [hf] at q
  refine I.write (x := l) (e := l) (by rw [hH]; exact trivial) (.inl rfl) (fun b' u hb hu => (Heap.get?_update_other s.heap (Obj.mapSeq f) (Ne.symm hb)).trans hu) ⟨_, q⟩ ?_
  exact ⟨hz, its', _, hv, q⟩
theorem Inv.lnew {its : List Value} {t' : Nat} (I : Inv X pins σ H s) (hv : Vals ys its) (hz : ys.length ≤ sizeLine) :
    Inv X pins σ (upd H s.heap.objs.size (.lst ys)) { s with heap := s.heap.push { cls := .type "list", data := .seq its.toArray }, toks := t' } :=
  I.laid (fun _ _ q => Heap.get?_push_of_some _ q) (Nat.le_refl _) ⟨hz, its, 0, hv, Heap.get?_push_size _ rfl⟩
theorem Inv.fresh (I : Inv X pins σ H s) : H s.heap.objs.size = none := I.hok.fresh (Nat.le_refl _)
theorem Inv.lstM (I : Inv X pins σ H s) (hH : H l = some (.lst xs)) : xs.length ≤ sizeLine ∧ ∃ (its : List Value) (n : Nat), Vals xs its ∧ xs.length = its.length ∧ s.heap.get? l = some { cls := .type "list", data := .seq its.toArray n } := by
  obtain ⟨z, its, n, r, e⟩ := I.hok l _ hH
  exact ⟨z, its, n, r, r.length, e⟩

theorem notLongL {n : Nat} (h : n ≤ sizeLine) : Builtin.List.listTooLong n = false := by
  unfold Builtin.List.listTooLong
  exact decide_eq_false (by omega)
end

section
variable {X : Cx}

/-! ### methods -/
def rAppend : V → List V → Hp → VK → Prop := fun x vs H Q => ∃ l xs y, x = .ref l ∧ vs = [y] ∧ H l = some (.lst xs) ∧ xs.length < sizeLine ∧ Q .non (upd H l (.lst (xs ++ [y])))
theorem mt_append : MtM X "list.append" rAppend := by
  intro pins s σ H x vs v us Q I rx rv h
  obtain ⟨l, xs, y, rfl, rfl, hH, hz, q⟩ := h
  cases rx
  obtain ⟨u, rfl, ru⟩ := rv.one
  obtain ⟨z, its, n, r, hl, e⟩ := I.lstM hH
  refine call_meets F.slot_list_append ⟨_, e, rfl⟩ F.entry_list_append (F.args_list_append_2 _ _) (PySem.list_append l its.toArray n u (by rw [List.size_toArray]; omega)) ⟨e, ?_⟩
  refine ⟨.non, _, I.lset (its' := its ++ [u]) hH e (by simp) (r.append (.cons ru .nil)) ?_, rfl, q⟩
  rw [List.length_append, List.length_singleton]
  omega

def rExtend : V → List V → Hp → VK → Prop := fun x vs H Q => ∃ l b xs zs, x = .ref l ∧ vs = [.ref b] ∧ H l = some (.lst xs) ∧ H b = some (.lst zs) ∧ xs.length + zs.length ≤ sizeLine ∧ Q .non (upd H l (.lst (xs ++ zs)))
theorem mt_extend : MtM X "list.extend" rExtend := by
  intro pins s σ H x vs v us Q I rx rv h
  obtain ⟨l, b, xs, zs, rfl, rfl, hH, hB, hz, q⟩ := h
  cases rx
  obtain ⟨u, rfl, ru⟩ := rv.one
  cases ru
  obtain ⟨z, its, n, r, hl, e⟩ := I.lstM hH
  obtain ⟨z2, its2, n2, r2, hl2, e2⟩ := I.lstM hB
  have hsz : its.toArray.size + its2.toArray.size ≤ sizeLine := by rw [List.size_toArray, List.size_toArray]; omega
  have hlong : ¬ (!its.toArray.isEmpty && Builtin.List.listTooLong (its.toArray.size + its2.toArray.size)) = true := by
    rw [notLongL hsz, Bool.and_false]
    exact Bool.false_ne_true
  refine call_meets F.slot_list_extend ⟨_, e, rfl⟩ F.entry_list_extend (F.args_list_extend_2 _ _)
    (AutoSeq1.list_extend_list_list_0 l its.toArray n b its2.toArray n2 hlong (by rw [List.size_toArray]; omega) (by omega)) ⟨e, e2, ?_⟩
  refine ⟨.non, _, I.lset (its' := its ++ its2) hH e (by simp) (r.append r2) ?_, rfl, q⟩
  rw [List.length_append]
  omega

def rPop : V → List V → Hp → VK → Prop := fun x vs H Q => ∃ l xs y, x = .ref l ∧ vs = [] ∧ H l = some (.lst xs) ∧ xs[xs.length - 1]? = some y ∧ Q y (upd H l (.lst xs.dropLast))
theorem mt_pop : MtM X "list.pop" rPop := by
  intro pins s σ H x vs v us Q I rx rv h
  obtain ⟨l, xs, y, rfl, rfl, hH, hy, q⟩ := h
  cases rx
  have hus := rv.zero
  subst hus
  obtain ⟨z, its, n, r, hl, e⟩ := I.lstM hH
  obtain ⟨u, hu, ru⟩ := r.get hy
  have hy' : its.toArray[its.toArray.size - 1]? = some u := by
    show its.toArray[its.length - 1]? = some u
    rw [← Array.getElem?_toList, ← hl]
    exact hu
  refine call_meets F.slot_list_pop ⟨_, e, rfl⟩ F.entry_list_pop (F.args_list_pop_1 _) (MeetsSeq.list_pop_last l its.toArray n u hy' (by rw [List.size_toArray]; omega)) ⟨e, ?_⟩
  refine ⟨y, _, I.lset (its' := its.dropLast) hH e ?_ r.dropLast ?_, ru, q⟩
  · show its.toArray.eraseIdxIfInBounds (its.toArray.size - 1) = its.dropLast.toArray
    rw [List.size_toArray, List.eraseIdxIfInBounds_toArray, erase_last]
  · rw [List.length_dropLast]
    omega

def rPopAt : V → List V → Hp → VK → Prop := fun x vs H Q => ∃ l xs i k y, x = .ref l ∧ vs = [.int i] ∧ H l = some (.lst xs) ∧ -(2 ^ 63) ≤ i ∧ i < 2 ^ 63 ∧ seqIndex? i xs.length = some k ∧ xs[k]? = some y ∧ Q y (upd H l (.lst (xs.eraseIdx k)))
theorem mt_popAt : MtM X "list.pop" rPopAt := by
  intro pins s σ H x vs v us Q I rx rv h
  obtain ⟨l, xs, i, k, y, rfl, rfl, hH, h1, h2, hk, hy, q⟩ := h
  cases rx
  obtain ⟨u, rfl, ru⟩ := rv.one
  obtain ⟨t, rfl⟩ := ru
  obtain ⟨z, its, n, r, hl, e⟩ := I.lstM hH
  obtain ⟨w, hw, rw'⟩ := r.get hy
  refine call_meets F.slot_list_pop ⟨_, e, rfl⟩ F.entry_list_pop (F.args_list_pop_2 _ _)
    (MeetsSeq.list_pop_at l its.toArray n i t k w (fitsIndex_both h1 h2) (by rw [List.size_toArray, ← hl]; exact hk) (by rw [← Array.getElem?_toList]; exact hw) (by rw [List.size_toArray]; omega)) ⟨e, ?_⟩
  refine ⟨y, _, I.lset (its' := its.eraseIdx k) hH e ?_ (r.eraseIdx k) ?_, rw', q⟩
  · show its.toArray.eraseIdxIfInBounds k = (its.eraseIdx k).toArray
    rw [List.eraseIdxIfInBounds_toArray]
  · have := len_erase xs k
    omega

def rReverse : V → List V → Hp → VK → Prop := fun x vs H Q => ∃ l xs, x = .ref l ∧ vs = [] ∧ H l = some (.lst xs) ∧ Q .non (upd H l (.lst xs.reverse))
theorem mt_reverse : MtM X "list.reverse" rReverse := by
  intro pins s σ H x vs v us Q I rx rv h
  obtain ⟨l, xs, rfl, rfl, hH, q⟩ := h
  cases rx
  have hus := rv.zero
  subst hus
  obtain ⟨z, its, n, r, hl, e⟩ := I.lstM hH
  refine call_meets F.slot_list_reverse ⟨_, e, rfl⟩ F.entry_list_reverse (F.args_list_reverse_1 _) (AutoSeq1.list_reverse_list_0 l its.toArray n (by rw [List.size_toArray]; omega)) ⟨e, ?_⟩
  refine ⟨.non, _, I.lset (its' := its.reverse) hH e (by simp) r.reverse ?_, rfl, q⟩
  rw [List.length_reverse]
  omega

def rClear : V → List V → Hp → VK → Prop := fun x vs H Q => ∃ l xs, x = .ref l ∧ vs = [] ∧ H l = some (.lst xs) ∧ Q .non (upd H l (.lst []))
theorem mt_clear : MtM X "list.clear" rClear := by
  intro pins s σ H x vs v us Q I rx rv h
  obtain ⟨l, xs, rfl, rfl, hH, q⟩ := h
  cases rx
  have hus := rv.zero
  subst hus
  obtain ⟨z, its, n, r, hl, e⟩ := I.lstM hH
  refine call_meets F.slot_list_clear ⟨_, e, rfl⟩ F.entry_list_clear (F.args_list_clear_1 _) (AutoSeq1.list_clear_list_0 l its.toArray n (by rw [List.size_toArray]; omega)) ⟨e, ?_⟩
  exact ⟨.non, _, I.lset (its' := []) (ys := []) hH e rfl .nil (Nat.zero_le _), rfl, q⟩

/-! ### list + list, list += list, list * int -/
def rCat : R2 := fun x y H Q => ∃ l b xs zs, x = .ref l ∧ y = .ref b ∧ H l = some (.lst xs) ∧ H b = some (.lst zs) ∧ xs.length + zs.length ≤ sizeLine ∧ ∀ p, H p = none → Q (.ref p) (upd H p (.lst (xs ++ zs)))
theorem op_cat : OpR X (binaryOp .Add) rCat := by
  intro pins s σ H x y v u Q I rx ry h
  obtain ⟨l, b, xs, zs, rfl, rfl, hH, hB, hz, q⟩ := h
  cases rx
  cases ry
  obtain ⟨z, its, n, r, hl, e⟩ := I.lstM hH
  obtain ⟨z2, its2, n2, r2, hl2, e2⟩ := I.lstM hB
  refine PySem.P.add_list e e2 ?_ (by rw [List.size_toArray, List.size_toArray]; omega)
  have ea : its.toArray ++ its2.toArray = (its ++ its2).toArray := by simp
  rw [ea]
  exact ⟨.ref _, _, I.lnew (t' := s.toks) (r.append r2) (by rw [List.length_append]; omega), rfl, q _ I.fresh⟩
/-- a list times an int (a negative one is nothing) -/
def rRep : R2 := fun x y H Q => ∃ l k xs, x = .ref l ∧ y = .int k ∧ H l = some (.lst xs) ∧ -(2 ^ 63) ≤ k ∧ k < 2 ^ 63 ∧ xs.length * k.toNat ≤ sizeLine ∧
  ∀ p, H p = none → Q (.ref p) (upd H p (.lst (List.replicate k.toNat xs).flatten))
theorem len_rep {α : Type} (xs : List α) (k : Nat) : (List.replicate k xs).flatten.length = k * xs.length := by
  induction k with
  | zero => simp
  | succ k ih => rw [List.replicate_succ, List.flatten_cons, List.length_append, ih, Nat.succ_mul, Nat.add_comm]
theorem op_rep : OpR X (binaryOp .Mult) rRep := by
  intro pins s σ H x y v u Q I rx ry h
  obtain ⟨l, k, xs, rfl, rfl, hH, h1, h2, hz, q⟩ := h
  cases rx
  obtain ⟨t, rfl⟩ := ry
  obtain ⟨z, its, n, r, hl, e⟩ := I.lstM hH
  have hlen : its.toArray.size * k.toNat ≤ sizeLine := by rw [List.size_toArray, ← hl]; exact hz
  have hcap : ¬ its.toArray.size * k.toNat > (2 ^ 63 - 1) / 8 := by
    have : (sizeLine : Nat) ≤ (2 ^ 63 - 1) / 8 := by decide
    omega
  have hfit : ¬ (!Builtin.List.listFitsIndex k) = true := by
    rw [fitsIndex_both h1 h2]
    exact Bool.false_ne_true
  have hlong : ¬ Builtin.List.listTooLong (its.toArray.size * k.toNat) = true := by
    rw [notLongL hlen]
    exact Bool.false_ne_true
  have hnew : List.foldl (fun x1 x2 => x1 ++ x2) #[] (List.replicate (if its.toArray.isEmpty = true then 0 else k.toNat) its.toArray) = (List.replicate k.toNat its).flatten.toArray := by
    have f0 : ∀ m : Nat, List.foldl (fun x1 x2 => x1 ++ x2) #[] (List.replicate m its.toArray) = (List.replicate m its).flatten.toArray := fun m => by
      have := foldl_rep its m []
      rw [List.nil_append] at this
      exact this
    rw [f0]
    cases its with
    | nil => simp
    | cons a r' => rw [if_neg (by simp)]
  refine wpAny_binaryOp_repeat_ref (T := "list") (U := "int") (by decide) ⟨_, e, rfl⟩ (fun s' => typeIs_int s' k t) noFill_list_mul F.fills_int_mul F.slot_int_rmul repeat_list F.slot_int_index.lookup
    (call_meets F.slot_int_rmul (typeIs_int s k t) F.entry_int_rmul (F.args_int_rmul_2 _ _) (int___rmul___int_list k t l its.toArray n)
      ⟨e, rfl, ⟨_, e, rfl⟩, call_meets F.slot_list_mul ⟨_, e, rfl⟩ F.entry_list_mul (F.args_list_mul_2 _ _) (AutoListH.list___mul___list_int_3 l its.toArray n k t hfit hcap hlong) ⟨e, ?_⟩⟩)
  rw [hnew]
  exact ⟨.ref _, _, I.lnew (t' := s.toks) (r.rep k.toNat) (by rw [len_rep, Nat.mul_comm]; exact hz), rfl, q _ I.fresh⟩

/-! ### del xs[i] -/
theorem del_list {pins : List (Addr × Obj)} {s : Shared} {σ : St} {H : Hp} {l : Addr} {xs : List V} {i : Int} {t : Tok} {k : Nat} {Q : Unit → Shared → Prop} (I : Inv X pins σ H s) (hH : H l = some (.lst xs))
    (h1 : -(2 ^ 63) ≤ i) (h2 : i < 2 ^ 63) (hk : seqIndex? i xs.length = some k) (h : ∀ s', Inv X pins σ (upd H l (.lst (xs.eraseIdx k))) s' → Q () s') :
    wpAny (model X.prog X.w) X.A (delItem (.ref l) (.int i t)) Q X.xe s := by
  obtain ⟨z, its, n, r, hl, e⟩ := I.lstM hH
  refine PySem.P.delItem_list (k := k) e (fitsIndex_both h1 h2) (by rw [List.size_toArray, ← hl]; exact hk) (h _ ?_) (by rw [List.size_toArray]; omega)
  refine I.lset (its' := its.eraseIdx k) (t' := s.toks) hH e ?_ (r.eraseIdx k) ?_
  · show its.toArray.eraseIdxIfInBounds k = (its.eraseIdx k).toArray
    rw [List.eraseIdxIfInBounds_toArray]
  · have := len_erase xs k
    omega
end

/-! ### xs[a:b] = ys -/
section
variable {prog : Program} {w : World} {A : Around} {E : Value → Shared → Prop} {s : Shared}
theorem splice_eq (its its2 : List Value) (a c : Nat) : its.toArray.extract 0 a ++ its2.toArray ++ its.toArray.extract c its.toArray.size = (its.take a ++ its2 ++ its.drop c).toArray := by
  apply Array.toList_inj.mp
  first
    | (simp
       exact List.take_of_length_le (by simp))
    | simp [List.take_of_length_le]
    | simp
theorem bounds_run {a c n : Nat} (hac : a ≤ c) (hc : c ≤ n) : sliceBounds (some (a : Int)) (some (c : Int)) none n = ((a : Int), (c : Int), 1) := by
  simp only [sliceBounds, Option.getD_none]
  have h1 : ¬ ((a : Int) < 0) := by omega
  have h2 : ¬ ((c : Int) < 0) := by omega
  simp only [h1, h2, if_false, show (1 : Int) > 0 by decide, if_true]
  congr 1
  · omega
  · congr 1; omega
set_option maxRecDepth 100000 in
/-- list.__setitem__ with a slice of step one and another list -/
theorem setItem_slice {l b sl : Addr} {items new : Array Value} {n n2 : Nat} {vl vu : Value} {a c : Nat} {Q : Unit → Shared → Prop}
    (e : s.heap.get? l = some { cls := .type "list", data := .seq items n }) (e2 : s.heap.get? b = some { cls := .type "list", data := .seq new n2 }) (hne : l ≠ b)
    (hs : s.heap.IsSliceOf sl vl vu .none) (pl : IsPart vl (some (a : Int))) (pu : IsPart vu (some (c : Int))) (hac : a ≤ c) (hc : c ≤ items.size)
    (hsz : items.size + new.size ≤ sizeLine) (h : Q () { s with heap := s.heap.update l (Obj.mapSeq fun xs => xs.extract 0 a ++ new ++ xs.extract c xs.size) }) :
    wpAny (model prog w) A (setItem (.ref l) (.ref sl) (.ref b)) Q E s := by
  have hl : s.heap.IsList l items := PySem.IsL.isList e
  have hb : s.heap.IsList b new := PySem.IsL.isList e2
  obtain ⟨os, hos, hcs, hds⟩ := id hs
  have hTs : s.TypeIs (.ref sl) "slice" := ⟨os, hos, hcs⟩
  have hstep : ¬ ((rawPart none == rawInt 0) = true) := Bool.false_ne_true
  have hsame : Builtin.List.listSameRef (.ref l) (.ref b) = false := by
    unfold Builtin.List.listSameRef
    exact beq_eq_false_iff_ne.mpr hne
  have hmax : (max (a : Int) (c : Int)).toNat = c := by omega
  have hz' : ((fun xs : Array Value => xs.extract 0 a ++ new ++ xs.extract c xs.size) items).size ≤ sizeLine + 1 := by
    simp only [Array.size_append, Array.size_extract]
    omega
  unfold setItem
  try with_reducible refine wpAny_holding ?_
  first | refine wpAny_bind (wpAny_pure ?_) | skip
  refine wpAny_bind (wpAny_sequenceKey hl.typeIs (by decide) ?_)
  refine wpAny_bind (wpAny_callSpecial?_slot (name := Str.ofString "__setitem__") hl.typeIs slot_list_setitem
    (wpAny_call_entry slot_list_setitem hl.typeIs entry_list_setitem ?_ (args_list_setitem _ _ _)))
  show wpAny _ _ (Builtin.List.listSubscript? (.ref sl) >>= _) _ _ s
  refine wpAny_bind ?_
  unfold Builtin.List.listSubscript?
  refine wpAny_bind (wpAny_specialOf hTs slice_no_index ?_)
  simp only [Option.isNone_none, if_true]
  refine wpAny_pure ?_
  show wpAny _ _ (typeOf (.ref sl) >>= _) _ _ s
  refine wpAny_bind (wpAny_typeOf hTs ?_)
  first
    | rw [if_neg (by decide)]
    | refine PySem.W.KFB.if_not (by decide) ?_
  rw [listSliceParts_eq]
  refine wpAny_bind (wpAny_bind (wpAny_field hos hds (x := .none) rfl (wpAny_bind (wpAny_listPart .none ?_))))
  rw [if_neg hstep]
  refine wpAny_bind (wpAny_field hos hds (x := vl) rfl (wpAny_bind (wpAny_listPart pl ?_)))
  refine wpAny_bind (wpAny_field hos hds (x := vu) rfl (wpAny_bind (wpAny_listPart pu (wpAny_pure ?_))))
  first
    | simp only [hsame, Bool.false_eq_true, if_false]
    | refine PySem.W.KFB.if_not hsame ?_
    | (dsimp only
       rw [if_neg (by rw [hsame]; exact Bool.false_ne_true)])
  refine wpAny_bind (m := Builtin.List.listAllItems (.ref b) "must assign iterable to extended slice") ?_
  unfold Builtin.List.listAllItems
  refine wpAny_bind (wpAny_typeOf hb.typeIs ?_)
  first
    | refine PySem.W.KFB.if_so (by decide) ?_
    | rw [if_pos (by decide)]
    | simp only [beq_self_eq_true, Bool.true_or, if_true]
  unfold Builtin.List.listItems
  refine wpAny_bind (wpAny_seqItems e2 rfl (wpAny_pure ?_))
  refine wpAny_bind (wpAny_bind (wpAny_seqItems e rfl (wpAny_pure ?_)))
  refine wpAny_bind (wpAny_of_eq ((sliceIndices_raw (some (a : Int)) (some (c : Int)) none items.size (by simp)).trans (congrArg (pure : Int × Int × Int → Sem (Int × Int × Int)) (bounds_run hac hc))) ?_)
  show wpAny _ _ (if ((1 : Int) == 1) = true then _ else _) _ _ s
  rw [if_pos (by decide)]
  refine wpAny_bind (wpAny_rule ?_)
  first
    | simp only [notLongL hsz, Bool.false_eq_true, if_false]
    | refine PySem.W.KFB.if_not (notLongL hsz) ?_
  first | refine wpAny_bind (wpAny_pure ?_) | skip
  show wpAny _ _ (updateSeq l (fun xs => xs.extract 0 ((a : Int)).toNat ++ new ++ xs.extract (max (a : Int) (c : Int)).toNat xs.size) >>= _) _ _ s
  rw [hmax, Int.toNat_natCast]
  refine wpAny_bind (wpAny_updateSeq (hz := Nat.le_trans (Nat.le_add_right _ _) hsz) (_hz' := hz') e rfl ?_)
  refine wpAny_bind (wpAny_letGo ?_)
  first
    | exact wpAny_bind (wpAny_pure (wpAny_pure ⟨.none, rfl, wpAny_pure h⟩))
    | exact wpAny_pure ⟨.none, rfl, wpAny_pure h⟩
end

section
variable {X : Cx}
/-- xs[a:c] = ys of another list, at the value level: sl is the slice object that was just made -/
theorem set_slice {pins : List (Addr × Obj)} {s : Shared} {σ : St} {H : Hp} {l b sl : Addr} {xs ys : List V} {a c : Int} {vl vu : Value} {Q : Unit → Shared → Prop} (I : Inv X pins σ H s)
    (hH : H l = some (.lst xs)) (hB : H b = some (.lst ys)) (hne : l ≠ b) (hs : s.heap.IsSliceOf sl vl vu .none) (ra : RelV (.int a) vl) (rc : RelV (.int c) vu) (h0 : 0 ≤ a) (hac : a ≤ c) (hc : c ≤ xs.length)
    (hz : xs.length + ys.length ≤ sizeLine) (h : ∀ s', Inv X pins σ (upd H l (.lst (xs.take a.toNat ++ ys ++ xs.drop c.toNat))) s' → Q () s') :
    wpAny (model X.prog X.w) X.A (setItem (.ref l) (.ref sl) (.ref b)) Q X.xe s := by
  obtain ⟨ta, rfl⟩ := ra
  obtain ⟨tc, rfl⟩ := rc
  obtain ⟨z, its, n, r, hl, e⟩ := I.lstM hH
  obtain ⟨z2, its2, n2, r2, hl2, e2⟩ := I.lstM hB
  obtain ⟨a', rfl⟩ := Int.eq_ofNat_of_zero_le h0
  obtain ⟨c', rfl⟩ := Int.eq_ofNat_of_zero_le (Int.le_trans h0 hac)
  simp only [Int.toNat_natCast] at h
  refine setItem_slice (a := a') (c := c') e e2 hne hs (.int _ _) (.int _ _) (by omega) (by rw [List.size_toArray]; omega) (by rw [List.size_toArray, List.size_toArray]; omega) (h _ ?_)
  refine I.lset (its' := its.take a' ++ its2 ++ its.drop c') (t' := s.toks) hH e ?_ (Vals.append (Vals.append (r.take _) r2) (r.drop _)) ?_
  · exact splice_eq its its2 a' c'
  · rw [List.length_append, List.length_append, List.length_take, List.length_drop]
    omega
end
end L2

namespace Att
open PySem PySem.W PySem.Calls PyProof.Rows

/-! ### the script -/
theorem ints_of_wellAll {P : Params} {h : Heap} : ∀ (ns : List Int) (vs : List Value), WellAll P h vs (ns.map WData.int) → IntsAre vs ns := by
  intro ns
  induction ns with
  | nil =>
    intro vs w
    rw [List.map_nil] at w
    cases w
    exact .nil
  | cons n ns ih =>
    intro vs w
    rw [List.map_cons] at w
    cases w with
    | cons a b =>
      cases a
      exact .cons _ _ (ih _ b)

theorem script_of {l : OpenLaw} {n : Nat} (hn : l.most = some n) {P : Params} {h : Heap} {args : List WData} {vals : List Value}
    (hpre : l.row.toRowW.claim.pre args = true) (hwl : WellAll P h vals args) :
    ∃ a vs ns, vals = [Value.ref a] ∧ args = [WData.list (ns.map WData.int)] ∧ h.get? a = some { cls := .type "list", data := .seq vs.toArray } ∧ IntsAre vs ns ∧ ns.length ≤ n := by
  have hsh : WShape.hasAll [] args [.list .int] = true := (pre_splitW hpre).1
  have hc : l.pre.holds [] { args := args } = true := (pre_splitW hpre).2
  obtain ⟨d, r, rfl, h1, h2⟩ := hasAllW_cons hsh
  obtain rfl := hasAllW_nil h2
  obtain ⟨xs, rfl, h3⟩ := hasW_list h1
  obtain ⟨ns, rfl⟩ := items_int h3
  have hlen : ns.length ≤ n := by
    unfold OpenLaw.pre at hc
    have h4 : (WTm.not (.lt (.lit (.int (n : Int))) (.len (.arg 0)))).holds [] { args := [.list (ns.map .int)] } = true := by
      have h4 := (holds_andW hc).1
      rw [hn] at h4
      exact h4
    have h5 := condW_of h4 (w_not (w_lt w_lit (w_len_list (w_arg rfl))))
    rw [List.length_map] at h5
    refine Nat.le_of_not_lt fun q => ?_
    have q' : (n : Int) < ((ns.length : Nat) : Int) := by omega
    first
      | (rw [decide_eq_true q'] at h5; exact absurd h5 (by decide))
      | (simp at h5; omega)
  cases hwl with
  | cons w1 w2 =>
    cases w2
    cases w1 with
    | list ho hall => exact ⟨_, _, ns, rfl, rfl, ho, ints_of_wellAll ns _ hall, hlen⟩

theorem post_true (l : OpenLaw) (args : List WData) : l.row.toRowW.claim.post args (.bool true) args = true :=
  postW_of (r := l.row.toRowW) (X := (true == true))
    (show WShape.has [] (.bool true) .bool = true by first | rfl | decide | simp [WShape.has, WShape.arms, WShape.armsAll])
    (show (WTm.eq .res (.lit (.bool true))).value [] { args := args, res := some (.bool true), after := args } = some (.bool (true == true)) from w_eq_bool (w_res rfl) w_lit) rfl

/-! ### the attachment: holds_open's last premise (the goal 'hc' behind k_head) from a wpAny of the law's body -/
theorem attach {l : OpenLaw} {n : Nat} {q : Program} {loose : List Str} {XP : (Str → Option Value) → Heap → Prop} {YP : World → Heap → Prop} {d : DefRec} {x : Str}
    (hn : l.most = some n) (hdf : d.params.defaults = [])
    (hbind : ∀ pm cd doc v : Value, bindArgs (docDef d.name d.params d.body d.scope pm cd doc) ⟨[v], []⟩ = pure [(x, v)])
    (hx : d.scope.names.lookup x = some .local ∨ d.scope.names.lookup x = some .cell)
    (hk : d.scope.kind = .function) (hco : d.scope.isCoroutine = false) (hgen : d.scope.isGenerator = false)
    (body : ∀ (w : World) (s₀ s₁ s : Shared) (mg mb : Str → Option Value) (fa : Addr) (o : Obj) (pm cd doc : Value) (a : Addr) (vs : List Value) (ns : List Int),
      Ground q loose [] XP w s₀ mg mb s₁.heap → YP w s₁.heap →
      s₁.heap.get? fa = some o → o.data = .func (docDef d.name d.params d.body d.scope pm cd doc) → s₁.heap.CodeRec cd d.name → mg d.name = some (.ref fa) →
      s₁.heap.get? a = some { cls := .type "list", data := .seq vs.toArray } → IntsAre vs ns → ns.length ≤ n →
      s.gens = #[] → s.os = s₁.os →
      Fr s₁.heap s₁.heap.objs.size s.heap (bindL (envOfC d.name d.scope s₁.heap.objs.size fa cd).kindOf [(x, .ref a)] fun _ => none) →
      Cl s₁.heap.objs.size (cellsFrom (s₁.heap.objs.size + 1) d.scope.names []) s.heap (bindC (envOfC d.name d.scope s₁.heap.objs.size fa cd).kindOf [(x, .ref a)] fun _ => none) →
      wpAny (model l.prog w) (callerA.deeper (envOfC d.name d.scope s₁.heap.objs.size fa cd)) (execs d.body (envOfC d.name d.scope s₁.heap.objs.size fa cd))
        (fun f s' => f = .ret (.bool true) ∧ OldK s₁.heap s'.heap ∧ s'.os = s₁.os ∧ AllBare s'.gens) (fun _ _ => False) s) :
    WalkO q loose XP YP l.row.toRowW d [] (fun f vs => PySem.call f vs) := by
  intro w s₀ s₁ mg mb G Y fa o pm cd doc dV kV ho hd hcd hD hmg hg args vals as hpre hlay hrd hwl hlo
  obtain rfl : dV = .none := Dflts.none hD hdf
  obtain rfl : kV = .none := Dflts.noKw hD
  obtain ⟨a, vs, ns, rfl, rfl, hobj, hints, hlen⟩ := script_of hn hpre hwl
  refine enter_call ?_
  refine call_cells_ret (o := o) (by rw [depth_caller]; decide) ho (fd_plain hd) G.T.nolimit hcd (hbind pm cd doc (.ref a)) (fun y hy => ?_) (fun h₁ tk F X => ?_) hco hgen hk
  · obtain rfl : y = (x, Value.ref a) := List.mem_singleton.mp hy
    rcases hx with e | e
    · exact .inl e
    · exact .inr ⟨e, cellsFrom_some _ _ _ (.inl e)⟩
  · refine wpAny_mono (body w s₀ s₁ { s₁ with heap := h₁, toks := tk } mg mb fa o pm cd doc a vs ns G Y ho (fd_plain hd) hcd hmg hobj hints hlen hg rfl F X) (fun f s' hq => ?_) (fun _ _ hq => hq)
    obtain ⟨rfl, h2, h3, h4⟩ := hq
    exact ⟨.inl ⟨.bool true, .bool true, [], rfl, fun _ => rfl, .bool true, post_true l _, fun _ => ⟨List.Pairwise.nil, fun _ hm => (nomatch hm)⟩⟩, h2, h3, h4⟩

/-- the same from a codeAny of the CALL (for a layer whose function contracts speak of calls) -/
theorem attach_call {l : OpenLaw} {n : Nat} {q : Program} {loose : List Str} {XP : (Str → Option Value) → Heap → Prop} {YP : World → Heap → Prop} {d : DefRec}
    (hn : l.most = some n) (hdf : d.params.defaults = [])
    (call : ∀ (w : World) (s₀ s₁ : Shared) (mg mb : Str → Option Value) (fa : Addr) (o : Obj) (pm cd doc : Value) (a : Addr) (vs : List Value) (ns : List Int),
      Ground q loose [] XP w s₀ mg mb s₁.heap → YP w s₁.heap →
      s₁.heap.get? fa = some o → o.data = .func (docDef d.name d.params d.body d.scope pm cd doc) → s₁.heap.CodeRec cd d.name → mg d.name = some (.ref fa) →
      s₁.heap.get? a = some { cls := .type "list", data := .seq vs.toArray } → IntsAre vs ns → ns.length ≤ n → s₁.gens = #[] →
      codeAny (model l.prog w) callerA (.call (.ref fa) ⟨[.ref a], []⟩) (fun r s' => r = .ok (.ret (.bool true)) ∧ OldK s₁.heap s'.heap ∧ s'.os = s₁.os ∧ AllBare s'.gens) s₁) :
    WalkO q loose XP YP l.row.toRowW d [] (fun f vs => PySem.call f vs) := by
  intro w s₀ s₁ mg mb G Y fa o pm cd doc dV kV ho hd hcd hD hmg hg args vals as hpre hlay hrd hwl hlo
  obtain rfl : dV = .none := Dflts.none hD hdf
  obtain rfl : kV = .none := Dflts.noKw hD
  obtain ⟨a, vs, ns, rfl, rfl, hobj, hints, hlen⟩ := script_of hn hpre hwl
  refine enter_call (codeAny_mono (call w s₀ s₁ mg mb fa o pm cd doc a vs ns G Y ho (fd_plain hd) hcd hmg hobj hints hlen hg) fun r s' hq => ?_)
  obtain ⟨rfl, h2, h3, h4⟩ := hq
  exact ⟨.inl ⟨.bool true, .bool true, [], rfl, fun _ => rfl, .bool true, post_true l _, fun _ => ⟨List.Pairwise.nil, fun _ hm => (nomatch hm)⟩⟩, h2, h3, h4⟩

/-- the same where the top left finished generators (o_head chose holds_openN): nothing may have changed at all and no generator may be left -/
theorem attachN {l : OpenLaw} {n : Nat} {q : Program} {loose : List Str} {XP : (Str → Option Value) → Heap → Prop} {YP : World → Heap → Prop} {d : DefRec} {x : Str}
    (hn : l.most = some n) (hdf : d.params.defaults = [])
    (hbind : ∀ pm cd doc v : Value, bindArgs (docDef d.name d.params d.body d.scope pm cd doc) ⟨[v], []⟩ = pure [(x, v)])
    (hx : d.scope.names.lookup x = some .local ∨ d.scope.names.lookup x = some .cell)
    (hk : d.scope.kind = .function) (hco : d.scope.isCoroutine = false) (hgen : d.scope.isGenerator = false)
    (body : ∀ (w : World) (s₀ s₁ s : Shared) (mg mb : Str → Option Value) (fa : Addr) (o : Obj) (pm cd doc : Value) (a : Addr) (vs : List Value) (ns : List Int),
      Ground q loose [] XP w s₀ mg mb s₁.heap → YP w s₁.heap →
      s₁.heap.get? fa = some o → o.data = .func (docDef d.name d.params d.body d.scope pm cd doc) → s₁.heap.CodeRec cd d.name → mg d.name = some (.ref fa) →
      s₁.heap.get? a = some { cls := .type "list", data := .seq vs.toArray } → IntsAre vs ns → ns.length ≤ n →
      s.gens = #[] → s.os = s₁.os →
      Fr s₁.heap s₁.heap.objs.size s.heap (bindL (envOfC d.name d.scope s₁.heap.objs.size fa cd).kindOf [(x, .ref a)] fun _ => none) →
      Cl s₁.heap.objs.size (cellsFrom (s₁.heap.objs.size + 1) d.scope.names []) s.heap (bindC (envOfC d.name d.scope s₁.heap.objs.size fa cd).kindOf [(x, .ref a)] fun _ => none) →
      wpAny (model l.prog w) (callerA.deeper (envOfC d.name d.scope s₁.heap.objs.size fa cd)) (execs d.body (envOfC d.name d.scope s₁.heap.objs.size fa cd))
        (fun f s' => f = .ret (.bool true) ∧ (∀ b o, s₁.heap.get? b = some o → s'.heap.get? b = some o) ∧ s'.os = s₁.os ∧ s'.gens = #[]) (fun _ _ => False) s) :
    WalkN q loose XP YP l.row.toRowW d [] (fun f vs => PySem.call f vs) := by
  intro w s₀ s₁ mg mb G Y fa o pm cd doc dV kV ho hd hcd hD hmg hg args vals as hpre hlay hrd hwl hlo
  obtain rfl : dV = .none := Dflts.none hD hdf
  obtain rfl : kV = .none := Dflts.noKw hD
  obtain ⟨a, vs, ns, rfl, rfl, hobj, hints, hlen⟩ := script_of hn hpre hwl
  refine enter_callW ?_
  refine call_cells_ret (o := o) (by rw [depth_caller]; decide) ho (fd_plain hd) G.T.nolimit hcd (hbind pm cd doc (.ref a)) (fun y hy => ?_) (fun h₁ tk F X => ?_) hco hgen hk
  · obtain rfl : y = (x, Value.ref a) := List.mem_singleton.mp hy
    rcases hx with e | e
    · exact .inl e
    · exact .inr ⟨e, cellsFrom_some _ _ _ (.inl e)⟩
  · refine wpAny_mono (body w s₀ s₁ { s₁ with heap := h₁, toks := tk } mg mb fa o pm cd doc a vs ns G Y ho (fd_plain hd) hcd hmg hobj hints hlen hg rfl F X) (fun f s' hq => ?_) (fun _ _ hq => hq)
    obtain ⟨rfl, h2, h3, h4⟩ := hq
    exact ⟨.inl ⟨.bool true, .bool true, [], rfl, fun _ => rfl, .bool true, post_true l _, fun _ => ⟨List.Pairwise.nil, fun _ hm => (nomatch hm)⟩⟩, h2, h3, h4⟩

/-! ### rules over ANY heap (no ledger) from facts about the written part K: the library's own take a ledger (News) for what they write -/
section
variable {prog : Program} {w : World} {A : Around} {E : Value → Shared → Prop} {s : Shared} {K : Frag}

/-- a def of the module, or a method (qual 'C.m'), entered: the frame is the next address; cells behind it -/
theorem call_fn {R : Result → Shared → Prop} {name qual : Str} {params : Arguments} {body : List Stmt} {scope : Scope} {dV kV doc pm cdv ct oc : Value} {an od : Option Addr} {osl : Array (Option Value)} {f : Addr} {args : Args} {binds : List (Str × Value)}
    (X : K.In s.heap) (hlim : s.heap.NoLimit) (ho : K.lookup f = some ⟨oc, od, .func (fnOf name qual params body scope dV kV doc pm an cdv ct), osl⟩) (hcd : codeIn K cdv qual = true) (hroom : A.depth < recursionLimit)
    (hbind : BindsTo s (fnOf name qual params body scope dV kV doc pm an cdv ct) args binds)
    (hkind : (binds.all fun y => scope.names.lookup y.1 == some .local || scope.names.lookup y.1 == some .cell) = true)
    (h : ∀ s₁, InCallC s s.heap.objs.size (bindL (envOfC qual scope s.heap.objs.size f cdv).kindOf binds fun _ => none) (cellsFrom (s.heap.objs.size + 1) scope.names [])
        (bindC (envOfC qual scope s.heap.objs.size f cdv).kindOf binds fun _ => none) s₁ →
      wpAny (model prog w) (A.deeper (envOfC qual scope s.heap.objs.size f cdv)) (execs body (envOfC qual scope s.heap.objs.size f cdv))
        (fun fl s' => R (.ok (.ret (match fl with | .ret v => v | _ => .none))) s')
        (fun e s' => wpAny (model prog w) (A.deeper (envOfC qual scope s.heap.objs.size f cdv)) (leaving (envOfC qual scope s.heap.objs.size f cdv) e) (fun _ s'' => R (.error e) s'') (fun e' s'' => R (.error e') s'') s') s₁)
    (hco : scope.isCoroutine = false) (hgen : scope.isGenerator = false) (hk : scope.kind = .function) : codeAny (model prog w) A (.call (.ref f) args) R s := by
  refine codeAny_call_function hroom (X _ _ ho) rfl hco hgen rfl (codeRec_of X hcd) (hbind _ _ _ _ ?_)
  refine wpAny_newFunctionEnv_cells hk (kindsX hkind _) fun env he s₁ x => ?_
  subst he
  exact ⟨hlim.keeps x.toInCall.keep, codeAny_func (h s₁ x)⟩

/-- C(..): dict at size, instance at size + 1, then __init__ -/
theorem make_obj {R : Result → Shared → Prop} {C fI : Addr} {rest : List Value} {kw : List (Str × Value)}
    (X : K.In s.heap) (hm : makesIn K C = true) (hi : findIn K (.ref C) "__init__" = some (some (.ref fI))) (hf : isFn K (.ref fI) = true)
    (h : codeAny (model prog w) (A.under (.builtin "type.__call__" ⟨.ref C :: rest, kw⟩)) (.call (.ref fI) ⟨.ref (s.heap.objs.size + 1) :: rest, kw⟩) (InitBack (s.heap.objs.size + 1) R)
      { s with heap := (s.heap.push emptyDict).push (instObj C s.heap.objs.size) }) : codeAny (model prog w) A (.call (.ref C) ⟨rest, kw⟩) R s := by
  obtain ⟨hh, g, d, t, os⟩ := s
  exact make_core (makes_of X hm) (looks_findIn X hi) (fun self => bind_fn X self (beq_iff_eq.mp hf)) (.inl rfl) h

/-- x.name where the instance's dict holds the name and the class does not -/
theorem get_field {x C : Addr} {ox : Obj} {es : List DictEntry} {n : Nat} {name : Str} {expr : Bool} {v : Value} {Q : Value → Shared → Prop}
    (X : K.In s.heap) (I : PySem.W.InstAt s.heap x ox C (some (dictOf es n))) (hg : plainGet K C name = true) (hh : hasDictIn K C = true) (ha : findIn K (.ref C) name = some none)
    (hl : getL name es = some (some v)) (hv : handedIn v = true) (h : Q v { s with toks := s.toks + 1 }) : wpAny (model prog w) A (getAttr (.ref x) name expr) Q E s :=
  get_value X I (plainGet_of hg).1 (findObj_own hh ha rfl hl) hv h

/-- x.m(..): the method found in the class -/
theorem get_method {x C f : Addr} {ox : Obj} {es : List DictEntry} {n : Nat} {name : Str} {pl : Sem Bool} {Q : Value × List Value → Shared → Prop}
    (X : K.In s.heap) (I : PySem.W.InstAt s.heap x ox C (some (dictOf es n))) (hg : plainGet K C name = true) (hf : findIn K (.ref C) name = some (some (.ref f))) (ht : isFn K (.ref f) = true)
    (hl : getL name es = some none) (h : Q (.ref f, [.ref x]) s) : wpAny (model prog w) A (getMethod (.ref x) name pl) Q E s :=
  method_fn X I (plainGet_of hg).1 (plainGet_of hg).2 hf (beq_iff_eq.mp ht) (by show (lookIn name (dictOf es n)).map _ = _; rw [lookIn_dict, hl]; rfl) h

/-! the whole heap as the ledger: makes every rule that writes through a ledger a rule over any heap -/
def noObjs (h : Heap) : Heap := { h with objs := #[] }
theorem noObjs_get (h : Heap) (b : Addr) : (noObjs h).get? b = none := by
  cases e : (noObjs h).get? b with
  | none => rfl
  | some o => exact absurd (Heap.lt_size e) (Nat.not_lt_zero _)
def ledger (h : Heap) (L d : Addr) : List (Addr × Obj) := (List.range h.objs.size).filterMap fun a => if a = L ∨ a = d then none else (h.get? a).map fun o => (a, o)
theorem mem_ledger {h : Heap} {L d a : Addr} {o : Obj} : (a, o) ∈ ledger h L d ↔ a ≠ L ∧ a ≠ d ∧ h.get? a = some o := by
  unfold ledger
  rw [List.mem_filterMap]
  constructor
  · rintro ⟨b, _, e⟩
    split at e
    · cases e
    · rename_i hb
      obtain ⟨o', ho, e'⟩ := Option.map_eq_some_iff.mp e
      cases e'
      exact ⟨fun q => hb (.inl q), fun q => hb (.inr q), ho⟩
  · rintro ⟨n1, n2, ho⟩
    refine ⟨a, List.mem_range.mpr (Heap.lt_size ho), ?_⟩
    rw [if_neg (show ¬ (a = L ∨ a = d) from fun q => q.elim n1 n2), ho] <;> rfl
theorem news_ledger {h : Heap} {L d : Addr} {od : Obj} (hne : d ≠ L) (ho : h.get? d = some od) : News (noObjs h) L h ([] ++ (d, od) :: ledger h L d) := by
  rintro ⟨a, o⟩ hp
  rcases List.mem_cons.mp hp with e | hp
  · cases e
    exact ⟨ho, hne, noObjs_get _ _⟩
  · obtain ⟨n1, n2, e⟩ := mem_ledger.mp hp
    exact ⟨e, n1, noObjs_get _ _⟩
theorem fr_all {h : Heap} {L : Addr} {m : Str → Option Value} (n : h.Ns L m) : Fr (noObjs h) L h m :=
  ⟨n, fun b o e => (by rw [noObjs_get] at e; cases e), Nat.zero_le _⟩
/-- Upd of the head entry (for append_K, setItem_K ..) -/
theorem upd_ledger {h : Heap} {L d : Addr} {o o' : Obj} : Upd d o o' ((d, o) :: ledger h L d) ((d, o') :: ledger h L d) :=
  .head fun ⟨_, _⟩ hp => (mem_ledger.mp hp).2.1

/-- x.name = v over any heap: L is any namespace of the heap (the frame's, say): its map stays, its object is not told; all else but the dict stays -/
theorem set_field {x C dx L : Addr} {ox : Obj} {m : Str → Option Value} {es es' : List DictEntry} {n n' : Nat} {name : Str} {v : Value} {Q : Unit → Shared → Prop}
    (X : K.In s.heap) (I : PySem.W.InstAt s.heap x ox C (some (dictOf es n))) (hd : ox.dict = some dx) (hL : s.heap.Ns L m) (hne : dx ≠ L)
    (hs : findIn K (.ref C) "__setattr__" = some (some (.builtin "object.__setattr__"))) (hp : plainOver K C = true) (ht : takerIn K C name = some none) (hh : hasDictIn K C = true) (hl : (getL name es).isSome = true)
    (e : (putL name (PyData.keyHash w.params name) (.str name (s.toks + 1)) v es, putN name es n) = (es', n')) (hz : es'.length ≤ 1000)
    (h : ∀ h' : Heap, h'.Ns L m → h'.get? dx = some (dictOf es' n') → (∀ b o, b ≠ dx → b ≠ L → s.heap.get? b = some o → h'.get? b = some o) → Q () { s with heap := h', toks := s.toks + 2 }) :
    wpAny (model prog w) A (setAttr (.ref x) name v) Q E s := by
  obtain ⟨e1, e2⟩ := Prod.mk.inj e
  have hdx : s.heap.get? dx = some (dictOf es n) := by
    have := I.dict
    rw [hd] at this
    exact this
  refine set_plain X I hs (osa_dict (s := { s with toks := s.toks + 1 }) (h₀ := noObjs s.heap) (L := L) (m := m) (od := dictOf es n) (od' := dictOf es' n') (es := es') (n := n') (pre := []) (post := ledger s.heap L dx)
    (fr_all hL) (news_ledger hne hdx) X I hd hp ht hh hl (fun _ q => nomatch q) (fun ⟨_, _⟩ q => (mem_ledger.mp q).2.1) (by rw [putName_dict, e1, e2]) rfl hz fun h' F' N' => ?_)
  exact h h' F'.ns (N'.get (List.Mem.head _)) fun b o n1 n2 ho => N'.get (List.Mem.tail _ (mem_ledger.mpr ⟨n2, n1, ho⟩))
end
end Att

namespace L2
open PySem PySem.Spec PyProof.Rows

theorem vals_ints : ∀ {vs : List Value} {ns : List Int}, IntsAre vs ns → Vals (ns.map V.int) vs
  | _, _, .nil => .nil
  | _, _, .cons n t h => .cons ⟨t, rfl⟩ (vals_ints h)

/-- nothing is tracked but the script, known to the object (or it is an object of the module) -/
def Only (H : Hp) : Prop := ∀ b, H b = none ∨ ∃ o xs, H b = some (.frz o (.lst xs))

/-- THE HEAD: the law's promise, at the heap behind the top. F, the promise of the law's def, may use that base is part of the heap (so K.In base, base.Ns mainGlobals mg stand in Mod) -/
theorem law_call {P : Program} {w : World} {K : PySem.W.Frag} {mg mb : Str → Option Value} {CX : CXT} {k : Nat} {fa a : Addr} {fd : FuncData} {x : Str} {sp : Sp} {s₁ : Shared} {vs : List Value} {ns : List Int}
    (KX : K.In s₁.heap) (hns : s₁.heap.Ns mainGlobals mg) (hb : s₁.heap.Ns builtinsNs mb) (hbb : ∀ x : Str, x ≠ "__name__" → mb x = bootBuiltins x) (hlim : s₁.heap.NoLimit) (hg : s₁.gens = #[])
    (ha : s₁.heap.get? a = some { cls := .type "list", data := .seq vs.toArray }) (hi : IntsAre vs ns) (hl : ns.length ≤ sizeLine) (hr : Room k callerA)
    (F : ∀ base : Heap, K.In base → base.Ns mainGlobals mg → FnOk P w K mg base CX k fa fd [x] sp) (hbind : ∀ (s : Shared) (u : Value), BindsTo s fd ⟨[u], []⟩ [(x, u)])
    (hsp : ∀ H : Hp, Only H → SqL K H a (ns.map V.int) → sp [.ref a] H (fun v _ => v = .bl true) fun _ _ _ => False)
    (hCX : ∀ H e s', CX [] H s₁ (fun _ _ _ => False) e s' → False) :
    codeAny (model P w) callerA (.call (.ref fa) ⟨[.ref a], []⟩) (fun r s' => r = .ok (.ret (.bool true)) ∧ OldK s₁.heap s'.heap ∧ s'.os = s₁.os ∧ AllBare s'.gens) s₁ := by
  have rv := vals_ints hi
  have lenV := hi.length
  -- from an abstract heap in which nothing but the script may be tracked
  have core : ∀ H : Hp, Only H → SqL K H a (ns.map V.int) → HOk P w H s₁.heap → (∀ b, H b ≠ none → b = a) → (H a ≠ none → K.lookup a = none) →
      codeAny (model P w) callerA (.call (.ref fa) ⟨[.ref a], []⟩) (fun r s' => r = .ok (.ret (.bool true)) ∧ OldK s₁.heap s'.heap ∧ s'.os = s₁.os ∧ AllBare s'.gens) s₁ := by
    intro H hO hS hok hA hK
    have base_of : ∀ {b : Addr} {o : Obj}, s₁.heap.get? b = some o → H b = none → (hidT s₁.heap H).get? b = some o := fun e n => hidT_get e n
    have noA : ∀ {b : Addr} {o : Obj} {es : Array DictEntry} {ep : Nat}, s₁.heap.get? b = some o → o.data = .dict es ep → H b = none := fun {b o es ep} e d => by
      cases q : H b with
      | none => rfl
      | some u =>
        have e' : b = a := hA b (by rw [q]; simp)
        subst e'
        rw [ha] at e; cases e
        have d' : Data.seq vs.toArray _ = Data.dict es ep := d
        cases d'
    have nsK : ∀ {b : Addr} {m : Str → Option Value}, s₁.heap.Ns b m → (hidT s₁.heap H).Ns b m := fun {b m} ⟨o, es, ep, e, d, r⟩ => ⟨o, es, ep, base_of e (noA e d), d, r⟩
    have hKb : K.In (hidT s₁.heap H) := fun b o e => base_of (KX b o e) (by
      cases q : H b with
      | none => rfl
      | some u =>
        have e' : b = a := hA b (by rw [q]; simp)
        subst e'
        rw [hK (by rw [q]; simp)] at e; cases e)
    have hM : Mod K mg (hidT s₁.heap H) := ⟨hKb, nsK hns, ⟨mb, nsK hb, hbb⟩, let ⟨mc, h1, h2⟩ := hlim; ⟨mc, nsK h1, h2⟩⟩
    have e0 : Env0 P w K mg (hidT s₁.heap H) callerA [] s₁ H := ⟨rfl, hM, fun b o e => of_hidT e, Nat.le_of_eq (hidT_size _ _), trivial, fun b hb => absurd (show b ∈ ([] : List Addr) from hb) (by simp), hok, .of_eq hg⟩
    refine codeAny_mono ((F _ hKb (nsK hns)).run callerA [] s₁ H ⟨[.ref a], []⟩ [.ref a] [.ref a] _ _ hr e0 (hbind s₁ (.ref a)) (.cons rfl .nil) (hsp H hO hS)) fun r s' h => ?_
    cases r with
    | error e => exact (hCX H e s' h).elim
    | ok fl =>
      cases fl with
      | next => exact False.elim h
      | brk => exact False.elim h
      | cont => exact False.elim h
      | ret u =>
        obtain ⟨v, H', os, bare, un, hok', r', q⟩ := h
        have q' : v = .bl true := q
        subst q'
        obtain rfl : u = Value.bool true := r'
        refine ⟨rfl, OldK.of_keep fun b o e => ?_, os, bare⟩
        cases q : H b with
        | none => exact un.keep b o e q (by intro z; exact absurd (show b ∈ ([] : List Addr) from z) (by simp)) (by simp)
        | some u =>
          rcases hO b with z | ⟨ob, xs, z⟩
          · rw [q] at z; cases z
          · have z2 := un.frzs b ob _ z
            obtain ⟨e1, _⟩ := hok b _ z
            obtain ⟨e2, _⟩ := hok' b _ z2
            rw [e] at e1; cases e1
            exact e2
  cases hk : K.lookup a with
  | some o =>
    -- the script is one of the module's own objects
    have e := KX a o hk
    rw [ha] at e
    cases e
    refine core (fun _ => none) (fun _ => .inl rfl) (.inr ⟨_, vs.toArray, _, hk, rfl, rfl, rfl, by rw [List.size_toArray, lenV]; exact hl, by simpa using rv⟩) (fun b u z => by have z' : (none : Option HO) = some u := z; cases z') (fun b z => absurd rfl z) fun z => absurd rfl z
  | none =>
    refine core (fun b => if b = a then some (.frz { cls := .type "list", data := .seq vs.toArray } (.lst (ns.map V.int))) else none) (fun b => ?_) (.inl (.inr ⟨{ cls := .type "list", data := .seq vs.toArray }, if_pos rfl⟩)) (fun b u z => ?_) (fun b z => ?_) fun _ => hk
    · by_cases hb : b = a
      · exact .inr ⟨_, _, if_pos hb⟩
      · exact .inl (if_neg hb)
    · by_cases hb : b = a
      · have z' := (if_pos hb).symm.trans z
        cases z'
        subst hb
        exact ⟨ha, by rw [List.length_map]; exact hl, vs, _, rv, ha⟩
      · have z' := (if_neg hb).symm.trans z
        cases z'
    · by_cases hb : b = a
      · exact hb
      · exact absurd (if_neg hb) z
end L2

namespace L2
open PySem PySem.Spec PyProof.Rows

abbrev KOf {K : PySem.W.Frag} {h : Heap} (_ : K.In h) : PySem.W.Frag := K

/-- the goal that k_head leaves (case hc), from the law's promise. F gives the function object fd (K's own) once, then the promise over every base -/
theorem walk_of {l : PySem.W.OpenLaw} {n k : Nat} {q : Program} {loose : List Str} {XP : (Str → Option Value) → Heap → Prop} {YP : World → Heap → Prop} {d : DefRec} {K : Params → PySem.W.Frag} {CX : World → CXT} {sp : World → Sp} {x : Str}
    (hn : l.most = some n) (hn2 : n ≤ sizeLine) (hdf : d.params.defaults = []) (hr : Room k callerA)
    (hY : ∀ (w : World) (h : Heap), YP w h → (K w.params).In h)
    (F : ∀ (w : World) (mg : Str → Option Value) (fa : Addr) (h : Heap), (K w.params).In h → h.Ns mainGlobals mg → mg d.name = some (.ref fa) →
      ∃ fd : FuncData, (∀ (s : Shared) (u : Value), BindsTo s fd ⟨[u], []⟩ [(x, u)]) ∧
        ∀ base : Heap, (K w.params).In base → base.Ns mainGlobals mg → FnOk l.prog w (K w.params) mg base (CX w) k fa fd [x] (sp w))
    (hsp : ∀ (w : World) (H : Hp) (a : Addr) (ns : List Int), ns.length ≤ n → Only H → SqL (K w.params) H a (ns.map V.int) → sp w [.ref a] H (fun v _ => v = .bl true) fun _ _ _ => False)
    (hCX : ∀ (w : World) (H : Hp) (s : Shared) (e : Value) (s' : Shared), CX w [] H s (fun _ _ _ => False) e s' → False) :
    PySem.W.WalkO q loose XP YP l.row.toRowW d [] (fun f vs => PySem.call f vs) := by
  refine Att.attach_call hn hdf fun w s₀ s₁ mg mb fa o pm cd doc a vs ns G Y ho hd hcd hmg hobj hints hlen hg => ?_
  have KX := hY w _ Y
  obtain ⟨fd, hb, hF⟩ := F w mg fa _ KX G.T.g hmg
  exact law_call KX G.T.g G.T.b G.T.builtins G.T.nolimit hg hobj hints (Nat.le_trans hlen hn2) hr hF hb (fun H hO hS => hsp w H a ns hlen hO hS) fun H e s' => hCX w H s₁ e s'
/-- the same where the promise hangs on the written part alone: (sp := My.sp_law), no hole under a binder -/
theorem walk_ofK {l : PySem.W.OpenLaw} {n k : Nat} {q : Program} {loose : List Str} {XP : (Str → Option Value) → Heap → Prop} {YP : World → Heap → Prop} {d : DefRec} {K : Params → PySem.W.Frag} {CX : CXT} {sp : PySem.W.Frag → Sp} {x : Str}
    (hn : l.most = some n) (hn2 : n ≤ sizeLine) (hdf : d.params.defaults = []) (hr : Room k callerA)
    (hY : ∀ (w : World) (h : Heap), YP w h → (K w.params).In h)
    (F : ∀ (w : World) (mg : Str → Option Value) (fa : Addr) (h : Heap), (K w.params).In h → h.Ns mainGlobals mg → mg d.name = some (.ref fa) →
      ∃ fd : FuncData, (∀ (s : Shared) (u : Value), BindsTo s fd ⟨[u], []⟩ [(x, u)]) ∧
        ∀ base : Heap, (K w.params).In base → base.Ns mainGlobals mg → FnOk l.prog w (K w.params) mg base CX k fa fd [x] (sp (K w.params)))
    (hsp : ∀ (K : PySem.W.Frag) (H : Hp) (a : Addr) (ns : List Int), ns.length ≤ n → Only H → SqL K H a (ns.map V.int) → sp K [.ref a] H (fun v _ => v = .bl true) fun _ _ _ => False)
    (hCX : ∀ (H : Hp) (s : Shared) (e : Value) (s' : Shared), CX [] H s (fun _ _ _ => False) e s' → False) :
    PySem.W.WalkO q loose XP YP l.row.toRowW d [] (fun f vs => PySem.call f vs) :=
  walk_of (K := K) (CX := fun _ => CX) (sp := fun w => sp (K w.params)) hn hn2 hdf hr hY F (fun w H a ns h1 h2 h3 => hsp (K w.params) H a ns h1 h2 h3) fun _ H s e s' => hCX H s e s'
end L2

/- THE LAST THEOREM (shape; LID, My.* are yours):
   My.Adr: a structure of the addresses that your layer names (classes, functions); My.Txt K t: a structure (Prop) of the equations over K;
   My.txt_mk : {K} {implicit addresses ..} (e1 : nsIn K mainGlobals "law" = some (some (.ref f))) (e2 : K.lookup f = some ⟨oc, od, .func (fnOf "law" "law" params body scope dV kV doc pm an cdv ct), sl⟩) (e3 : codeIn K cdv "law" = true) .. : ∃ t, My.Txt K t

set_option maxRecDepth 100000 in
set_option maxHeartbeats 0 in
theorem PySem.Challenge.cw_LID_holds : PySem.Challenge.rw_LID.Holds := by
  w_on; o_law; k_head; (case hw => w_witness2)
  k_fill
  refine L2.walk_of (l := PySem.Challenge.rw_LID) (n := 63) (k := 40) (x := "script") (CX := fun w => ..) (sp := fun _ => My.sp_law) rfl (by decide) rfl ⟨rfl, by decide, by decide⟩ (fun w h Y => PySem.W.kIn_of Y) ?F ?S ?C
  case F =>
    intro w mg fa h KX G hmg
    have T : ∃ t, My.Txt (L2.KOf KX) t := by
      dsimp only [L2.KOf]                          -- K must stand as «<heap const> w.params» for k_is
      refine' My.txt_mk ?e1 ?e2 ?e3 ..
      (case e1 => PySem.W.k_is)                    -- in the order: a name -> its address -> its object -> its parts
      (case e2 => PySem.W.k_is)
      ..
    obtain ⟨t, T⟩ := T
    have e0 := hmg.symm.trans (PySem.W.mg_of KX G T.law)
    cases e0                                       -- fa is the law's own address
    exact ⟨_, fun s u => .of_eq rfl, fun base kb nb => My.law_fn T kb nb⟩     -- if «.of_eq rfl» comes too early: refine' ⟨_, ?b, fun base kb nb => My.law_fn T kb nb⟩; exact fun s u => .of_eq rfl
  case S => exact fun w H a ns hl hO hS => ..
  case C => exact ..
(the tactic k_is has no namespace: write k_is) -/

/-! SHORT WORDS over the layer: a def of the text, its body, what a loop and a test want. -/
namespace L2
open PySem PySem.Spec PyProof.Rows

/-! ### the text by places -/
/-- the j-th statement of a class's body -/
def inClass (s : Stmt) (j : Nat) : Stmt := match s with
  | .ClassDef _ _ _ body _ _ _ _ _ _ _ => body.getD j (.Pass ⟨0, 0, 0, 0⟩)
  | _ => .Pass ⟨0, 0, 0, 0⟩
def defArgs (s : Stmt) : Arguments := match s with
  | .FunctionDef _ a _ _ _ _ _ _ _ _ => a
  | _ => { posonlyargs := [], args := [], vararg := none, kwonlyargs := [], kw_defaults := [], kwarg := none, defaults := [] }
def defBody (s : Stmt) : List Stmt := match s with
  | .FunctionDef _ _ b _ _ _ _ _ _ _ => b
  | _ => []
def defScope (s : Stmt) : Scope := match s with
  | .FunctionDef _ _ _ _ _ _ sc _ _ _ => sc
  | _ => { kind := .function, names := [], isGenerator := false, isCoroutine := false }

/-! ### no exception leaves a def -/
abbrev CX0 : CXT := fun _ _ _ _ _ _ => False
abbrev E0 : XK := fun _ _ _ => False
theorem pass0 {X : Cx} : Passes CX0 X E0 := fun _ _ _ _ _ _ _ h => h.elim

/-! ### a def (or method) of the text as it stands behind the top -/
structure Fun (K : PySem.W.Frag) (x qual : Str) (st : Stmt) (f : Addr) (fd : FuncData) : Prop where
  ex : ∃ (oc : Value) (od : Option Addr) (kV doc pm : Value) (an : Option Addr) (cdv ct : Value) (osl : Array (Option Value)),
    fd = PySem.W.fnOf x qual (defArgs st) (defBody st) (defScope st) .none kV doc pm an cdv ct ∧ K.lookup f = some ⟨oc, od, .func fd, osl⟩ ∧ PySem.W.codeIn K cdv qual = true
  kp : PySem.W.keepIn K (.ref f) = true
section
variable {P : Program} {w : World} {K : PySem.W.Frag} {mg : Str → Option Value} {base : Heap}
/-- THE RULE for a def: its body as a term of rules, and the reading of that term -/
theorem Fun.ok {x qual : Str} {st : Stmt} {f : Addr} {fd : FuncData} {N ps : List Str} {k : Nat} {sp : Sp} (F : Fun K x qual st f fd) (S : FnScope N ps (defScope st)) (len : ∀ vs H Q E, sp vs H Q E → vs.length = ps.length)
    (hbody : ∀ (cdv : Value) (A : Around) (outer : List Env) (s : Shared) (H : Hp) (vs : List V) (Q : VK) (E : XK), Room k (A.deeper (envOfC qual (defScope st) s.heap.objs.size f cdv)) → sp vs H Q E →
      ∃ t, PSs (cxOf CX0 P w K mg base N qual (defScope st) f cdv A outer s H E).nox (defBody st) t ∧ t { nx := fun _ H' => Q .non H', rt := Q } (start N vs) H) : FnOk P w K mg base CX0 (k + 1) f fd ps sp := by
  obtain ⟨oc, od, kV, doc, pm, an, cdv, ct, osl, rfl, lk, hcd⟩ := F.ex
  refine fn_of lk hcd S len fun A outer s H vs Q E hr hsp => ?_
  obtain ⟨t, h, q⟩ := hbody cdv A outer s H vs Q E hr hsp
  exact ⟨t, h.nox, q⟩
/-- how its arguments bind (no defaults): h is «fun _ _ _ _ _ _ us hl => match us, hl with | [_, _], _ => rfl», one _ a parameter -/
theorem Fun.binds {x qual : Str} {st : Stmt} {f : Addr} {fd : FuncData} {ps : List Str} (F : Fun K x qual st f fd)
    (h : ∀ (kV doc pm : Value) (an : Option Addr) (cdv ct : Value) (us : List Value), us.length = ps.length → bindArgs (PySem.W.fnOf x qual (defArgs st) (defBody st) (defScope st) .none kV doc pm an cdv ct) ⟨us, []⟩ = pure (ps.zip us)) : Binds K fd ps [] := by
  obtain ⟨oc, od, kV, doc, pm, an, cdv, ct, osl, rfl, lk, hcd⟩ := F.ex
  exact .all (h kV doc pm an cdv ct)
theorem fun_mk {x qual : Str} {st : Stmt} {f : Addr} {oc : Value} {od an : Option Addr} {osl : Array (Option Value)} {kV doc pm cdv ct : Value} (l : K.lookup f = some ⟨oc, od, .func (PySem.W.fnOf x qual (defArgs st) (defBody st) (defScope st) .none kV doc pm an cdv ct), osl⟩)
    (c : PySem.W.codeIn K cdv qual = true) (k : PySem.W.keepIn K (.ref f) = true) : Fun K x qual st f (PySem.W.fnOf x qual (defArgs st) (defBody st) (defScope st) .none kV doc pm an cdv ct) := ⟨⟨oc, od, kV, doc, pm, an, cdv, ct, osl, rfl, l, c⟩, k⟩
end
theorem hu_of {A : Around} {k : Nat} (hr : Room k A) : A.units + 1 < cLine := Nat.lt_of_le_of_lt (Nat.add_le_add_left (by decide : 1 ≤ 64) _) hr.units
theorem small1000 {n : Nat} (h : n ≤ 1000) : n < sizeLine := Nat.lt_of_le_of_lt h (by decide)

/-! ### expressions in short: the name that stands in the i-th slot -/
section
variable {X : Cx}
theorem pv (i : Nat) {x : Str} {pos : Pos} (hN : X.N[i]? = some x := by rfl) (hv : Vis X.env.scope x := by first | exact Or.inl rfl | exact Or.inr (Or.inl rfl) | exact Or.inr (Or.inr rfl)) (hd : (x == ("__debug__" : Str)) = false := by decide)
    (hcd : (x == ("__classdict__" : Str)) = false := by decide) : PE X (.Name x pos) (tVar i) := pe_var hN hv hd hcd
end

/-! ### tests -/
theorem iteF {A B : Prop} (h : B) : if false = true then A else B := by
  rw [if_neg Bool.false_ne_true]
  exact h
theorem iteT {A B : Prop} (h : A) : if true = true then A else B := by
  rw [if_pos rfl]
  exact h
theorem ite2 {c A B : Prop} [Decidable c] (h1 : c → A) (h2 : ¬ c → B) : if c then A else B := by
  by_cases h : c
  · rw [if_pos h]
    exact h1 h
  · rw [if_neg h]
    exact h2 h
theorem iteNS {c A B : Prop} [Decidable c] (hc : c) (h : B) : if (!decide c) = true then A else B := by
  rw [decide_eq_true hc]
  exact iteF h

/-! ### heaps -/
/-- all that was tracked is as it was -/
def Same (H H' : Hp) : Prop := ∀ b o, H b = some o → H' b = some o
theorem Same.refl (H : Hp) : Same H H := fun _ _ h => h
theorem Same.trans {H H1 H2 : Hp} (a : Same H H1) (b : Same H1 H2) : Same H H2 := fun c o h => b c o (a c o h)
theorem Same.free {H H' : Hp} (e : Same H H') {l : Addr} (h : H' l = Option.none) : H l = Option.none := by
  cases q : H l with
  | none => rfl
  | some o =>
    rw [e l o q] at h
    cases h
theorem Same.seq {K : PySem.W.Frag} {H H' : Hp} {a : Addr} {xs : List V} (e : Same H H') (h : SqL K H a xs) : SqL K H' a xs := by
  rcases h with (h | ⟨o, h⟩) | h
  · exact .inl (.inl (e _ _ h))
  · exact .inl (.inr ⟨o, e _ _ h⟩)
  · exact .inr h

end L2

namespace GF
theorem two_mul_xor (a b : Nat) : 2 * (a ^^^ b) = (2 * a) ^^^ (2 * b) := by
  apply Nat.eq_of_testBit_eq
  intro i
  rw [Nat.testBit_xor]
  cases i with
  | zero => simp [Nat.testBit_zero]
  | succ i => simp [Nat.testBit_succ]
theorem xor_div_two (a b : Nat) : (a ^^^ b) / 2 = (a / 2) ^^^ (b / 2) := by
  apply Nat.eq_of_testBit_eq
  intro i
  rw [Nat.testBit_xor, ← Nat.testBit_succ, ← Nat.testBit_succ, ← Nat.testBit_succ, Nat.testBit_xor]
theorem xor_mod_two (a b : Nat) : (a ^^^ b) % 2 = (a % 2 + b % 2) % 2 := by
  have h := Nat.testBit_xor a b 0
  simp only [Nat.testBit_zero] at h
  rcases Nat.mod_two_eq_zero_or_one a with ha | ha <;> rcases Nat.mod_two_eq_zero_or_one b with hb | hb <;>
    rcases Nat.mod_two_eq_zero_or_one (a ^^^ b) with hc | hc <;> simp_all
theorem xor4 (a b c d : Nat) : (a ^^^ b) ^^^ (c ^^^ d) = (a ^^^ c) ^^^ (b ^^^ d) := by
  rw [Nat.xor_assoc, Nat.xor_assoc, ← Nat.xor_assoc b c d, Nat.xor_comm b c, Nat.xor_assoc c b d]
/-- the symbol doubled -/
def dbl (r w x : Nat) : Nat := if 2 ^ w ≤ 2 * x then (2 * x) ^^^ r else 2 * x
structure Rule (r w : Nat) : Prop where
  lo : 2 ^ w ≤ r
  hi : r < 2 ^ (w + 1)
theorem top_bit {w x : Nat} (h : x < 2 ^ (w + 1)) : (2 ^ w ≤ x) ↔ x.testBit w = true := by
  constructor
  · intro h1
    rw [Nat.testBit_eq_decide_div_mod_eq]
    have : x / 2 ^ w = 1 := by
      apply Nat.div_eq_of_lt_le
      · omega
      · rw [Nat.pow_succ] at h; omega
    rw [this]; rfl
  · intro h1
    exact Nat.ge_two_pow_of_testBit h1
theorem lt_of_top {w x : Nat} (h : x < 2 ^ (w + 1)) (hb : x.testBit w = false) : x < 2 ^ w := by
  refine Nat.lt_of_not_le fun q => ?_
  rw [(top_bit h).mp q] at hb
  cases hb
variable {r w : Nat}
theorem dbl_lt (R : Rule r w) {x : Nat} (hx : x < 2 ^ w) : dbl r w x < 2 ^ w := by
  unfold dbl
  have h2 : 2 * x < 2 ^ (w + 1) := by rw [Nat.pow_succ]; omega
  split
  · rename_i h
    refine lt_of_top (Nat.xor_lt_two_pow h2 R.hi) ?_
    rw [Nat.testBit_xor, (top_bit h2).mp h, (top_bit R.hi).mp R.lo]
    rfl
  · omega
theorem dbl_eq {x : Nat} (hx : x < 2 ^ w) : dbl r w x = (2 * x) ^^^ (bif (2 * x).testBit w then r else 0) := by
  have h2 : 2 * x < 2 ^ (w + 1) := by rw [Nat.pow_succ]; omega
  unfold dbl
  split
  · rename_i h
    rw [(top_bit h2).mp h]
    rfl
  · rename_i h
    cases e : (2 * x).testBit w
    · simp
    · exact absurd ((top_bit h2).mpr e) h
theorem dbl_xor (R : Rule r w) {a b : Nat} (ha : a < 2 ^ w) (hb : b < 2 ^ w) : dbl r w (a ^^^ b) = dbl r w a ^^^ dbl r w b := by
  rw [dbl_eq (Nat.xor_lt_two_pow ha hb), dbl_eq ha, dbl_eq hb, two_mul_xor, Nat.testBit_xor, xor4]
  congr 1
  cases (2 * a).testBit w <;> cases (2 * b).testBit w <;> simp
theorem dbl_zero : dbl r w 0 = 0 := by
  unfold dbl
  have : 0 < 2 ^ w := Nat.two_pow_pos w
  rw [if_neg (by omega)]
/-- the product -/
def tm (r w a b : Nat) : Nat := if b = 0 then 0 else (if b % 2 = 1 then a else 0) ^^^ tm r w (dbl r w a) (b / 2)
termination_by b
decreasing_by omega
theorem tm_zero (a : Nat) : tm r w a 0 = 0 := by rw [tm]; simp
theorem tm_step (a b : Nat) : tm r w a b = (if b % 2 = 1 then a else 0) ^^^ tm r w (dbl r w a) (b / 2) := by
  by_cases h : b = 0
  · subst h
    rw [tm_zero]
    simp [tm_zero]
  · rw [tm]; simp [h]
theorem tm_lt (R : Rule r w) : ∀ {b a : Nat}, a < 2 ^ w → tm r w a b < 2 ^ w := by
  intro b
  induction b using Nat.strongRecOn with
  | _ b ih =>
    intro a ha
    by_cases h : b = 0
    · subst h; rw [tm_zero]; exact Nat.two_pow_pos w
    · rw [tm_step]
      refine Nat.xor_lt_two_pow ?_ (ih (b / 2) (by omega) (dbl_lt R ha))
      split
      · exact ha
      · exact Nat.two_pow_pos w
theorem tm_xor_left (R : Rule r w) : ∀ {b a c : Nat}, a < 2 ^ w → c < 2 ^ w → tm r w (a ^^^ c) b = tm r w a b ^^^ tm r w c b := by
  intro b
  induction b using Nat.strongRecOn with
  | _ b ih =>
    intro a c ha hc
    by_cases h : b = 0
    · subst h; simp [tm_zero]
    · rw [tm_step, tm_step a, tm_step c, dbl_xor R ha hc, ih (b / 2) (by omega) (dbl_lt R ha) (dbl_lt R hc), xor4]
      congr 1
      split <;> simp
theorem tm_dbl_left (R : Rule r w) : ∀ {b a : Nat}, a < 2 ^ w → tm r w (dbl r w a) b = dbl r w (tm r w a b) := by
  intro b
  induction b using Nat.strongRecOn with
  | _ b ih =>
    intro a ha
    by_cases h : b = 0
    · subst h; simp [tm_zero, dbl_zero]
    · have hz : (if b % 2 = 1 then a else 0) < 2 ^ w := by
        split
        · exact ha
        · exact Nat.two_pow_pos w
      rw [tm_step, tm_step a, dbl_xor R hz (tm_lt R (dbl_lt R ha)), ih (b / 2) (by omega) (dbl_lt R ha)]
      congr 1
      split <;> simp [dbl_zero]
theorem tm_xor_right : ∀ {b c a : Nat}, tm r w a (b ^^^ c) = tm r w a b ^^^ tm r w a c := by
  intro b
  induction b using Nat.strongRecOn with
  | _ b ih =>
    intro c a
    by_cases h : b = 0
    · subst h; simp [tm_zero]
    · rw [tm_step a (b ^^^ c), tm_step a b, tm_step a c, xor_div_two, ih (b / 2) (by omega), xor4]
      congr 1
      rw [xor_mod_two]
      rcases Nat.mod_two_eq_zero_or_one b with hb | hb <;> rcases Nat.mod_two_eq_zero_or_one c with hc | hc <;> simp [hb, hc]
/-- the symbol that a row of binary digits is worth -/
abbrev ev (r w x : Nat) : Nat := tm r w 1 x
theorem dbl_one (hw' : 1 < w) : dbl r w 1 = 2 := by
  unfold dbl
  have : 2 ^ 2 ≤ 2 ^ w := Nat.pow_le_pow_right (by decide) hw'
  rw [if_neg (by omega)]
theorem one_lt (hw : 1 < w) : 1 < 2 ^ w := by
  have : 2 ^ 2 ≤ 2 ^ w := Nat.pow_le_pow_right (by decide) hw
  omega
/-- c·x for a binary digit -/
theorem tm_split (a x : Nat) (R : Rule r w) (ha : a < 2 ^ w) : tm r w a x = (if x % 2 = 1 then a else 0) ^^^ dbl r w (tm r w a (x / 2)) := by
  rw [tm_step, tm_dbl_left R ha]
theorem ev_self (R : Rule r w) (hw : 1 < w) : ∀ {k x : Nat}, k ≤ w → x < 2 ^ k → ev r w x = x := by
  intro k
  induction k with
  | zero =>
    intro x _ hx
    have : x = 0 := by simpa using hx
    subst this
    exact tm_zero 1
  | succ k ih =>
    intro x hk hx
    have hx2 : x / 2 < 2 ^ k := by rw [Nat.pow_succ] at hx; omega
    have hk2 : 2 ^ k ≤ 2 ^ (w - 1) := Nat.pow_le_pow_right (by decide) (by omega)
    have hww : 2 * 2 ^ (w - 1) = 2 ^ w := by rw [Nat.mul_comm, ← Nat.pow_succ]; congr 1; omega
    have h1 : ev r w (x / 2) = x / 2 := ih (by omega) hx2
    unfold ev at h1 ⊢
    have hd : dbl r w (x / 2) = 2 * (x / 2) := by
      unfold dbl
      rw [if_neg (by omega)]
    rw [tm_split 1 x R (one_lt hw), h1, hd]
    rcases Nat.mod_two_eq_zero_or_one x with h | h
    · rw [if_neg (by omega), Nat.zero_xor]; omega
    · rw [if_pos h]
      apply Nat.eq_of_testBit_eq
      intro i
      rw [Nat.testBit_xor]
      cases i with
      | zero => simp [Nat.testBit_zero, h]
      | succ i => simp [Nat.testBit_succ]
theorem one_tm (R : Rule r w) (hw : 1 < w) {x : Nat} (hx : x < 2 ^ w) : tm r w 1 x = x := ev_self R hw (Nat.le_refl w) hx
theorem tm_one (a : Nat) : tm r w a 1 = a := by
  rw [tm_step]; simp [tm_zero]
theorem tm_two (a : Nat) : tm r w a 2 = dbl r w a := by
  rw [tm_step]; simp [tm_one]
/-- either one first -/
theorem tm_comm (R : Rule r w) (hw : 1 < w) {a b : Nat} (ha : a < 2 ^ w) (hb : b < 2 ^ w) : tm r w a b = tm r w b a := by
  have key : ∀ x y : Nat, tm r w (ev r w x) y = tm r w (ev r w y) x := by
    intro x
    induction x using Nat.strongRecOn with
    | _ x ih =>
      intro y
      by_cases h : x = 0
      · subst h
        show tm r w (tm r w 1 0) y = tm r w (ev r w y) 0
        rw [tm_zero, tm_zero]
        -- 0·y = 0
        have : ∀ y, tm r w 0 y = 0 := by
          intro y
          induction y using Nat.strongRecOn with
          | _ y ihy =>
            by_cases hy : y = 0
            · subst hy; exact tm_zero 0
            · rw [tm_step, dbl_zero, ihy (y / 2) (by omega)]; simp
        exact this y
      · have e1 : ev r w x = (if x % 2 = 1 then 1 else 0) ^^^ dbl r w (ev r w (x / 2)) := tm_split 1 x R (one_lt hw)
        have l1 : ev r w (x / 2) < 2 ^ w := tm_lt R (one_lt hw)
        have l2 : (if x % 2 = 1 then 1 else 0) < 2 ^ w := by
          split
          · exact one_lt hw
          · exact Nat.two_pow_pos w
        have ly : ev r w y < 2 ^ w := tm_lt R (one_lt hw)
        rw [e1, tm_xor_left R l2 (dbl_lt R l1), tm_dbl_left R l1, ih (x / 2) (by omega) y, tm_split (ev r w y) x R ly]
        congr 1
        split
        · rfl
        · have : ∀ y, tm r w 0 y = 0 := by
            intro y
            induction y using Nat.strongRecOn with
            | _ y ihy =>
              by_cases hy : y = 0
              · subst hy; exact tm_zero 0
              · rw [tm_step, dbl_zero, ihy (y / 2) (by omega)]; simp
          exact this y
  have h := key a b
  rw [show ev r w a = a from one_tm R hw ha, show ev r w b = b from one_tm R hw hb] at h
  exact h
theorem zero_tm (y : Nat) : tm r w 0 y = 0 := by
  induction y using Nat.strongRecOn with
  | _ y ihy =>
    by_cases hy : y = 0
    · subst hy; exact tm_zero 0
    · rw [tm_step, dbl_zero, ihy (y / 2) (by omega)]; simp
theorem tm_dbl_right (R : Rule r w) (hw : 1 < w) {a z : Nat} (ha : a < 2 ^ w) (hz : z < 2 ^ w) : tm r w a (dbl r w z) = dbl r w (tm r w a z) := by
  rw [tm_comm R hw ha (dbl_lt R hz), tm_dbl_left R hz, tm_comm R hw hz ha]
/-- any grouping -/
theorem tm_assoc (R : Rule r w) (hw : 1 < w) {a b : Nat} (ha : a < 2 ^ w) (hb : b < 2 ^ w) : ∀ c, tm r w (tm r w a b) c = tm r w a (tm r w b c) := by
  intro c
  induction c using Nat.strongRecOn with
  | _ c ih =>
    by_cases h : c = 0
    · subst h; simp [tm_zero]
    · rw [tm_split _ c R (tm_lt R ha), tm_split b c R hb, tm_xor_right, tm_dbl_right R hw ha (tm_lt R hb), ih (c / 2) (by omega)]
      congr 1
      split
      · rfl
      · exact (tm_zero a).symm
end GF

namespace GF
theorem and_div_two (a b : Nat) : (a &&& b) / 2 = (a / 2) &&& (b / 2) := by
  apply Nat.eq_of_testBit_eq
  intro i
  rw [Nat.testBit_and, ← Nat.testBit_succ, ← Nat.testBit_succ, ← Nat.testBit_succ, Nat.testBit_and]
theorem and_mod_two (a b : Nat) : (a &&& b) % 2 = (a % 2) * (b % 2) := by
  have h := Nat.testBit_and a b 0
  simp only [Nat.testBit_zero] at h
  rcases Nat.mod_two_eq_zero_or_one a with ha | ha <;> rcases Nat.mod_two_eq_zero_or_one b with hb | hb <;>
    rcases Nat.mod_two_eq_zero_or_one (a &&& b) with hc | hc <;> simp_all
theorem xor_add_and : ∀ (a b : Nat), (a ^^^ b) + 2 * (a &&& b) = a + b := by
  intro a
  induction a using Nat.strongRecOn with
  | _ a ih =>
    intro b
    by_cases h : a = 0
    · subst h; simp
    · have h1 := ih (a / 2) (by omega) (b / 2)
      have e1 := xor_div_two a b
      have e2 := and_div_two a b
      have m1 := xor_mod_two a b
      have m2 := and_mod_two a b
      rcases Nat.mod_two_eq_zero_or_one a with ha | ha <;> rcases Nat.mod_two_eq_zero_or_one b with hb | hb <;> rw [ha, hb] at m1 m2 <;> omega
variable {r w : Nat}
/-- ev of a doubled row -/
theorem ev_two_mul (R : Rule r w) (hw : 1 < w) (x : Nat) : ev r w (2 * x) = dbl r w (ev r w x) := by
  unfold ev
  rw [tm_split 1 (2 * x) R (one_lt hw)]
  have : 2 * x / 2 = x := by omega
  have h0 : ¬ (2 * x % 2 = 1) := by omega
  rw [this, if_neg h0, Nat.zero_xor]
theorem tm_pow_succ (R : Rule r w) {a : Nat} (ha : a < 2 ^ w) (k : Nat) : tm r w a (2 ^ (k + 1)) = dbl r w (tm r w a (2 ^ k)) := by
  have e : 2 ^ (k + 1) = 2 * 2 ^ k := by rw [Nat.pow_succ, Nat.mul_comm]
  rw [e, tm_split a (2 * 2 ^ k) R ha]
  have : 2 * 2 ^ k / 2 = 2 ^ k := by omega
  have h0 : ¬ (2 * 2 ^ k % 2 = 1) := by omega
  rw [this, if_neg h0, Nat.zero_xor]
theorem ev_shift (R : Rule r w) (hw : 1 < w) (x k : Nat) : ev r w (x * 2 ^ k) = tm r w (ev r w x) (2 ^ k) := by
  induction k with
  | zero => rw [Nat.pow_zero, Nat.mul_one, tm_one]
  | succ k ih =>
    have e : x * 2 ^ (k + 1) = 2 * (x * 2 ^ k) := by rw [Nat.pow_succ, Nat.mul_comm 2, Nat.mul_assoc]
    rw [e, ev_two_mul R hw, ih, tm_pow_succ R (tm_lt R (one_lt hw))]
theorem ev_xor (x y : Nat) : ev r w (x ^^^ y) = ev r w x ^^^ ev r w y := tm_xor_right
theorem ev_rule (R : Rule r w) (hw : 1 < w) : ev r w r = 0 := by
  have hl : r ^^^ 2 ^ w < 2 ^ w := by
    have h2 : 2 ^ w < 2 ^ (w + 1) := Nat.pow_lt_pow_right (by decide) (by omega)
    refine lt_of_top (Nat.xor_lt_two_pow R.hi h2) ?_
    rw [Nat.testBit_xor, (top_bit R.hi).mp R.lo, Nat.testBit_two_pow_self]
    rfl
  have e0 : r = 2 ^ w ^^^ (r ^^^ 2 ^ w) := by
    rw [Nat.xor_comm r, ← Nat.xor_assoc, Nat.xor_self, Nat.zero_xor]
  have ew : ev r w (2 ^ w) = r ^^^ 2 ^ w := by
    obtain ⟨v, rfl⟩ : ∃ v, w = v + 1 := ⟨w - 1, by omega⟩
    have e1 : (2 : Nat) ^ (v + 1) = 2 * 2 ^ v := by rw [Nat.pow_succ, Nat.mul_comm]
    have e2 : ev r (v + 1) (2 ^ v) = 2 ^ v := ev_self R hw (Nat.le_refl _) (Nat.pow_lt_pow_right (by decide) (by omega))
    have e3 : ev r (v + 1) (2 * 2 ^ v) = dbl r (v + 1) (2 ^ v) := by rw [ev_two_mul R hw, e2]
    have e4 : dbl r (v + 1) (2 ^ v) = (2 * 2 ^ v) ^^^ r := by
      unfold dbl
      rw [if_pos (by omega)]
    have e5 : ev r (v + 1) (2 ^ (v + 1)) = ev r (v + 1) (2 * 2 ^ v) := congrArg _ e1
    rw [e5, e3, e4, ← e1, Nat.xor_comm]
  calc ev r w r = ev r w (2 ^ w ^^^ (r ^^^ 2 ^ w)) := by rw [← e0]
    _ = ev r w (2 ^ w) ^^^ ev r w (r ^^^ 2 ^ w) := ev_xor _ _
    _ = (r ^^^ 2 ^ w) ^^^ (r ^^^ 2 ^ w) := by rw [ew, show ev r w (r ^^^ 2 ^ w) = r ^^^ 2 ^ w from one_tm R hw hl]
    _ = 0 := Nat.xor_self _
theorem ev_rule_shift (R : Rule r w) (hw : 1 < w) (k : Nat) : ev r w (r * 2 ^ k) = 0 := by
  rw [ev_shift R hw, ev_rule R hw, zero_tm]
/-! the law's long product -/
theorem mod_bit_set {b k : Nat} (h : b / 2 ^ k % 2 = 1) : b % 2 ^ (k + 1) = b % 2 ^ k ^^^ 2 ^ k := by
  apply Nat.eq_of_testBit_eq
  intro i
  have hk : b.testBit k = true := by rw [Nat.testBit_eq_decide_div_mod_eq, h]; rfl
  rw [Nat.testBit_xor, Nat.testBit_mod_two_pow, Nat.testBit_mod_two_pow, Nat.testBit_two_pow]
  by_cases e : k = i
  · subst e; simp [hk]
  · by_cases l : i < k
    · have : i < k + 1 := by omega
      simp [l, this, e]
    · have : ¬ i < k + 1 := by omega
      simp [l, this, e]
theorem mod_bit_clear {b k : Nat} (h : ¬ b / 2 ^ k % 2 = 1) : b % 2 ^ (k + 1) = b % 2 ^ k := by
  apply Nat.eq_of_testBit_eq
  intro i
  have hk : b.testBit k = false := by rw [Nat.testBit_eq_decide_div_mod_eq]; exact decide_eq_false h
  rw [Nat.testBit_mod_two_pow, Nat.testBit_mod_two_pow]
  by_cases e : k = i
  · subst e; simp [hk]
  · by_cases l : i < k
    · have : i < k + 1 := by omega
      simp [l, this]
    · have : ¬ i < k + 1 := by omega
      simp [l, this]
/-- what the first loop keeps -/
structure Sum1 (r w a b i f : Nat) : Prop where
  lt : f < 2 ^ (2 * w - 1)
  ev : ev r w f = tm r w a (b % 2 ^ i)
theorem sum1_start (a b : Nat) : Sum1 r w a b 0 0 := ⟨Nat.two_pow_pos _, by rw [Nat.pow_zero, Nat.mod_one, tm_zero]; exact tm_zero 1⟩
theorem sum1_set (R : Rule r w) (hw : 1 < w) {a b i f : Nat} (ha : a < 2 ^ w) (hi : i < w) (S : Sum1 r w a b i f) (h : b / 2 ^ i % 2 = 1) : Sum1 r w a b (i + 1) (f ^^^ (a * 2 ^ i)) := by
  refine ⟨Nat.xor_lt_two_pow S.lt ?_, ?_⟩
  · have e : 2 ^ (2 * w - 1) = 2 ^ w * 2 ^ (w - 1) := by rw [← Nat.pow_add]; congr 1; omega
    have h2 : 2 ^ i ≤ 2 ^ (w - 1) := Nat.pow_le_pow_right (by decide) (by omega)
    rw [e]
    calc a * 2 ^ i < 2 ^ w * 2 ^ i := Nat.mul_lt_mul_of_pos_right ha (Nat.two_pow_pos i)
      _ ≤ 2 ^ w * 2 ^ (w - 1) := Nat.mul_le_mul_left _ h2
  · rw [ev_xor, S.ev, ev_shift R hw, show GF.ev r w a = a from one_tm R hw ha, mod_bit_set h, tm_xor_right]
theorem sum1_clear {a b i f : Nat} (S : Sum1 r w a b i f) (h : ¬ b / 2 ^ i % 2 = 1) : Sum1 r w a b (i + 1) f := ⟨S.lt, by rw [S.ev, mod_bit_clear h]⟩
/-- what the second loop keeps: i turns are done -/
structure Sum2 (r w p i f : Nat) : Prop where
  lt : f < 2 ^ (2 * w - 1 - i)
  ev : ev r w f = p
theorem sum2_start {a b f : Nat} (hb : b < 2 ^ w) (S : Sum1 r w a b w f) : Sum2 r w (tm r w a b) 0 f := ⟨S.lt, by rw [S.ev, Nat.mod_eq_of_lt hb]⟩
theorem sum2_set (R : Rule r w) (hw : 1 < w) {p i f : Nat} (hi : i + 1 < w) (S : Sum2 r w p i f) (h : f / 2 ^ (2 * w - 2 - i) % 2 = 1) : Sum2 r w p (i + 1) (f ^^^ (r * 2 ^ (2 * w - 2 - i - w))) := by
  obtain ⟨q, hq⟩ : ∃ q, q = 2 * w - 2 - i := ⟨_, rfl⟩
  rw [← hq] at h ⊢
  have e1 : 2 * w - 1 - i = q + 1 := by omega
  have e2 : 2 * w - 1 - (i + 1) = q := by omega
  have hlt := S.lt
  rw [e1] at hlt
  refine ⟨?_, ?_⟩
  · rw [e2]
    have hr : r * 2 ^ (q - w) < 2 ^ (q + 1) := by
      have : 2 ^ (q + 1) = 2 ^ (w + 1) * 2 ^ (q - w) := by rw [← Nat.pow_add]; congr 1; omega
      rw [this]
      exact Nat.mul_lt_mul_of_pos_right R.hi (Nat.two_pow_pos _)
    have hr2 : 2 ^ q ≤ r * 2 ^ (q - w) := by
      have : 2 ^ q = 2 ^ w * 2 ^ (q - w) := by rw [← Nat.pow_add]; congr 1; omega
      rw [this]
      exact Nat.mul_le_mul_right _ R.lo
    refine lt_of_top (Nat.xor_lt_two_pow hlt hr) ?_
    have hb : f.testBit q = true := by rw [Nat.testBit_eq_decide_div_mod_eq, h]; rfl
    rw [Nat.testBit_xor, hb, (top_bit hr).mp hr2]
    rfl
  · rw [ev_xor, ev_rule_shift R hw, Nat.xor_zero, S.ev]
theorem sum2_clear {p i f : Nat} (hi : i + 1 < w) (S : Sum2 r w p i f) (h : ¬ f / 2 ^ (2 * w - 2 - i) % 2 = 1) : Sum2 r w p (i + 1) f := by
  have e1 : 2 * w - 1 - i = (2 * w - 2 - i) + 1 := by omega
  have e2 : 2 * w - 1 - (i + 1) = 2 * w - 2 - i := by omega
  have hlt := S.lt
  rw [e1] at hlt
  refine ⟨?_, S.ev⟩
  rw [e2]
  exact lt_of_top hlt (by rw [Nat.testBit_eq_decide_div_mod_eq]; exact decide_eq_false h)
theorem sum2_end (R : Rule r w) (hw : 1 < w) {p f : Nat} (S : Sum2 r w p (w - 1) f) : f = p := by
  have h := S.lt
  have e : 2 * w - 1 - (w - 1) = w := by omega
  rw [e] at h
  rw [← S.ev]
  exact (one_tm R hw h).symm
end GF

namespace GF
/-- 1 doubled n times -/
def it (r w : Nat) : Nat → Nat
  | 0 => 1
  | n + 1 => dbl r w (it r w n)
structure Good (r w : Nat) : Prop where
  rule : Rule r w
  w4 : 4 ≤ w
  w8 : w ≤ 8
  odd : r % 2 = 1
  lo16 : 16 ≤ r
  hi511 : r ≤ 511
  back : it r w (2 ^ w - 1) = 1
  first : ∀ n, 1 ≤ n → n < 2 ^ w - 1 → it r w n ≠ 1
theorem Good.w1 {r w : Nat} (g : Good r w) : 1 < w := Nat.lt_of_lt_of_le (by decide) g.w4
theorem Good.top16 {r w : Nat} (g : Good r w) : 16 ≤ 2 ^ w := Nat.pow_le_pow_right (n := 2) (by decide) g.w4
theorem Good.top256 {r w : Nat} (g : Good r w) : 2 ^ w ≤ 256 := Nat.pow_le_pow_right (n := 2) (by decide) g.w8
theorem Good.last1 {r w : Nat} (g : Good r w) : 1 ≤ 2 ^ w - 1 := by
  have := g.top16
  omega
theorem it_lt {r w : Nat} (R : Rule r w) (hw : 1 < w) : ∀ n, it r w n < 2 ^ w
  | 0 => one_lt hw
  | n + 1 => dbl_lt R (it_lt R hw n)
/-- the first time from n on at which x, doubled again and again, is 1 -/
def firstBack (r w : Nat) : Nat → Nat → Nat → Option Nat
  | 0, _, _ => none
  | fuel + 1, x, n => if x = 1 then some n else firstBack r w fuel (dbl r w x) (n + 1)
theorem firstBack_some {r w : Nat} : ∀ {fuel n m : Nat}, firstBack r w fuel (it r w n) n = some m → it r w m = 1 ∧ ∀ k, n ≤ k → k < m → it r w k ≠ 1 := by
  intro fuel
  induction fuel with
  | zero => intro n m h; cases h
  | succ fuel ih =>
    intro n m h
    unfold firstBack at h
    split at h
    · rename_i e
      cases h
      exact ⟨e, fun k h1 h2 => absurd h2 (by omega)⟩
    · rename_i e
      obtain ⟨h1, h2⟩ := ih (n := n + 1) h
      refine ⟨h1, fun k a b => ?_⟩
      by_cases q : k = n
      · subst q; exact e
      · exact h2 k (by omega) b
def rules : List Nat := [19, 25, 37, 41, 47, 55, 59, 61, 67, 91, 97, 103, 109, 115, 131, 137, 143, 145, 157, 167, 171, 185, 191, 193,
  203, 211, 213, 229, 239, 241, 247, 253, 285, 299, 301, 333, 351, 355, 357, 361, 369, 391, 397, 425, 451, 463, 487, 501]
def chk (r : Nat) : Bool := decide (16 ≤ r) && decide (r ≤ 511) && decide (r % 2 = 1) && decide (4 ≤ r.log2) && decide (r.log2 ≤ 8) && decide (2 ^ r.log2 ≤ r) && decide (r < 2 ^ (r.log2 + 1)) &&
  decide (firstBack r r.log2 600 2 1 = some (2 ^ r.log2 - 1))
theorem rules_chk : rules.all chk = true := by decide +kernel
theorem good_of_chk {r : Nat} (h : chk r = true) : Good r r.log2 := by
  unfold chk at h
  simp only [Bool.and_eq_true, decide_eq_true_eq] at h
  obtain ⟨⟨⟨⟨⟨⟨⟨h1, h2⟩, h3⟩, h4⟩, h5⟩, h6⟩, h7⟩, h8⟩ := h
  have e : it r r.log2 1 = 2 := dbl_one (by omega)
  have h9 : firstBack r r.log2 600 (it r r.log2 1) 1 = some (2 ^ r.log2 - 1) := by rw [e]; exact h8
  obtain ⟨b1, b2⟩ := firstBack_some h9
  exact ⟨⟨h6, h7⟩, h4, h5, h3, h1, h2, b1, b2⟩
/-- the rule by a cell -/
def ruleOf (c : Int) : Nat := rules.getD (c % 48).toNat 19
theorem ruleOf_good (c : Int) : Good (ruleOf c) (ruleOf c).log2 := by
  apply good_of_chk
  have h := List.all_eq_true.mp rules_chk
  apply h
  unfold ruleOf
  have hl : rules.length = 48 := rfl
  have h1 : (c % 48).toNat < rules.length := by rw [hl]; omega
  rw [List.getD_eq_getElem?_getD, List.getElem?_eq_getElem h1]
  exact List.getElem_mem h1
/-! how the width is found -/
theorem width_go {r w n : Nat} (R : Rule r w) (hn : n < w) : 0 < r / 2 ^ (n + 1) := by
  have h1 : 2 ^ (n + 1) ≤ 2 ^ w := Nat.pow_le_pow_right (by decide) hn
  exact Nat.div_pos (Nat.le_trans h1 R.lo) (Nat.two_pow_pos _)
theorem width_stop {r w : Nat} (R : Rule r w) : r / 2 ^ (w + 1) = 0 := Nat.div_eq_of_lt R.hi
theorem top_go {r w n : Nat} (R : Rule r w) (hn : n ≤ w) : (2 ^ n * 2 ≤ r) ↔ n < w := by
  constructor
  · intro h
    refine Classical.byContradiction fun z => ?_
    have : n = w := by omega
    subst this
    have := R.hi
    rw [Nat.pow_succ] at this
    omega
  · intro h
    have h1 : 2 ^ (n + 1) ≤ 2 ^ w := Nat.pow_le_pow_right (by decide) h
    rw [Nat.pow_succ] at h1
    exact Nat.le_trans h1 R.lo
end GF

namespace GF
/-- the symbols that come up, as a row of binary digits -/
def mask (r w : Nat) : Nat → Nat → Nat → Nat
  | 0, _, acc => acc
  | fuel + 1, x, acc => mask r w fuel (dbl r w x) (acc ||| 2 ^ x)
theorem mask_bit {r w : Nat} : ∀ {fuel n acc b : Nat}, (mask r w fuel (it r w n) acc).testBit b = true → acc.testBit b = true ∨ ∃ k, it r w k = b := by
  intro fuel
  induction fuel with
  | zero => intro n acc b h; exact .inl h
  | succ fuel ih =>
    intro n acc b h
    rcases ih (n := n + 1) h with q | q
    · rw [Nat.testBit_or, Nat.testBit_two_pow, Bool.or_eq_true] at q
      rcases q with q | q
      · exact .inl q
      · exact .inr ⟨n, of_decide_eq_true q⟩
    · exact .inr q
theorem rules_mask : rules.all (fun r => decide (mask r r.log2 (2 ^ r.log2 - 1) 1 0 = 2 ^ 2 ^ r.log2 - 2)) = true := by decide +kernel
theorem bit_all {N b : Nat} (h0 : 0 < b) (h : b < N) : (2 ^ N - 2).testBit b = true := by
  obtain ⟨M, rfl⟩ : ∃ M, N = M + 1 := ⟨N - 1, by omega⟩
  obtain ⟨c, rfl⟩ : ∃ c, b = c + 1 := ⟨b - 1, by omega⟩
  have e : (2 ^ (M + 1) - 2) / 2 = 2 ^ M - 1 := by rw [Nat.pow_succ]; omega
  rw [Nat.testBit_succ, e, Nat.testBit_two_pow_sub_one]
  exact decide_eq_true (by omega)
/-- a rule by which every symbol but 0 comes up -/
structure Full (r w : Nat) : Prop extends Good r w where
  all : ∀ x, 0 < x → x < 2 ^ w → ∃ n, it r w n = x
theorem ruleOf_full (c : Int) : Full (ruleOf c) (ruleOf c).log2 := by
  refine ⟨ruleOf_good c, fun x h0 h => ?_⟩
  have hm : ruleOf c ∈ rules := by
    unfold ruleOf
    have hl : rules.length = 48 := rfl
    have h1 : (c % 48).toNat < rules.length := by rw [hl]; omega
    rw [List.getD_eq_getElem?_getD, List.getElem?_eq_getElem h1]
    exact List.getElem_mem h1
  have q := of_decide_eq_true (List.all_eq_true.mp rules_mask _ hm)
  have b := bit_all h0 h
  rw [← q] at b
  rcases mask_bit (n := 0) b with z | z
  · rw [Nat.zero_testBit] at z; cases z
  · exact z
variable {r w : Nat}
theorem dbl_ne_zero (g : Good r w) {x : Nat} (hx : x < 2 ^ w) (h : dbl r w x = 0) : x = 0 := by
  unfold dbl at h
  split at h
  · have e : 2 * x = r := by
      have := congrArg (· ^^^ r) h
      simp only [Nat.zero_xor, Nat.xor_assoc, Nat.xor_self, Nat.xor_zero] at this
      exact this
    have := g.odd
    omega
  · omega
theorem it_tm_zero (g : Good r w) {y : Nat} (hy : y < 2 ^ w) : ∀ n, tm r w (it r w n) y = 0 → y = 0
  | 0, h => by rw [show it r w 0 = 1 from rfl, one_tm g.rule g.w1 hy] at h; exact h
  | n + 1, h => by
    rw [show it r w (n + 1) = dbl r w (it r w n) from rfl, tm_dbl_left g.rule (it_lt g.rule g.w1 n)] at h
    exact it_tm_zero g hy n (dbl_ne_zero g (tm_lt g.rule (it_lt g.rule g.w1 n)) h)
/-- a product is 0 just where one of both is 0 -/
theorem tm_eq_zero (g : Full r w) {x y : Nat} (hx : x < 2 ^ w) (hy : y < 2 ^ w) : tm r w x y = 0 ↔ (x = 0 ∨ y = 0) := by
  constructor
  · intro h
    by_cases h0 : x = 0
    · exact .inl h0
    · obtain ⟨n, rfl⟩ := g.all x (by omega) hx
      exact .inr (it_tm_zero g.toGood hy n h)
  · rintro (rfl | rfl)
    · exact zero_tm y
    · exact tm_zero x
/-! ### powers -/
def pw (r w x : Nat) : Nat → Nat
  | 0 => 1
  | n + 1 => tm r w (pw r w x n) x
theorem pw_lt (g : Good r w) {x : Nat} (hx : x < 2 ^ w) : ∀ n, pw r w x n < 2 ^ w
  | 0 => one_lt g.w1
  | n + 1 => tm_lt g.rule (pw_lt g hx n)
theorem pw_add (g : Good r w) {x : Nat} (hx : x < 2 ^ w) (m : Nat) : ∀ n, pw r w x (m + n) = tm r w (pw r w x m) (pw r w x n)
  | 0 => by rw [Nat.add_zero, show pw r w x 0 = 1 from rfl, tm_one]
  | n + 1 => by
    rw [← Nat.add_assoc]
    show tm r w (pw r w x (m + n)) x = tm r w (pw r w x m) (tm r w (pw r w x n) x)
    rw [pw_add g hx m n, tm_assoc g.rule g.w1 (pw_lt g hx m) (pw_lt g hx n)]
theorem pw_one (x : Nat) (g : Good r w) (hx : x < 2 ^ w) : pw r w x 1 = x := by
  show tm r w 1 x = x
  exact one_tm g.rule g.w1 hx
theorem pw_mul (g : Good r w) {x : Nat} (hx : x < 2 ^ w) (m : Nat) : ∀ n, pw r w (pw r w x m) n = pw r w x (m * n)
  | 0 => by rw [Nat.mul_zero]; rfl
  | n + 1 => by
    rw [Nat.mul_succ, pw_add g hx]
    show tm r w (pw r w (pw r w x m) n) (pw r w x m) = _
    rw [pw_mul g hx m n]
theorem it_pw (g : Good r w) : ∀ n, it r w n = pw r w 2 n
  | 0 => rfl
  | n + 1 => by
    show dbl r w (it r w n) = tm r w (pw r w 2 n) 2
    rw [it_pw g n, tm_two]
theorem two_lt (g : Good r w) : 2 < 2 ^ w := by have := g.top16; omega
theorem one_pw (g : Good r w) : ∀ n, pw r w 1 n = 1
  | 0 => rfl
  | n + 1 => by
    show tm r w (pw r w 1 n) 1 = 1
    rw [one_pw g n, tm_one]
/-- every symbol but 0 to the power last is 1 -/
theorem pw_last (g : Full r w) {x : Nat} (h0 : 0 < x) (hx : x < 2 ^ w) : pw r w x (2 ^ w - 1) = 1 := by
  obtain ⟨n, rfl⟩ := g.all x h0 hx
  rw [it_pw g.toGood, pw_mul g.toGood (two_lt g.toGood), Nat.mul_comm, ← pw_mul g.toGood (two_lt g.toGood), ← it_pw g.toGood, g.back, one_pw g.toGood]
theorem pw_back (g : Full r w) {x : Nat} (h0 : 0 < x) (hx : x < 2 ^ w) : tm r w x (pw r w x (2 ^ w - 1 - 1)) = 1 := by
  have h := pw_last g h0 hx
  have e : 2 ^ w - 1 = 1 + (2 ^ w - 1 - 1) := by have := g.top16; omega
  rw [e, pw_add g.toGood hx, pw_one x g.toGood hx] at h
  exact h
theorem zero_pw : ∀ n, 0 < n → pw r w 0 n = 0
  | n + 1, _ => tm_zero _
/-- the law's way by squares keeps found * symbol ^ many -/
theorem pw_half (g : Good r w) {x : Nat} (hx : x < 2 ^ w) (n : Nat) : pw r w (tm r w x x) n = pw r w x (2 * n) := by
  have e : tm r w x x = pw r w x 2 := by
    show _ = tm r w (tm r w 1 x) x
    rw [one_tm g.rule g.w1 hx]
  rw [e, pw_mul g hx]
/-! ### rows of products -/
def prod (r w : Nat) (row : List Nat) : Nat := row.foldl (fun f x => tm r w f x) 1
theorem prod_from (g : Good r w) : ∀ (row : List Nat) (f : Nat), f < 2 ^ w → (∀ x ∈ row, x < 2 ^ w) → row.foldl (fun f x => tm r w f x) f = tm r w f (prod r w row)
  | [], f, _, _ => (tm_one f).symm
  | x :: row, f, hf, h => by
    have hx : x < 2 ^ w := h x List.mem_cons_self
    have hr : ∀ y ∈ row, y < 2 ^ w := fun y hy => h y (List.mem_cons_of_mem _ hy)
    show row.foldl (fun f x => tm r w f x) (tm r w f x) = tm r w f (row.foldl (fun f x => tm r w f x) (tm r w 1 x))
    rw [prod_from g row _ (tm_lt g.rule hf) hr, prod_from g row _ (tm_lt g.rule (one_lt g.w1)) hr, one_tm g.rule g.w1 hx, tm_assoc g.rule g.w1 hf hx]
theorem prod_lt (g : Good r w) (row : List Nat) : prod r w row < 2 ^ w := by
  have : ∀ (row : List Nat) (f : Nat), f < 2 ^ w → row.foldl (fun f x => tm r w f x) f < 2 ^ w := by
    intro row
    induction row with
    | nil => intro f hf; exact hf
    | cons x row ih => intro f hf; exact ih _ (tm_lt g.rule hf)
  exact this row 1 (one_lt g.w1)
theorem prod_append (g : Good r w) (a b : List Nat) (hb : ∀ x ∈ b, x < 2 ^ w) : prod r w (a ++ b) = tm r w (prod r w a) (prod r w b) := by
  unfold prod
  rw [List.foldl_append]
  exact prod_from g b _ (prod_lt g a) hb
theorem prod_cons (g : Good r w) (x : Nat) (b : List Nat) (hx : x < 2 ^ w) (hb : ∀ x ∈ b, x < 2 ^ w) : prod r w (x :: b) = tm r w x (prod r w b) := by
  have := prod_append g [x] b hb
  rw [show prod r w [x] = x from one_tm g.rule g.w1 hx] at this
  exact this
theorem prod_snoc (row : List Nat) (x : Nat) : prod r w (row ++ [x]) = tm r w (prod r w row) x := by
  unfold prod
  rw [List.foldl_append]
  rfl
end GF
namespace GF
variable {r w : Nat}
theorem xor_zero_eq {i j : Nat} (h : i ^^^ j = 0) : i = j := by
  have := congrArg (· ^^^ j) h
  simp only [Nat.xor_assoc, Nat.xor_self, Nat.xor_zero, Nat.zero_xor] at this
  exact this
theorem tm_inj (g : Full r w) {x i j : Nat} (h0 : x ≠ 0) (hx : x < 2 ^ w) (hi : i < 2 ^ w) (hj : j < 2 ^ w) (h : tm r w x i = tm r w x j) : i = j := by
  have e : tm r w x (i ^^^ j) = 0 := by rw [tm_xor_right, h, Nat.xor_self]
  rcases (tm_eq_zero g hx (Nat.xor_lt_two_pow hi hj)).mp e with z | z
  · exact absurd z h0
  · exact xor_zero_eq z
end GF

namespace GF
/-- the block of a row of symbols, lowest first -/
def join (w : Nat) : List Nat → Nat
  | [] => 0
  | x :: xs => join w xs * 2 ^ w + x
/-- the symbols of a block -/
def syms (w : Nat) : Nat → Nat → List Nat
  | 0, _ => []
  | n + 1, b => b % 2 ^ w :: syms w n (b / 2 ^ w)
theorem syms_length (w : Nat) : ∀ (n b : Nat), (syms w n b).length = n
  | 0, _ => rfl
  | n + 1, b => by rw [syms, List.length_cons, syms_length w n]
theorem syms_lt {w : Nat} : ∀ {n b x : Nat}, x ∈ syms w n b → x < 2 ^ w
  | 0, b, x, h => by simp [syms] at h
  | n + 1, b, x, h => by
    rw [syms] at h
    rcases List.mem_cons.mp h with e | h
    · rw [e]; exact Nat.mod_lt _ (Nat.two_pow_pos w)
    · exact syms_lt h
theorem syms_join {w : Nat} : ∀ {row : List Nat}, (∀ x ∈ row, x < 2 ^ w) → syms w row.length (join w row) = row
  | [], _ => rfl
  | x :: row, h => by
    have hx : x < 2 ^ w := h x List.mem_cons_self
    rw [List.length_cons, syms, join]
    have e1 : (join w row * 2 ^ w + x) % 2 ^ w = x := by rw [Nat.mul_comm, Nat.mul_add_mod, Nat.mod_eq_of_lt hx]
    have e2 : (join w row * 2 ^ w + x) / 2 ^ w = join w row := by
      rw [Nat.mul_comm, Nat.mul_add_div (Nat.two_pow_pos w), Nat.div_eq_of_lt hx, Nat.add_zero]
    rw [e1, e2, syms_join fun y hy => h y (List.mem_cons_of_mem _ hy)]
theorem join_lt {w : Nat} : ∀ {row : List Nat}, (∀ x ∈ row, x < 2 ^ w) → join w row < (2 ^ w) ^ row.length
  | [], _ => by simp [join]
  | x :: row, h => by
    have hx : x < 2 ^ w := h x List.mem_cons_self
    have ih := join_lt (row := row) fun y hy => h y (List.mem_cons_of_mem _ hy)
    rw [join, List.length_cons, Nat.pow_succ]
    have : (join w row + 1) * 2 ^ w ≤ (2 ^ w) ^ row.length * 2 ^ w := Nat.mul_le_mul_right _ ih
    rw [Nat.add_mul, Nat.one_mul] at this
    omega
theorem join_syms {w : Nat} : ∀ {n b : Nat}, b < (2 ^ w) ^ n → join w (syms w n b) = b
  | 0, b, h => by
    have : b = 0 := by simpa using h
    rw [this]; rfl
  | n + 1, b, h => by
    rw [syms, join, join_syms (n := n) (b := b / 2 ^ w)]
    · rw [Nat.mul_comm]; exact Nat.div_add_mod b (2 ^ w)
    · rw [Nat.pow_succ] at h
      exact Nat.div_lt_of_lt_mul (by rw [Nat.mul_comm]; exact h)
theorem join_zeros (w : Nat) : ∀ (n : Nat) (f : Nat → Nat), f 0 = 0 → join w ((syms w n 0).map f) = 0
  | 0, _, _ => rfl
  | n + 1, f, h => by
    rw [syms, Nat.zero_mod, Nat.zero_div, List.map_cons, join, join_zeros w n f h, h]
    simp
theorem join_low {w n b : Nat} {f : Nat → Nat} (hn : 1 ≤ n) (hb : b < 2 ^ w) (h : f 0 = 0) : join w ((syms w n b).map f) = f b := by
  obtain ⟨m, rfl⟩ : ∃ m, n = m + 1 := ⟨n - 1, by omega⟩
  rw [syms, Nat.mod_eq_of_lt hb, Nat.div_eq_of_lt hb, List.map_cons, join, join_zeros w m f h]
  simp
theorem xor_digits {w x y a b : Nat} (hx : x < 2 ^ w) (hy : y < 2 ^ w) : (a * 2 ^ w + x) ^^^ (b * 2 ^ w + y) = (a ^^^ b) * 2 ^ w + (x ^^^ y) := by
  apply Nat.eq_of_testBit_eq
  intro i
  rw [Nat.testBit_xor, Nat.mul_comm a, Nat.mul_comm b, Nat.mul_comm (a ^^^ b), Nat.testBit_two_pow_mul_add _ hx, Nat.testBit_two_pow_mul_add _ hy, Nat.testBit_two_pow_mul_add _ (Nat.xor_lt_two_pow hx hy)]
  split
  · rw [Nat.testBit_xor]
  · rw [Nat.testBit_xor]
theorem join_xor {w : Nat} : ∀ {n : Nat} {f g : Nat → Nat} {b c : Nat}, (∀ x, f x < 2 ^ w) → (∀ x, g x < 2 ^ w) →
    join w ((syms w n b).map f) ^^^ join w ((syms w n c).map g) = join w (List.zipWith (fun x y => f x ^^^ g y) (syms w n b) (syms w n c))
  | 0, _, _, _, _, _, _ => by simp [syms, join]
  | n + 1, f, g, b, c, hf, hg => by
    rw [syms, syms, List.map_cons, List.map_cons, List.zipWith_cons_cons, join, join, join, xor_digits (hf _) (hg _), join_xor hf hg]
/-- symbol k of a block -/
theorem syms_get {w : Nat} : ∀ {n b k : Nat}, k < n → (syms w n b)[k]? = some (b / (2 ^ w) ^ k % 2 ^ w)
  | 0, _, _, h => absurd h (Nat.not_lt_zero _)
  | n + 1, b, 0, _ => by rw [syms, Nat.pow_zero, Nat.div_one]; rfl
  | n + 1, b, k + 1, h => by
    rw [syms, List.getElem?_cons_succ, syms_get (by omega), Nat.div_div_eq_div_mul, Nat.pow_succ, Nat.mul_comm ((2 ^ w) ^ k)]
theorem syms_xor {w : Nat} : ∀ {n b c : Nat}, syms w n (b ^^^ c) = List.zipWith (fun x y => x ^^^ y) (syms w n b) (syms w n c)
  | 0, _, _ => rfl
  | n + 1, b, c => by
    rw [syms, syms, syms, List.zipWith_cons_cons]
    congr 1
    · apply Nat.eq_of_testBit_eq
      intro i
      rw [Nat.testBit_xor, Nat.testBit_mod_two_pow, Nat.testBit_mod_two_pow, Nat.testBit_mod_two_pow, Nat.testBit_xor]
      by_cases h : i < w <;> simp [h]
    · have e : (b ^^^ c) / 2 ^ w = b / 2 ^ w ^^^ c / 2 ^ w := by
        apply Nat.eq_of_testBit_eq
        intro i
        rw [Nat.testBit_xor, Nat.testBit_div_two_pow, Nat.testBit_div_two_pow, Nat.testBit_div_two_pow, Nat.testBit_xor]
      rw [e, syms_xor]
end GF

namespace GF
/-- the sum of blocks, each times its factor -/
def sumB (r w n : Nat) (ps : List (Nat × Nat)) : Nat := ps.foldl (fun t p => t ^^^ join w ((syms w n p.2).map (tm r w p.1))) 0
/-- symbol k of that sum -/
def dg (r w : Nat) (ps : List (Nat × Nat)) (k : Nat) : Nat := ps.foldl (fun t p => t ^^^ tm r w (p.2 / (2 ^ w) ^ k % 2 ^ w) p.1) 0
theorem foldl_xor {α : Type} (F : α → Nat) : ∀ (ps : List α) (t : Nat), ps.foldl (fun t p => t ^^^ F p) t = t ^^^ ps.foldl (fun t p => t ^^^ F p) 0
  | [], t => by simp
  | p :: ps, t => by
    rw [List.foldl_cons, List.foldl_cons, foldl_xor F ps (t ^^^ F p), foldl_xor F ps (0 ^^^ F p), Nat.zero_xor, Nat.xor_assoc]
theorem sumB_append (r w n : Nat) (ps qs : List (Nat × Nat)) : sumB r w n (ps ++ qs) = sumB r w n ps ^^^ sumB r w n qs := by
  unfold sumB
  rw [List.foldl_append, foldl_xor (fun p : Nat × Nat => join w ((syms w n p.2).map (tm r w p.1))) qs]
theorem syms_range (w n b : Nat) : syms w n b = (List.range n).map fun k => b / (2 ^ w) ^ k % 2 ^ w := by
  apply List.ext_getElem?
  intro k
  by_cases h : k < n
  · rw [syms_get h, List.getElem?_map, List.getElem?_range h]
    rfl
  · rw [List.getElem?_eq_none (by rw [syms_length]; omega), List.getElem?_eq_none (by simp; omega)]
theorem join_xor2 {w : Nat} {f g : Nat → Nat} : ∀ (ks : List Nat), (∀ k, f k < 2 ^ w) → (∀ k, g k < 2 ^ w) → join w (ks.map f) ^^^ join w (ks.map g) = join w (ks.map fun k => f k ^^^ g k)
  | [], _, _ => by simp [join]
  | k :: ks, hf, hg => by
    rw [List.map_cons, List.map_cons, List.map_cons, join, join, join, xor_digits (hf k) (hg k), join_xor2 ks hf hg]
theorem sum_from {r w : Nat} (R : Rule r w) (hw : 1 < w) (n : Nat) : ∀ (ps : List (Nat × Nat)) (D0 : Nat → Nat), (∀ p ∈ ps, p.1 < 2 ^ w) → (∀ k, D0 k < 2 ^ w) →
    ps.foldl (fun t p => t ^^^ join w ((syms w n p.2).map (tm r w p.1))) (join w ((List.range n).map D0)) = join w ((List.range n).map fun k => ps.foldl (fun t p => t ^^^ tm r w (p.2 / (2 ^ w) ^ k % 2 ^ w) p.1) (D0 k))
  | [], D0, _, _ => rfl
  | p :: ps, D0, hp, hD => by
    have hf : p.1 < 2 ^ w := hp p List.mem_cons_self
    have lt : ∀ k, tm r w (p.2 / (2 ^ w) ^ k % 2 ^ w) p.1 < 2 ^ w := fun k => tm_lt R (Nat.mod_lt _ (Nat.two_pow_pos w))
    rw [List.foldl_cons]
    have e : join w ((syms w n p.2).map (tm r w p.1)) = join w ((List.range n).map fun k => tm r w (p.2 / (2 ^ w) ^ k % 2 ^ w) p.1) := by
      rw [syms_range, List.map_map]
      congr 1
      apply List.map_congr_left
      intro k _
      exact tm_comm R hw hf (Nat.mod_lt _ (Nat.two_pow_pos w))
    rw [e, join_xor2 _ hD lt]
    exact sum_from R hw n ps _ (fun q hq => hp q (List.mem_cons_of_mem _ hq)) fun k => Nat.xor_lt_two_pow (hD k) (lt k)
theorem join_none (w : Nat) : ∀ (ks : List Nat), join w (ks.map fun _ => 0) = 0
  | [] => rfl
  | k :: ks => by rw [List.map_cons, join, join_none w ks]; simp
theorem sumB_digits {r w : Nat} (R : Rule r w) (hw : 1 < w) (n : Nat) (ps : List (Nat × Nat)) (hp : ∀ p ∈ ps, p.1 < 2 ^ w) : sumB r w n ps = join w ((List.range n).map (dg r w ps)) := by
  have := sum_from R hw n ps (fun _ => 0) hp fun _ => Nat.two_pow_pos w
  rw [join_none] at this
  exact this
theorem dg_lt {r w : Nat} (R : Rule r w) (ps : List (Nat × Nat)) (k : Nat) : dg r w ps k < 2 ^ w := by
  have : ∀ (ps : List (Nat × Nat)) (t : Nat), t < 2 ^ w → ps.foldl (fun t p => t ^^^ tm r w (p.2 / (2 ^ w) ^ k % 2 ^ w) p.1) t < 2 ^ w := by
    intro ps
    induction ps with
    | nil => intro t h; exact h
    | cons p ps ih => intro t h; exact ih _ (Nat.xor_lt_two_pow h (tm_lt R (Nat.mod_lt _ (Nat.two_pow_pos w))))
  exact this ps 0 (Nat.two_pow_pos w)
theorem join_snoc (w : Nat) : ∀ (xs : List Nat) (x : Nat), join w (xs ++ [x]) = join w xs + x * (2 ^ w) ^ xs.length
  | [], x => by simp [join]
  | y :: xs, x => by
    rw [List.cons_append, join, join_snoc w xs, join, List.length_cons, Nat.pow_succ, Nat.add_mul, Nat.mul_assoc]
    omega
theorem sumB_snoc (r w n : Nat) (ps : List (Nat × Nat)) (p : Nat × Nat) : sumB r w n (ps ++ [p]) = sumB r w n ps ^^^ join w ((syms w n p.2).map (tm r w p.1)) := by
  unfold sumB
  rw [List.foldl_append]
  rfl
theorem dg_snoc (r w : Nat) (ps : List (Nat × Nat)) (p : Nat × Nat) (k : Nat) : dg r w (ps ++ [p]) k = dg r w ps k ^^^ tm r w (p.2 / (2 ^ w) ^ k % 2 ^ w) p.1 := by
  unfold dg
  rw [List.foldl_append]
  rfl
theorem top_pow {w k : Nat} (h8 : w ≤ 8) (hk : k ≤ 16) : (2 ^ w) ^ k ≤ 340282366920938463463374607431768211456 := by
  have e : (340282366920938463463374607431768211456 : Nat) = 2 ^ 128 := by decide +kernel
  rw [e, ← Nat.pow_mul]
  exact Nat.pow_le_pow_right (by decide) (Nat.mul_le_mul h8 hk)
end GF

set_option linter.all false
set_option maxRecDepth 100000
namespace L2
open PySem PySem.Spec PyProof.Rows
section
variable {X : Cx}
/-- int.bit_length -/
theorem mt_bitlen : MtR X "int.bit_length" (fun x xs H Q => ∃ i, x = .int i ∧ xs = [] ∧ Q (.int ((Builtin.Int.intBits i : Nat) : Int)) H) := by
  intro pins s σ H x xs v us Q I rx rs h
  obtain ⟨i, rfl, rfl, q⟩ := h
  obtain ⟨t, rfl⟩ := rx
  cases rs
  exact call_int_bit_length ⟨.int _, H, I.tok _, ⟨_, rfl⟩, q⟩
/-- isinstance of one built-in class -/
theorem call_isi : CallR X (.builtin "isinstance") (fun xs H Q => ∃ x c t b, xs = [x, .ty c] ∧ TyOf X.K H x t ∧ PySem.W.kitOne X.K t (.type c) = some b ∧ Q (.bl b) H) := by
  intro pins s σ H xs us Q I r h
  obtain ⟨x, c, t, b, rfl, ty, e, q⟩ := h
  obtain ⟨u, w', rfl, ru, rw'⟩ := vals2 r
  cases (show w' = Value.type c from rw')
  exact isinst_ok I ru ty e fun tk => ⟨.bl b, H, I.tok tk, rfl, q⟩
end
theorem kit_same (K : PySem.W.Frag) (c : String) : PySem.W.kitOne K (.type c) (.type c) = some true := by
  unfold PySem.W.kitOne
  rw [if_pos (by exact beq_self_eq_true _)]
theorem kit_of {K : PySem.W.Frag} {t c : String} {b : Bool} (h0 : (Value.type t == Value.type c) = false) (h1 : PySem.W.kitMeta c = true) (h2 : (PySem.fastBuiltinMro t).map (fun l => l.contains (Value.type c)) = some b) : PySem.W.kitOne K (.type t) (.type c) = some b := by
  unfold PySem.W.kitOne
  rw [if_neg (by rw [h0]; exact Bool.false_ne_true)]
  show (if PySem.W.kitMeta c = true then PySem.W.subIn K (.type t) (.type c) else none) = some b
  rw [if_pos h1]
  exact h2
theorem kit_int_bool (K : PySem.W.Frag) : PySem.W.kitOne K (.type "int") (.type "bool") = some false := kit_of (by decide +kernel) (by decide +kernel) (by decide +kernel)
/-! ### bits of whole numbers from 0 on -/
theorem bitAnd_nat (a b : Nat) : Builtin.bitAnd (a : Int) (b : Int) = ((a &&& b : Nat) : Int) := by
  unfold Builtin.bitAnd
  rw [decide_eq_true (Int.natCast_nonneg a), decide_eq_true (Int.natCast_nonneg b)]
  simp
theorem bitOr_nat (a b : Nat) : Builtin.bitOr (a : Int) (b : Int) = ((a ||| b : Nat) : Int) := by
  unfold Builtin.bitOr Builtin.bitAnd Builtin.bitNot
  rw [decide_eq_false (by omega), decide_eq_false (by omega)]
  have e1 : (-(-(a : Int) - 1) - 1).toNat = a := by omega
  have e2 : (-(-(b : Int) - 1) - 1).toNat = b := by omega
  simp only [e1, e2]
  omega
theorem bitXor_nat (a b : Nat) : Builtin.bitXor (a : Int) (b : Int) = ((a ^^^ b : Nat) : Int) := by
  have h := PyProof.Rows.bitXor_and (a : Int) (b : Int)
  rw [h, bitAnd_nat]
  have := GF.xor_add_and a b
  omega
theorem intBits_nat {r w : Nat} (h1 : 2 ^ w ≤ r) (h2 : r < 2 ^ (w + 1)) : Builtin.Int.intBits (r : Int) = w + 1 := by
  unfold Builtin.Int.intBits
  have hr : 0 < r := Nat.lt_of_lt_of_le (Nat.two_pow_pos w) h1
  have : ((r : Int) == 0) = false := beq_eq_false_iff_ne.mpr (by omega)
  rw [this]
  have e : (r : Int).natAbs = r := Int.natAbs_natCast r
  rw [e]
  have : r.log2 = w := (Nat.log2_eq_iff (by omega)).mpr ⟨h1, h2⟩
  simp [this]
/-! ### small facts about readings -/
theorem tTest_mono {t : TE} (mono : ∀ σ H Q Q', (∀ v H1, Q v H1 → Q' v H1) → t σ H Q → t σ H Q') : ∀ σ H Q Q', (∀ b H1, Q b H1 → Q' b H1) → tTest t σ H Q → tTest t σ H Q' :=
  fun σ H _ _ h q => mono σ H _ _ (fun _ _ ⟨k, e, z⟩ => ⟨k, e, h _ _ z⟩) q
end L2

set_option linter.all false
set_option maxRecDepth 100000
namespace L2
open PySem PySem.Spec PyProof.Rows
/-! ### reversed(xs) of a list that the body leaves as it is -/
def Itv (K : PySem.W.Frag) (a : Addr) (xs : List V) : It :=
  ⟨fun i H => SqL K H a xs ∧ i < xs.length, fun i H x H' => H' = H ∧ xs[xs.length - 1 - i]? = some x, fun i _ => i = xs.length⟩
theorem turn_rev {P : Program} {w : World} {K : PySem.W.Frag} {tg : Expr} (a it : Addr) (xs : List V) : Turn P w K tg (Itv K a xs) [it] it (fun i h => h.IsRevIter it a ((xs.length : Int) - 1 - (i : Int))) where
  mem := by simp
  obj := fun i h st b hb => by
    have e : b = it := by simpa using hb
    subst e
    obtain ⟨o, e, c, d⟩ := st
    exact ⟨o, e, fun v z => by rw [d] at z; cases z⟩
  keep := fun i h h' st k => st.at fun o e => k it (by simp) o e
  item := by
    intro X hP hw hK hc i pins s σ H E I hf st hg
    subst hP hw hK
    obtain ⟨hq, hi⟩ := hg
    obtain ⟨its, rv, p, hz⟩ := I.list hq
    have hx : xs[xs.length - 1 - i]? = some (xs[xs.length - 1 - i]'(by omega)) := List.getElem?_eq_getElem (by omega)
    obtain ⟨u, hu, ru⟩ := rv.get hx
    obtain ⟨f0, f1, f2, f3, f4, f5⟩ := hf it (by simp)
    have e : (xs.length : Int) - 1 - (i : Int) = ((xs.length - 1 - i : Nat) : Int) := by omega
    rw [e] at st
    refine wpAny_pyNext_rev_item st p.isList (x := u) (by simpa using hu) fun h' st' sb => ?_
    have e2 : ((xs.length - 1 - i : Nat) : Int) - 1 = (xs.length : Int) - 1 - ((i + 1 : Nat) : Int) := by omega
    rw [e2] at st'
    have I1 : Inv X pins σ H { s with heap := h' } := I.turned (t' := s.toks) (fun b o hb e => (sb.2 b hb).trans e) f0 f1 f3 f4 f5
    obtain ⟨o, e, c, d⟩ := id st'
    exact ⟨u, rfl, go_of (s := { s with heap := h' }) e c d (by decide) ⟨_, H, I1, ru, ⟨rfl, hx⟩, st', fun b hb => (hf b hb).1⟩⟩
  done := by
    intro X hP hw hK hc i pins s σ H E I hf st hg
    subst hP hw hK
    have hg : i = xs.length := hg
    obtain ⟨f0, f1, f2, f3, f4, f5⟩ := hf it (by simp)
    have e : (xs.length : Int) - 1 - (i : Int) = -1 := by omega
    rw [e] at st
    exact wpAny_pyNext_rev_end (I.ok.hd hc) st fun h' eb => ⟨rfl, I.turned (t' := s.toks) (fun b o hb e => eb b o hb e) f0 f1 f3 f4 f5⟩
  self := fun _ _ _ _ _ st h => wpAny_pyIter_revIter st h
section
variable {X : Cx} {tg : Expr}
def iRev (K : PySem.W.Frag) (ta : TA) : TI := fun σ H R => ta σ H fun vs H1 => ∃ l xs, vs = [.ref l] ∧ SqL K H1 l xs ∧ R (Itv K l xs) H1
theorem boot_reversed : bootBuiltins "reversed" = some (.type "reversed") := by decide +kernel
theorem pi_rev {a : Expr} {ta : TA} {p pos : Pos} (hg : Gl X "reversed") (hm : X.mg "reversed" = none) (ha : PA X [a] ta) (hs : starEach [a] X.env = [(false, eval a X.env)] := by rfl) : PI X tg (.Call (.Name "reversed" p) [a] [] pos) (iRev X.K ta) := by
  intro pins s σ H R I h
  refine Call_ (ld_blt I hg hm boot_reversed (PyProof.Rows.callWith_type1 (thn (ha pos pins s σ H _ I h) fun us s1 ⟨vs, H1, I1, r1, q1⟩ => ?_) hs rfl))
  obtain ⟨l, xs, e, hq, q⟩ := q1
  subst e
  obtain ⟨u, rfl, ru⟩ := vals1 r1
  cases ru
  obtain ⟨its, rv, pl, hz⟩ := I1.list hq
  refine call_reversed_list pl.isList ?_
  have hsz : ((its.toArray.size : Nat) : Int) - 1 = (xs.length : Int) - 1 - ((0 : Nat) : Int) := by rw [List.size_toArray, ← rv.length]; omega
  have st : (s1.heap.push (revObj l ((its.toArray.size : Int) - 1))).IsRevIter s1.heap.objs.size l ((xs.length : Int) - 1 - ((0 : Nat) : Int)) := by
    rw [← hsz]
    exact ⟨_, Heap.get?_push_size _ rfl, rfl, rfl⟩
  refine wpAny_pyIter_revIter st ?_
  refine ⟨s1.heap.objs.size, [s1.heap.objs.size], _, _, H1, rfl, I1.kept (t' := s1.toks) fun b o e => Heap.get?_push_of_some _ e, turn_rev l _ xs, st, fun b hb => ?_, q⟩
  have e : b = s1.heap.objs.size := by simpa using hb
  subst e
  exact I1.fpOk (Nat.le_refl _) (I1.hok.fresh (Nat.le_refl _))
end
theorem for_rev {K : PySem.W.Frag} {a : Addr} {xs : List V} {g : TG} {tb : TS} {D : Ends} {σ : St} {H : Hp} (Pv : Nat → St → Hp → Prop) (h0 : Pv 0 σ H) (hl : ∀ i σ H, i ≤ xs.length → Pv i σ H → SqL K H a xs)
    (hs : ∀ i x σ H, i < xs.length → xs[xs.length - 1 - i]? = some x → Pv i σ H → g x σ H fun σ2 H2 => tb { D with nx := Pv (i + 1), ct := Pv (i + 1), bk := D.nx } σ2 H2) (hd : ∀ σ H, Pv xs.length σ H → D.nx σ H) :
    ∃ W : Nat → Nat → St → Hp → Prop, (∃ m, W 0 m σ H) ∧ ∀ i m σ H, W i m σ H →
      ((Itv K a xs).stop i H ∧ D.nx σ H) ∨ ((Itv K a xs).go i H ∧ ∃ N : St → Hp → Prop, (∀ σ' H', N σ' H' → ∃ m', m' < m ∧ W (i + 1) m' σ' H') ∧ ∀ x H', (Itv K a xs).yld i H x H' → g x σ H' fun σ2 H2 => tb { D with nx := N, ct := N, bk := D.nx } σ2 H2) := by
  refine ⟨fun i m σ H => m = xs.length - i ∧ i ≤ xs.length ∧ Pv i σ H, ⟨xs.length, by simp, Nat.zero_le _, h0⟩, ?_⟩
  rintro i m σ H ⟨rfl, hi, p⟩
  have q := hl i σ H hi p
  by_cases hlt : i < xs.length
  · refine .inr ⟨⟨q, hlt⟩, Pv (i + 1), fun σ' H' p' => ⟨xs.length - (i + 1), by omega, rfl, hlt, p'⟩, fun x H' y => ?_⟩
    obtain ⟨e, y⟩ := y
    subst e
    exact hs i x σ _ hlt y p
  · have e : i = xs.length := by omega
    exact .inl ⟨e, hd σ H (e ▸ p)⟩
end L2

set_option linter.all false
set_option maxRecDepth 100000
set_option maxHeartbeats 1000000
namespace L2
open PySem PySem.Spec PyProof.Rows
/-! ### comprehensions -/
theorem closure_go {env : Env} : ∀ (names : List (Str × NameKind)) (acc : List (Str × Addr)), (∀ n, (n, NameKind.free) ∈ names → ∃ c, env.cells.lookup n = some c) → (∀ n c, acc.lookup n = some c → env.cells.lookup n = some c) →
    ∃ cl : List (Str × Addr), (forIn names acc (fun x r => match x with
        | (name, kind) => if (kind == NameKind.free) = true then do
            let c ← cellOf env name
            pure (ForInStep.yield ((name, c) :: r))
          else pure (ForInStep.yield r)) : Sem (List (Str × Addr))) = pure cl ∧ (∀ n c, cl.lookup n = some c → env.cells.lookup n = some c) ∧
      ∀ n, ((n, NameKind.free) ∈ names ∨ (acc.lookup n).isSome = true) → (cl.lookup n).isSome = true
  | [], acc, _, h => ⟨acc, rfl, h, fun n q => q.elim (fun z => by simp at z) id⟩
  | (n, k) :: r, acc, hf, h => by
    rw [List.forIn_cons]
    by_cases hk : k = .free
    · subst hk
      obtain ⟨c, hc⟩ := hf n List.mem_cons_self
      have e : cellOf env n = pure c := by unfold cellOf; rw [hc]
      obtain ⟨cl, h1, h2, h3⟩ := closure_go r ((n, c) :: acc) (fun m hm => hf m (List.mem_cons_of_mem _ hm)) (fun m d hm => by
        rw [List.lookup_cons] at hm
        cases q : (m == n) with
        | true => rw [q] at hm; cases hm; rw [eq_of_beq q]; exact hc
        | false => rw [q] at hm; exact h m d hm)
      refine ⟨cl, ?_, h2, fun m hm => h3 m ?_⟩
      · show ((if (NameKind.free == NameKind.free) = true then _ else _) >>= _) = _
        rw [if_pos (by decide), e]
        exact h1
      · rcases hm with hm | hm
        · rcases List.mem_cons.mp hm with z | z
          · cases z
            exact .inr (by rw [List.lookup_cons, beq_self_eq_true]; rfl)
          · exact .inl z
        · refine .inr ?_
          rw [List.lookup_cons]
          cases q : (m == n) with
          | true => rfl
          | false => exact hm
    · have hb : (k == NameKind.free) = false := by simpa using hk
      obtain ⟨cl, h1, h2, h3⟩ := closure_go r acc (fun m hm => hf m (List.mem_cons_of_mem _ hm)) h
      refine ⟨cl, ?_, h2, fun m hm => h3 m ?_⟩
      · show ((if (k == NameKind.free) = true then _ else _) >>= _) = _
        rw [if_neg (by rw [hb]; exact Bool.false_ne_true)]
        exact h1
      · rcases hm with hm | hm
        · rcases List.mem_cons.mp hm with z | z
          · cases z
            exact absurd rfl hk
          · exact .inl z
        · exact .inr hm
theorem closure_of {env : Env} {scope : Scope} (hf : ∀ n, (n, NameKind.free) ∈ scope.names → ∃ c, env.cells.lookup n = some c) :
    ∃ cl : List (Str × Addr), closureFor scope env = pure cl ∧ (∀ n c, cl.lookup n = some c → env.cells.lookup n = some c) ∧ ∀ n, (n, NameKind.free) ∈ scope.names → (cl.lookup n).isSome = true := by
  obtain ⟨cl, h1, h2, h3⟩ := closure_go scope.names [] hf (fun n c h => by simp at h)
  refine ⟨cl, ?_, h2, fun n h => h3 n (.inl h)⟩
  unfold closureFor
  have : (forIn scope.names ([] : List (Str × Addr)) (fun x r => match x with
        | (name, kind) => if (kind == NameKind.free) = true then do
            let c ← cellOf env name
            pure (ForInStep.yield ((name, c) :: r))
          else pure (ForInStep.yield r)) : Sem (List (Str × Addr))) = pure cl := h1
  first
    | exact this
    | (rw [show ∀ x : Sem (List (Str × Addr)), (x >>= fun cs => pure cs) = x from fun x => by simp]; exact this)
    | (simp only [bind_pure]; exact this)
theorem lookup_relabel {env : Env} : ∀ (names : List (Str × NameKind)) (x : Str),
    (names.map fun (n, k) => if (k == NameKind.free && env.scope.kind == .function && env.kindOf n == some .cell) = true then (n, NameKind.cell) else (n, k)).lookup x =
      (names.lookup x).map fun k => if (k == NameKind.free && env.scope.kind == .function && env.kindOf x == some .cell) = true then NameKind.cell else k
  | [], x => rfl
  | (n, k) :: r, x => by
    have ih := lookup_relabel (env := env) r x
    show List.lookup x ((if (k == NameKind.free && env.scope.kind == .function && env.kindOf n == some .cell) = true then (n, NameKind.cell) else (n, k)) :: _) = _
    cases q : (x == n) with
    | true =>
      have e := eq_of_beq q
      subst e
      by_cases hc : (k == NameKind.free && env.scope.kind == .function && env.kindOf x == some .cell) = true
      · rw [if_pos hc]
        simp only [List.lookup_cons, q, Option.map_some, if_pos hc]
      · rw [if_neg hc]
        simp only [List.lookup_cons, q, Option.map_some, if_neg hc]
    | false =>
      by_cases hc : (k == NameKind.free && env.scope.kind == .function && env.kindOf n == some .cell) = true
      · rw [if_pos hc]
        simp only [List.lookup_cons, q]
        exact ih
      · rw [if_neg hc]
        simp only [List.lookup_cons, q]
        exact ih
/-- a comprehension's names: cap, the def's that it reads, by their places; own, its own -/
def compOk (N : List Str) (osc sc : Scope) (cap : List Nat) (own : List Str) : Bool :=
  (sc.kind == .function) && sc.names.all (fun y => (y.2 != .cell) && ((y.2 != .local) || (sc.names.lookup y.1 == some .local)) && ((y.2 != .free) || ((sc.names.lookup y.1 == some .free) && ((osc.names.lookup y.1 == some .cell) || (osc.names.lookup y.1 == some .free))))) &&
    cap.all (fun i => match N[i]? with | some x => sc.names.lookup x == some .free | none => false) && own.all (fun x => sc.names.lookup x == some .local) && decide ((cap.map (fun i => N.getD i Str.empty) ++ own).Nodup)
structure CompOk (N : List Str) (osc sc : Scope) (cap : List Nat) (own : List Str) : Prop where
  kind : sc.kind = .function
  nocell : ∀ y ∈ sc.names, y.2 ≠ .cell
  locs : ∀ y ∈ sc.names, y.2 = .local → sc.names.lookup y.1 = some .local
  free1 : ∀ y ∈ sc.names, y.2 = .free → sc.names.lookup y.1 = some .free
  frees : ∀ y ∈ sc.names, y.2 = .free → osc.names.lookup y.1 = some .cell ∨ osc.names.lookup y.1 = some .free
  capf : ∀ i ∈ cap, ∃ x, N[i]? = some x ∧ sc.names.lookup x = some .free
  owns : ∀ x ∈ own, sc.names.lookup x = some .local
  nd : (cap.map (fun i => N.getD i Str.empty) ++ own).Nodup
theorem CompOk.of {N : List Str} {osc sc : Scope} {cap : List Nat} {own : List Str} (h : compOk N osc sc cap own = true) : CompOk N osc sc cap own := by
  unfold compOk at h
  simp only [Bool.and_eq_true] at h
  obtain ⟨⟨⟨⟨h1, h2⟩, h3⟩, h4⟩, h5⟩ := h
  have all := List.all_eq_true.mp h2
  refine ⟨eq_of_beq h1, fun y hy => ?_, fun y hy e => ?_, fun y hy e => ?_, fun y hy e => ?_, fun i hi => ?_, fun x hx => ?_, of_decide_eq_true h5⟩
  · have q := all y hy
    simp only [Bool.and_eq_true] at q
    intro e
    rw [e] at q
    exact absurd q.1.1 (by decide)
  · have q := all y hy
    simp only [Bool.and_eq_true, Bool.or_eq_true] at q
    rcases q.1.2 with z | z
    · rw [e] at z; exact absurd z (by decide)
    · exact eq_of_beq z
  · have q := all y hy
    simp only [Bool.and_eq_true, Bool.or_eq_true] at q
    rcases q.2 with z | z
    · rw [e] at z; exact absurd z (by decide)
    · exact eq_of_beq z.1
  · have q := all y hy
    simp only [Bool.and_eq_true, Bool.or_eq_true] at q
    rcases q.2 with z | z
    · rw [e] at z; exact absurd z (by decide)
    · exact z.2.imp eq_of_beq eq_of_beq
  · have q := List.all_eq_true.mp h3 i hi
    cases e : N[i]? with
    | none => rw [e] at q; cases q
    | some x => rw [e] at q; exact ⟨x, rfl, eq_of_beq q⟩
  · exact eq_of_beq (List.all_eq_true.mp h4 x hx)
abbrev compN (N : List Str) (cap : List Nat) (own : List Str) : List Str := cap.map (fun i => N.getD i Str.empty) ++ own
abbrev compSt (σ : St) (cap : List Nat) (own : List Str) : St := cap.map (fun i => (σ[i]?).join) ++ own.map fun _ => none
/-- the context of a comprehension's block -/
def compCx (X : Cx) (sc : Scope) (cl : List (Str × Addr)) (C : Addr) (cap : List Nat) (own : List Str) (s₀ : Shared) (H₀ : Hp) (ex : List Addr) : Cx :=
  { X with N := compN X.N cap own, s₀ := s₀, H₀ := H₀, env := compEnvC sc cl C X.env, outer := X.stack, stack := X.stack, ex := ex, fn := fun _ => false, pn := [], xe := fun _ _ => False }
section
variable {X : Cx} {pins : List (Addr × Obj)} {σ : St} {H : Hp} {s : Shared} {sc : Scope} {cl : List (Str × Addr)} {cap : List Nat} {own : List Str}
theorem kind_relabel (S : CompOk X.N X.env.scope sc cap own) {x : Str} {C : Addr} (h : (compEnvC sc cl C X.env).kindOf x = some .cell ∨ (compEnvC sc cl C X.env).kindOf x = some .free) : (x, NameKind.free) ∈ sc.names := by
  have e : (compEnvC sc cl C X.env).kindOf x = (sc.names.lookup x).map fun k => if (k == NameKind.free && X.env.scope.kind == .function && X.env.kindOf x == some .cell) = true then NameKind.cell else k := lookup_relabel sc.names x
  rw [e] at h
  cases q : sc.names.lookup x with
  | none => rw [q] at h; rcases h with z | z <;> cases z
  | some k =>
    have hm := PySem.mem_of_lookup q
    have hk : k = .free := by
      rw [q] at h
      simp only [Option.map_some, Option.some.injEq] at h
      by_cases c : (k == NameKind.free && X.env.scope.kind == .function && X.env.kindOf x == some .cell) = true
      · simp only [Bool.and_eq_true] at c
        exact eq_of_beq c.1.1
      · rw [if_neg c] at h
        rcases h with z | z
        · exact absurd z (S.nocell _ hm)
        · exact z
    rw [hk] at hm
    exact hm
theorem kind_free (S : CompOk X.N X.env.scope sc cap own) {x : Str} {C : Addr} (h : sc.names.lookup x = some .free) : (compEnvC sc cl C X.env).kindOf x = some .cell ∨ (compEnvC sc cl C X.env).kindOf x = some .free := by
  have e : (compEnvC sc cl C X.env).kindOf x = (sc.names.lookup x).map fun k => if (k == NameKind.free && X.env.scope.kind == .function && X.env.kindOf x == some .cell) = true then NameKind.cell else k := lookup_relabel sc.names x
  rw [e, h]
  simp only [Option.map_some, Option.some.injEq]
  split
  · exact .inl rfl
  · exact .inr rfl
/-- the block begins -/
theorem Inv.block {h' : Heap} {fp : List Addr} {t' : Nat} (I : Inv X pins σ H s) (S : CompOk X.N X.env.scope sc cap own) (hc1 : ∀ n c, cl.lookup n = some c → X.env.cells.lookup n = some c) (hc2 : ∀ n, (n, NameKind.free) ∈ sc.names → (cl.lookup n).isSome = true)
    (hf : ∀ b ∈ fp, FpOk X pins H b) (hlt : ∀ b ∈ fp, b < s.heap.objs.size) {m : Str → Option Value} (hn : h'.Ns s.heap.objs.size m) (k : ∀ b u, s.heap.get? b = some u → h'.get? b = some u) :
    Inv (compCx X sc cl s.heap.objs.size cap own s H fp) [] (compSt σ cap own) H { s with heap := h', toks := t' } := by
  refine ⟨⟨I.mod, S.kind, I.ok.glob, I.ok.blt, Nat.le_refl _, fun x y c a b => I.ok.inj x y c (hc1 x c a) (hc1 y c b), fun x hx => ?_, fun x c z => absurd z (by show ¬ (false = true); decide), I.ok.hd, I.ok.frames, .inl rfl, fun b hb => ⟨Nat.ne_of_lt (hlt b hb), fun x c e => (hf b hb).2.2.2.2.1 x c (hc1 x c e)⟩, I.bs, Nat.le_trans I.ok.bsz I.sz, fun b o e hb => ?_, fun b hb z => ?_, I.stack, I.stkFree⟩,
    rfl, I.bare, Un.kept k, ⟨m, hn, fun i x v e1 e2 e3 => ?_⟩, fun x c e => ?_, I.hok.fresh (Nat.le_refl _), fun x c e => I.freeC x c (hc1 x c e), fun p hp => absurd hp (by show p ∉ ([] ++ [] : List (Addr × Obj)); simp), I.hok.kept k, ?_⟩
  · have hm := kind_relabel S hx
    exact Option.isSome_iff_exists.mp (hc2 x hm)
  · rcases (hf b hb).2.2.2.1 with z | z
    · exact I.ok.noex b o e z
    · exact absurd (Nat.lt_of_lt_of_le (Heap.lt_size (I.ok.bs b o e).1) z) (Nat.lt_irrefl _)
  · rcases List.mem_cons.mp (I.stkSub b z) with q | q
    · exact (hf b hb).2.1 q
    · exact (hf b hb).2.2.1 q
  · by_cases hi : i < cap.length
    · have e1' : (compN X.N cap own)[i]? = some x := e1
      have e2' : (compSt σ cap own)[i]? = some (some v) := e2
      rw [compN, List.getElem?_append_left (by simpa using hi), List.getElem?_map, List.getElem?_eq_getElem hi] at e1'
      rw [compSt, List.getElem?_append_left (by simpa using hi), List.getElem?_map, List.getElem?_eq_getElem hi] at e2'
      simp only [Option.map_some, Option.some.injEq] at e1' e2'
      obtain ⟨y, hy, hl⟩ := S.capf _ (List.getElem_mem hi)
      have exy : x = y := by
        rw [← e1', List.getD_eq_getElem?_getD, hy]; rfl
      subst exy
      have ev : σ[cap[i]]? = some (some v) := by
        cases q : σ[cap[i]]? with
        | none => rw [q] at e2'; cases e2'
        | some o => rw [q] at e2'; exact congrArg some e2'
      obtain ⟨m0, hn0, hl0⟩ := I.loc
      have hm := PySem.mem_of_lookup hl
      have hko := S.frees _ hm rfl
      obtain ⟨u, ru, lk⟩ := hl0 _ x v hy ev (hko.elim (fun z => .inr (.inl z)) fun z => .inr (.inr z))
      refine ⟨u, ru, .inr ⟨kind_free S hl, ?_⟩⟩
      obtain ⟨c, hc⟩ := Option.isSome_iff_exists.mp (hc2 x hm)
      refine ⟨c, hc, ?_⟩
      rcases lk with ⟨z, _⟩ | ⟨_, c', hc', q⟩
      · have z' : X.env.scope.names.lookup x = some .local := z
        rcases hko with w | w <;> (rw [z'] at w; cases w)
      · have := hc1 x c hc
        rw [hc'] at this
        cases this
        obtain ⟨o, ho, hd⟩ := q
        exact ⟨o, k _ o ho, hd⟩
    · have e2' : (compSt σ cap own)[i]? = some (some v) := e2
      rw [compSt, List.getElem?_append_right (by simpa using hi), List.getElem?_map] at e2'
      cases q : own[i - (cap.map fun i => (σ[i]?).join).length]? with
      | none => rw [q] at e2'; cases e2'
      | some o => rw [q] at e2'; cases e2'
  · obtain ⟨v, o, ho, hd⟩ := I.cell x c (hc1 x c e)
    exact ⟨v, o, k c o ho, hd⟩
  · show (compSt σ cap own).length = (compN X.N cap own).length
    simp [compSt, compN]
/-- the tests of a comprehension -/
def PTs (X : Cx) (ifs : List Expr) (t : TT) : Prop :=
  ∀ (pins : List (Addr × Obj)) (s : Shared) (σ : St) (H : Hp) (Q : Bool → Hp → Prop), Inv X pins σ H s → t σ H Q →
    wpAny (model X.prog X.w) X.A (forIn ifs true fun c r => if r = true then do let ok ← isTrue c X.env (eval c X.env); pure (ForInStep.yield ok) else pure (ForInStep.yield r)) (TP X pins σ Q) X.xe s
def tTrue : TT := fun _ H Q => Q true H
theorem pts_nil : PTs X [] tTrue := fun _ _ _ H _ I h => wpAny_tests_nil ⟨H, I, h⟩
theorem pts_one {c : Expr} {t : TT} (h : PT X c t) : PTs X [c] t := fun pins s σ H Q I q => wpAny_tests_one (h pins s σ H Q I q)
end
theorem comp_loop {prog : Program} {w : World} {A : Around} {R : Result → Shared → Prop} {s : Shared} {elt target iter : Expr} {ifs : List Expr} {scope : Scope} {pos : Pos} {it acc : Value} {env : Env} (I : Nat → Shared → Prop)
    (turn : ∀ n s, I n s → wpAny (model prog w) A (pyNext it) (fun r s₁ => match r with
      | none => R (.ok .next) s₁
      | some v => wpAny (model prog w) A (letOwnedTupleGo target it v) (fun _ s₁ => wpAny (model prog w) A (assign target env v) (fun _ s₂ =>
          wpAny (model prog w) A (forIn ifs true fun c r => if r = true then do let ok ← isTrue c env (eval c env); pure (ForInStep.yield ok) else pure (ForInStep.yield r)) (fun ok s₃ =>
            if ok = true then wpAny (model prog w) A (eval elt env) (fun x s₄ =>
              wpAny (model prog w) A (call (.builtin "list.append") [acc, x]) (fun _ s₅ => ∃ m, m < n ∧ I m s₅) (fun _ _ => False) s₄) (fun _ _ => False) s₃
            else ∃ m, m < n ∧ I m s₃) (fun _ _ => False) s₂) (fun _ _ => False) s₁) (fun _ _ => False) s₁) (fun _ _ => False) s)
    (n : Nat) (h : I n s) :
    codeAny (model prog w) A (.compLoop (.ListComp elt [⟨target, iter, ifs, 0⟩] scope pos) 0 it acc env) R s := by
  refine codeAny_loop rfl I (fun n s hI => ?_) n h
  show wpAny _ A ((compTurn (.ListComp elt [⟨target, iter, ifs, 0⟩] scope pos) 0 it acc env).onRaise (fun x => do noteFrame x env; theTreesLotGoes x)) _ _ s
  refine wpAny_noted ?_
  rw [compTurn_list]
  refine wpAny_noRaise ?_
  refine wpAny_bind (wpAny_standAt (wpAny_bind (wpAny_mono (turn n s hI) (fun r s₁ h₁ => ?_) fun _ _ h' => h')))
  cases r with
  | none => exact wpAny_pure h₁
  | some v =>
    refine wpAny_bind (wpAny_mono h₁ (fun _ s₁ h₁ => ?_) fun _ _ h' => h')
    refine wpAny_bind (wpAny_mono h₁ (fun _ s₂ h₂ => wpAny_bind (wpAny_mono h₂ (fun ok s₃ h₃ => ?_) fun _ _ h' => h')) fun _ _ h' => h')
    cases ok with
    | false => exact wpAny_pure ⟨rfl, h₃⟩
    | true =>
      exact wpAny_bind (wpAny_bind (wpAny_mono h₃ (fun x s₄ h₄ => wpAny_bind (wpAny_mono h₄ (fun _ s₅ h₅ => wpAny_pure (wpAny_pure ⟨rfl, h₅⟩)) fun _ _ h' => h')) fun _ _ h' => h'))
/-- what a comprehension reads as: W by the turn, a measure, the list so far -/
def tCompQ (J : It) (g : TG) (tt : TT) (te : TE) (σ0 : St) (H1 : Hp) (D : Addr) (Q : Hp → Prop) : Prop :=
  ∃ W : Nat → Nat → List V → St → Hp → Prop, (∃ m, W 0 m [] σ0 (upd H1 D (.lst []))) ∧ ∀ i m ys σ H, W i m ys σ H → H D = some (.lst ys) ∧
    ((J.stop i H ∧ Q H) ∨ (J.go i H ∧ ∀ x H', J.yld i H x H' → g x σ H' fun σ2 H2 => tt σ2 H2 fun b H3 =>
      if b = true then te σ2 H3 fun v H4 => H4 D = some (.lst ys) ∧ ys.length < sizeLine ∧ ∃ m', m' < m ∧ W (i + 1) m' (ys ++ [v]) σ2 (upd H4 D (.lst (ys ++ [v])))
      else ∃ m', m' < m ∧ W (i + 1) m' ys σ2 H3))
def tComp (cap : List Nat) (own : List Str) (wi : TI) (g : TG) (tt : TT) (te : TE) : TE := fun σ H Q => wi σ H fun J H1 => ∀ D, H1 D = none → tCompQ J g tt te (compSt σ cap own) H1 D (fun H' => Q (.ref D) H')
section
variable {X : Cx} {sc : Scope} {cap : List Nat} {own : List Str} {tg iter elt : Expr} {ifs : List Expr} {pos : Pos} {wi : TI} {g : TG} {tt : TT} {te : TE}
theorem comp_core {use : Option (Value → Sem Unit)} {ppos : Pos} {pins : List (Addr × Obj)} {s : Shared} {σ : St} {H : Hp} {Q : V → Hp → Prop} {R : Value → Shared → Prop} (hc : X.calm = true) (S : CompOk X.N X.env.scope sc cap own) (hi : PI X tg iter wi)
    (hg : ∀ cl C s₀ H₀ ex, PG (compCx X sc cl C cap own s₀ H₀ ex) tg g) (ht : ∀ cl C s₀ H₀ ex, PTs (compCx X sc cl C cap own s₀ H₀ ex) ifs tt) (he : ∀ cl C s₀ H₀ ex, PE (compCx X sc cl C cap own s₀ H₀ ex) elt te)
    (hs : ∀ x, foldedSetIterable iter X.env x = pure x) (I : Inv X pins σ H s) (h : tComp cap own wi g tt te σ H Q)
    (fin : ∀ (D C : Addr) (H' : Hp) (s' : Shared) (m : Str → Option Value), Inv X pins σ H' s' → s'.heap.Ns C m → FpOk X pins H' C → Q (.ref D) H' → compPost (model X.prog X.w) X.A X.xe use R (.ref D) C (.ok .next) s') :
    wpAny (model X.prog X.w) X.A (comprehension (.ListComp elt [⟨tg, iter, ifs, 0⟩] sc pos) sc X.env ppos (newList []) false (eval iter X.env) use) R X.xe s := by
  obtain ⟨cl, hclos, hc1, hc2⟩ := closure_of (env := X.env) (scope := sc) fun n hn => X.env.cells.lookup n |> fun _ => I.ok.has n (S.frees _ hn rfl)
  refine wpAny_comprehension_free (use := use) rfl hs hclos S.kind S.locs (thn (hi pins s σ H _ I h) fun v s1 h1 => thn h1 fun itv s2 h2 => ?_)
  obtain ⟨it, fp, tn, J, H2, rfl, I2, T, st2, f2, q⟩ := h2
  refine wpAny_newObj_type ?_
  obtain ⟨D, hD⟩ : ∃ D, D = s2.heap.objs.size := ⟨_, rfl⟩
  have hfr : H2 D = none := by rw [hD]; exact I2.hok.fresh (Nat.le_refl _)
  have I3 : Inv X pins σ (upd H2 D (.lst [])) { s2 with heap := s2.heap.push { cls := .type "list", dict := none, data := .seq ([] : List Value).toArray } } := by
    rw [hD]
    exact I2.laid (t' := s2.toks) (fun b u e => Heap.get?_push_of_some _ e) (Nat.le_refl _) ⟨Nat.zero_le _, [], _, .nil, Heap.get?_push_size _ rfl⟩
  have fpne : ∀ b ∈ fp, b ≠ D := fun b hb z => by
    obtain ⟨o, ho, _⟩ := T.obj _ _ st2 b hb
    exact absurd (Heap.lt_size ho) (by rw [z, hD]; exact Nat.lt_irrefl _)
  have f3 : ∀ b ∈ fp, FpOk X pins (upd H2 D (.lst [])) b := fun b hb => ⟨by rw [upd_ne (fpne b hb)]; exact (f2 b hb).1, (f2 b hb).2⟩
  have st3 : tn 0 (s2.heap.push { cls := .type "list", dict := none, data := .seq ([] : List Value).toArray }) := T.keep _ _ _ st2 fun b _ o e => Heap.get?_push_of_some _ e
  rw [← hD]
  obtain ⟨W, ⟨m0, w0⟩, turn⟩ := q D hfr
  generalize hs3 : ({ s2 with heap := s2.heap.push { cls := .type "list", dict := none, data := .seq ([] : List Value).toArray } } : Shared) = s3 at I3 ⊢
  have st3' : tn 0 s3.heap := by rw [← hs3]; exact st3
  refine wpAny_newFunctionEnv S.nocell (by intro y hy; simp at hy) (fun h1 hns hsb => ?_) S.kind
  have hk : ∀ b u, s3.heap.get? b = some u → h1.get? b = some u := fun b u e => hsb.extBut b u (Nat.ne_of_lt (Heap.lt_size e)) (Heap.get?_push_of_some _ e)
  have fplt : ∀ b ∈ fp, b < s3.heap.objs.size := fun b hb => by
    obtain ⟨o, ho, _⟩ := T.obj _ _ st3' b hb
    exact Heap.lt_size ho
  have I4 := I3.block (t' := s3.toks + ([] : List (Str × Value)).length) S hc1 hc2 f3 fplt hns hk
  have fC : ∀ H', H' s3.heap.objs.size = none → FpOk X pins H' s3.heap.objs.size := fun H' hn => I3.fpOk (Nat.le_refl _) hn
  obtain ⟨C, hC⟩ : ∃ C, C = s3.heap.objs.size := ⟨_, rfl⟩
  rw [← hC] at I4 fC
  rw [← hC]
  obtain ⟨Xc, hXc⟩ : ∃ Xc, Xc = compCx X sc cl C cap own s3 (upd H2 D (.lst [])) fp := ⟨_, rfl⟩
  rw [← hXc] at I4
  have gX : PG Xc tg g := hXc ▸ hg cl C s3 _ fp
  have tX : PTs Xc ifs tt := hXc ▸ ht cl C s3 _ fp
  have eX : PE Xc elt te := hXc ▸ he cl C s3 _ fp
  have x1 : Xc.prog = X.prog := by rw [hXc]; rfl
  have x2 : Xc.w = X.w := by rw [hXc]; rfl
  have x3 : Xc.K = X.K := by rw [hXc]; rfl
  have x4 : Xc.calm = true := by rw [hXc]; exact hc
  have x5 : Xc.A = X.A := by rw [hXc]; rfl
  have x6 : Xc.env = compEnvC sc cl C X.env := by rw [hXc]; rfl
  have x7 : Xc.xe = fun _ _ => False := by rw [hXc]; rfl
  have stat : ∀ {H' : Hp}, (∀ b ∈ fp, H' b = none) → ∀ b ∈ fp, FpOk Xc [] H' b := fun hn b hb => by
    rw [hXc]
    refine ⟨hn b hb, ?_, ?_, .inl hb, fun x c e => (f3 b hb).2.2.2.2.1 x c (hc1 x c e), fun p hp => absurd hp (by show p ∉ ([] ++ [] : List (Addr × Obj)); simp)⟩
    · show b ≠ C
      rw [hC]
      exact Nat.ne_of_lt (fplt b hb)
    · intro z
      rcases List.mem_cons.mp (I3.stkSub b z) with q | q
      · exact (f3 b hb).2.1 q
      · exact (f3 b hb).2.2.1 q
  have st4 : tn 0 h1 := T.keep _ _ _ st3' fun b _ o e => hk b o e
  have loop : ∀ s4 : Shared, s4 = { s3 with heap := h1, toks := s3.toks + ([] : List (Str × Value)).length } →
      codeAny (model X.prog X.w) X.A (.compLoop (.ListComp elt [⟨tg, iter, ifs, 0⟩] sc pos) 0 (.ref it) (.ref D) (compEnvC sc cl C X.env)) (compPost (model X.prog X.w) X.A X.xe use R (.ref D) C) s4 := by
    rintro s4 rfl
    refine comp_loop (fun n s' => ∃ i σ' H' ys, Inv Xc [] σ' H' s' ∧ tn i s'.heap ∧ (∀ b ∈ fp, H' b = none) ∧ H' D = some (.lst ys) ∧ W i n ys σ' H') ?_ m0 ⟨0, _, _, [], I4, st4, fun b hb => (f3 b hb).1, upd_same, w0⟩
    rintro n s5 ⟨i, σ5, H5, ys, I5, st5, fr5, hD5, w5⟩
    obtain ⟨_, cases5⟩ := turn i n ys σ5 H5 w5
    rcases cases5 with ⟨stop, qq⟩ | ⟨go, step⟩
    · have td := T.done Xc x1 x2 x3 x4 i [] s5 σ5 H5 (fun _ _ => False) I5 (stat fr5) st5 stop
      rw [x5] at td
      refine thn td fun r s6 ⟨hr, I6⟩ => ?_
      subst hr
      show compPost _ _ _ _ _ _ _ (.ok .next) s6
      obtain ⟨m6, hn6, _⟩ := id I6.loc
      rw [x6] at hn6
      have u6 := I6.base
      have ok6 := I6.hok
      have fr6 : H5 C = none := by have := I6.free; rw [x6] at this; exact this
      have os6 : s6.os = s3.os := by have := I6.os; rw [hXc] at this; exact this
      rw [hXc] at u6 ok6
      have IX : Inv X pins σ H5 s6 := I3.call' (s' := s6) os6 u6 ok6 I6.bare fun b hb => ⟨(f3 b hb).2.2.2.1, (f3 b hb).2.1, (f3 b hb).2.2.2.2.1, (f3 b hb).2.2.2.2.2⟩
      exact fin D C H5 s6 m6 IX hn6 (fC H5 fr6) qq
    · have ti := T.item Xc x1 x2 x3 x4 i [] s5 σ5 H5 (fun _ _ => False) I5 (stat fr5) st5 go
      rw [x5] at ti
      refine thn ti fun r s6 ⟨u, hr, h6⟩ => ?_
      subst hr
      refine thn h6 fun _ s7 ⟨x, H7, I7, r7, y7, st7, fr7⟩ => ?_
      have I7' := I7.pinned (stat fr7) (T.obj _ _ st7)
      have a7 := gX _ s7 σ5 H7 x u _ I7' r7 (step x H7 y7)
      rw [x1, x2, x5, x6, x7] at a7
      refine thn a7 fun _ s8 ⟨σ8, H8, I8, q8⟩ => ?_
      have a8 := tX _ s8 σ8 H8 _ I8 q8
      rw [x1, x2, x5, x6, x7] at a8
      have again : ∀ {σ9 : St} {H9 : Hp} {s9 : Shared} {zs : List V} {m' : Nat}, Inv Xc ([] ++ pinsAt fp s7.heap) σ9 H9 s9 → H9 D = some (.lst zs) → m' < n → W (i + 1) m' zs σ9 H9 →
          ∃ m, m < n ∧ ∃ i σ' H' ys, Inv Xc [] σ' H' s9 ∧ tn i s9.heap ∧ (∀ b ∈ fp, H' b = none) ∧ H' D = some (.lst ys) ∧ W i m ys σ' H' := fun {σ9 H9 s9 zs m'} I9 hz hm w9 => by
        refine ⟨m', hm, i + 1, σ9, H9, zs, I9.unpinned, T.keep _ _ _ st7 fun b hb o e => (I9.pin (b, o) (List.mem_append_right _ (List.mem_append_right _ (mem_pinsAt hb e)))).1, fun b hb => ?_, hz, w9⟩
        obtain ⟨o, e, d⟩ := T.obj _ _ st7 b hb
        exact (I9.pin (b, o) (List.mem_append_right _ (List.mem_append_right _ (mem_pinsAt hb e)))).2.1
      refine thn a8 fun ok s9 ⟨H9, I9, q9⟩ => ?_
      cases ok with
      | false =>
        rw [if_neg Bool.false_ne_true] at q9 ⊢
        obtain ⟨m', hm, w9⟩ := q9
        exact again I9 (turn _ _ _ _ _ w9).1 hm w9
      | true =>
        rw [if_pos rfl] at q9 ⊢
        have a9 := eX _ s9 σ8 H9 _ I9 q9
        rw [x1, x2, x5, x6, x7] at a9
        refine thn a9 fun v s10 ⟨y, H10, I10, r10, hD10, hlen, m', hm, w10⟩ => ?_
        have a10 := mt_append (X := Xc) ([] ++ pinsAt fp s7.heap) s10 σ8 H10 (.ref D) [y] (.ref D) [v] (fun _ H11 => H11 = upd H10 D (.lst (ys ++ [y]))) I10 rfl (.cons r10 .nil) ⟨D, ys, y, rfl, rfl, hD10, hlen, rfl⟩
        rw [x1, x2, x5, x7] at a10
        refine thn a10 fun _ s11 ⟨_, H11, I11, _, e11⟩ => ?_
        subst e11
        exact again I11 upd_same hm w10
  exact codeAny_compStart_list (loop _ rfl) (T.self _ 0 _ _ _ st4 (loop _ rfl))
theorem pe_comp (S : CompOk X.N X.env.scope sc cap own) (hc : X.calm = true) (hi : PI X tg iter wi)
    (hg : ∀ cl C s₀ H₀ ex, PG (compCx X sc cl C cap own s₀ H₀ ex) tg g) (ht : ∀ cl C s₀ H₀ ex, PTs (compCx X sc cl C cap own s₀ H₀ ex) ifs tt) (he : ∀ cl C s₀ H₀ ex, PE (compCx X sc cl C cap own s₀ H₀ ex) elt te)
    (hs : ∀ x, foldedSetIterable iter X.env x = pure x := by intro _; rfl) : PE X (.ListComp elt [⟨tg, iter, ifs, 0⟩] sc pos) (tComp cap own wi g tt te) := by
  intro pins s σ H Q I h
  rw [eval_ListComp]
  refine comp_core (use := none) hc S hi hg ht he hs I h fun D C H' s' m I' hn hf q => ?_
  refine ⟨m, hn, fun h' sb => ?_⟩
  obtain ⟨f0, f1, f2, f3, f4, f5⟩ := hf
  exact ⟨.ref D, H', I'.turned (t' := s'.toks) (fun b o hb e => (sb.2 b hb).trans e) f0 f1 f3 f4 f5, rfl, q⟩
/-- x = [..] on one row -/
theorem ps_setC {i : Nat} {x : Str} {pos' spos : Pos} (hN : X.N.Nodup) (hi' : X.N[i]? = some x) (hx : Loc X.env.scope x) (S : CompOk X.N X.env.scope sc cap own) (hc : X.calm = true) (hi : PI X tg iter wi)
    (hg : ∀ cl C s₀ H₀ ex, PG (compCx X sc cl C cap own s₀ H₀ ex) tg g) (ht : ∀ cl C s₀ H₀ ex, PTs (compCx X sc cl C cap own s₀ H₀ ex) ifs tt) (he : ∀ cl C s₀ H₀ ex, PE (compCx X sc cl C cap own s₀ H₀ ex) elt te)
    (hsw : swapsWith (.ListComp elt [⟨tg, iter, ifs, 0⟩] sc pos) (some (.Name x pos')) spos.line X.env = pure true := by rfl) (hs : ∀ x, foldedSetIterable iter X.env x = pure x := by intro _; rfl)
    (hf : X.fn x = true ∨ X.env.scope.names.lookup x = some .local := by first | exact .inl rfl | exact .inr rfl | assumption) :
    PS X (.Assign [.Name x pos'] (.ListComp elt [⟨tg, iter, ifs, 0⟩] sc pos) spos) (fun D σ H => tComp cap own wi g tt te σ H fun v H1 => D.nx (σ.set i (some v)) H1) := by
  intro pins s σ H D I h
  rw [exec_Assign_Name_used _ _ _ _ hsw]
  refine wpAny_bind (wpAny_standAt (wpAny_bind ?_))
  show wpAny _ X.A (do let _ ← comprehension (.ListComp elt [⟨tg, iter, ifs, 0⟩] sc pos) sc X.env _ (newList []) false (eval iter X.env) (some (assign (.Name x pos') X.env))) _ _ s
  refine wpAny_bind (thn (comp_core (use := some (assign (.Name x pos') X.env)) (R := fun _ s' => SP X pins D .next s') hc S hi hg ht he hs I h fun A C H' s' m I' hn hfp q => ?_) (fun _ s' hq => wpAny_pure (wpAny_pure hq)))
  obtain ⟨f0, f1, f2, f3, f4, f5⟩ := hfp
  refine wpAny_assign_Name (store_ok2 I' hN hi' hx (v := .ref A) rfl (fun s'' I'' ⟨a, sa, ha⟩ => ?_) hf)
  have hCa : C ≠ a := by
    rcases ha with z | z
    · rw [z]; exact f1
    · exact fun w => f4 x a z w.symm
  refine ⟨m, hn.sameBut sa hCa, fun h' sb => ?_⟩
  exact ⟨_, H', I''.turned (t' := s''.toks) (fun b o hb e => (sb.2 b hb).trans e) f0 f1 f3 f4 f5, q⟩
end
end L2

set_option linter.all false
set_option maxRecDepth 100000
set_option maxHeartbeats 1000000
namespace L2
open PySem PySem.Spec PyProof.Rows
section
variable {X : Cx} {pins : List (Addr × Obj)} {σ : St} {H : Hp} {s : Shared} {h' : Heap}
/-- the records at fp have turned, a new object is laid -/
theorem Inv.turnedUp {fp : List Addr} {a : Addr} {o : HO} {t' : Nat} (I : Inv X pins σ H s) (hf : ∀ b ∈ fp, FpOk X pins H b) (k : ∀ b u, b ∉ fp → s.heap.get? b = some u → h'.get? b = some u) (ha : s.heap.objs.size ≤ a)
    (new : ObjOk X.prog X.w (upd H a o) h' a o) : Inv X pins σ (upd H a o) { s with heap := h', toks := t' } := by
  have ne : ∀ b u, s.heap.get? b = some u → b ≠ a := fun b u e => Nat.ne_of_lt (Nat.lt_of_lt_of_le (Heap.lt_size e) ha)
  have nH : H a = none := I.hok.fresh ha
  have nb : ∀ b u, H b = some u → b ≠ a := fun b u e z => by rw [z, nH] at e; cases e
  have nf : ∀ b u, H b = some u → b ∉ fp := fun b u e z => by rw [(hf b z).1] at e; cases e
  refine I.step (g' := s.gens) (d' := s.drawn) (ch := fp) (fun b hb => ⟨(hf b hb).2.2.2.1, (hf b hb).2.1, (hf b hb).2.2.2.2.1, (hf b hb).2.2.2.2.2⟩) (fun b o _ _ hc e _ => k b o hc e) (fun b o _ _ hc e _ => ⟨o.slots, k b o hc e⟩)
    (fun b o _ e n => by rw [upd_ne (ne b o e)]; exact n) (fun b o hc e => ?_) (fun b xs e => by rw [upd_ne (nb b _ e)]; exact e) (fun b o u e => by rw [upd_ne (nb b _ e)]; exact e) (fun b ps e => ⟨#[], by rw [upd_ne (nb b _ e), e]; simp⟩)
    (fun m hm => by
      obtain ⟨oL, es, ep, ho, r⟩ := hm
      exact ⟨oL, es, ep, k _ oL (fun z => (hf _ z).2.1 rfl) ho, r⟩) (fun b u e => ?_) I.bare
  · exact ⟨o, k b o hc e⟩
  · by_cases hb : b = a
    · subst hb; rw [upd_same] at e; cases e; exact new
    · rw [upd_ne hb] at e
      refine (I.hok b u e).stay (fun c v hc q => k c v ?_ q) (fun c q => by rw [upd_ne (nb c _ q)]; exact q) fun c xs q => by rw [upd_ne (nb c _ q)]; exact q
      rcases hc with z | z
      · rw [z]; exact nf b u e
      · exact nf c _ z
/-- the records at fp have turned -/
theorem Inv.turnedL {fp : List Addr} {t' : Nat} (I : Inv X pins σ H s) (hf : ∀ b ∈ fp, FpOk X pins H b) (k : ∀ b u, b ∉ fp → s.heap.get? b = some u → h'.get? b = some u) : Inv X pins σ H { s with heap := h', toks := t' } := by
  have nf : ∀ b u, H b = some u → b ∉ fp := fun b u e z => by rw [(hf b z).1] at e; cases e
  refine I.step (g' := s.gens) (d' := s.drawn) (ch := fp) (fun b hb => ⟨(hf b hb).2.2.2.1, (hf b hb).2.1, (hf b hb).2.2.2.2.1, (hf b hb).2.2.2.2.2⟩) (fun b o _ _ hc e _ => k b o hc e) (fun b o _ _ hc e _ => ⟨o.slots, k b o hc e⟩)
    (fun b o _ e n => n) (fun b o hc e => ⟨o, k b o hc e⟩) (fun b xs e => e) (fun b o u e => e) (fun b ps e => ⟨#[], by rw [e]; simp⟩)
    (fun m hm => by
      obtain ⟨oL, es, ep, ho, r⟩ := hm
      exact ⟨oL, es, ep, k _ oL (fun z => (hf _ z).2.1 rfl) ho, r⟩) (fun b u e => ?_) I.bare
  refine (I.hok b u e).stay (fun c v hc q => k c v ?_ q) (fun _ q => q) fun _ _ q => q
  rcases hc with z | z
  · rw [z]; exact nf b u e
  · exact nf c _ z
end
/-! ### zip of two lists that the body leaves as they are -/
def Itz (K : PySem.W.Frag) (l1 l2 : Addr) (xs ys : List V) : It :=
  ⟨fun i H => SqL K H l1 xs ∧ SqL K H l2 ys ∧ i < xs.length ∧ i < ys.length, fun i H x H' => ∃ T u v, H T = none ∧ x = .ref T ∧ xs[i]? = some u ∧ ys[i]? = some v ∧ H' = upd H T (.tup [u, v]),
    fun i H => SqL K H l1 xs ∧ SqL K H l2 ys ∧ (xs.length ≤ i ∨ ys.length ≤ i)⟩
structure Five (z TI TO i1 i2 : Addr) : Prop where
  TIz : TI ≠ z
  TOz : TO ≠ z
  i1z : i1 ≠ z
  i2z : i2 ≠ z
  TITO : TI ≠ TO
  TIi1 : TI ≠ i1
  TIi2 : TI ≠ i2
  TOi1 : TO ≠ i1
  TOi2 : TO ≠ i2
  i12 : i1 ≠ i2
theorem five_at (n : Nat) : Five (n + 4) (n + 2) (n + 3) n (n + 1) :=
  ⟨(by omega : (n + 2 : Nat) ≠ n + 4), (by omega : (n + 3 : Nat) ≠ n + 4), (by omega : (n : Nat) ≠ n + 4), (by omega : (n + 1 : Nat) ≠ n + 4), (by omega : (n + 2 : Nat) ≠ n + 3), (by omega : (n + 2 : Nat) ≠ n),
    (by omega : (n + 2 : Nat) ≠ n + 1), (by omega : (n + 3 : Nat) ≠ n), (by omega : (n + 3 : Nat) ≠ n + 1), (by omega : (n : Nat) ≠ n + 1)⟩
theorem ne_of_cls {h : Heap} {a b : Addr} {x y : Array Value} {o : Obj} {T : String} (hl : h.IsList a x) (ho : h.get? b = some o) (hc : o.cls = .type T) (hT : T ≠ "list") : a ≠ b := by
  rintro rfl
  obtain ⟨o', ho', hc', _⟩ := hl
  rw [ho] at ho'
  cases ho'
  rw [hc] at hc'
  cases hc'
  exact hT rfl
theorem Five.apart {h : Heap} {z TI TO i1 i2 l1 l2 : Addr} {a b c d : Value} {k1 k2 : Nat} {xs ys : Array Value} (F : Five z TI TO i1 i2) (hz : PySem.IsZip h z TI TO a) (hTO : PySem.IsPair h TO b c) (h1 : h.IsListIter i1 l1 k1) (h2 : h.IsListIter i2 l2 k2)
    (hl1 : h.IsList l1 xs) (hl2 : h.IsList l2 ys) : PySem.ZipApart z TI TO i1 i2 l1 l2 := by
  obtain ⟨o1, e1, c1, _⟩ := id h1
  obtain ⟨o2, e2, c2, _⟩ := id h2
  exact ⟨F.TIz, F.TOz, F.i1z, F.i2z, F.TITO, F.TIi1, F.TIi2, F.TOi1, F.TOi2, F.i12,
    ne_of_cls (y := xs) hl1 hz rfl (by decide), ne_of_cls (y := xs) hl1 hTO rfl (by decide), ne_of_cls (y := xs) hl1 e1 c1 (by decide), ne_of_cls (y := xs) hl1 e2 c2 (by decide),
    ne_of_cls (y := xs) hl2 hz rfl (by decide), ne_of_cls (y := xs) hl2 hTO rfl (by decide), ne_of_cls (y := xs) hl2 e1 c1 (by decide), ne_of_cls (y := xs) hl2 e2 c2 (by decide)⟩
theorem turn_zip {P : Program} {w : World} {K : PySem.W.Frag} {elts : List Expr} {x1} {tp : Pos} {z TI TO i1 i2 l1 l2 : Addr} (F : Five z TI TO i1 i2) (xs ys : List V) :
    Turn P w K (.Tuple elts x1 tp) (Itz K l1 l2 xs ys) [z, TI, TO, i1, i2] z (fun i h => PySem.IsZip h z TI TO .none ∧ PySem.IsPair h TI (.ref i1) (.ref i2) ∧ (∃ a b, PySem.IsPair h TO a b) ∧ h.IsListIter i1 l1 i ∧ h.IsListIter i2 l2 i) where
  mem := by simp
  obj := fun i h st b hb => by
    obtain ⟨hz, hTI, ⟨a, c, hTO⟩, ⟨o1, e1, c1, d1⟩, o2, e2, c2, d2⟩ := st
    simp only [List.mem_cons, List.not_mem_nil, or_false] at hb
    rcases hb with rfl | rfl | rfl | rfl | rfl
    · exact ⟨_, hz, fun v q => by have q' : Data.fields _ = Data.cell v := q; cases q'⟩
    · exact ⟨_, hTI, fun v q => by have q' : Data.seq _ _ = Data.cell v := q; cases q'⟩
    · exact ⟨_, hTO, fun v q => by have q' : Data.seq _ _ = Data.cell v := q; cases q'⟩
    · exact ⟨o1, e1, fun v q => by rw [d1] at q; cases q⟩
    · exact ⟨o2, e2, fun v q => by rw [d2] at q; cases q⟩
  keep := fun i h h' st k => by
    obtain ⟨hz, hTI, ⟨a, b, hTO⟩, h1, h2⟩ := st
    exact ⟨k z (by simp) _ hz, k TI (by simp) _ hTI, ⟨a, b, k TO (by simp) _ hTO⟩, h1.at fun o e => k i1 (by simp) o e, h2.at fun o e => k i2 (by simp) o e⟩
  item := by
    intro X hP hw hK hc i pins s σ H E I hf st hg
    subst hP hw hK
    obtain ⟨hz, hTI, ⟨a, b, hTO⟩, h1, h2⟩ := st
    obtain ⟨q1, q2, b1, b2⟩ := hg
    obtain ⟨its1, rv1, p1, _⟩ := I.list q1
    obtain ⟨its2, rv2, p2, _⟩ := I.list q2
    have hx : xs[i]? = some xs[i] := List.getElem?_eq_getElem b1
    have hy : ys[i]? = some ys[i] := List.getElem?_eq_getElem b2
    obtain ⟨u, hu, ru⟩ := rv1.get hx
    obtain ⟨v, hv, rv⟩ := rv2.get hy
    have lt : ∀ {c o}, s.heap.get? c = some o → c ≠ s.heap.objs.size := fun e => Nat.ne_of_lt (Heap.lt_size e)
    refine PySem.wpAny_pyNext_zip_item (F.apart (d := .none) hz hTO h1 h2 p1.isList p2.isList) hz hTI hTO h1 h2 p1.isList p2.isList (x := u) (y := v) (by simpa using hu) (by simpa using hv) fun h' a1 a2 a3 a4 a5 a6 hk => ?_
    refine ⟨_, rfl, PySem.wpAny_letOwnedTupleGo_zip a1 fun h'' hz'' sb => ?_⟩
    have zne : s.heap.objs.size ≠ z := (lt hz).symm
    have kk : ∀ b u, b ∉ [z, TI, TO, i1, i2] → s.heap.get? b = some u → h''.get? b = some u := fun b u hb e => by
      simp only [List.mem_cons, List.not_mem_nil, or_false, not_or] at hb
      exact sb.extBut _ _ hb.1 (hk b u hb.1 hb.2.2.1 hb.2.2.2.1 hb.2.2.2.2 e)
    refine ⟨.ref s.heap.objs.size, upd H s.heap.objs.size (.tup [xs[i], ys[i]]), I.turnedUp (t' := s.toks) hf kk (Nat.le_refl _) ⟨by show 2 ≤ sizeLine; decide, [u, v], .cons ru (.cons rv .nil), ⟨_, sb.extBut _ _ zne a5, rfl, _, rfl⟩⟩, rfl,
      ⟨_, _, _, I.hok.fresh (Nat.le_refl _), rfl, hx, hy, rfl⟩, ⟨hz'', sb.extBut _ _ F.TIz (hk _ _ F.TIz F.TITO F.TIi1 F.TIi2 hTI), ⟨_, _, sb.extBut _ _ F.TOz a2⟩, a3.at fun o e => sb.extBut _ _ F.i1z e, a4.at fun o e => sb.extBut _ _ F.i2z e⟩, fun b hb => ?_⟩
    have : b ≠ s.heap.objs.size := by
      obtain ⟨o1, e1, _⟩ := id h1
      obtain ⟨o2, e2, _⟩ := id h2
      simp only [List.mem_cons, List.not_mem_nil, or_false] at hb
      rcases hb with rfl | rfl | rfl | rfl | rfl
      · exact lt hz
      · exact lt hTI
      · exact lt hTO
      · exact lt e1
      · exact lt e2
    rw [upd_ne this]
    exact (hf b hb).1
  done := by
    intro X hP hw hK hc i pins s σ H E I hf st hg
    subst hP hw hK
    obtain ⟨hz, hTI, ⟨a, b, hTO⟩, h1, h2⟩ := st
    obtain ⟨q1, q2, hend⟩ := hg
    obtain ⟨its1, rv1, p1, _⟩ := I.list q1
    obtain ⟨its2, rv2, p2, _⟩ := I.list q2
    have l1 := rv1.length
    have l2 := rv2.length
    refine PySem.wpAny_pyNext_zip_end (I.ok.hd hc) (F.apart (d := .none) hz hTO h1 h2 p1.isList p2.isList) hz hTI hTO h1 h2 p1.isList p2.isList ?_ fun h' hk => ⟨rfl, I.turnedL (t' := s.toks) hf fun b u hb e => ?_⟩
    · rcases hend with q | q
      · exact .inl (by rw [Array.getElem?_eq_none]; simp; omega)
      · exact .inr (by rw [Array.getElem?_eq_none]; simp; omega)
    · simp only [List.mem_cons, List.not_mem_nil, or_false, not_or] at hb
      exact hk b u hb.1 hb.2.2.1 hb.2.2.2.1 hb.2.2.2.2 e
  self := fun _ _ _ _ _ st h => PySem.wpAny_pyIter_zip st.1 h
section
variable {X : Cx}
def iZip (K : PySem.W.Frag) (ta : TA) : TI := fun σ H R => ta σ H fun vs H1 => ∃ l1 l2 xs ys, vs = [.ref l1, .ref l2] ∧ SqL K H1 l1 xs ∧ SqL K H1 l2 ys ∧ R (Itz K l1 l2 xs ys) H1
theorem boot_zip : bootBuiltins "zip" = some (.type "zip") := by decide +kernel
theorem pi_zip {elts : List Expr} {x1} {tp : Pos} {a b : Expr} {ta : TA} {p pos : Pos} (hg : Gl X "zip") (hm : X.mg "zip" = none) (ha : PA X [a, b] ta) (hs : starEach [a, b] X.env = [(false, eval a X.env), (false, eval b X.env)] := by rfl) (hs2 : starEach [b] X.env = [(false, eval b X.env)] := by rfl) :
    PI X (.Tuple elts x1 tp) (.Call (.Name "zip" p) [a, b] [] pos) (iZip X.K ta) := by
  intro pins s σ H R I h
  refine Call_ (ld_blt I hg hm boot_zip (PyProof.Rows.callWith_type1 (thn (ha pos pins s σ H _ I h) fun us s1 ⟨vs, H1, I1, r1, q1⟩ => ?_) (by rw [hs, hs2]) (by rw [hs2]; rfl)))
  obtain ⟨l1, l2, xs, ys, e, h1, h2, q⟩ := q1
  subst e
  obtain ⟨u, v, rfl, ru, rv⟩ := vals2 r1
  cases ru
  cases rv
  obtain ⟨its1, rv1, p1, _⟩ := I1.list h1
  obtain ⟨its2, rv2, p2, _⟩ := I1.list h2
  refine PySem.call_zip_2 p1.isList p2.isList fun h' a1 a2 a3 a4 a5 a6 a7 => ?_
  refine PySem.wpAny_pyIter_zip a1 ?_
  refine ⟨s1.heap.objs.size + 4, [s1.heap.objs.size + 4, s1.heap.objs.size + 2, s1.heap.objs.size + 3, s1.heap.objs.size, s1.heap.objs.size + 1], _, _, H1, rfl, I1.kept (t' := s1.toks) fun b o e => a7 b o e, turn_zip (five_at _) xs ys,
    ⟨a1, a2, ⟨_, _, a3⟩, a4, a5⟩, fun b hb => ?_, q⟩
  have : s1.heap.objs.size ≤ b := by
    simp only [List.mem_cons, List.not_mem_nil, or_false] at hb
    rcases hb with rfl | rfl | rfl | rfl | rfl
    · exact Nat.le_add_right _ 4
    · exact Nat.le_add_right _ 2
    · exact Nat.le_add_right _ 3
    · exact Nat.le_refl _
    · exact Nat.le_add_right _ 1
  exact I1.fpOk this (I1.hok.fresh this)
end
theorem for_zip {K : PySem.W.Frag} {l1 l2 : Addr} {xs ys : List V} {g : TG} {tb : TS} {D : Ends} {σ : St} {H : Hp} (Pv : Nat → St → Hp → Prop) (h0 : Pv 0 σ H) (hl : ∀ i σ H, i ≤ xs.length → Pv i σ H → SqL K H l1 xs ∧ SqL K H l2 ys) (he : xs.length = ys.length)
    (hs : ∀ i u v T σ H, i < xs.length → xs[i]? = some u → ys[i]? = some v → H T = none → Pv i σ H → g (.ref T) σ (upd H T (.tup [u, v])) fun σ2 H2 => tb { D with nx := Pv (i + 1), ct := Pv (i + 1), bk := D.nx } σ2 H2) (hd : ∀ σ H, Pv xs.length σ H → D.nx σ H) :
    ∃ W : Nat → Nat → St → Hp → Prop, (∃ m, W 0 m σ H) ∧ ∀ i m σ H, W i m σ H →
      ((Itz K l1 l2 xs ys).stop i H ∧ D.nx σ H) ∨ ((Itz K l1 l2 xs ys).go i H ∧ ∃ N : St → Hp → Prop, (∀ σ' H', N σ' H' → ∃ m', m' < m ∧ W (i + 1) m' σ' H') ∧ ∀ x H', (Itz K l1 l2 xs ys).yld i H x H' → g x σ H' fun σ2 H2 => tb { D with nx := N, ct := N, bk := D.nx } σ2 H2) := by
  refine ⟨fun i m σ H => m = xs.length - i ∧ i ≤ xs.length ∧ Pv i σ H, ⟨xs.length, by simp, Nat.zero_le _, h0⟩, ?_⟩
  rintro i m σ H ⟨rfl, hi, p⟩
  obtain ⟨q1, q2⟩ := hl i σ H hi p
  by_cases hlt : i < xs.length
  · refine .inr ⟨⟨q1, q2, hlt, by omega⟩, Pv (i + 1), fun σ' H' p' => ⟨xs.length - (i + 1), by omega, rfl, hlt, p'⟩, fun x H' y => ?_⟩
    obtain ⟨T, u, v, hT, rfl, hu, hv, rfl⟩ := y
    exact hs i u v T σ H hlt hu hv hT p
  · have e : i = xs.length := by omega
    exact .inl ⟨⟨q1, q2, .inl (by omega)⟩, hd σ H (e ▸ p)⟩
end L2

set_option linter.all false
set_option maxRecDepth 100000
set_option maxHeartbeats 1000000
namespace L2
open PySem PySem.Spec PyProof.Rows
/-! ### data, seen through the heap; == of it -/
inductive Dt where
  | non | bl (b : Bool) | int (i : Int) | str (x : Str) | lst (l : List Dt) | tup (l : List Dt)
mutual
def eqD : Dt → Dt → Bool
  | .non, .non => true
  | .bl a, .bl b => a == b
  | .bl a, .int b => (if a then 1 else 0) == b
  | .int a, .bl b => a == (if b then 1 else 0)
  | .int a, .int b => a == b
  | .str a, .str b => a == b
  | .lst a, .lst b => eqDs a b
  | .tup a, .tup b => eqDs a b
  | _, _ => false
def eqDs : List Dt → List Dt → Bool
  | [], [] => true
  | a :: as, b :: bs => eqD a b && eqDs as bs
  | [], _ :: _ => false
  | _ :: _, [] => false
end
mutual
def depD : Dt → Nat
  | .lst a => depDs a + 1
  | .tup a => depDs a + 1
  | _ => 0
def depDs : List Dt → Nat
  | [] => 0
  | a :: as => max (depD a) (depDs as)
end
mutual
def Sees (K : PySem.W.Frag) (H : Hp) : V → Dt → Prop
  | v, .non => v = .non
  | v, .bl b => v = .bl b
  | v, .int i => v = .int i
  | v, .str x => v = .str x
  | v, .lst ds => ∃ a xs, v = .ref a ∧ SqL K H a xs ∧ SeesL K H xs ds
  | v, .tup ds => ∃ a xs, v = .ref a ∧ SqT K H a xs ∧ SeesL K H xs ds
def SeesL (K : PySem.W.Frag) (H : Hp) : List V → List Dt → Prop
  | xs, [] => xs = []
  | xs, d :: ds => ∃ v vs, xs = v :: vs ∧ Sees K H v d ∧ SeesL K H vs ds
end
theorem eqDs_length : ∀ {a b : List Dt}, eqDs a b = true → a.length = b.length
  | [], [], _ => rfl
  | x :: a, y :: b, h => by
    rw [eqDs, Bool.and_eq_true] at h
    rw [List.length_cons, List.length_cons, eqDs_length h.2]
  | [], _ :: _, h => by rw [eqDs] at h; cases h
  | _ :: _, [], h => by rw [eqDs] at h; cases h
theorem SeesL.length {K : PySem.W.Frag} {H : Hp} : ∀ {ds : List Dt} {xs : List V}, SeesL K H xs ds → xs.length = ds.length
  | [], xs, h => by rw [SeesL] at h; rw [h]; rfl
  | d :: ds, xs, h => by
    rw [SeesL] at h
    obtain ⟨v, vs, rfl, _, t⟩ := h
    rw [List.length_cons, List.length_cons, SeesL.length t]
theorem SeesL.get {K : PySem.W.Frag} {H : Hp} : ∀ {ds : List Dt} {xs : List V} (j : Nat) (h1 : j < xs.length) (h2 : j < ds.length), SeesL K H xs ds → Sees K H xs[j] ds[j]
  | d :: ds, xs, j, h1, h2, h => by
    rw [SeesL] at h
    obtain ⟨v, vs, rfl, s, t⟩ := h
    cases j with
    | zero => exact s
    | succ j => exact SeesL.get j (by simpa using h1) (by simpa using h2) t
theorem eqDs_all : ∀ {a b : List Dt}, a.length = b.length → eqDs a b = (List.range a.length).all fun j => eqD (a.getD j .non) (b.getD j .non)
  | [], [], _ => by rw [eqDs]; rfl
  | x :: a, y :: b, h => by
    have ih := eqDs_all (a := a) (b := b) (by simpa using h)
    rw [eqDs, ih, List.length_cons, List.range_succ_eq_map, List.all_cons, List.all_map]
    rfl
theorem dep_get : ∀ {ds : List Dt} {j : Nat} (h : j < ds.length), depD ds[j] ≤ depDs ds
  | d :: ds, j, h => by
    rw [depDs]
    cases j with
    | zero => exact Nat.le_max_left _ _
    | succ j =>
      have h' : j < ds.length := by simpa using h
      exact Nat.le_trans (dep_get (ds := ds) (j := j) h') (Nat.le_max_right _ _)
mutual
theorem eqD_refl : ∀ d : Dt, eqD d d = true
  | .non => by rw [eqD]
  | .bl b => by rw [eqD]; exact beq_self_eq_true _
  | .int b => by rw [eqD]; exact beq_self_eq_true _
  | .str b => by rw [eqD]; exact beq_self_eq_true _
  | .lst l => by rw [eqD]; exact eqDs_refl l
  | .tup l => by rw [eqD]; exact eqDs_refl l
theorem eqDs_refl : ∀ l : List Dt, eqDs l l = true
  | [] => by rw [eqDs]
  | d :: l => by rw [eqDs, eqD_refl d, eqDs_refl l]; rfl
end
section
variable {X : Cx} {pins : List (Addr × Obj)} {σ : St} {H : Hp} {s : Shared}
mutual
theorem sees_inj (I : Inv X pins σ H s) : ∀ {d d' : Dt} {v : V}, Sees X.K H v d → Sees X.K H v d' → d = d'
  | .non, d', v, h, h' => by
    rw [Sees] at h; subst h
    cases d' <;> rw [Sees] at h' <;> first | (obtain ⟨a, xs, z, _⟩ := h'; cases z) | rfl | cases h'
  | .bl b, d', v, h, h' => by
    rw [Sees] at h; subst h
    cases d' <;> rw [Sees] at h' <;> first | (obtain ⟨a, xs, z, _⟩ := h'; cases z) | (cases h'; rfl) | cases h'
  | .int b, d', v, h, h' => by
    rw [Sees] at h; subst h
    cases d' <;> rw [Sees] at h' <;> first | (obtain ⟨a, xs, z, _⟩ := h'; cases z) | (cases h'; rfl) | cases h'
  | .str b, d', v, h, h' => by
    rw [Sees] at h; subst h
    cases d' <;> rw [Sees] at h' <;> first | (obtain ⟨a, xs, z, _⟩ := h'; cases z) | (cases h'; rfl) | cases h'
  | .lst ds, d', v, h, h' => by
    rw [Sees] at h
    obtain ⟨a, xs, rfl, q, t⟩ := h
    cases d' with
    | lst ds' =>
      rw [Sees] at h'
      obtain ⟨a', xs', z, q', t'⟩ := h'
      cases z
      have := I.list_inj q q'
      subst this
      rw [seesL_inj I t t']
    | tup ds' =>
      rw [Sees] at h'
      obtain ⟨a', xs', z, q', t'⟩ := h'
      cases z
      obtain ⟨its, _, p, _⟩ := I.list q
      obtain ⟨its', _, p', _⟩ := I.tuple q'
      exact absurd rfl (SeqAt.ne_of_list_tuple p.isList p')
    | _ => rw [Sees] at h'; cases h'
  | .tup ds, d', v, h, h' => by
    rw [Sees] at h
    obtain ⟨a, xs, rfl, q, t⟩ := h
    cases d' with
    | tup ds' =>
      rw [Sees] at h'
      obtain ⟨a', xs', z, q', t'⟩ := h'
      cases z
      have := I.tuple_inj q q'
      subst this
      rw [seesL_inj I t t']
    | lst ds' =>
      rw [Sees] at h'
      obtain ⟨a', xs', z, q', t'⟩ := h'
      cases z
      obtain ⟨its, _, p, _⟩ := I.tuple q
      obtain ⟨its', _, p', _⟩ := I.list q'
      exact absurd rfl (SeqAt.ne_of_list_tuple p'.isList p)
    | _ => rw [Sees] at h'; cases h'
theorem seesL_inj (I : Inv X pins σ H s) : ∀ {ds ds' : List Dt} {xs : List V}, SeesL X.K H xs ds → SeesL X.K H xs ds' → ds = ds'
  | [], ds', xs, h, h' => by
    rw [SeesL] at h; subst h
    cases ds' with
    | nil => rfl
    | cons d' ds' => rw [SeesL] at h'; obtain ⟨_, _, z, _⟩ := h'; cases z
  | d :: ds, ds', xs, h, h' => by
    rw [SeesL] at h
    obtain ⟨v, vs, rfl, q, t⟩ := h
    cases ds' with
    | nil => rw [SeesL] at h'; cases h'
    | cons d' ds' =>
      rw [SeesL] at h'
      obtain ⟨v', vs', z, q', t'⟩ := h'
      cases z
      rw [sees_inj I q q', seesL_inj I t t']
end
def flatD : Dt → Bool
  | .lst _ => false
  | .tup _ => false
  | _ => true
/-- a flat one on the left -/
theorem flat_eq (I : Inv X pins σ H s) {A : Around} {d d' : Dt} {v v' : V} {u u' : Value} (h : Sees X.K H v d) (h' : Sees X.K H v' d') (r : RelV v u) (r' : RelV v' u') (f : flatD d = true) (hu : A.units < cLine) : SeqAt.EqAt A s u u' (eqD d d') := by
  have ends : ∀ (T : SeqAt.EqAt A s u u' (eqD d d')), SeqAt.EqAt A s u u' (eqD d d') := fun T => T
  cases d with
  | lst l => exact absurd (show false = true from f) Bool.false_ne_true
  | tup l => exact absurd (show false = true from f) Bool.false_ne_true
  | non =>
    simp only [Sees] at h; subst h; cases r
    cases d' with
    | lst l => simp only [Sees] at h'; obtain ⟨a, xs, rfl, q, t⟩ := h'; cases r'; obtain ⟨its, rv, p, _⟩ := I.list q; simp only [eqD]; exact SeqAt.EqAt.none_list p.isList hu
    | tup l => simp only [Sees] at h'; obtain ⟨a, xs, rfl, q, t⟩ := h'; cases r'; obtain ⟨its, rv, p, _⟩ := I.tuple q; simp only [eqD]; exact SeqAt.EqAt.none_tuple p hu
    | non => simp only [Sees] at h'; subst h'; simp only [eqD]; exact eqAt_V (y := .non) (x := .non) rfl r' rfl rfl
    | bl b => simp only [Sees] at h'; subst h'; simp only [eqD]; exact eqAt_V (y := .non) (x := .bl b) rfl r' rfl rfl
    | int b => simp only [Sees] at h'; subst h'; simp only [eqD]; exact eqAt_V (y := .non) (x := .int b) rfl r' rfl rfl
    | str b => simp only [Sees] at h'; subst h'; simp only [eqD]; exact eqAt_V (y := .non) (x := .str b) rfl r' rfl rfl
  | bl c =>
    simp only [Sees] at h; subst h
    cases d' with
    | lst l => cases r; simp only [Sees] at h'; obtain ⟨a, xs, rfl, q, t⟩ := h'; cases r'; obtain ⟨its, rv, p, _⟩ := I.list q; simp only [eqD]; exact SeqAt.EqAt.bool_list c p.isList hu
    | tup l => cases r; simp only [Sees] at h'; obtain ⟨a, xs, rfl, q, t⟩ := h'; cases r'; obtain ⟨its, rv, p, _⟩ := I.tuple q; simp only [eqD]; exact SeqAt.EqAt.bool_tuple c p hu
    | non => simp only [Sees] at h'; subst h'; simp only [eqD]; exact eqAt_V (y := .bl c) (x := .non) r r' rfl rfl
    | bl b => simp only [Sees] at h'; subst h'; simp only [eqD]; exact eqAt_V (y := .bl c) (x := .bl b) r r' rfl rfl
    | int b => simp only [Sees] at h'; subst h'; simp only [eqD]; exact eqAt_V (y := .bl c) (x := .int b) r r' rfl rfl
    | str b => simp only [Sees] at h'; subst h'; simp only [eqD]; exact eqAt_V (y := .bl c) (x := .str b) r r' rfl rfl
  | int c =>
    simp only [Sees] at h; subst h
    cases d' with
    | lst l => obtain ⟨t, rfl⟩ := r; simp only [Sees] at h'; obtain ⟨a, xs, rfl, q, t⟩ := h'; cases r'; obtain ⟨its, rv, p, _⟩ := I.list q; simp only [eqD]; exact SeqAt.EqAt.int_list c _ p.isList hu
    | tup l => obtain ⟨t, rfl⟩ := r; simp only [Sees] at h'; obtain ⟨a, xs, rfl, q, t⟩ := h'; cases r'; obtain ⟨its, rv, p, _⟩ := I.tuple q; simp only [eqD]; exact SeqAt.EqAt.int_tuple c _ p hu
    | non => simp only [Sees] at h'; subst h'; simp only [eqD]; exact eqAt_V (y := .int c) (x := .non) r r' rfl rfl
    | bl b => simp only [Sees] at h'; subst h'; simp only [eqD]; exact eqAt_V (y := .int c) (x := .bl b) r r' rfl rfl
    | int b => simp only [Sees] at h'; subst h'; simp only [eqD]; exact eqAt_V (y := .int c) (x := .int b) r r' rfl rfl
    | str b => simp only [Sees] at h'; subst h'; simp only [eqD]; exact eqAt_V (y := .int c) (x := .str b) r r' rfl rfl
  | str c =>
    simp only [Sees] at h; subst h
    cases d' with
    | lst l => obtain ⟨t, rfl⟩ := r; simp only [Sees] at h'; obtain ⟨a, xs, rfl, q, t⟩ := h'; cases r'; obtain ⟨its, rv, p, _⟩ := I.list q; simp only [eqD]; exact SeqAt.EqAt.str_list c _ p.isList hu
    | tup l => obtain ⟨t, rfl⟩ := r; simp only [Sees] at h'; obtain ⟨a, xs, rfl, q, t⟩ := h'; cases r'; obtain ⟨its, rv, p, _⟩ := I.tuple q; simp only [eqD]; exact SeqAt.EqAt.str_tuple c _ p hu
    | non => simp only [Sees] at h'; subst h'; simp only [eqD]; exact eqAt_V (y := .str c) (x := .non) r r' rfl rfl
    | bl b => simp only [Sees] at h'; subst h'; simp only [eqD]; exact eqAt_V (y := .str c) (x := .bl b) r r' rfl rfl
    | int b => simp only [Sees] at h'; subst h'; simp only [eqD]; exact eqAt_V (y := .str c) (x := .int b) r r' rfl rfl
    | str b => simp only [Sees] at h'; subst h'; simp only [eqD]; exact eqAt_V (y := .str c) (x := .str b) r r' rfl rfl
/-- the items' answers -/
def eJ (ds ds' : List Dt) (j : Nat) : Bool := eqD (ds.getD j .non) (ds'.getD j .non)
theorem items_eq {A : Around} {ds ds' : List Dt} {xs xs' : List V} {its its' : List Value} (t : SeesL X.K H xs ds) (t' : SeesL X.K H xs' ds') (rv : Vals xs its) (rv' : Vals xs' its')
    (ih : ∀ (d d' : Dt) (v v' : V) (u u' : Value), depD d ≤ depDs ds → Sees X.K H v d → Sees X.K H v' d' → RelV v u → RelV v' u' → SeqAt.EqAt A s u u' (eqD d d')) :
    ∀ j (h1 : j < its.toArray.size) (h2 : j < its'.toArray.size), SeqAt.EqAt A s its.toArray[j] its'.toArray[j] (eJ ds ds' j) := by
  intro j h1 h2
  have l1 := rv.length
  have l2 := rv'.length
  have k1 := t.length
  have k2 := t'.length
  simp only [List.size_toArray] at h1 h2
  have b1 : j < xs.length := by omega
  have b2 : j < xs'.length := by omega
  have c1 : j < ds.length := by omega
  have c2 : j < ds'.length := by omega
  obtain ⟨u, hu, ru⟩ := rv.get (List.getElem?_eq_getElem b1)
  obtain ⟨u', hu', ru'⟩ := rv'.get (List.getElem?_eq_getElem b2)
  have e1 : its.toArray[j] = u := by
    have := (List.getElem?_eq_some_iff.mp hu).2
    simpa using this
  have e2 : its'.toArray[j] = u' := by
    have := (List.getElem?_eq_some_iff.mp hu').2
    simpa using this
  rw [e1, e2]
  have g1 : ds.getD j .non = ds[j] := by rw [List.getD_eq_getElem?_getD, List.getElem?_eq_getElem c1]; rfl
  have g2 : ds'.getD j .non = ds'[j] := by rw [List.getD_eq_getElem?_getD, List.getElem?_eq_getElem c2]; rfl
  unfold eJ
  rw [g1, g2]
  exact ih _ _ _ _ _ _ (dep_get c1) (SeesL.get j b1 c1 t) (SeesL.get j b2 c2 t') ru ru'
theorem eqDs_len {ds ds' : List Dt} (h : ds.length ≠ ds'.length) : eqDs ds ds' = false := by
  cases q : eqDs ds ds' with
  | false => rfl
  | true => exact absurd (eqDs_length q) h
theorem min_all {ds ds' : List Dt} : ((List.range (min ds.length ds'.length)).all (eJ ds ds') && ds.length == ds'.length) = eqDs ds ds' := by
  by_cases h : ds.length = ds'.length
  · rw [h, Nat.min_self, beq_self_eq_true, Bool.and_true, eqDs_all h, h]
    rfl
  · rw [eqDs_len h, beq_eq_false_iff_ne.mpr h, Bool.and_false]
/-- the answer of == -/
theorem sees_eq (I : Inv X pins σ H s) : ∀ (n : Nat) (A : Around) (d d' : Dt) (v v' : V) (u u' : Value), depD d ≤ n → Sees X.K H v d → Sees X.K H v' d' → RelV v u → RelV v' u' → A.units + n < cLine → SeqAt.EqAt A s u u' (eqD d d') := by
  intro n
  induction n with
  | zero =>
    intro A d d' v v' u u' hn h h' r r' hu
    refine flat_eq I h h' r r' ?_ hu
    cases d with
    | lst l => simp only [depD] at hn; omega
    | tup l => simp only [depD] at hn; omega
    | _ => rfl
  | succ n ih =>
    intro A d d' v v' u u' hn h h' r r' hu
    have hu0 : A.units < cLine := by omega
    have hin : A.in1.units + n < cLine := by
      have : A.in1.units = A.units + 1 := rfl
      omega
    cases fd : flatD d with
    | true => exact flat_eq I h h' r r' fd hu0
    | false =>
      cases d with
      | lst l =>
        simp only [depD] at hn
        simp only [Sees] at h
        obtain ⟨a, xs, rfl, q, t⟩ := h
        cases r
        obtain ⟨its, rv, p, _⟩ := I.list q
        cases d' with
        | non => simp only [Sees] at h'; subst h'; cases r'; simp only [eqD]; exact SeqAt.EqAt.list_none p.isList hu0
        | bl b => simp only [Sees] at h'; subst h'; cases r'; simp only [eqD]; exact SeqAt.EqAt.list_bool b p.isList hu0
        | int b => simp only [Sees] at h'; subst h'; obtain ⟨t', rfl⟩ := r'; simp only [eqD]; exact SeqAt.EqAt.list_int b _ p.isList hu0
        | str b => simp only [Sees] at h'; subst h'; obtain ⟨t', rfl⟩ := r'; simp only [eqD]; exact SeqAt.EqAt.list_str b _ p.isList hu0
        | tup l' =>
          simp only [Sees] at h'
          obtain ⟨a', xs', rfl, q', t'⟩ := h'
          cases r'
          obtain ⟨its', rv', p', _⟩ := I.tuple q'
          simp only [eqD]
          exact SeqAt.EqAt.list_tuple p.isList p' hu0
        | lst l' =>
          have h2 := h'
          simp only [Sees] at h'
          obtain ⟨a', xs', rfl, q', t'⟩ := h'
          cases r'
          obtain ⟨its', rv', p', _⟩ := I.list q'
          by_cases e : a = a'
          · subst e
            have : xs = xs' := I.list_inj q q'
            subst this
            have := seesL_inj I t t'
            subst this
            rw [eqD_refl]
            exact SeqAt.EqAt.same _
          · refine SeqAt.EqAt.of_refs e ?_
            have le1 := rv.length
            have le2 := rv'.length
            have k1 := t.length
            have k2 := t'.length
            simp only [eqD]
            by_cases hl : l.length = l'.length
            · have := SeqAt.RcAt.lists (A := A) (e := eJ l l') p.isList p'.isList (by simp only [List.size_toArray]; omega) hu0 (items_eq t t' rv rv' fun d d' v v' u u' hd b1 b2 b3 b4 => ih A.in1 d d' v v' u u' (by omega) b1 b2 b3 b4 hin)
              have hs : its.toArray.size = l.length := by simp only [List.size_toArray]; omega
              rw [hs] at this
              rw [eqDs_all hl]
              exact this
            · rw [eqDs_len hl]
              exact SeqAt.RcAt.lists_lengths p.isList p'.isList (by simp only [List.size_toArray, bne_iff_ne, ne_eq]; omega) hu0
      | tup l =>
        simp only [depD] at hn
        simp only [Sees] at h
        obtain ⟨a, xs, rfl, q, t⟩ := h
        cases r
        obtain ⟨its, rv, p, _⟩ := I.tuple q
        cases d' with
        | non => simp only [Sees] at h'; subst h'; cases r'; simp only [eqD]; exact SeqAt.EqAt.tuple_none p hu0
        | bl b => simp only [Sees] at h'; subst h'; cases r'; simp only [eqD]; exact SeqAt.EqAt.tuple_bool b p hu0
        | int b => simp only [Sees] at h'; subst h'; obtain ⟨t', rfl⟩ := r'; simp only [eqD]; exact SeqAt.EqAt.tuple_int b _ p hu0
        | str b => simp only [Sees] at h'; subst h'; obtain ⟨t', rfl⟩ := r'; simp only [eqD]; exact SeqAt.EqAt.tuple_str b _ p hu0
        | lst l' =>
          simp only [Sees] at h'
          obtain ⟨a', xs', rfl, q', t'⟩ := h'
          cases r'
          obtain ⟨its', rv', p', _⟩ := I.list q'
          simp only [eqD]
          exact SeqAt.EqAt.tuple_list p p'.isList hu0
        | tup l' =>
          simp only [Sees] at h'
          obtain ⟨a', xs', rfl, q', t'⟩ := h'
          cases r'
          obtain ⟨its', rv', p', _⟩ := I.tuple q'
          by_cases e : a = a'
          · subst e
            have : xs = xs' := I.tuple_inj q q'
            subst this
            have := seesL_inj I t t'
            subst this
            rw [eqD_refl]
            exact SeqAt.EqAt.same _
          · refine SeqAt.EqAt.of_refs e ?_
            have le1 := rv.length
            have le2 := rv'.length
            have k1 := t.length
            have k2 := t'.length
            simp only [eqD]
            have := SeqAt.RcAt.tuples (A := A) (e := eJ l l') p p' hu0 (items_eq t t' rv rv' fun d d' v v' u u' hd b1 b2 b3 b4 => ih A.in1 d d' v v' u u' (by omega) b1 b2 b3 b4 hin)
            have hs : its.toArray.size = l.length := by simp only [List.size_toArray]; omega
            have hs' : its'.toArray.size = l'.length := by simp only [List.size_toArray]; omega
            rw [hs, hs', min_all] at this
            exact this
      | _ => cases fd
end
section
variable {X : Cx}
def sameK : Dt → Dt → Bool
  | .lst _, .tup _ => false
  | .tup _, .lst _ => false
  | _, _ => true
/-- == of lists or tuples, as data -/
def rEqD (K : PySem.W.Frag) (neg : Bool) : R2 := fun x y H Q => ∃ d d', Sees K H x d ∧ Sees K H y d' ∧ flatD d = false ∧ sameK d d' = true ∧ (∃ p, y = .ref p) ∧ depD d ≤ 60 ∧ Q (.bl (if neg then !eqD d d' else eqD d d')) H
theorem op_eqD (hu : X.A.units + 64 < cLine) : OpR X (compareOp .Eq) (rEqD X.K false) := by
  intro pins s σ H x y v u Q I rx ry h
  obtain ⟨d, d', h1, h2, fd, sk, ⟨p', rfl⟩, hd, q⟩ := h
  cases ry
  have hu0 : X.A.units < cLine := by omega
  have hin : X.A.in1.units + 60 < cLine := by
    have : X.A.in1.units = X.A.units + 1 := rfl
    omega
  have fin : ∀ b, b = eqD d d' → EP X pins σ Q (.bool b) s := fun b e => ⟨.bl b, H, I, rfl, by rw [e]; exact q⟩
  cases d with
  | lst l =>
    simp only [depD] at hd
    simp only [Sees] at h1
    obtain ⟨a, xs, rfl, q1, t⟩ := h1
    cases rx
    obtain ⟨its, rv, p, _⟩ := I.list q1
    cases d' with
    | tup l' =>
      simp only [Sees] at h2
      obtain ⟨a', xs', z, q', t'⟩ := h2
      cases z
      obtain ⟨its', rv', p2, _⟩ := I.tuple q'
      exact SeqAt.RcAt.list_tuple p.isList p2 hu0 _ _ _ _ (fin _ (by simp only [eqD]))
    | lst l' =>
      simp only [Sees] at h2
      obtain ⟨a', xs', z, q', t'⟩ := h2
      cases z
      obtain ⟨its', rv', p2, _⟩ := I.list q'
      have le1 := rv.length
      have le2 := rv'.length
      have k1 := t.length
      have k2 := t'.length
      by_cases hl : l.length = l'.length
      · have hs : its.toArray.size = l.length := by simp only [List.size_toArray]; omega
        refine SeqAt.RcAt.lists (A := X.A) (e := eJ l l') p.isList p2.isList (by simp only [List.size_toArray]; omega) hu0 (items_eq t t' rv rv' fun d d' v v' u u' hd' b1 b2 b3 b4 => sees_eq I 60 X.A.in1 d d' v v' u u' (by omega) b1 b2 b3 b4 hin) _ _ _ _ (fin _ ?_)
        simp only [eqD]
        rw [hs, eqDs_all hl]
        rfl
      · refine SeqAt.RcAt.lists_lengths p.isList p2.isList (by simp only [List.size_toArray, bne_iff_ne, ne_eq]; omega) hu0 _ _ _ _ (fin _ ?_)
        simp only [eqD]
        rw [eqDs_len hl]
    | _ => simp only [Sees] at h2; cases h2
  | tup l =>
    simp only [depD] at hd
    simp only [Sees] at h1
    obtain ⟨a, xs, rfl, q1, t⟩ := h1
    cases rx
    obtain ⟨its, rv, p, _⟩ := I.tuple q1
    cases d' with
    | lst l' =>
      simp only [Sees] at h2
      obtain ⟨a', xs', z, q', t'⟩ := h2
      cases z
      obtain ⟨its', rv', p2, _⟩ := I.list q'
      exact SeqAt.RcAt.tuple_list p p2.isList hu0 _ _ _ _ (fin _ (by simp only [eqD]))
    | tup l' =>
      simp only [Sees] at h2
      obtain ⟨a', xs', z, q', t'⟩ := h2
      cases z
      obtain ⟨its', rv', p2, _⟩ := I.tuple q'
      have le1 := rv.length
      have le2 := rv'.length
      have k1 := t.length
      have k2 := t'.length
      have hs : its.toArray.size = l.length := by simp only [List.size_toArray]; omega
      have hs' : its'.toArray.size = l'.length := by simp only [List.size_toArray]; omega
      refine SeqAt.RcAt.tuples (A := X.A) (e := eJ l l') p p2 hu0 (items_eq t t' rv rv' fun d d' v v' u u' hd' b1 b2 b3 b4 => sees_eq I 60 X.A.in1 d d' v v' u u' (by omega) b1 b2 b3 b4 hin) _ _ _ _ (fin _ ?_)
      simp only [eqD]
      rw [hs, hs', min_all]
    | _ => simp only [Sees] at h2; cases h2
  | _ => cases fd
theorem op_neD (hu : X.A.units + 64 < cLine) : OpR X (compareOp .NotEq) (rEqD X.K true) := by
  intro pins s σ H x y v u Q I rx ry h
  obtain ⟨d, d', h1, h2, fd, sk, ⟨p', rfl⟩, hd, q⟩ := h
  cases ry
  have hu0 : X.A.units < cLine := by omega
  have hin : X.A.in1.units + 60 < cLine := by
    have : X.A.in1.units = X.A.units + 1 := rfl
    omega
  have fin : ∀ b, b = (!eqD d d') → EP X pins σ Q (.bool b) s := fun b e => ⟨.bl b, H, I, rfl, by rw [e]; exact q⟩
  cases d with
  | lst l =>
    simp only [depD] at hd
    simp only [Sees] at h1
    obtain ⟨a, xs, rfl, q1, t⟩ := h1
    cases rx
    obtain ⟨its, rv, p, _⟩ := I.list q1
    cases d' with
    | lst l' =>
      simp only [Sees] at h2
      obtain ⟨a', xs', z, q', t'⟩ := h2
      cases z
      obtain ⟨its', rv', p2, _⟩ := I.list q'
      have le1 := rv.length
      have le2 := rv'.length
      have k1 := t.length
      have k2 := t'.length
      by_cases hl : l.length = l'.length
      · have hs : its.toArray.size = l.length := by simp only [List.size_toArray]; omega
        refine SeqAt.RcNeAt.lists (A := X.A) (e := eJ l l') p.isList p2.isList (by simp only [List.size_toArray]; omega) hu0 (items_eq t t' rv rv' fun d d' v v' u u' hd' b1 b2 b3 b4 => sees_eq I 60 X.A.in1 d d' v v' u u' (by omega) b1 b2 b3 b4 hin) _ _ _ _ (fin _ ?_)
        simp only [eqD]
        rw [hs, eqDs_all hl]
        rfl
      · refine SeqAt.RcNeAt.lists_lengths p.isList p2.isList (by simp only [List.size_toArray, bne_iff_ne, ne_eq]; omega) hu0 _ _ _ _ (fin _ ?_)
        simp only [eqD]
        rw [eqDs_len hl]
        rfl
    | tup l' => cases sk
    | _ => simp only [Sees] at h2; cases h2
  | tup l =>
    simp only [depD] at hd
    simp only [Sees] at h1
    obtain ⟨a, xs, rfl, q1, t⟩ := h1
    cases rx
    obtain ⟨its, rv, p, _⟩ := I.tuple q1
    cases d' with
    | tup l' =>
      simp only [Sees] at h2
      obtain ⟨a', xs', z, q', t'⟩ := h2
      cases z
      obtain ⟨its', rv', p2, _⟩ := I.tuple q'
      have le1 := rv.length
      have le2 := rv'.length
      have k1 := t.length
      have k2 := t'.length
      have hs : its.toArray.size = l.length := by simp only [List.size_toArray]; omega
      have hs' : its'.toArray.size = l'.length := by simp only [List.size_toArray]; omega
      refine SeqAt.RcNeAt.tuples (A := X.A) (e := eJ l l') p p2 hu0 (items_eq t t' rv rv' fun d d' v v' u u' hd' b1 b2 b3 b4 => sees_eq I 60 X.A.in1 d d' v v' u u' (by omega) b1 b2 b3 b4 hin) _ _ _ _ (fin _ ?_)
      simp only [eqD]
      rw [hs, hs', min_all]
    | lst l' => cases sk
    | _ => simp only [Sees] at h2; cases h2
  | _ => cases fd
end
end L2

set_option linter.all false
set_option maxRecDepth 100000
set_option maxHeartbeats 1000000
namespace L2
open PySem PySem.Spec PyProof.Rows
theorem Same.up {H H' : Hp} {D : Addr} {o : HO} (s : Same H H') (n : H D = none) : Same H (upd H' D o) := fun b u e => by rw [upd_ne (ne_of_none e n)]; exact s b u e
/-- an element for each turn, nothing else changed -/
theorem comp_map1 {J : It} {n k : Nat} {src f : Nat → V} {te : TE} {cs : St} {H1 : Hp} {D : Addr} {Q : Hp → Prop} (hD : H1 D = none) (hk : k = cs.length) (hn : n ≤ sizeLine)
    (stop : ∀ H, Same H1 H → J.stop n H) (go : ∀ i H, i < n → Same H1 H → J.go i H) (yld : ∀ i H x H', i < n → Same H1 H → J.yld i H x H' → x = src i ∧ H' = H)
    (he : ∀ i H (R : V → Hp → Prop), i < n → Same H1 H → (∀ H4, Same H H4 → R (f i) H4) → te (cs ++ [some (src i)]) H R)
    (hQ : ∀ H, Same H1 H → H D = some (.lst ((List.range n).map f)) → Q H) : tCompQ J (gName k) tTrue te (cs ++ [none]) H1 D Q := by
  refine ⟨fun i m ys σ H => m = n - i ∧ i ≤ n ∧ Same H1 H ∧ ys = (List.range i).map f ∧ H D = some (.lst ys) ∧ ∃ o, σ = cs ++ [o], ⟨n, rfl, Nat.zero_le _, (Same.refl _).up hD, rfl, upd_same, none, rfl⟩, ?_⟩
  rintro i m ys σ H ⟨rfl, hi, sm, rfl, hd, o, rfl⟩
  refine ⟨hd, ?_⟩
  by_cases hlt : i < n
  · refine .inr ⟨go i H hlt sm, fun x H' y => ?_⟩
    obtain ⟨rfl, rfl⟩ := yld i H x H' hlt sm y
    have e : (cs ++ [o]).set k (some (src i)) = cs ++ [some (src i)] := by
      rw [hk, List.set_append_right _ _ (Nat.le_refl _), Nat.sub_self]
      rfl
    unfold gName
    rw [e]
    unfold tTrue
    refine iteT ?_
    refine he i H' _ hlt sm fun H4 s4 => ⟨s4 _ _ hd, ?_, n - (i + 1), by omega, rfl, hlt, (sm.trans s4).up hD, ?_, upd_same, _, rfl⟩
    · rw [List.length_map, List.length_range]
      omega
    · rw [List.range_succ, List.map_append]
      rfl
  · have e : i = n := by omega
    subst e
    exact .inl ⟨stop H sm, hQ H sm hd⟩
theorem comp_list1 {K : PySem.W.Frag} {a : Addr} {xs : List V} {f : V → V} {k : Nat} {te : TE} {cs : St} {H1 : Hp} {D : Addr} {Q : Hp → Prop} (hs : SqL K H1 a xs) (hD : H1 D = none) (hk : k = cs.length) (hn : xs.length ≤ sizeLine)
    (he : ∀ x H (R : V → Hp → Prop), x ∈ xs → Same H1 H → (∀ H4, Same H H4 → R (f x) H4) → te (cs ++ [some x]) H R)
    (hQ : ∀ H, Same H1 H → H D = some (.lst (xs.map f)) → Q H) : tCompQ (Itl K a) (gName k) tTrue te (cs ++ [none]) H1 D Q := by
  refine comp_map1 (src := fun i => xs.getD i .non) (f := fun i => f (xs.getD i .non)) (n := xs.length) hD hk hn (fun H sm => ⟨xs, sm.seq hs, Nat.le_refl _⟩) (fun i H hi sm => ⟨xs, xs[i], sm.seq hs, List.getElem?_eq_getElem hi⟩) (fun i H x H' hi sm y => ?_) (fun i H R hi sm r => ?_) (fun H sm hd => hQ H sm ?_)
  · obtain ⟨e, y⟩ := y
    refine ⟨?_, e⟩
    have := y xs (sm.seq hs)
    rw [List.getD_eq_getElem?_getD, this]
    rfl
  · refine he _ H R ?_ sm r
    rw [List.getD_eq_getElem?_getD, List.getElem?_eq_getElem hi]
    exact List.getElem_mem hi
  · rw [hd]
    congr 2
    apply List.ext_getElem
    · simp
    · intro i h1 h2
      simp at h1 h2
      simp [h1]
theorem comp_range1 {lo : Int} {n : Nat} {f : Nat → V} {k : Nat} {te : TE} {cs : St} {H1 : Hp} {D : Addr} {Q : Hp → Prop} (hD : H1 D = none) (hk : k = cs.length) (hn : n ≤ sizeLine)
    (he : ∀ i H (R : V → Hp → Prop), i < n → Same H1 H → (∀ H4, Same H H4 → R (f i) H4) → te (cs ++ [some (.int (lo + i))]) H R)
    (hQ : ∀ H, Same H1 H → H D = some (.lst ((List.range n).map f)) → Q H) : tCompQ (Itr lo n) (gName k) tTrue te (cs ++ [none]) H1 D Q :=
  comp_map1 (src := fun i => .int (lo + (i : Nat))) hD hk hn (fun H _ => Nat.le_refl _) (fun i H hi _ => hi) (fun i H x H' _ _ y => ⟨y.2, y.1⟩) he hQ
end L2
namespace L2
open PySem PySem.Spec PyProof.Rows
theorem comp_range0 {n : Nat} {f : Nat → V} {k : Nat} {te : TE} {cs : St} {H1 : Hp} {D : Addr} {Q : Hp → Prop} (hD : H1 D = none) (hk : k = cs.length) (hn : n ≤ sizeLine)
    (he : ∀ i H (R : V → Hp → Prop), i < n → Same H1 H → (∀ H4, Same H H4 → R (f i) H4) → te (cs ++ [some (.int (i : Nat))]) H R)
    (hQ : ∀ H, Same H1 H → H D = some (.lst ((List.range n).map f)) → Q H) : tCompQ (Itr 0 n) (gName k) tTrue te (cs ++ [none]) H1 D Q :=
  comp_range1 hD hk hn (fun i H R hi sm r => by
    have e : (0 : Int) + (i : Nat) = (i : Nat) := by omega
    rw [e]
    exact he i H R hi sm r) hQ
end L2
namespace L2
open PySem PySem.Spec PyProof.Rows
/-! ### the same, the written part named (for a comprehension's block) -/
section
variable {X : Cx} {K : PySem.W.Frag}
theorem pe_fldK {e : Expr} {f : Str} {pos : Pos} {ta : TE} (hK : X.K = K) (he : PE X e ta) (hb : attributeBase e f X.env (eval e X.env) = eval e X.env) : PE X (.Attribute e f pos) (tFld K ta f) := by
  subst hK
  exact pe_fld he hb
theorem ix_listK (hK : X.K = K) : IxR X (rIxL K) := by subst hK; exact ix_list
theorem ix_tupK (hK : X.K = K) : IxR X (rIxT K) := by subst hK; exact ix_tup
theorem sl_listK (hK : X.K = K) : SlR X (rSlL K) := by subst hK; exact sl_list
theorem call_len_seqK (hK : X.K = K) : CallR X (.builtin "len") (fun xs H Q => ∃ p ys, xs = [.ref p] ∧ (SqL K H p ys ∨ SqT K H p ys) ∧ Q (.int ys.length) H) := by subst hK; exact call_len_seq
end
end L2

set_option linter.all false
set_option maxRecDepth 100000
namespace L2
open PySem PySem.Spec PyProof.Rows
/-- all but what stands at a is kept -/
def But (a : Addr) (H H' : Hp) : Prop := ∀ b o, b ≠ a → H b = some o → H' b = some o
theorem But.refl (a : Addr) (H : Hp) : But a H H := fun _ _ _ h => h
theorem But.trans {a : Addr} {H H1 H2 : Hp} (x : But a H H1) (y : But a H1 H2) : But a H H2 := fun b o n h => y b o n (x b o n h)
theorem But.upd {a : Addr} {H : Hp} {o : HO} : But a H (upd H a o) := fun b u n h => by rw [upd_ne n]; exact h
theorem Same.but {a : Addr} {H H' : Hp} (x : Same H H') : But a H H' := fun b o _ h => x b o h
theorem But.same {a : Addr} {H H' : Hp} (x : But a H H') (n : H a = none) : Same H H' := fun b o h => x b o (ne_of_none h n) h
theorem But.new {a c : Addr} {H H' : Hp} {o : HO} (x : But a H H') (n : H' c = none) : But a H (L2.upd H' c o) := fun b u m h => by
  have := x b u m h
  rw [upd_ne (ne_of_none this n)]
  exact this
theorem Same.new' {H H' : Hp} {c : Addr} {o : HO} (x : Same H H') (n : H' c = none) : Same H (L2.upd H' c o) := fun b u h => by
  have := x b u h
  rw [upd_ne (ne_of_none this n)]
  exact this
theorem But.seq {K : PySem.W.Frag} {a : Addr} {H H' : Hp} {b : Addr} {xs : List V} (x : But a H H') (n : b ≠ a) (h : SqL K H b xs) : SqL K H' b xs := by
  rcases h with (h | ⟨o, h⟩) | h
  · exact .inl (.inl (x _ _ n h))
  · exact .inl (.inr ⟨o, x _ _ n h⟩)
  · exact .inr h
end L2
namespace L2
open PySem PySem.Spec PyProof.Rows
def isInts : List Expr → Option (List Int)
  | [] => some []
  | .Constant (.int i) _ _ :: r => (isInts r).map (i :: ·)
  | _ => none
/-- a row of written whole numbers -/
theorem pa_ints {X : Cx} : ∀ {es : List Expr} {is : List Int}, isInts es = some is → PA X es (fun _ H Q => Q (is.map V.int) H)
  | [], is, h => by
    cases h
    exact pa_nil
  | e :: es, is, h => by
    unfold isInts at h
    split at h
    · rename_i z
      cases z
    · rename_i i j pos r heq
      cases heq
      cases q : isInts es with
      | none => rw [q] at h; cases h
      | some js =>
        rw [q] at h
        cases h
        intro pos pins s σ H Q I hq
        exact pa_cons pe_int (pa_ints q) (by rfl) pos pins s σ H Q I hq
    · cases h
theorem p0 {j : Int} (h : (0 : Int) < j) : (0 : Int) < j := h
end L2
namespace L2
open PySem PySem.Spec PyProof.Rows
def CDivB (_ j : Int) : Prop := 0 < j ∧ j ≤ 340282366920938463463374607431768211456
theorem op_fdivB {X : Cx} : OpR X (binaryOp .FloorDiv) (rI CDivB fun i j => .int (i / j)) := opI fun i j _ _ _ _ _ hc q => by
  obtain ⟨h1, h2⟩ := hc
  refine floordiv_int (Int.ne_of_gt h1) (by rw [Int.fdiv_eq_ediv_of_nonneg _ (Int.le_of_lt h1)]; exact q) (.inl (PyProof.noPylong_of_log2 ?_))
  have : j.natAbs < 2 ^ 129 := by
    have e : (2 : Nat) ^ 129 = 680564733841876926926749214863536422912 := by decide +kernel
    rw [e]
    omega
  exact Nat.lt_trans ((Nat.log2_lt (by omega)).mpr this) (by decide)
end L2

set_option Elab.async false
set_option linter.all false
set_option maxRecDepth 100000
namespace L2
open PySem PySem.Spec PyProof.Rows

/-! ### an exception's object, and how it passes a frame -/
/-- its class, its own dict, the head of its traceback (whose flight is fl) -/
def XObj (h : Heap) (x C : Addr) (od tb : Option Addr) (fl : Value) : Prop :=
  ∃ oe vs, h.get? x = some oe ∧ oe.cls = .ref C ∧ oe.dict = od ∧ oe.data = .fields vs ∧
    match tb with
    | none => vs[1]? = some Value.none
    | some T => vs[1]? = some (.ref T) ∧ T ≠ x ∧ ∃ oT ts, h.get? T = some oT ∧ oT.data = .fields ts ∧ ts[3]? = some fl
/-- all is kept but what stands in Xs; of the frames in S up to slots -/
def Moved (S Xs : List Addr) (h h' : Heap) : Prop :=
  ∀ b o, h.get? b = some o → b ∉ Xs → (b ∉ S → h'.get? b = some o) ∧ ∃ sl, h'.get? b = some { o with slots := sl }

theorem mapFields_of {o : Obj} {vs : Array Value} (f : Array Value → Array Value) (e : o.data = .fields vs) : Obj.mapFields f o = { o with data := .fields (f vs) } := by
  obtain ⟨c, d, dt, sl⟩ := o
  dsimp only at e
  subst e
  rfl
theorem fields_live {o : Obj} {vs : Array Value} (e : o.data = .fields vs) : o.isFreed = false := by
  obtain ⟨c, d, dt, sl⟩ := o
  dsimp only at e
  subst e
  rfl
theorem ne_size {h : Heap} {b : Addr} {o : Obj} (e : h.get? b = some o) : b ≠ h.objs.size := Nat.ne_of_lt (Heap.lt_size e)

/-- frameOf, entryPlaceOf, newEntry, setField -/
theorem entry_ok {M : Model} {A : Around} {E : Value → Shared → Prop} {s : Shared} {base : Heap} {env : Env} {outer : List Env} {L x : Addr} {oe : Obj} {vs : Array Value} {head : Value} {had : Bool} {Q : Unit → Shared → Prop}
    (hA : A.frames = some (env :: outer)) (hF : s.heap.FunFrames base (env :: outer)) (hL : env.frame = some L) (he : s.heap.get? x = some oe) (hd : oe.data = .fields vs) (hz : 1 < vs.size)
    (h : ∀ (h' : Heap) (T : Addr) (sl : Array (Option Value)) (oT : Obj) (ts : Array Value), s.heap.objs.size ≤ T → T ≠ x → h'.get? x = some { oe with data := .fields (vs.setIfInBounds 1 (.ref T)), slots := sl } → h'.get? T = some oT → oT.data = .fields ts → ts[3]? = some (rawInt L) →
      Moved (frs (env :: outer)) [x] s.heap h' → Q () { s with heap := h' }) :
    wpAny M A (do
      let a ← PySem.frameOf env
      let pl ← entryPlaceOf L had
      let b ← EntryCells.newEntry head a Value.none (rawInt ↑L) Value.none pl
      setField (Value.ref x) 1 b) Q E s := by
  refine wpAny_bind (wpAny_frameOf_fun hA hF hL fun h1 so => wpAny_bind (wpAny_entryPlaceOf fun pl hpl => ?_))
  obtain ⟨sz, so1, so2⟩ := so
  obtain ⟨slx, hx1⟩ := so2 x oe he
  unfold EntryCells.newEntry newFields
  refine wpAny_bind (wpAny_newObj_type ?_ (hpl.sizeOk5 _ _ _ _ _))
  have hx2 := Heap.get?_push_of_some { cls := Value.type "traceback", data := Data.fields ([head, Value.ref L, Value.none, rawInt ↑L, Value.none] ++ if pl.isEmpty = true then List.replicate 6 Value.none else pl).toArray } hx1
  refine wpAny_setField hx2 hd hz ?_
  have live : (Obj.mapFields (fun v => v.setIfInBounds 1 (Value.ref h1.objs.size)) { oe with slots := slx }).isFreed = false := by
    rw [mapFields_of (o := { oe with slots := slx }) (vs := vs) _ hd]; rfl
  have Tx : h1.objs.size ≠ x := Ne.symm (ne_size hx1)
  refine h _ h1.objs.size slx { cls := Value.type "traceback", data := Data.fields ([head, Value.ref L, Value.none, rawInt ↑L, Value.none] ++ if pl.isEmpty = true then List.replicate 6 Value.none else pl).toArray } _ (by rw [sz]; exact Nat.le_refl _) Tx ?_ ?_ rfl ?_ ?_
  · rw [Heap.get?_update_self _ hx2 live, mapFields_of (o := { oe with slots := slx }) (vs := vs) _ hd]
  · rw [Heap.get?_update_ne _ _ _ _ Tx]
    exact Heap.get?_push_size _ rfl
  · simp
  · intro b o hb hn
    have bx : b ≠ x := fun e => hn (by simp [e])
    refine ⟨fun hS => ?_, ?_⟩
    · rw [Heap.get?_update_ne _ _ _ _ bx]
      refine Heap.get?_push_of_some _ ?_
      rw [so1 b hS]; exact hb
    · obtain ⟨sl, e⟩ := so2 b o hb
      refine ⟨sl, ?_⟩
      rw [Heap.get?_update_ne _ _ _ _ bx]
      exact Heap.get?_push_of_some _ e

theorem Moved.trans {S Xs : List Addr} {h h1 h2 : Heap} (a : Moved S Xs h h1) (b : Moved S Xs h1 h2) : Moved S Xs h h2 := fun c o hc hn => by
  obtain ⟨p, sl, q⟩ := a c o hc hn
  refine ⟨fun hS => (b c o (p hS) hn).1 hS, ?_⟩
  obtain ⟨_, sl', q'⟩ := b c _ q hn
  exact ⟨sl', q'⟩
theorem Moved.mono {S Xs Xs' : List Addr} {h h1 : Heap} (a : Moved S Xs h h1) (s : ∀ b ∈ Xs, b ∈ Xs') : Moved S Xs' h h1 := fun c o hc hn => a c o hc fun z => hn (s c z)

/-- the exception is noted in the frame that it passes -/
theorem note_ok {M : Model} {A : Around} {E : Value → Shared → Prop} {s : Shared} {base : Heap} {env : Env} {outer : List Env} {L x C : Addr} {od tb : Option Addr} {Q : Unit → Shared → Prop}
    (hA : A.frames = some (env :: outer)) (hF : s.heap.FunFrames base (env :: outer)) (hL : env.frame = some L) (hx : XObj s.heap x C od tb .none)
    (h : ∀ (h' : Heap) (T : Addr), s.heap.objs.size ≤ T → XObj h' x C od (some T) (rawInt L) → Moved (frs (env :: outer)) (x :: tb.toList) s.heap h' → Q () { s with heap := h' }) :
    wpAny M A (noteFrame (.ref x) env) Q E s := by
  obtain ⟨oe, vs, e1, e2, e3, e4, e5⟩ := hx
  unfold noteFrame
  rw [hL]
  dsimp only
  cases tb with
  | none =>
    have e5 : vs[1]? = some Value.none := e5
    have hz : 1 < vs.size := (Array.getElem?_eq_some_iff.mp e5).1
    refine wpAny_bind (wpAny_field e1 e4 e5 ?_)
    rw [if_neg (by decide)]
    refine entry_ok hA hF hL e1 e4 hz fun h' T sl oT ts p1 p2 p3 p4 p5 p6 p7 => h h' T p1 ?_ (p7.mono fun b hb => by simpa using hb)
    exact ⟨_, _, p3, e2, e3, rfl, by simp [hz], p2, oT, ts, p4, p5, p6⟩
  | some T0 =>
    obtain ⟨e5, e6, oT0, ts0, e7, e8, e9⟩ := e5
    have hz : 1 < vs.size := (Array.getElem?_eq_some_iff.mp e5).1
    refine wpAny_bind (wpAny_field e1 e4 e5 ?_)
    rw [if_pos (by rfl)]
    refine wpAny_bind (wpAny_field e7 e8 e9 ?_)
    rw [if_neg (by simp [rawInt])]
    have hz3 : 3 < ts0.size := (Array.getElem?_eq_some_iff.mp e9).1
    refine wpAny_bind (wpAny_setField e7 e8 hz3 ?_)
    have mv : Moved (frs (env :: outer)) (x :: (some T0).toList) s.heap (s.heap.update T0 (Obj.mapFields fun v => v.setIfInBounds 3 Value.none)) := fun b o hb hn => by
      have bT : b ≠ T0 := fun z => hn (by simp [z])
      rw [Heap.get?_update_ne _ _ _ _ bT]
      exact ⟨fun _ => hb, o.slots, hb⟩
    have hF' : (s.heap.update T0 (Obj.mapFields fun v => v.setIfInBounds 3 Value.none)).FunFrames base (env :: outer) := Heap.FunFrames.of_keeps (fun b o hb hd => by
      have bT : b ≠ T0 := fun z => by
        rw [z, e7] at hb
        cases hb
        exact hd _ e8
      exact ⟨o, by rw [Heap.get?_update_ne _ _ _ _ bT]; exact hb, rfl⟩) hF
    refine entry_ok (base := base) hA hF' hL (oe := oe) (by rw [Heap.get?_update_ne _ _ _ _ (Ne.symm e6)]; exact e1) e4 hz fun h' T sl oT ts p1 p2 p3 p4 p5 p6 p7 => h h' T (by rw [Heap.size_update] at p1; exact p1) ?_ (mv.trans (p7.mono fun b hb => by simp at hb; simp [hb]))
    exact ⟨_, _, p3, e2, e3, rfl, by simp [hz], p2, oT, ts, p4, p5, p6⟩

/-- it flies no more -/
theorem flight_ok {M : Model} {A : Around} {E : Value → Shared → Prop} {s : Shared} {x C T : Addr} {od : Option Addr} {fl : Value} {Q : Unit → Shared → Prop} (hx : XObj s.heap x C od (some T) fl)
    (h : ∀ h' : Heap, XObj h' x C od (some T) .none → (∀ b o, s.heap.get? b = some o → b ≠ T → h'.get? b = some o) → Q () { s with heap := h' }) : wpAny M A (setFlight (.ref x) none) Q E s := by
  obtain ⟨oe, vs, e1, e2, e3, e4, e5, e6, oT, ts, e7, e8, e9⟩ := hx
  have hz3 : 3 < ts.size := (Array.getElem?_eq_some_iff.mp e9).1
  refine wpAny_setFlight_none e1 e4 e5 e7 e8 hz3 (h _ ?_ fun b o hb hn => by rw [Heap.get?_update_ne _ _ _ _ hn]; exact hb)
  have live : (Obj.mapFields (fun v => v.setIfInBounds 3 Value.none) oT).isFreed = false := by rw [mapFields_of (vs := ts) _ e8]; rfl
  refine ⟨oe, vs, by rw [Heap.get?_update_ne _ _ _ _ (Ne.symm e6)]; exact e1, e2, e3, e4, e5, e6, _, _, Heap.get?_update_self _ e7 live, by rw [mapFields_of (vs := ts) _ e8], ?_⟩
  simp [hz3]

/-- it leaves a frame -/
theorem leave_ok {M : Model} {A : Around} {E : Value → Shared → Prop} {s : Shared} {base : Heap} {env : Env} {outer : List Env} {L x C : Addr} {od tb : Option Addr} {Q : Unit → Shared → Prop}
    (hA : A.frames = some (env :: outer)) (hF : s.heap.FunFrames base (env :: outer)) (hL : env.frame = some L) (hx : XObj s.heap x C od tb .none)
    (h : ∀ (h' : Heap) (T : Addr), s.heap.objs.size ≤ T → XObj h' x C od (some T) .none → Moved (frs (env :: outer)) (x :: tb.toList) s.heap h' → Q () { s with heap := h' }) :
    wpAny M A (leaving env (.ref x)) Q E s := by
  unfold leaving
  refine wpAny_bind (note_ok hA hF hL hx fun h1 T p1 p2 p3 => flight_ok p2 fun h2 q1 q2 => h h2 T p1 q1 fun b o hb hn => ?_)
  have bT : b ≠ T := fun z => absurd (Heap.lt_size hb) (by rw [z]; exact Nat.not_lt.mpr p1)
  obtain ⟨a, sl, c⟩ := p3 b o hb hn
  exact ⟨fun hS => q2 b o (a hS) bT, sl, q2 b _ c bT⟩
end L2

set_option Elab.async false
set_option linter.all false
set_option maxRecDepth 100000
namespace L2
open PySem PySem.Spec PyProof.Rows

/-! ### a call that an exception left -/
theorem ObjOk.there {P : Program} {w : World} {H : Hp} {h : Heap} {a : Addr} {o : HO} (x : ObjOk P w H h a o) : ∃ ob, h.get? a = some ob := by
  induction o with
  | lst xs => obtain ⟨_, _, _, _, e⟩ := x; exact ⟨_, e⟩
  | tup xs => obtain ⟨_, _, _, o, e, _⟩ := x; exact ⟨_, e⟩
  | dK kvs => obtain ⟨_, _, _, _, o, _, _, e, _⟩ := x; exact ⟨_, e⟩
  | dT kvs => obtain ⟨_, _, _, _, o, _, _, e, _⟩ := x; exact ⟨_, e⟩
  | set S n => obtain ⟨o, _, _, _, e, _⟩ := x; exact ⟨_, e⟩
  | ins C dx fs => obtain ⟨_, _, _, e, _⟩ := x; exact ⟨_, e⟩
  | own y => obtain ⟨_, e⟩ := x; exact ⟨_, e⟩
  | xd fs => obtain ⟨_, ⟨_, _, _, e, _⟩, _⟩ := x; exact ⟨_, e⟩
  | rng lo hi => obtain ⟨_, _, _, e⟩ := x; exact ⟨_, e⟩
  | frz ob u ih => obtain ⟨e, _⟩ := x; exact ⟨_, e⟩
  | tbl ps => exact ⟨_, show h.get? a = some _ from x⟩
  | met f y => exact ⟨_, show h.get? a = some _ from x⟩
  | ext φ => obtain ⟨_, ⟨o, e⟩, _⟩ := x; exact ⟨o, e⟩
theorem HOk.nowhere {P : Program} {w : World} {H : Hp} {h : Heap} {a : Addr} (x : HOk P w H h) (e : h.get? a = none) : H a = none := by
  cases q : H a with
  | none => rfl
  | some o =>
    obtain ⟨ob, z⟩ := (x a o q).there
    rw [e] at z; cases z

/-- how an exception lies behind a call: a new object of a class, with or without a dict of its own; E says the rest -/
def CXe (P : Program) (w : World) : CXT := fun outer H s E e s' => ∃ (x C T : Addr) (od : Option Addr) (H' : Hp), e = .ref x ∧ s'.os = s.os ∧ AllBare s'.gens ∧ Un (frs outer) [] H H' s.heap s'.heap ∧ HOk P w H' s'.heap ∧
  XObj s'.heap x C od (some T) .none ∧ s.heap.get? x = none ∧ s.heap.get? T = none ∧ H' x = none ∧ H' T = none ∧ E (.ref C) od H'

/-- an exception that rises in a body: what the body wants of exceptions comes of E -/
def Rises (X : Cx) (E : XK) : Prop := ∀ (pins : List (Addr × Obj)) (σ : St) (H : Hp) (s : Shared) (x C : Addr) (od tb : Option Addr), Inv X pins σ H s → XObj s.heap x C od tb .none → X.s₀.heap.get? x = none → (∀ T, tb = some T → X.s₀.heap.get? T = none ∧ H T = none) →
  H x = none → E (.ref C) od H → X.xe (.ref x) s

theorem Un.moved {X : Cx} {pins : List (Addr × Obj)} {σ : St} {H : Hp} {s : Shared} {h' : Heap} {Xs : List Addr} (I : Inv X pins σ H s) (hex : X.ex = []) (mv : Moved (frs X.stack) Xs s.heap h') (hX : ∀ b ∈ Xs, X.s₀.heap.get? b = none ∧ H b = none) :
    Un X.fs [] X.H₀ H X.s₀.heap h' ∧ HOk X.prog X.w H h' := by
  have nX : ∀ b o, X.s₀.heap.get? b = some o → b ∉ Xs := fun b o e z => by
    rw [(hX b z).1] at e; cases e
  have B := I.base
  rw [hex] at B
  have nL : ∀ b o, X.s₀.heap.get? b = some o → b ∉ X.fs → b ∉ frs X.stack := fun b o e hb z => by
    rcases List.mem_cons.mp (I.stkSub b z) with q | q
    · exact absurd (Nat.lt_of_lt_of_le (Heap.lt_size e) I.ok.above) (by rw [q]; exact Nat.lt_irrefl _)
    · exact hb q
  refine ⟨⟨fun b o e n hb hx => ?_, fun b o e n hb hx => ?_, B.free, fun b o e hx => ?_, B.tups, B.frzs, B.tbls⟩, fun a o e => ?_⟩
  · exact (mv b o (B.keep b o e n hb hx) (nX b o e)).1 (nL b o e hb)
  · obtain ⟨sl, e1⟩ := B.slot b o e n hb hx
    obtain ⟨_, sl', e2⟩ := mv b _ e1 (nX b o e)
    exact ⟨sl', e2⟩
  · obtain ⟨o', e1⟩ := B.there b o e hx
    obtain ⟨_, sl', e2⟩ := mv b _ e1 (nX b o e)
    exact ⟨_, e2⟩
  · have tr : ∀ b u, H b = some u → b ∉ Xs ∧ b ∉ frs X.stack := fun b u q => ⟨fun z => absurd ((hX b z).2.symm.trans q) (by simp), fun z => absurd ((I.stkFree b z).symm.trans q) (by simp)⟩
    refine (I.hok a o e).stay (fun b u hb q => ?_) (fun _ q => q) fun _ _ q => q
    rcases hb with hb | hb
    · obtain ⟨p1, p2⟩ := tr a o e
      rw [hb] at q ⊢
      exact (mv a u q p1).1 p2
    · obtain ⟨p1, p2⟩ := tr b _ hb
      exact (mv b u q p1).1 p2

section
variable {P : Program} {w : World} {K : PySem.W.Frag} {mg : Str → Option Value} {base : Heap} {N : List Str} {qual : Str} {scope : Scope} {f : Addr} {cd : Value} {A : Around} {outer : List Env} {s : Shared} {H : Hp} {E E' : XK}
theorem rises_cx : Rises (cxOf (CXe P w) P w K mg base N qual scope f cd A outer s H E) E := by
  intro pins σ H1 s1 x C od tb I hx n1 n2 n3 q
  refine leave_ok I.ok.frames I.stack rfl hx fun h' T p1 p2 p3 => ?_
  have hX : ∀ b ∈ x :: tb.toList, (cxOf (CXe P w) P w K mg base N qual scope f cd A outer s H E).s₀.heap.get? b = none ∧ H1 b = none := fun b hb => by
    rcases List.mem_cons.mp hb with z | z
    · rw [z]; exact ⟨n1, n3⟩
    · exact n2 b (by simpa using z)
  obtain ⟨u, hok⟩ := Un.moved I rfl p3 hX
  refine ⟨x, C, T, od, H1, rfl, I.os, I.bare, u, hok, p2, n1, ?_, n3, I.hok.fresh p1, q⟩
  exact Heap.get?_none_of_le (Nat.le_trans I.sz p1)
theorem passX (hE : ∀ C od H', E' C od H' → E C od H') : Passes (CXe P w) (cxOf (CXe P w) P w K mg base N qual scope f cd A outer s H E) E' := by
  intro pins σ H1 s1 e s' I ⟨x, C, T, od, H', ee, os, bare, un, hok, xo, fx, fT, hx, hT, q⟩
  subst ee
  have I' := I.call' os un hok bare (fun _ z => by simp at z)
  have fr : ∀ b, s1.heap.get? b = none → s.heap.get? b = none := fun b z => by
    cases e : s.heap.get? b with
    | none => rfl
    | some o =>
      obtain ⟨o', e1⟩ := I.base.there b o e (by show b ∉ ([] : List Addr); simp)
      rw [z] at e1; cases e1
  exact rises_cx pins σ H' s' x C od (some T) I' xo (fr x fx) (fun T' z => by cases z; exact ⟨fr T fT, hT⟩) hx (hE _ _ _ q)
end
/-- no exception leaves this call -/
theorem passE0 {X : Cx} {P : Program} {w : World} : Passes (CXe P w) X E0 := fun _ _ _ _ _ _ _ h => by
  obtain ⟨_, _, _, _, _, _, _, _, _, _, _, _, _, _, _, q⟩ := h
  exact q.elim
/-- a def that raises nothing, among those that may -/
theorem FnOk.up {P : Program} {w : World} {K : PySem.W.Frag} {mg : Str → Option Value} {base : Heap} {k : Nat} {f : Addr} {fd : FuncData} {ps : List Str} {sp : Sp} (F : FnOk P w K mg base CX0 k f fd ps sp) : FnOk P w K mg base (CXe P w) k f fd ps sp :=
  ⟨F.len, fun A outer s H args us vs Q E hr he hb hv hs => codeAny_mono (F.run A outer s H args us vs Q E hr he hb hv hs) fun r s' q => by
    cases r with
    | error e => exact False.elim q
    | ok fl => cases fl <;> exact q⟩
section
variable {P : Program} {w : World} {K : PySem.W.Frag} {mg : Str → Option Value} {base : Heap}
/-- THE RULE for a def that may raise -/
theorem Fun.okX {x qual : Str} {st : Stmt} {f : Addr} {fd : FuncData} {N ps : List Str} {k : Nat} {sp : Sp} (F : Fun K x qual st f fd) (S : FnScope N ps (defScope st)) (len : ∀ vs H Q E, sp vs H Q E → vs.length = ps.length)
    (hbody : ∀ (cdv : Value) (A : Around) (outer : List Env) (s : Shared) (H : Hp) (vs : List V) (Q : VK) (E : XK), Room k (A.deeper (envOfC qual (defScope st) s.heap.objs.size f cdv)) → sp vs H Q E →
      ∃ t, PSs (cxOf (CXe P w) P w K mg base N qual (defScope st) f cdv A outer s H E) (defBody st) t ∧ t { nx := fun _ H' => Q .non H', rt := Q } (start N vs) H) : FnOk P w K mg base (CXe P w) (k + 1) f fd ps sp := by
  obtain ⟨oc, od, kV, doc, pm, an, cdv, ct, osl, rfl, lk, hcd⟩ := F.ex
  exact fn_of lk hcd S len fun A outer s H vs Q E hr hsp => hbody cdv A outer s H vs Q E hr hsp
end

/-! ### own exception classes: straight under one own class without __init__, which is straight under ValueError -/
def keysB (es : List DictEntry) : Bool := es.all fun e => match e.key with | .str _ _ => true | _ => false
def nsB (K : PySem.W.Frag) (a : Addr) (f : Array DictEntry → Bool) : Bool := match K.lookup a with
  | some ⟨_, _, .dict es _, _⟩ => keysB es.toList && f es
  | _ => false
theorem nsB_ok {K : PySem.W.Frag} {h : Heap} {a : Addr} {f : Array DictEntry → Bool} (X : K.In h) (e : nsB K a f = true) : ∃ es, h.Ns a (nsFind es) ∧ f es = true := by
  unfold nsB at e
  split at e
  · rename_i c d es ep sl q
    rw [Bool.and_eq_true] at e
    refine ⟨es, ⟨_, es, ep, X _ _ q, rfl, fun en hen => ?_, fun _ => rfl⟩, e.2⟩
    have z := List.all_eq_true.mp e.1 en (by simpa using hen)
    split at z
    · rename_i n t q; exact ⟨n, t, q⟩
    · cases z
  · cases e
abbrev bmV : List Value := [.type "ValueError", .type "Exception", .type "BaseException", .type "object"]
def noInit (es : Array DictEntry) : Bool := (nsFind es "__init__").isNone
/-- C: an own exception class without __init__ under Pk, which is one under ValueError -/
def xcIn (K : PySem.W.Frag) (C Pk : Addr) : Bool :=
  match K.lookup C, K.lookup Pk with
  | some ⟨.type "type", _, .cls cd, sl⟩, some ⟨_, _, .cls cp, _⟩ =>
    (match cd.mro with
    | [.ref C', .ref P', .type "ValueError", .type "Exception", .type "BaseException", .type "object"] => C' == C && P' == Pk
    | _ => false) &&
    (match sl.toList with
    | [_, _, _, _, some (.builtin id), _] => id == "ValueError.__new__"
    | _ => false) && !cd.hasDel && nsB K cd.ns noInit && nsB K cp.ns noInit
  | _, _ => false
theorem xc_ok {K : PySem.W.Frag} {h : Heap} {C Pk : Addr} (X : K.In h) (e : xcIn K C Pk = true) : ∃ nm q N bs hdct sn sub ab col dd k0 k1 k2 k3 k5 mN,
    h.get? C = some (excClassObj nm q C N bs (.ref Pk :: bmV) hdct sn sub ab col dd k0 k1 k2 k3 k5 "ValueError.__new__") ∧ h.Ns N mN ∧ mN "__init__" = none ∧ OwnTail h bmV (.ref Pk :: bmV) := by
  unfold xcIn at e
  split at e
  · rename_i dC cd sl dP1 dP2 cp slP q1 q2
    simp only [Bool.and_eq_true] at e
    obtain ⟨⟨⟨⟨e1, e2⟩, e3⟩, e4⟩, e5⟩ := e
    split at e1
    · rename_i C' P' qm
      rw [Bool.and_eq_true] at e1
      obtain ⟨c1, c2⟩ := e1
      have c1 := eq_of_beq c1
      have c2 := eq_of_beq c2
      subst c1 c2
      split at e2
      · rename_i k0 k1 k2 k3 id k5 qs
        have c3 : id = "ValueError.__new__" := eq_of_beq e2
        subst c3
        obtain ⟨es, ns, ni⟩ := nsB_ok X e4
        obtain ⟨es', ns', ni'⟩ := nsB_ok X e5
        obtain ⟨nm, bs, mro, ns0, qn, hdct, sn, sub, ab, col, hdel⟩ := cd
        have qm : mro = _ := qm
        have e3' : hdel = false := by simpa using e3
        subst qm
        subst e3'
        have qs' : sl = #[k0, k1, k2, k3, some (.builtin "ValueError.__new__"), k5] := by
          have := congrArg List.toArray qs
          simpa using this
        subst qs'
        refine ⟨nm, qn, ns0, bs, hdct, sn, sub, ab, col, dC, k0, k1, k2, k3, k5, nsFind es, X _ _ q1, ns, by simpa [noInit] using ni, ?_⟩
        exact .own (X _ _ q2) ns' (by simpa [noInit] using ni') .base
      · cases e2
    · cases e1
  · cases e

/-! ### raise C(..) of such a class -/
section
variable {X : Cx} {E : XK} {c : Str} {C Pk : Addr} {p cpos pos : Pos} {e : Expr} {es : List Expr} {t : TA}
def tRaise (C : Addr) (E : XK) (t : TA) : TS := fun _ σ H => t σ H fun vs H1 => vs.length ≤ sizeLine ∧ E (.ref C) none H1
theorem ps_raise (hc : xcIn X.K C Pk = true) (hcalm : X.calm = true) (hex : X.ex = []) (hg : Gl X c) (hm : X.mg c = some (.ref C)) (hx : Rises X E) (ha : PA X (e :: es) t) (hdb : (c == ("__debug__" : Str)) = false := by decide)
    (he : starEach (e :: es) X.env = (false, eval e X.env) :: starEach es X.env := by rfl) (hpl : (backTo cpos (starEach (e :: es) X.env)).any (·.1) = false := by rfl) :
    PS X (.Raise (some (.Call (.Name c p) (e :: es) [] cpos)) none pos) (tRaise C E t) := by
  intro pins s σ H D I h
  obtain ⟨nm, q, N, bs, hdct, sn, sub, ab, col, dd, k0, k1, k2, k3, k5, mN, f1, f2, f3, f4⟩ := xc_ok I.ok.mod.kin hc
  refine wpAny_Raise_call_subU (nm := nm) (q := q) (C := C) (N := N) (bs := bs) (bm := .ref Pk :: bmV) (hdct := hdct) (sn := sn) (sub := sub) (ab := ab) (col := col) (dd := dd) (k0 := k0) (k1 := k1) (k2 := k2) (k3 := k3) (k5 := k5) F.excBase_ValueError (by decide +kernel) F.excBase_ValueError (mN := mN) (by rfl) (I.ok.hd hcalm) hpl f3 ?_
  refine ld_glob I hg hm ⟨rfl, ?_⟩ hdb
  have go := ha cpos pins s σ H _ I h
  rw [he] at go ⊢
  refine Calls.evalArgs_plain (thn go fun us s2 ⟨vs, H2, I2, r, z, q⟩ => ?_)
  have kp : ∀ b o, X.base.get? b = some o → s2.heap.get? b = some o := I2.bk
  refine ⟨rfl, by rw [← r.length]; exact z, kp _ _ f1, f2.keeps kp, f4.keeps kp, fun h' x M => ?_⟩
  obtain ⟨tt, m1, m2, m3⟩ := M.there
  have I3 : Inv X pins σ H2 { s2 with heap := h' } := I2.kept (t' := s2.toks) M.keeps
  have fr : X.s₀.heap.get? x = none := by
    cases q : X.s₀.heap.get? x with
    | none => rfl
    | some o =>
      obtain ⟨o', e1⟩ := I2.base.there x o q (by rw [hex]; simp)
      rw [M.new] at e1; cases e1
  exact hx pins σ H2 _ x C none none I3 ⟨_, _, m1, rfl, rfl, rfl, rfl⟩ fr (fun T z => nomatch z) (I2.hok.nowhere M.new) q
end
end L2

set_option Elab.async false
set_option linter.all false
set_option maxRecDepth 100000
namespace L2
open PySem PySem.Spec PyProof.Rows

/-! ### states around an exception -/
section
variable {X : Cx} {pins : List (Addr × Obj)} {σ : St} {H : Hp} {s : Shared} {h' : Heap}
/-- objects of ours (an exception, its traceback) moved; of the frames slots -/
theorem Inv.moved {Xs : List Addr} (I : Inv X pins σ H s) (hex : X.ex = []) (mv : Moved (frs X.stack) Xs s.heap h')
    (hX : ∀ b ∈ Xs, X.s₀.heap.get? b = none ∧ H b = none ∧ (∃ o vs, s.heap.get? b = some o ∧ o.data = .fields vs) ∧ ∀ p ∈ X.pn ++ pins, p.1 ≠ b) : Inv X pins σ H { s with heap := h' } := by
  obtain ⟨u, hok⟩ := Un.moved I hex mv fun b hb => ⟨(hX b hb).1, (hX b hb).2.1⟩
  have nf : ∀ b o, s.heap.get? b = some o → (∀ vs, o.data ≠ .fields vs) → b ∉ Xs := fun b o e d z => by
    obtain ⟨_, _, ⟨o', vs, e1, e2⟩, _⟩ := hX b z
    rw [e] at e1; cases e1
    exact d vs e2
  have cellK : ∀ c v, s.heap.IsCell c v → h'.IsCell c v := fun c v ⟨o, ho, hd⟩ => by
    obtain ⟨_, sl, e⟩ := mv c o ho (nf c o ho fun vs z => by rw [hd] at z; cases z)
    exact ⟨_, e, hd⟩
  refine ⟨I.ok, I.os, I.bare, by rw [hex]; exact u, ?_, fun x c e => ?_, I.free, I.freeC, fun p hp => ?_, hok, I.len⟩
  · obtain ⟨m, ⟨o, es, ep, ho, hd, r⟩, hl⟩ := I.loc
    obtain ⟨_, sl, e⟩ := mv _ o ho (nf _ o ho fun vs z => by rw [hd] at z; cases z)
    refine ⟨m, ⟨_, es, ep, e, hd, r⟩, fun i x v e1 e2 e3 => ?_⟩
    obtain ⟨u, r, l⟩ := hl i x v e1 e2 e3
    refine ⟨u, r, ?_⟩
    rcases l with l | ⟨k, c, e, z⟩
    · exact .inl l
    · exact .inr ⟨k, c, e, cellK c _ z⟩
  · obtain ⟨v, z⟩ := I.cell x c e
    exact ⟨v, cellK c v z⟩
  · obtain ⟨e, n, ne, nf', d⟩ := I.pin p hp
    refine ⟨(mv p.1 p.2 e fun z => (hX _ z).2.2.2 p hp rfl).1 fun z => ?_, n, ne, nf', d⟩
    rcases List.mem_cons.mp (I.stkSub p.1 z) with q | q
    · exact ne q
    · exact nf' q

/-- within an except suite -/
abbrev Cx.within (X : Cx) (e : Value) : Cx := { X with A := X.A.mark (some e), calm := false, xe := fun _ _ => False }
theorem Inv.within (I : Inv X pins σ H s) (e : Value) : Inv (X.within e) pins σ H s :=
  have ok := I.ok
  ⟨⟨ok.mod, ok.kind, ok.glob, ok.blt, ok.above, ok.inj, ok.has, ok.cab, (fun z => Bool.noConfusion z), ok.frames, ok.stk, ok.exf, ok.bs, ok.bsz, ok.noex, ok.exfs, ok.funs, ok.frf⟩, I.os, I.bare, I.base, I.loc, I.cell, I.free, I.freeC, I.pin, I.hok, I.len⟩
theorem Inv.without {e : Value} (I : Inv (X.within e) pins σ H s) (ok : X.Ok) : Inv X pins σ H s := ⟨ok, I.os, I.bare, I.base, I.loc, I.cell, I.free, I.freeC, I.pin, I.hok, I.len⟩

/-- a caught exception, as it is tracked -/
def XAtF (fl : Bool) (x C : Addr) (od : Option Addr) : Heap → Prop := fun h => ∃ oe vs, h.get? x = some oe ∧ oe.cls = .ref C ∧ oe.dict = od ∧ oe.data = .fields vs ∧ 1 < vs.size ∧ (fl = true → vs[1]? = some Value.none)
abbrev XAt (x C : Addr) (od : Option Addr) : Heap → Prop := XAtF false x C od
/-- an object of ours is tracked from now on -/
theorem Inv.track {fl : Bool} {x C : Addr} {od : Option Addr} (I : Inv X pins σ H s) (hx : XAtF fl x C od s.heap) (n1 : X.s₀.heap.get? x = none) (n2 : H x = none) (n3 : ∀ p ∈ X.pn ++ pins, p.1 ≠ x) : Inv X pins σ (upd H x (.ext (XAtF fl x C od))) s := by
  obtain ⟨oe, vs, e1, e2, e3, e4, _⟩ := id hx
  have ne0 : ∀ b o, X.s₀.heap.get? b = some o → b ≠ x := fun b o e z => by rw [z, n1] at e; cases e
  have neH : ∀ b u, H b = some u → b ≠ x := fun b u e z => by rw [z, n2] at e; cases e
  refine ⟨I.ok, I.os, I.bare, ⟨I.base.keep, I.base.slot, fun b o e n h => ?_, I.base.there, fun b xs e => ?_, fun b o u e => ?_, fun b ps e => ?_⟩, I.loc, I.cell, ?_, fun y c e => ?_, fun p hp => ?_, fun a o e => ?_, I.len⟩
  · rw [upd_ne (ne0 b o e)]; exact I.base.free b o e n h
  · have z := I.base.tups b xs e
    rw [upd_ne (neH b _ z)]; exact z
  · have z := I.base.frzs b o u e
    rw [upd_ne (neH b _ z)]; exact z
  · obtain ⟨m, z⟩ := I.base.tbls b ps e
    exact ⟨m, by rw [upd_ne (neH b _ z)]; exact z⟩
  · obtain ⟨m, ⟨o, es, ep, ho, hd, _⟩, _⟩ := I.loc
    rw [upd_ne fun z => by rw [z, e1] at ho; cases ho; rw [e4] at hd; cases hd]; exact I.free
  · obtain ⟨v, o, ho, hd⟩ := I.cell y c e
    rw [upd_ne fun z => by rw [z, e1] at ho; cases ho; rw [e4] at hd; cases hd]; exact I.freeC y c e
  · obtain ⟨q1, q2, q3⟩ := I.pin p hp
    exact ⟨q1, by rw [upd_ne (n3 p hp)]; exact q2, q3⟩
  · by_cases ha : a = x
    · subst ha
      rw [upd_same] at e
      cases e
      exact ⟨hx, ⟨oe, e1⟩, fun h1 h2 ⟨o, v, p1, p2⟩ k => ⟨o, v, k o p1, p2⟩⟩
    · rw [upd_ne ha] at e
      exact (I.hok a o e).stay (fun _ _ _ q => q) (fun b q => by rw [upd_ne (neH b _ q)]; exact q) fun b xs q => by rw [upd_ne (neH b _ q)]; exact q

/-- an exception that has left a call of this body: nothing was stored -/
def XP (X : Cx) (pins : List (Addr × Obj)) (EX : St → XK) (e : Value) (s' : Shared) : Prop :=
  ∃ (x C T : Addr) (od : Option Addr) (σ : St) (H' : Hp), e = .ref x ∧ Inv X pins σ H' s' ∧ XObj s'.heap x C od (some T) .none ∧ X.s₀.heap.get? x = none ∧ X.s₀.heap.get? T = none ∧ H' x = none ∧ H' T = none ∧
    (∀ p ∈ X.pn ++ pins, p.1 ≠ x ∧ p.1 ≠ T) ∧ EX σ (.ref C) od H'
theorem xp_of {E : XK} {e : Value} {s' : Shared} {EX : St → XK} (I : Inv X pins σ H s) (hex : X.ex = []) (h : CXe X.prog X.w X.stack H s E e s') (hE : ∀ C od H', E C od H' → EX σ C od H') : XP X pins EX e s' := by
  obtain ⟨x, C, T, od, H', ee, os, bare, un, hok, xo, fx, fT, hx, hT, q⟩ := h
  subst ee
  have I' := I.call' os un hok bare (fun _ z => by simp at z)
  have fr : ∀ b, s.heap.get? b = none → X.s₀.heap.get? b = none := fun b z => by
    cases e : X.s₀.heap.get? b with
    | none => rfl
    | some o =>
      obtain ⟨o', e1⟩ := I.base.there b o e (by rw [hex]; simp)
      rw [z] at e1; cases e1
  have np : ∀ b, s.heap.get? b = none → ∀ p ∈ X.pn ++ pins, p.1 ≠ b := fun b z p hp e => by
    have := (I.pin p hp).1
    rw [e, z] at this; cases this
  exact ⟨x, C, T, od, σ, H', rfl, I', xo, fr x fx, fr T fT, hx, hT, fun p hp => ⟨np x fx p hp, np T fT p hp⟩, hE _ _ _ q⟩
end

/-! ### expressions that may raise -/
abbrev TEX := St → Hp → VK → XK → Prop
def PEX (X : Cx) (e : Expr) (t : TEX) : Prop := ∀ (pins : List (Addr × Obj)) (s : Shared) (σ : St) (H : Hp) (Q : VK) (EX : St → XK), Inv X pins σ H s → t σ H Q (EX σ) → wpAny (model X.prog X.w) X.A (eval e X.env) (EP X pins σ Q) (XP X pins EX) s
section
variable {X : Cx} {k : Nat} {f C : Addr} {fd : FuncData} {ps : List Str} {sp : Sp} {dvs : List V} {ds : List Value} {x m : Str} {p pos apos : Pos} {e o : Expr} {es : List Expr} {te : TE} {ta : TE} {t : TA}
/-- what raises nothing -/
theorem pex_of (h : PE X.nox e te) : PEX X e (fun σ H Q _ => te σ H Q) := fun pins s σ H Q EX I hw =>
  wpAny_mono (h pins s σ H Q (I.wish _) hw) (fun _ _ ⟨v, H', I', r, q⟩ => ⟨v, H', I'.unwish, r, q⟩) fun _ _ z => False.elim z
def tCallX (sp : Sp) (dvs : List V) (t : TA) : TEX := fun σ H Q E => t σ H fun vs H1 => sp (vs ++ dvs) H1 Q E
def tMethX (C : Addr) (m : Str) (sp : Sp) (dvs : List V) (ta : TE) (t : TA) : TEX := fun σ H Q E => ta σ H fun x H1 => ∃ a dx fs, x = .ref a ∧ H1 a = some (.ins C dx fs) ∧ fs.lookup m = none ∧
  t σ H1 fun vs H2 => sp (x :: (vs ++ dvs)) H2 Q E
def tMakeX (C : Addr) (sp : Sp) (dvs : List V) (t : TA) : TEX := fun σ H Q E => t σ H fun vs H1 => ∀ x dx, H1 x = none → H1 dx = none → dx ≠ x →
  sp (.ref x :: (vs ++ dvs)) (upd (upd H1 dx (.own x)) x (.ins C dx [])) (fun v H2 => v = .non ∧ Q (.ref x) H2) E
theorem run_fnX {pins : List (Addr × Obj)} {σ : St} {H : Hp} {s : Shared} {Q : VK} {E : XK} {EX : St → XK} {us : List Value} {vs : List V} (F : FnOk X.prog X.w X.K X.mg X.base (CXe X.prog X.w) k f fd ps sp) (hr : Room k X.A) (hb : Binds X.K fd ps ds) (hd : Vals dvs ds) (hex : X.ex = [])
    (I : Inv X pins σ H s) (r : Vals vs us) (h : sp (vs ++ dvs) H Q E) (hE : ∀ C od H', E C od H' → EX σ C od H') : wpAny (model X.prog X.w) X.A (call (.ref f) us) (EP X pins σ Q) (XP X pins EX) s := by
  have r2 : Vals (vs ++ dvs) (us ++ ds) := r.append hd
  have hl : (us ++ ds).length = ps.length := by rw [← r2.length]; exact F.len _ _ _ _ h
  refine wpAny_call (codeAny_mono (F.run X.A X.stack s H ⟨us, []⟩ (us ++ ds) (vs ++ dvs) Q E hr I.env0 (hb s us I.kIn hl) r2 h) fun r s' hq => ?_)
  cases r with
  | error e => exact xp_of I hex hq hE
  | ok fl =>
    cases fl with
    | ret u => exact I.after hq
    | next => exact False.elim hq
    | brk => exact False.elim hq
    | cont => exact False.elim hq
theorem pex_call (F : FnOk X.prog X.w X.K X.mg X.base (CXe X.prog X.w) k f fd ps sp) (hr : Room k X.A) (hex : X.ex = []) (hg : Gl X x) (hm : X.mg x = some (.ref f)) (hk : PySem.W.keepIn X.K (.ref f) = true) (hb : Binds X.K fd ps ds) (hd : Vals dvs ds)
    (ha : PA X.nox (e :: es) t) (hdb : (x == ("__debug__" : Str)) = false := by decide) (he : starEach (e :: es) X.env = (false, eval e X.env) :: starEach es X.env := by rfl) (hpl : (backTo pos (starEach es X.env)).any (·.1) = false := by rfl) :
    PEX X (.Call (.Name x p) (e :: es) [] pos) (tCallX sp dvs t) := by
  intro pins s σ H Q EX I h
  refine wpAny_Call_Name_kw (ld_glob I hg hm ?_ hdb)
  refine PySem.W.callWith_K (h₀ := X.base) I.ok.mod.kin hk (wpAny_mono (ha pos pins s σ H _ (I.wish _) h) (fun us s1 ⟨vs, H1, I1, r, q⟩ => ⟨I1.unwish.kIn, ?_⟩) fun _ _ z => False.elim z) he hpl
  exact run_fnX F hr hb hd hex I1.unwish r q fun _ _ _ z => z
theorem pex_meth {pl : Sem Bool} (he : PE X.nox o ta) (c : Cls X.K C) (hm : Meth X.K C m f) (F : FnOk X.prog X.w X.K X.mg X.base (CXe X.prog X.w) k f fd ps sp) (hr : Room k X.A) (hex : X.ex = []) (hb : Binds X.K fd ps ds) (hd : Vals dvs ds) (ha : PA X.nox (e :: es) t)
    (hst : starEach (e :: es) X.env = (false, eval e X.env) :: starEach es X.env := by rfl) (hpl : (backTo pos (starEach es X.env)).any (·.1) = false := by rfl)
    (ht : eval (.Call (.Attribute o m apos) (e :: es) [] pos) X.env = (do
      let ov ← eval o X.env
      standAt apos.atName
      let (f, first) ← holding [ov] (getMethod ov m pl)
      callWith pos f first (backTo pos (starEach (e :: es) X.env)) (backToKw pos (keywordEach [] X.env))) := by rfl) :
    PEX X (.Call (.Attribute o m apos) (e :: es) [] pos) (tMethX C m sp dvs ta t) := by
  intro pins s σ H Q EX I h
  refine PySem.W.methodCall_KW (pl := pl) (wpAny_mono (he pins s σ H _ (I.wish _) h) (fun u s1 ⟨x, H1, I1, rx, a, dx, fs, ex, ea, l, q⟩ => ?_) fun _ _ z => False.elim z) ht
  subst ex
  obtain rfl : u = Value.ref a := rx
  have I1 := I1.unwish
  refine getmeth_ok I1 ea c hm l ?_
  refine PySem.W.callWith_K (first := [.ref a]) (h₀ := X.base) I.ok.mod.kin hm.kp (wpAny_mono (ha pos pins s1 σ H1 _ (I1.wish _) q) (fun us s2 ⟨vs, H2, I2, r, q2⟩ => ⟨I2.unwish.kIn, ?_⟩) fun _ _ z => False.elim z) hst hpl
  exact run_fnX (us := .ref a :: us) (vs := .ref a :: vs) F hr hb hd hex I2.unwish (.cons rfl r) q2 fun _ _ _ z => z
theorem pex_meth0 {pl : Sem Bool} (he : PE X.nox o ta) (c : Cls X.K C) (hm : Meth X.K C m f) (F : FnOk X.prog X.w X.K X.mg X.base (CXe X.prog X.w) k f fd ps sp) (hr : Room k X.A) (hex : X.ex = []) (hb : Binds X.K fd ps ds) (hd : Vals dvs ds)
    (ht : eval (.Call (.Attribute o m apos) [] [] pos) X.env = (do
      let ov ← eval o X.env
      standAt apos.atName
      let (f, first) ← holding [ov] (getMethod ov m pl)
      callWith pos f first (backTo pos (starEach [] X.env)) (backToKw pos (keywordEach [] X.env))) := by rfl) :
    PEX X (.Call (.Attribute o m apos) [] [] pos) (tMethX C m sp dvs ta tNil) := by
  intro pins s σ H Q EX I h
  refine PySem.W.methodCall_KW (pl := pl) (wpAny_mono (he pins s σ H _ (I.wish _) h) (fun u s1 ⟨x, H1, I1, rx, a, dx, fs, ex, ea, l, q⟩ => ?_) fun _ _ z => False.elim z) ht
  subst ex
  obtain rfl : u = Value.ref a := rx
  have I1 := I1.unwish
  refine getmeth_ok I1 ea c hm l ?_
  exact PySem.W.callWith_K0 (first := [.ref a]) I1.kIn hm.kp (run_fnX (us := [.ref a]) (vs := [.ref a]) F hr hb hd hex I1 (.cons rfl .nil) q fun _ _ _ z => z)
theorem run_makeX {pins : List (Addr × Obj)} {σ : St} {H : Hp} {s : Shared} {Q : VK} {E : XK} {EX : St → XK} {us : List Value} {vs : List V} (M : Mk X.K C f) (F : FnOk X.prog X.w X.K X.mg X.base (CXe X.prog X.w) k f fd ps sp) (hr : Room (k + 1) X.A) (hb : Binds X.K fd ps ds) (hd : Vals dvs ds)
    (hex : X.ex = []) (I : Inv X pins σ H s) (r : Vals vs us)
    (h : ∀ x dx, H x = none → H dx = none → dx ≠ x → sp (.ref x :: (vs ++ dvs)) (upd (upd H dx (.own x)) x (.ins C dx [])) (fun v H2 => v = .non ∧ Q (.ref x) H2) E) (hE : ∀ C od H', E C od H' → EX σ C od H') :
    wpAny (model X.prog X.w) X.A (call (.ref C) us) (EP X pins σ Q) (XP X pins EX) s := by
  have hq := h (s.heap.objs.size + 1) s.heap.objs.size (I.hok.fresh (Nat.le_succ _)) (I.hok.fresh (Nat.le_refl _)) (Nat.ne_of_lt (Nat.lt_succ_self _))
  have I2 := Inv.made (C := C) I
  have r2 : Vals (V.ref (s.heap.objs.size + 1) :: (vs ++ dvs)) (Value.ref (s.heap.objs.size + 1) :: (us ++ ds)) := .cons rfl (r.append hd)
  have hl : (Value.ref (s.heap.objs.size + 1) :: us ++ ds).length = ps.length := by
    have e := r2.length
    rw [F.len _ _ _ _ hq] at e
    exact e.symm
  refine wpAny_call (make_map (f := f) I.kIn M.makes M.init (beq_iff_eq.mp M.fn) (codeAny_mono (F.run _ X.stack _ _ ⟨Value.ref (s.heap.objs.size + 1) :: us, []⟩ (Value.ref (s.heap.objs.size + 1) :: (us ++ ds)) _ _ E (hr.make C us [])
    (I2.env0.make C us []) (hb _ (Value.ref (s.heap.objs.size + 1) :: us) I2.kIn hl) r2 hq) fun r s' hq' => ?_))
  cases r with
  | error e => exact xp_of I2 hex hq' hE
  | ok fl =>
    cases fl with
    | ret u =>
      obtain ⟨v, H', I3, rv, ev, q3⟩ := I2.after hq'
      subst ev
      exact ⟨rv, ⟨V.ref (s.heap.objs.size + 1), H', I3, rfl, q3⟩⟩
    | next => exact False.elim hq'
    | brk => exact False.elim hq'
    | cont => exact False.elim hq'
theorem pex_make (M : Mk X.K C f) (F : FnOk X.prog X.w X.K X.mg X.base (CXe X.prog X.w) k f fd ps sp) (hr : Room (k + 1) X.A) (hex : X.ex = []) (hg : Gl X x) (hm : X.mg x = some (.ref C)) (hb : Binds X.K fd ps ds) (hd : Vals dvs ds)
    (ha : PA X.nox (e :: es) t) (hdb : (x == ("__debug__" : Str)) = false := by decide) (he : starEach (e :: es) X.env = (false, eval e X.env) :: starEach es X.env := by rfl) (hpl : (backTo pos (starEach es X.env)).any (·.1) = false := by rfl) :
    PEX X (.Call (.Name x p) (e :: es) [] pos) (tMakeX C sp dvs t) := by
  intro pins s σ H Q EX I h
  refine wpAny_Call_Name_kw (ld_glob I hg hm ?_ hdb)
  refine PySem.W.callWith_K (h₀ := X.base) I.ok.mod.kin M.kp (wpAny_mono (ha pos pins s σ H _ (I.wish _) h) (fun us s1 ⟨vs, H1, I1, r, q⟩ => ⟨I1.unwish.kIn, ?_⟩) fun _ _ z => False.elim z) he hpl
  exact run_makeX M F hr hb hd hex I1.unwish r q fun _ _ _ z => z
end

/-! ### statements that may raise, in a try -/
abbrev TSX := Ends → (St → XK) → St → Hp → Prop
def PSX (X : Cx) (st : List Stmt) (t : TSX) : Prop := ∀ (pins : List (Addr × Obj)) (s : Shared) (σ : St) (H : Hp) (D : Ends) (EX : St → XK), Inv X pins σ H s → t D EX σ H → wpAny (model X.prog X.w) X.A (execs st X.env) (SP X pins D) (XP X pins EX) s
section
variable {X : Cx} {e : Expr} {te : TEX} {t : TS} {u : TSX} {st : Stmt} {rest : List Stmt} {pos : Pos}
def tsxSeq (t : TSX) (u : TSX) : TSX := fun D EX σ H => t { D with nx := u D EX } EX σ H
theorem psx_nil : PSX X [] (fun D _ σ H => D.nx σ H) := fun _ _ σ H _ _ I h => wpAny_execs_nil ⟨σ, H, I, h⟩
theorem psx_of (h : PS X.nox st t) (hr : PSX X rest u) : PSX X (st :: rest) (fun D EX σ H => t { D with nx := u D EX } σ H) := by
  intro pins s σ H D EX I hq
  refine wpAny_execs_cons (wpAny_mono (h pins s σ H _ (I.wish _) hq) (fun f s1 q => ?_) fun _ _ z => False.elim z)
  have q := q.unwish
  cases f with
  | next =>
    obtain ⟨σ', H', I', q⟩ := q
    exact hr pins s1 σ' H' D EX I' q
  | brk => exact q
  | cont => exact q
  | ret u => exact q
theorem psx_expr (he : PEX X e te) (hr : PSX X rest u) (hs : swapsWith e none pos.line X.env = pure false := by rfl) : PSX X (.Expr e pos :: rest) (fun D EX σ H => te σ H (fun _ H1 => u D EX σ H1) (EX σ)) := by
  intro pins s σ H D EX I h
  refine wpAny_execs_cons (wpAny_Expr_any (wpAny_mono (he pins s σ H _ EX I h) (fun v s1 ⟨x, H1, I1, r1, q1⟩ => ?_) fun _ _ z => z) I.quiet hs)
  exact hr pins s1 σ H1 D EX I1 q1
theorem psx_set {i : Nat} {x : Str} {pos' : Pos} (hN : X.N.Nodup) (hi : X.N[i]? = some x) (hx : Loc X.env.scope x) (he : PEX X e te) (hr : PSX X rest u) (hs : swapsWith e (some (.Name x pos')) pos.line X.env = pure false := by rfl)
    (hf : X.fn x = true ∨ X.env.scope.names.lookup x = some .local := by first | exact .inl rfl | exact .inr rfl | assumption) :
    PSX X (.Assign [.Name x pos'] e pos :: rest) (fun D EX σ H => te σ H (fun v H1 => u D EX (σ.set i (some v)) H1) (EX σ)) := by
  intro pins s σ H D EX I h
  refine wpAny_execs_cons (wpAny_Assign_Name (wpAny_mono (he pins s σ H _ EX I h) (fun v s1 ⟨y, H1, I1, r1, q1⟩ => ?_) fun _ _ z => z) hs)
  exact store_ok I1 hN hi hx r1 (fun s2 I2 => hr pins s2 _ H1 D EX I2 q1) hf
theorem psx_ret (he : PEX X e te) : PSX X (.Return (some e) pos :: rest) (fun D EX σ H => te σ H D.rt (EX σ)) := by
  intro pins s σ H D EX I h
  refine wpAny_execs_cons (wpAny_Return_some (wpAny_mono (he pins s σ H _ EX I h) (fun v s1 ⟨x, H1, I1, r1, q1⟩ => ?_) fun _ _ z => z))
  exact ⟨x, σ, H1, I1, r1, q1⟩
end
end L2

set_option Elab.async false
set_option linter.all false
set_option maxRecDepth 100000
namespace L2
open PySem PySem.Spec PyProof.Rows

/-! ### an exception in the hands of its catcher -/
structure Loose (X : Cx) (pins : List (Addr × Obj)) (H : Hp) (s : Shared) (x C T : Addr) (od : Option Addr) (fl : Value) : Prop where
  obj : XObj s.heap x C od (some T) fl
  f1 : X.s₀.heap.get? x = none
  f2 : X.s₀.heap.get? T = none
  h1 : H x = none
  h2 : H T = none
  p : ∀ p ∈ X.pn ++ pins, p.1 ≠ x ∧ p.1 ≠ T
section
variable {X : Cx} {pins : List (Addr × Obj)} {σ : St} {H : Hp} {s : Shared} {x C T : Addr} {od : Option Addr} {fl : Value}
theorem Loose.mem (L : Loose X pins H s x C T od fl) : ∀ b ∈ [x, T], X.s₀.heap.get? b = none ∧ H b = none ∧ (∃ o vs, s.heap.get? b = some o ∧ o.data = .fields vs) ∧ ∀ p ∈ X.pn ++ pins, p.1 ≠ b := fun b hb => by
  obtain ⟨oe, vs, e1, e2, e3, e4, e5, e6, oT, ts, e7, e8, e9⟩ := L.obj
  rcases List.mem_cons.mp hb with z | z
  · rw [z]; exact ⟨L.f1, L.h1, ⟨oe, vs, e1, e4⟩, fun p hp => (L.p p hp).1⟩
  · have z : b = T := by simpa using z
    rw [z]; exact ⟨L.f2, L.h2, ⟨oT, ts, e7, e8⟩, fun p hp => (L.p p hp).2⟩
theorem Loose.note {M : Model} {E : Value → Shared → Prop} {Q : Unit → Shared → Prop} (L : Loose X pins H s x C T od .none) (I : Inv X pins σ H s) (hex : X.ex = []) (hst : X.stack = X.env :: X.outer) (hfr : X.env.frame = some X.env.locals)
    (h : ∀ (s' : Shared) (T' : Addr), Inv X pins σ H s' → Loose X pins H s' x C T' od (rawInt X.env.locals) → Q () s') : wpAny M X.A (noteFrame (.ref x) X.env) Q E s := by
  have fr := I.ok.frames
  have st := I.stack
  rw [hst] at fr st
  refine note_ok fr st hfr L.obj fun h' T' p1 p2 p3 => ?_
  rw [← hst] at p3
  have I' := I.moved hex p3 L.mem
  refine h _ T' I' ⟨p2, L.f1, Heap.get?_none_of_le (Nat.le_trans I.sz p1), L.h1, I.hok.fresh p1, fun p hp => ⟨(L.p p hp).1, fun z => ?_⟩⟩
  have := Heap.lt_size (I.pin p hp).1
  rw [z] at this
  exact absurd this (Nat.not_lt.mpr p1)
theorem Loose.flight {M : Model} {A : Around} {E : Value → Shared → Prop} {Q : Unit → Shared → Prop} (L : Loose X pins H s x C T od fl) (I : Inv X pins σ H s) (hex : X.ex = [])
    (h : ∀ s' : Shared, Inv X pins σ H s' → Loose X pins H s' x C T od .none → Q () s') : wpAny M A (setFlight (.ref x) none) Q E s := by
  refine flight_ok L.obj fun h' q1 q2 => h _ (I.moved (Xs := [x, T]) hex (fun b o hb hn => ?_) L.mem) ⟨q1, L.f1, L.f2, L.h1, L.h2, L.p⟩
  have bT : b ≠ T := fun z => hn (by simp [z])
  exact ⟨fun _ => q2 b o hb bT, o.slots, q2 b o hb bT⟩
theorem Loose.at (L : Loose X pins H s x C T od fl) : XAt x C od s.heap := by
  obtain ⟨oe, vs, e1, e2, e3, e4, e5, _⟩ := L.obj
  exact ⟨oe, vs, e1, e2, e3, e4, (Array.getElem?_eq_some_iff.mp e5).1, fun z => Bool.noConfusion z⟩
theorem XAt.type {M : Model} {h : Heap} (a : XAt x C od h) : PySem.W.Looks M h (typeOf (.ref x)) (.ref C) := by
  obtain ⟨oe, vs, e1, e2, e3, e4⟩ := a
  intro A Q E s k q
  exact wpAny_typeOf_ref (k _ _ e1) (by rw [e2]; exact q)

/-- a name is unbound -/
theorem unbind_ok {M : Model} {A : Around} {E : Value → Shared → Prop} {i : Nat} {n : Str} {v : V} {Q : Unit → Shared → Prop} (I : Inv X pins σ H s) (hN : X.N.Nodup) (hi : X.N[i]? = some n) (hk : X.env.scope.names.lookup n = some .local) (hv : σ[i]? = some (some v))
    (h : ∀ s', Inv X pins (σ.set i none) H s' → Q () s') : wpAny M A (unbindName X.env n) Q E s := by
  obtain ⟨m, hn, hl⟩ := id I.loc
  have hcls : (X.env.scope.kind == .class || (X.env.scope.kind == .module && X.env.locals != X.env.globals)) = false := by rw [I.ok.kind]; rfl
  obtain ⟨u, r, l⟩ := hl i n v hi hv (.inl hk)
  have hm : m n = some u := by
    rcases l with l | ⟨l, _⟩
    · exact l.2
    · have hk' : X.env.kindOf n = some .local := hk
      rw [hk'] at l
      rcases l with l | l <;> cases l
  have hiσ : i < σ.length := by rw [I.len]; exact (List.getElem?_eq_some_iff.mp hi).1
  refine wpAny_unbindName_local hk hn hm hcls fun h' u' hn' hs => ?_
  obtain ⟨oL, _, _, hoL, _⟩ := id hn
  have tracked : HOk X.prog X.w H h' := fun b ob e => by
    refine (I.hok b ob e).stay (fun c w' hc q => (hs.2 c ?_).trans q) (fun _ q => q) fun _ _ q => q
    rintro rfl
    rcases hc with rfl | hc
    · rw [I.free] at e; cases e
    · rw [I.free] at hc; cases hc
  refine h _ ⟨I.ok, I.os, I.bare, ⟨fun b o e n hb hx => ?_, fun b o e n hb hx => ?_, I.base.free, fun b o e hx => ?_, I.base.tups, I.base.frzs, I.base.tbls⟩, ⟨_, hn', fun j y v' e1 e2 e3 => ?_⟩, fun y c e => ?_, I.free, I.freeC, fun p hp => ?_, tracked, by simpa using I.len⟩
  · exact (hs.2 b (Nat.ne_of_lt (Nat.lt_of_lt_of_le (Heap.lt_size e) I.ok.above))).trans (I.base.keep b o e n hb hx)
  · obtain ⟨sl, e1⟩ := I.base.slot b o e n hb hx
    exact ⟨sl, (hs.2 b (Nat.ne_of_lt (Nat.lt_of_lt_of_le (Heap.lt_size e) I.ok.above))).trans e1⟩
  · obtain ⟨o', e1⟩ := I.base.there b o e hx
    exact ⟨o', (hs.2 b (Nat.ne_of_lt (Nat.lt_of_lt_of_le (Heap.lt_size e) I.ok.above))).trans e1⟩
  · by_cases hj : j = i
    · subst hj
      rw [List.getElem?_set_self hiσ] at e2
      cases e2
    · rw [List.getElem?_set_ne (Ne.symm hj)] at e2
      obtain ⟨u', r', q⟩ := hl j y v' e1 e2 e3
      refine ⟨u', r', ?_⟩
      rcases q with ⟨k, e⟩ | ⟨k, c, e, z⟩
      · refine .inl ⟨k, ?_⟩
        have : y ≠ n := fun e => hj (nodup_ix hN e1 (e ▸ hi))
        simp [this, e]
      · exact .inr ⟨k, c, e, z.sameBut hs (I.cne y c e)⟩
  · obtain ⟨w', z⟩ := I.cell y c e
    exact ⟨w', z.sameBut hs (I.cne y c e)⟩
  · obtain ⟨e, n, ne, nf, d⟩ := I.pin p hp
    exact ⟨(hs.2 p.1 ne).trans e, n, ne, nf, d⟩
/-- behind an except suite: the name holds None, then is unbound -/
theorem behind_ok {i : Nat} {n : Str} {pos : Pos} {Q : Unit → Shared → Prop} {E : Value → Shared → Prop} (I : Inv X pins σ H s) (hN : X.N.Nodup) (hi : X.N[i]? = some n) (hk : X.env.scope.names.lookup n = some .local) (h : ∀ s', Inv X pins (σ.set i none) H s' → Q () s') :
    wpAny (model X.prog X.w) X.A (do bindName X.env n Value.none; unbindBehindTheSuite X.env n pos) Q E s := by
  have hiσ : i < σ.length := by rw [I.len]; exact (List.getElem?_eq_some_iff.mp hi).1
  refine wpAny_bind (wpAny_bindName (store_ok (v := .non) I hN hi (.inl hk) rfl (fun s1 I1 => ?_) (.inr hk)))
  unfold unbindBehindTheSuite
  refine wpAny_onRaise (unbind_ok (v := .non) I1 hN hi hk (by rw [List.getElem?_set_self hiσ]) fun s2 I2 => h s2 ?_)
  rw [List.set_set] at I2
  exact I2
end

/-! ### except clauses -/
abbrev TH := Ends → Addr → Option Addr → St → Hp → Prop
def PH (X : Cx) (hs : List ExceptHandler) (t : TH) : Prop := ∀ (pins : List (Addr × Obj)) (s : Shared) (σ : St) (H : Hp) (D : Ends) (x C T : Addr) (od : Option Addr), Inv X pins σ H s → Loose X pins H s x C T od .none → t D C od σ H →
  wpAny (model X.prog X.w) X.A (handleBy (.ref x) X.env hs) (SP X pins D) X.xe s
def forget (i : Nat) (D : Ends) : Ends := { nx := fun σ H => D.nx (σ.set i none) H, rt := D.rt, bk := fun σ H => D.bk (σ.set i none) H, ct := fun σ H => D.ct (σ.set i none) H }
/-- except C' as n: .. -/
def tHand (K : PySem.W.Frag) (C' : Addr) (i : Nat) (ts : TS) (rest : TH) : TH := fun D C od σ H => ∃ b, PySem.W.exmOne K (.ref C) (.ref C') = some b ∧
  if b = true then ∀ x, H x = none → ts (forget i D) (σ.set i (some (.ref x))) (upd H x (.ext (XAt x C od))) else rest D C od σ H
/-- except C': .. -/
def tHand0 (K : PySem.W.Frag) (C' : Addr) (ts : TS) (rest : TH) : TH := fun D C od σ H => ∃ b, PySem.W.exmOne K (.ref C) (.ref C') = some b ∧
  if b = true then ts D σ H else rest D C od σ H
section
variable {X : Cx} {c n : Str} {C' : Addr} {i : Nat} {p pos : Pos} {b₀ : Stmt} {suite : List Stmt} {hs : List ExceptHandler} {ts : TS} {th : TH}
theorem ph_none : PH X [] (fun _ _ _ _ _ => False) := fun _ _ _ _ _ _ _ _ _ _ _ h => False.elim h
theorem ph_as (hN : X.N.Nodup) (hi : X.N[i]? = some n) (hk : X.env.scope.names.lookup n = some .local) (hex : X.ex = []) (hg : Gl X c) (hm : X.mg c = some (.ref C')) (hb : ∀ e, PSs (X.within e) (b₀ :: suite) ts) (hr : PH X hs th) (hdb : (c == ("__debug__" : Str)) = false := by decide) :
    PH X (.ExceptHandler (some (.Name c p)) (some n) (b₀ :: suite) pos :: hs) (tHand X.K C' i ts th) := by
  intro pins s σ H D x C T od I L ⟨b, eb, h⟩
  refine wpAny_handleBy_cons (codeAny_handlers_test (ld_glob (X := X.within (.ref x)) (I.within _) hg hm ?_ hdb)) (by unfold byPass; exact fun z => nomatch z)
  refine PySem.W.exm_one I.kIn L.at.type eb _ _ _ s (fun _ _ z => z) ?_
  cases b with
  | false =>
    rw [if_neg Bool.false_ne_true] at h
    exact hr pins s σ H D x C T od I L h
  | true =>
    rw [if_pos rfl] at h
    refine codeAny_handlers_suite_as (L.flight I hex fun s1 I1 L1 => ?_)
    have I2 := I1.track L1.at L1.f1 L1.h1 fun p hp => (L1.p p hp).1
    refine store_ok (v := .ref x) I2 hN hi (.inl hk) rfl (fun s2 I3 => ?_) (.inr hk)
    refine wpAny_mono (hb (.ref x) pins s2 _ _ (forget i D) (I3.within (.ref x)) (h x L.h1)) (fun f s3 q => ?_) fun _ _ z => False.elim z
    cases f with
    | next => obtain ⟨σ', H', J, q⟩ := q; exact behind_ok (J.without I.ok) hN hi hk fun s4 J4 => ⟨_, H', J4, q⟩
    | brk => obtain ⟨σ', H', J, q⟩ := q; exact behind_ok (J.without I.ok) hN hi hk fun s4 J4 => ⟨_, H', J4, q⟩
    | cont => obtain ⟨σ', H', J, q⟩ := q; exact behind_ok (J.without I.ok) hN hi hk fun s4 J4 => ⟨_, H', J4, q⟩
    | ret u => obtain ⟨v, σ', H', J, r, q⟩ := q; exact behind_ok (J.without I.ok) hN hi hk fun s4 J4 => ⟨v, _, H', J4, r, q⟩
theorem ph_bare (hex : X.ex = []) (hg : Gl X c) (hm : X.mg c = some (.ref C')) (hb : ∀ e, PSs (X.within e) (b₀ :: suite) ts) (hr : PH X hs th) (hdb : (c == ("__debug__" : Str)) = false := by decide) :
    PH X (.ExceptHandler (some (.Name c p)) none (b₀ :: suite) pos :: hs) (tHand0 X.K C' ts th) := by
  intro pins s σ H D x C T od I L ⟨b, eb, h⟩
  refine wpAny_handleBy_cons (codeAny_handlers_test (ld_glob (X := X.within (.ref x)) (I.within _) hg hm ?_ hdb)) (by unfold byPass; exact fun z => nomatch z)
  refine PySem.W.exm_one I.kIn L.at.type eb _ _ _ s (fun _ _ z => z) ?_
  cases b with
  | false =>
    rw [if_neg Bool.false_ne_true] at h
    exact hr pins s σ H D x C T od I L h
  | true =>
    rw [if_pos rfl] at h
    refine codeAny_handlers_suite (L.flight I hex fun s1 I1 L1 => ?_)
    refine wpAny_mono (hb (.ref x) pins s1 _ _ D (I1.within (.ref x)) h) (fun f s3 q => ?_) fun _ _ z => False.elim z
    cases f with
    | next => obtain ⟨σ', H', J, q⟩ := q; exact ⟨_, H', J.without I.ok, q⟩
    | brk => obtain ⟨σ', H', J, q⟩ := q; exact ⟨_, H', J.without I.ok, q⟩
    | cont => obtain ⟨σ', H', J, q⟩ := q; exact ⟨_, H', J.without I.ok, q⟩
    | ret u => obtain ⟨v, σ', H', J, r, q⟩ := q; exact ⟨v, _, H', J.without I.ok, r, q⟩
/-- try: .. except ..: .. -/
def tTry (tb : TSX) (th : TH) : TS := fun D σ H => tb D (fun σ' C od H' => ∃ c, C = .ref c ∧ th D c od σ' H') σ H
theorem ps_try {body : List Stmt} {h₀ : ExceptHandler} {tb : TSX} (hex : X.ex = []) (hst : X.stack = X.env :: X.outer) (hfr : X.env.frame = some X.env.locals) (hb : PSX X body tb) (hh : PH X (h₀ :: hs) th) : PS X (.Try body (h₀ :: hs) [] [] pos) (tTry tb th) := by
  intro pins s σ H D I h
  refine wpAny_Try_except (wpAny_mono (hb pins s σ H D _ I h) (fun f s1 q => ?_) fun e s1 q => ?_)
  · cases f with
    | next => exact wpAny_execs_nil q
    | brk => exact q
    | cont => exact q
    | ret u => exact q
  · obtain ⟨x, C, T, od, σ', H', ee, I', xo, f1, f2, h1, h2, hp, c, ec, q⟩ := q
    subst ee
    cases ec
    have L : Loose X pins H' s1 x C T od .none := ⟨xo, f1, f2, h1, h2, hp⟩
    exact L.note I' hex hst hfr fun s2 T' I2 L2 => L2.flight I2 hex fun s3 I3 L3 => hh pins s3 σ' H' D x C T' od I3 L3 q
end
end L2

set_option Elab.async false
set_option linter.all false
set_option maxRecDepth 100000
namespace L2
open PySem PySem.Spec PyProof.Rows

/-! ### reading from an exception of an own class -/
def quietB (es : Array DictEntry) : Bool := quietNames.all fun n => (nsFind es n).isNone
/-- C: an own exception class under Pk, which is a quiet one under ValueError -/
def xqIn (K : PySem.W.Frag) (C Pk : Addr) : Bool :=
  match K.lookup C, K.lookup Pk with
  | some ⟨.type "type", _, .cls cd, sl⟩, some ⟨_, _, .cls cp, _⟩ =>
    (match cd.mro with
    | [.ref C', .ref P', .type "ValueError", .type "Exception", .type "BaseException", .type "object"] => C' == C && P' == Pk
    | _ => false) &&
    (match sl.toList with
    | [_, _, _, _, some (.builtin id), _] => id == "ValueError.__new__"
    | _ => false) && !cd.hasDel && nsB K cp.ns quietB
  | _, _ => false
theorem quiet_of {es : Array DictEntry} (e : quietB es = true) : ∀ n ∈ quietNames, nsFind es n = none := fun n hn => by
  have := List.all_eq_true.mp e n hn
  simpa using this
theorem xq_ok {K : PySem.W.Frag} {h : Heap} {C Pk : Addr} (X : K.In h) (e : xqIn K C Pk = true) : ∃ nm q N bs hdct sn sub ab col dd k0 k1 k2 k3 k5,
    h.get? C = some (excClassObj nm q C N bs (.ref Pk :: bmV) hdct sn sub ab col dd k0 k1 k2 k3 k5 "ValueError.__new__") ∧ OwnTailQ h bmV (.ref Pk :: bmV) ∧ OwnTail h bmV (.ref Pk :: bmV) := by
  unfold xqIn at e
  split at e
  · rename_i dC cd sl dP1 dP2 cp slP q1 q2
    simp only [Bool.and_eq_true] at e
    obtain ⟨⟨⟨e1, e2⟩, e3⟩, e5⟩ := e
    split at e1
    · rename_i C' P' qm
      rw [Bool.and_eq_true] at e1
      obtain ⟨c1, c2⟩ := e1
      have c1 := eq_of_beq c1
      have c2 := eq_of_beq c2
      subst c1 c2
      split at e2
      · rename_i k0 k1 k2 k3 id k5 qs
        have c3 : id = "ValueError.__new__" := eq_of_beq e2
        subst c3
        obtain ⟨es', ns', ni'⟩ := nsB_ok X e5
        obtain ⟨nm, bs, mro, ns0, qn, hdct, sn, sub, ab, col, hdel⟩ := cd
        have qm : mro = _ := qm
        have e3' : hdel = false := by simpa using e3
        subst qm
        subst e3'
        have qs' : sl = #[k0, k1, k2, k3, some (.builtin "ValueError.__new__"), k5] := by
          have := congrArg List.toArray qs
          simpa using this
        subst qs'
        refine ⟨nm, qn, ns0, bs, hdct, sn, sub, ab, col, dC, k0, k1, k2, k3, k5, X _ _ q1, ?_, ?_⟩
        · exact .own (X _ _ q2) ns' (quiet_of ni') .base
        · exact .own (X _ _ q2) ns' (quiet_of ni' _ (by simp [quietNames])) .base
      · cases e2
    · cases e1
  · cases e
structure XIn (K : PySem.W.Frag) (C Pk : Addr) : Prop where
  cls : xqIn K C Pk = true
  ga : PySem.W.findIn K (.ref C) "__getattribute__" = some (some (.builtin "BaseException.__getattribute__"))
  gt : PySem.W.findIn K (.ref C) "__getattr__" = some none
  ca : PySem.W.findIn K (.ref C) "__class__" = some (some (.builtin "object.__class__"))
  hn : PySem.W.specialIn K (.builtin "object.__class__") "__get__" = some (some (.builtin "getset_descriptor.__get__"))
  tk : PySem.W.takesIn K (.builtin "object.__class__") = some true
  mo : PySem.W.mroIn K C (.type "object") = some true
  kc : PySem.W.kitCls K (.ref C) (.ref C) = some true
theorem attrBase : ExcAttrBase "ValueError" bmV := ⟨F.excAttr_ValueError, F.excBase_ValueError.mroIs, by rfl, by rfl⟩

section
variable {prog : Program} {w : World} {A : Around} {E : Value → Shared → Prop} {s : Shared} {K : PySem.W.Frag} {x C Pk : Addr} {ox : Obj} {od : Option Obj} {name : Str} {tk : Tok} {fill expr : Bool} {r : Builtin.ObjectAttr.Found} {Q : Value → Shared → Prop}
theorem exc_by (KX : K.In s.heap) (J : PySem.W.InstAt s.heap x ox C od) (hx : XIn K C Pk) (hf : PySem.W.findObj K C od name = some r) (hm : r ≠ .missing)
    (h : ∀ A' : Around, wpAny (model prog w) A' (match r with
      | .value v => ret v
      | .bind g a => Builtin.ObjectAttr.bindTo g a (.ref x) (.ref C)
      | .missing => unsupported "") (fun fin s' => match fin with
        | .done (.ret v) => wpAny (model prog w) A (handedOut v) Q E s'
        | _ => False) (fun _ _ => False) s) :
    wpAny (model prog w) A (getAttrBy (.ref x) (.str name tk) fill expr) Q E s := by
  unfold getAttrBy
  refine wpAny_holding (wpAny_bind (J.type _ _ _ s (fun _ _ z => z) (wpAny_bind (PySem.W.looks_findIn KX hx.ga _ _ _ s (fun _ _ z => z) ?_))))
  dsimp only
  rw [if_neg (by show ¬ (true && (Value.builtin "BaseException.__getattribute__" == Value.builtin "object.__getattribute__")) = true; decide +kernel)]
  unfold getAttrByItsOwn
  refine wpAny_bind (PySem.W.looks_hook KX (r := none) (by exact hx.gt) _ _ _ s (fun _ _ z => z) (wpAny_bind (wpAny_attempt (wpAny_holding ?_))))
  unfold callGetattribute
  rw [if_neg (by cases expr <;> decide)]
  unfold boundAndCalled
  rw [F.excAttr_ValueError.ga.bind]
  refine wpAny_bind (wpAny_pure (wpAny_call (codeAny_call_builtin F.excAttr_ValueError.ga.plain F.entry_bexc_ga ?_)))
  obtain ⟨nm, q, N, bs, hdct, sn, sub, ab, col, dd, k0, k1, k2, k3, k5, f1, f2, f3⟩ := xq_ok KX hx.cls
  refine wpAny_check_ga_own attrBase f1 f2 J.at_ J.cls ?_
  unfold Builtin.«object.__getattribute__»
  have sa : slotArgs "__getattribute__" 1 { pos := [Value.ref x, Value.str name tk] } = pure (Value.ref x, [Value.str name tk]) := rfl
  refine wpAny_bind ?_
  show wpAny _ _ (slotArgs "__getattribute__" 1 { pos := [Value.ref x, Value.str name tk] }) _ _ _
  rw [sa]
  refine wpAny_pure ?_
  dsimp only
  refine wpAny_bind (wpAny_pure (wpAny_bind (J.type _ _ _ s (fun _ _ z => z) (wpAny_bind (PySem.W.looks_find KX J hf _ _ _ s (fun _ _ z => z) ?_)))))
  have h1 := h A.in1
  cases r with
  | value v => 
    refine wpAny_mono h1 (fun fin s' q => ?_) fun _ _ z => False.elim z
    cases fin with
    | done f => cases f with
      | ret v => exact q
      | next => exact False.elim q
      | brk => exact False.elim q
      | cont => exact False.elim q
    | again c => exact False.elim q
  | bind g a =>
    refine wpAny_mono h1 (fun fin s' q => ?_) fun _ _ z => False.elim z
    cases fin with
    | done f => cases f with
      | ret v => exact q
      | next => exact False.elim q
      | brk => exact False.elim q
      | cont => exact False.elim q
    | again c => exact False.elim q
  | missing => exact absurd rfl hm
/-- a value of its own dict -/
theorem exc_value {v : Value} (KX : K.In s.heap) (J : PySem.W.InstAt s.heap x ox C od) (hx : XIn K C Pk) (hf : PySem.W.findObj K C od name = some (.value v)) (hv : PySem.W.handedIn v = true) (h : Q v { s with toks := s.toks + 1 }) :
    wpAny (model prog w) A (getAttr (.ref x) name expr) Q E s := by
  unfold getAttr
  refine wpAny_bind (wpAny_mkText ?_)
  refine exc_by (s := { s with toks := s.toks + 1 }) KX J hx hf (by simp) fun A' => ?_
  refine wpAny_pure ?_
  show wpAny _ _ (handedOut v) _ _ _
  rw [PySem.W.handedOut_of hv]
  exact wpAny_pure h
theorem find_class (hx : XIn K C Pk) : PySem.W.findObj K C od "__class__" = some (.bind (.builtin "getset_descriptor.__get__") (.builtin "object.__class__")) := by
  unfold PySem.W.findObj
  have : ∃ cd, PySem.W.clsIn K C = some cd := by
    have m := hx.mo
    unfold PySem.W.mroIn at m
    cases q : PySem.W.clsIn K C with
    | none => rw [q] at m; cases m
    | some cd => exact ⟨cd, rfl⟩
  obtain ⟨cd, e⟩ := this
  simp only [e, hx.ca, hx.hn, hx.tk, Option.bind_some]
theorem exc_class {Q : Option Value → Shared → Prop} (KX : K.In s.heap) (J : PySem.W.InstAt s.heap x ox C od) (hx : XIn K C Pk) (h : Q (some (.ref C)) { s with toks := s.toks + 1 }) :
    wpAny (model prog w) A (getAttr? (.ref x) "__class__") Q E s := by
  unfold getAttr?
  refine wpAny_bind (wpAny_mkText ?_)
  unfold getAttrBy?
  refine wpAny_bind (wpAny_attempt ?_)
  refine exc_by (s := { s with toks := s.toks + 1 }) KX J hx (find_class hx) (by simp) fun A' => ?_
  dsimp only
  unfold Builtin.ObjectAttr.bindTo
  dsimp only
  refine wpAny_bind (wpAny_holding (wpAny_call ?_))
  refine PySem.W.class_get (s := { s with toks := s.toks + 1 }) KX J hx.mo ?_
  refine wpAny_pure ?_
  show wpAny _ _ (handedOut (.ref C)) _ _ _
  rw [PySem.W.handedOut_of rfl]
  exact wpAny_pure (wpAny_pure h)
/-- isinstance's needs -/
def XAtD (x C : Addr) (o : Option Addr) (h : Heap) : Prop := XAt x C o h ∧ ∀ dx, o = some dx → ∃ ob, h.get? dx = some ob
theorem XAtD.inst {o : Option Addr} {h : Heap} (a : XAtD x C o h) : ∃ ox od, PySem.W.InstAt h x ox C od := by
  obtain ⟨⟨oe, vs, e1, e2, e3, e4, _⟩, d⟩ := a
  have nc : PySem.W.notCls oe = true := by unfold PySem.W.notCls; rw [e4]
  cases o with
  | none => exact ⟨oe, none, e1, e2, nc, by rw [e3]; trivial⟩
  | some dx =>
    obtain ⟨ob, e⟩ := d dx rfl
    exact ⟨oe, some ob, e1, e2, nc, by rw [e3]; exact e⟩
theorem exc_kit {o : Option Addr} (hx : XIn K C Pk) : PySem.W.KitX K (.ref x) (.ref C) (XAtD x C o) where
  ty := fun M h _ a => a.1.type
  it := fun M h KX _ => (PySem.W.kit_cls KX hx.kc).2.1
  ne := fun h tp dd its n sl KX e => by
    obtain ⟨nm, q, N, bs, hdct, sn, sub, ab, col, dd, k0, k1, k2, k3, k5, f1, _⟩ := xq_ok KX hx.cls
    refine beq_eq_false_iff_ne.mpr fun z => ?_
    cases z
    rw [f1] at e
    injection e with e
    injection e with e
    exact absurd e (by decide +kernel)
  ca := fun {prog w A E Q s} KX a q => by
    obtain ⟨ox, od, J⟩ := a.inst
    exact exc_class KX J hx q
end
section
variable {X : Cx}
/-- an exception that was caught, and what is known of its dict -/
def IsX (H : Hp) (x C : Addr) (od : Option Addr) : Prop := H x = some (.ext (XAt x C od)) ∧ ∀ dx, od = some dx → ∃ o, H dx = some o
theorem IsX.at {P : Program} {w : World} {H : Hp} {h : Heap} {x C : Addr} {od : Option Addr} (a : IsX H x C od) (ok : HOk P w H h) : XAtD x C od h := by
  refine ⟨(ok x _ a.1).1, fun dx e => ?_⟩
  obtain ⟨fs, q⟩ := a.2 dx e
  exact (ok dx _ q).there
/-- isinstance of an exception: one class, own or built-in; several own ones -/
theorem call_isx {Pk : Addr} : CallR X (.builtin "isinstance") (fun xs H Q => ∃ x C od c u b, xs = [.ref x, c] ∧ IsX H x C od ∧ XIn X.K C Pk ∧ RelV c u ∧ (∀ u', RelV c u' → u' = u) ∧ PySem.W.kitOne X.K (.ref C) u = some b ∧ Q (.bl b) H) := by
  intro pins s σ H xs us Q I r h
  obtain ⟨x, C, od, c, u, b, rfl, ix, hx, ru, un, e, q⟩ := h
  obtain ⟨u1, w', rfl, r1, r2⟩ := vals2 r
  cases (show u1 = Value.ref x from r1)
  cases un _ r2
  exact PySem.W.kia_one (exc_kit hx) I.kIn (ix.at I.hok) e (fun z => nomatch z) fun tk => ⟨.bl b, H, I.tok tk, rfl, q⟩
theorem refs_inj : ∀ {cs : List Addr} {its : List Value}, Vals (cs.map V.ref) its → its = cs.map Value.ref
  | [], _, .nil => rfl
  | c :: _, _, .cons p q => by rw [refs_inj q]; cases (show _ = Value.ref c from p); rfl
/-- .. a tuple of classes -/
theorem call_isxT {Pk : Addr} : CallR X (.builtin "isinstance") (fun xs H Q => ∃ (x C : Addr) (od : Option Addr) (tp : Addr) (cs : List Addr) (b : Bool), xs = [.ref x, .ref tp] ∧ IsX H x C od ∧ XIn X.K C Pk ∧ H tp = some (.tup (cs.map V.ref)) ∧ PySem.W.kitAny X.K (.ref C) (cs.map Value.ref) = some b ∧ Q (.bl b) H) := by
  intro pins s σ H xs us Q I r h
  obtain ⟨x, C, od, tp, cs, b, rfl, ix, hx, et, e, q⟩ := h
  obtain ⟨u1, w', rfl, r1, r2⟩ := vals2 r
  cases (show u1 = Value.ref x from r1)
  cases (show w' = Value.ref tp from r2)
  obtain ⟨_, its, ri, o, h1, h2, n, h3⟩ := (show ObjOk X.prog X.w H s.heap tp (.tup (cs.map V.ref)) from I.hok tp _ et)
  have ei : its = cs.map Value.ref := refs_inj ri
  subst ei
  obtain ⟨oc, od', dt, sl⟩ := o
  cases (show oc = Value.type "tuple" from h2)
  cases (show dt = _ from h3)
  exact PySem.W.kia_tup (exc_kit hx) I.kIn (ix.at I.hok) h1 e (fun z => nomatch z) fun tk => ⟨.bl b, H, I.tok tk, rfl, q⟩
end
end L2

set_option Elab.async false
set_option linter.all false
set_option maxRecDepth 100000
namespace L2
open PySem PySem.Spec PyProof.Rows

/-! ### f"..": texts and whole numbers -/
theorem int_len {i : Int} (h : i.natAbs.log2 < 1920) : (Str.ofString (toString i)).length ≤ 1921 := by
  rw [PyProof.Rows.ofString_length]
  have b : i.natAbs < 2 ^ 1920 := by
    by_cases z : i.natAbs = 0
    · rw [z]; exact Nat.two_pow_pos _
    · exact (Nat.log2_lt z).mp h
  cases i with
  | ofNat n =>
    have := PySem.nat_repr_length_le (n := n) (k := 1920) (by decide) b
    show (n.repr).toList.length ≤ _
    rw [String.length_toList]
    omega
  | negSucc n =>
    have := PySem.nat_repr_length_le (n := n + 1) (k := 1920) (by decide) b
    show ("-" ++ (n + 1).repr).toList.length ≤ _
    rw [String.length_toList, String.length_append]
    have : ("-" : String).length = 1 := rfl
    omega
abbrev TJ := St → Hp → (Hp → Prop) → Prop
/-- the parts of an f-string, of at most n signs -/
def PJ (X : Cx) (es : List Expr) (n : Nat) (t : TJ) : Prop := ∀ (pins : List (Addr × Obj)) (s : Shared) (σ : St) (H : Hp) (out : Str) (m : Nat) (Q : Hp → Prop), Inv X pins σ H s → out.length + n ≤ m → m ≤ sizeLine → t σ H Q →
  Joins (model X.prog X.w) X.A X.xe (evalEach es X.env) out (fun o s' => o.length ≤ m ∧ ∃ H', Inv X pins σ H' s' ∧ Q H') s
section
variable {X : Cx} {e v₁ v₂ : Expr} {es : List Expr} {n : Nat} {te : TE} {t : TJ} {pos : Pos}
theorem pj_nil : PJ X [] 0 (fun _ H Q => Q H) := fun pins s σ H out m Q I hl _ h => ⟨hl, H, I, h⟩
theorem pj_str {x : Str} {k : Nat} (hr : PJ X es n t) : PJ X (.Constant (.str x) k pos :: es) (x.length + n) t := by
  intro pins s σ H out m Q I hl hm h
  show wpAny _ _ (eval (.Constant (.str x) k pos) X.env) _ _ s
  refine wpAny_Constant_str ⟨x, _, rfl, by rw [Str.length_append]; omega, ?_⟩
  exact hr pins _ σ H (out ++ x) m Q (I.tok (s.toks + 1)) (by rw [Str.length_append]; omega) hm h
theorem pj_int (he : PE X e te) (hr : PJ X es n t) : PJ X (.FormattedValue e (-1) none pos :: es) (1921 + n) (fun σ H Q => te σ H fun v H1 => ∃ i, v = .int i ∧ i.natAbs.log2 < 1920 ∧ t σ H1 Q) := by
  intro pins s σ H out m Q I hl hm h
  show wpAny _ _ (eval (.FormattedValue e (-1) none pos) X.env) _ _ s
  refine wpAny_FormattedValue_plain (thn (he pins s σ H _ I h) fun u s1 ⟨v, H1, I1, r, i, ei, hi, q⟩ => ?_)
  subst ei
  obtain ⟨tk, rfl⟩ := r
  have b := int_len hi
  refine wpAny_formatField_int hi ⟨_, _, rfl, by rw [Str.length_append]; omega, ?_⟩
  exact hr pins _ σ H1 (out ++ Str.ofString (toString i)) m Q (I1.tok _) (by rw [Str.length_append]; omega) hm q
theorem joins_mono {M : Model} {A : Around} {E : Value → Shared → Prop} : ∀ {l : List (Sem Value)} {acc : Str} {Q Q' : Str → Shared → Prop} {s : Shared}, Joins M A E l acc Q s → (∀ o s, Q o s → Q' o s) → Joins M A E l acc Q' s
  | [], _, _, _, _, j, h => h _ _ j
  | x :: l, acc, Q, Q', s, j, h => by
    have j : wpAny M A x (fun v s₁ => ∃ y t, v = Value.str y t ∧ (acc ++ y).length ≤ sizeLine ∧ Joins M A E l (acc ++ y) Q s₁) E s := j
    show wpAny M A x (fun v s₁ => ∃ y t, v = Value.str y t ∧ (acc ++ y).length ≤ sizeLine ∧ Joins M A E l (acc ++ y) Q' s₁) E s
    exact thn j fun v s1 ⟨y, t, e, z, q⟩ => ⟨y, t, e, z, joins_mono q h⟩
theorem pe_fstr (h : PJ X (v₁ :: v₂ :: es) n t) (hn : n ≤ sizeLine) : PE X (.JoinedStr (v₁ :: v₂ :: es) pos) (fun σ H Q => t σ H fun H1 => ∀ y, Q (.str y) H1) := by
  intro pins s σ H Q I hq
  refine wpAny_JoinedStr ?_
  have j := h pins s σ H Str.empty sizeLine _ I (by show 0 + n ≤ _; omega) (Nat.le_refl _) hq
  refine joins_mono j fun o s1 ⟨z, H1, I1, q⟩ => ⟨z, .str o, H1, I1.tok _, ⟨_, rfl⟩, q o⟩
end
end L2

set_option Elab.async false
set_option linter.all false
set_option maxRecDepth 100000
namespace L2
open PySem PySem.Spec PyProof.Rows

/-! ### an exception of an own class with an __init__ -/
section
variable {prog : Program} {w : World} {A : Around} {E : Value → Shared → Prop} {s : Shared} {K : PySem.W.Frag} {C Pk f : Addr} {rest : List Value}
theorem type_call_xinit {Q : Fin → Shared → Prop} (KX : K.In s.heap) (hx : XIn K C Pk) (hi : PySem.W.findIn K (.ref C) "__init__" = some (some (.ref f))) (hf : PySem.W.typeIn K (.ref f) = some (.type "function")) (hrest : rest.length ≤ sizeLine)
    (hq : ∀ (h' : Heap) (e : Addr), s.heap.MadeExcOf h' e (.ref C) rest → wpAny (model prog w) A (call (.ref f) (.ref e :: rest)) (fun r s' => r = .none ∧ Q (.done (.ret (.ref e))) s') E { s with heap := h' }) :
    wpAny (model prog w) A (Builtin.«type.__call__» { pos := .ref C :: rest }) Q E s := by
  obtain ⟨h, g, d, t, os⟩ := s
  obtain ⟨nm, q, N, bs, hdct, sn, sub, ab, col, dd, k0, k1, k2, k3, k5, hC, T1, T2⟩ := xq_ok KX hx.cls
  have V := F.excBase_ValueError
  unfold Builtin.«type.__call__»
  dsimp only
  refine wpAny_ite_false rfl ?_
  refine wpAny_bind ?_
  unfold mroOf
  dsimp only
  unfold classData
  refine wpAny_bind (wpAny_bind (wpAny_load' hC ?_))
  dsimp only
  refine wpAny_pure (wpAny_pure ?_)
  refine wpAny_ite_false rfl ?_
  refine wpAny_bind (wpAny_madeBy_exc hC (wpAny_bind (wpAny_pure ?_)))
  refine wpAny_bind (wpAny_holding (wpAny_call (codeAny_call_builtin_code (Code.quiet_builtin { pos := Value.ref C :: rest } V.quiet) (wpAny_check_new_subU V (by decide +kernel) T2 hC (codeAny_exc_new_subU V (by decide +kernel) V T2 hC ?_ hrest)))))
  have k2 : ∀ b o, h.get? b = some o → ((h.push { cls := Value.type "tuple", data := Data.seq rest.toArray }).push { cls := Value.ref C, data := Data.fields #[Value.ref h.objs.size, Value.none, Value.none, Value.none, Value.bool false, Value.none] }).get? b = some o := fun b o e => Heap.get?_push_of_some _ (Heap.get?_push_of_some _ e)
  have hget : ((h.push { cls := Value.type "tuple", data := Data.seq rest.toArray }).push { cls := Value.ref C, data := Data.fields #[Value.ref h.objs.size, Value.none, Value.none, Value.none, Value.bool false, Value.none] }).get? (h.objs.size + 1) = some { cls := Value.ref C, data := Data.fields #[Value.ref h.objs.size, Value.none, Value.none, Value.none, Value.bool false, Value.none] } :=
    Heap.get?_push_at (by rw [Heap.size_push]) rfl
  have hgt : ((h.push { cls := Value.type "tuple", data := Data.seq rest.toArray }).push { cls := Value.ref C, data := Data.fields #[Value.ref h.objs.size, Value.none, Value.none, Value.none, Value.bool false, Value.none] }).get? h.objs.size = some { cls := Value.type "tuple", data := Data.seq rest.toArray } :=
    Heap.get?_push_of_some _ (Heap.get?_push_size _ rfl)
  have mk : h.MadeExcOf ((h.push { cls := Value.type "tuple", data := Data.seq rest.toArray }).push { cls := Value.ref C, data := Data.fields #[Value.ref h.objs.size, Value.none, Value.none, Value.none, Value.bool false, Value.none] }) (h.objs.size + 1) (.ref C) rest :=
    ⟨k2, Heap.get?_none_of_le (Nat.le_succ _), h.objs.size, hget, Heap.get?_none_of_le (Nat.le_refl _), hgt⟩
  have go := hq _ _ mk
  generalize ((h.push { cls := Value.type "tuple", data := Data.seq rest.toArray }).push { cls := Value.ref C, data := Data.fields #[Value.ref h.objs.size, Value.none, Value.none, Value.none, Value.bool false, Value.none] }) = h2 at k2 hget hgt mk go
  have KX2 : K.In h2 := fun b o e => k2 b o (KX b o e)
  have J : PySem.W.InstAt h2 (h.objs.size + 1) _ C none := ⟨hget, rfl, rfl, trivial⟩
  dsimp only
  unfold isInstance
  refine wpAny_bind (wpAny_bind (J.type _ _ _ _ (fun _ _ z => z) ?_))
  refine (PySem.W.kit_cls KX2 hx.kc).2.2 _ _ _ _ (fun _ _ z => z) ?_
  refine wpAny_ite_false rfl ?_
  refine wpAny_bind (wpAny_holding (PySem.W.special_fn (s := ⟨h2, g, d, t, os⟩) KX2 J hi hf ?_))
  refine wpAny_mono go (fun r s' z => ?_) fun _ _ z => z
  obtain ⟨rfl, z⟩ := z
  exact wpAny_ite_false rfl (wpAny_pure z)
theorem call_xinit {Q : Value → Shared → Prop} (KX : K.In s.heap) (hx : XIn K C Pk) (hi : PySem.W.findIn K (.ref C) "__init__" = some (some (.ref f))) (hf : PySem.W.typeIn K (.ref f) = some (.type "function")) (hrest : rest.length ≤ sizeLine)
    (hq : ∀ (h' : Heap) (e : Addr), s.heap.MadeExcOf h' e (.ref C) rest → wpAny (model prog w) (A.under (.builtin "type.__call__" { pos := .ref C :: rest })) (call (.ref f) (.ref e :: rest)) (fun r s' => r = .none ∧ Q (.ref e) s') E { s with heap := h' }) :
    wpAny (model prog w) A (call (.ref C) rest) Q E s := by
  obtain ⟨h, g, d, t, os⟩ := s
  obtain ⟨nm, q, N, bs, hdct, sn, sub, ab, col, dd, k0, k1, k2, k3, k5, hC, T1, T2⟩ := xq_ok KX hx.cls
  have f1 := tc_lookup
  have f2 := tc_bind (Value.ref C)
  have hT : (⟨h, g, d, t, os⟩ : Shared).TypeIs (.ref C) "type" := ⟨_, hC, rfl⟩
  exact wpAny_call (codeAny_of_tree (id (id (wpAny_bind (wpAny_load' hC (id (id (wpAny_bind (wpAny_specialOf hT f1 (wpAny_bind (wpAny_of_eq f2 (wpAny_bind (id (wpAny_pure (wpAny_ite_true (Eq.refl (decide (("type.__call__" == "type.__call__") = true)))
    (id (wpAny_pure ⟨rfl, codeAny_call_builtin_at (Code.quiet_builtin { pos := [Value.ref C] ++ { pos := rest : Args }.pos } (by decide +kernel)) entry_typeCall (wpAny_check_type_call_sub hC (type_call_xinit (s := ⟨h, g, d, t, os⟩) KX hx hi hf hrest hq))⟩)))))))))))))))))
end
end L2

set_option Elab.async false
set_option linter.all false
set_option maxRecDepth 100000
namespace L2
open PySem PySem.Spec PyProof.Rows

/-! ### attributes of an exception -/
theorem refuse_exc (self : Value) (C Pk : Addr) : refuseLoop self (Str.ofString "__setattr__") [.ref C, .ref Pk, .type "ValueError", .type "Exception", .type "BaseException", .type "object"] = pure () := by rfl
structure XSet (K : PySem.W.Frag) (C : Addr) : Prop where
  sa : PySem.W.findIn K (.ref C) "__setattr__" = some (some (.builtin "object.__setattr__"))
  hd : PySem.W.hasDictIn K C = true
section
variable {prog : Program} {w : World} {A : Around} {E : Value → Shared → Prop} {s : Shared} {K : PySem.W.Frag} {x C Pk : Addr} {ox : Obj} {od : Option Obj} {name : Str} {v : Value} {Q : Unit → Shared → Prop}
theorem setx_open (KX : K.In s.heap) (J : PySem.W.InstAt s.heap x ox C od) (hx : XIn K C Pk) (hs : XSet K C) (na : PySem.W.findIn K (.ref C) name = some none)
    (h : ∀ A' : Around, wpAny (model prog w) A' (Builtin.ObjectAttr.storeInOwnDict (.ref x) (.ref C) (.str name s.toks) name v false) (fun fin s' => match fin with
      | .done (.ret _) => Q () s'
      | _ => False) (fun _ _ => False) { s with toks := s.toks + 1 }) : wpAny (model prog w) A (setAttr (.ref x) name v) Q E s := by
  have SF := F.store_object
  obtain ⟨hh, g, d, t, os⟩ := s
  obtain ⟨nm, q, N, bs, hdct, sn, sub, ab, col, dd, k0, k1, k2, k3, k5, hC, T1, T2⟩ := xq_ok KX hx.cls
  have su : PySem.W.Looks (model prog w) hh (isInstance (Value.ref x) (Value.type "object")) true := PySem.W.Looks.andThen J.type (PySem.W.looks_mroIn KX hx.mo)
  refine PySem.W.set_plain KX J hs.sa ?_
  refine codeAny_call_builtin SF.slot.plain SF.entry ?_
  have ar := @PySem.StoreFacts.args _ _ _ _ SF
  have sp := @PySem.StoreFacts.split _ _ _ _ SF
  refine @PySem.W.check_slot _ _ _ _ "object.__setattr__" "object" _ (Value.ref x) [Value.str name t, v] [] _ SF.kind sp su (@ar (Value.ref x) (Value.str name t) v) ?_
  rw [PySem.W.osa_eq]
  refine wpAny_bind ?_
  show wpAny _ _ (do
    let tp ← typeOf (Value.ref x)
    let l ← mroOf tp
    refuseLoop (Value.ref x) (Str.ofString "__setattr__") l) _ _ _
  refine wpAny_bind (J.type _ _ _ _ (fun _ _ z => z) (wpAny_bind ?_))
  unfold mroOf
  dsimp only
  unfold classData
  refine wpAny_bind (wpAny_bind (wpAny_load' hC ?_))
  dsimp only
  refine wpAny_pure (wpAny_pure ?_)
  rw [refuse_exc]
  refine wpAny_pure (wpAny_bind (J.type _ _ _ _ (fun _ _ z => z) (wpAny_bind (PySem.W.looks_findIn KX na _ _ _ _ (fun _ _ z => z) ?_))))
  refine wpAny_bind (wpAny_pure ?_)
  refine wpAny_mono (h _) (fun fin s' z => ?_) fun _ _ z => False.elim z
  cases fin with
  | again c => exact False.elim z
  | done fl => cases fl with
    | ret u => exact z
    | next => exact False.elim z
    | brk => exact False.elim z
    | cont => exact False.elim z
theorem storex_some {dx : Addr} {mA : Str → Option Value} {ns : List Str} {A' : Around} {tk : Tok} {Q : Fin → Shared → Prop} {E : Value → Shared → Prop} (KX : K.In s.heap) (hs : XSet K C) (h1 : s.heap.get? x = some ox) (h2 : ox.cls = .ref C) (h3 : ox.dict = some dx) (n : s.heap.Ns1 dx mA) (hw : PySem.Within mA ns) (hsz : ns.length ≤ sizeLine)
    (h : ∀ h', (h'.Ns1 dx fun y => if y = name then some v else mA y) → Heap.SameBut dx s.heap h' → Q (.done (.ret .none)) { s with heap := h', toks := s.toks + 1 }) :
    wpAny (model prog w) A' (Builtin.ObjectAttr.storeInOwnDict (.ref x) (.ref C) (.str name tk) name v false) Q E s := by
  obtain ⟨cd, hc, hd'⟩ := PySem.W.any_some hs.hd
  refine wpAny_bind (wpAny_pure (wpAny_bind (wpAny_bind (wpAny_loadPart h1 ?_))))
  rw [h2]
  refine wpAny_bind (PySem.W.Looks.here (PySem.W.looks_clsIn KX hc) ?_)
  rw [hd', h3]
  refine wpAny_pure (a := some dx) (wpAny_bind (wpAny_pure (wpAny_bind ?_)))
  refine wpAny_nsSet1 n fun h' hn2 hs2 => ?_
  obtain ⟨oD, esD, epD, hoD, hdD, hcD⟩ := hn2.count (PySem.Within.cons name v hw)
  refine wpAny_bind (wpAny_lookBehind hoD (by rw [hdD]; exact pastItsLine_dict (Nat.le_trans hcD (by rw [List.length_cons]; omega))) ?_)
  exact wpAny_pure (h _ hn2 hs2)
theorem storex_none {A' : Around} {tk : Tok} {vs : Array Value} {Q : Fin → Shared → Prop} {E : Value → Shared → Prop} (KX : K.In s.heap) (hs : XSet K C) (h1 : s.heap.get? x = some ox) (h2 : ox.cls = .ref C) (h3 : ox.dict = none) (h4 : ox.data = .fields vs)
    (h : ∀ h', h'.get? x = some { ox with dict := some s.heap.objs.size } → (h'.Ns1 s.heap.objs.size fun y => if y = name then some v else none) → (∀ b o, b ≠ x → s.heap.get? b = some o → h'.get? b = some o) → Q (.done (.ret .none)) { s with heap := h', toks := s.toks + 1 }) :
    wpAny (model prog w) A' (Builtin.ObjectAttr.storeInOwnDict (.ref x) (.ref C) (.str name tk) name v false) Q E s := by
  obtain ⟨cd, hc, hd'⟩ := PySem.W.any_some hs.hd
  have xs : x ≠ s.heap.objs.size := ne_size h1
  refine wpAny_bind (wpAny_pure (wpAny_bind (wpAny_bind (wpAny_loadPart h1 ?_))))
  rw [h2]
  refine wpAny_bind (PySem.W.Looks.here (PySem.W.looks_clsIn KX hc) ?_)
  rw [hd', h3]
  dsimp only
  rw [h4]
  refine wpAny_ite_false rfl (wpAny_ite_false rfl ?_)
  refine wpAny_bind (wpAny_alloc (wpAny_bind (wpAny_update (Heap.get?_push_of_some _ h1) ?_)))
  refine wpAny_pure (a := some s.heap.objs.size) (wpAny_bind (wpAny_pure (wpAny_bind ?_)))
  have live : ({ cls := ox.cls, dict := some s.heap.objs.size, data := ox.data, slots := ox.slots } : Obj).isFreed = false := fields_live (vs := vs) h4
  have e1 : ((s.heap.push { cls := Value.type "dict", data := Data.dict #[] }).update x fun o => { cls := o.cls, dict := some s.heap.objs.size, data := o.data, slots := o.slots }).get? x = some { ox with dict := some s.heap.objs.size } :=
    Heap.get?_update_self _ (Heap.get?_push_of_some _ h1) live
  have e2 : ((s.heap.push { cls := Value.type "dict", data := Data.dict #[] }).update x fun o => { cls := o.cls, dict := some s.heap.objs.size, data := o.data, slots := o.slots }).get? s.heap.objs.size = some { cls := Value.type "dict", data := Data.dict #[] } := by
    rw [Heap.get?_update_ne _ _ _ _ (Ne.symm xs)]
    exact Heap.get?_push_size _ rfl
  have kp : ∀ b o, b ≠ x → s.heap.get? b = some o → ((s.heap.push { cls := Value.type "dict", data := Data.dict #[] }).update x fun o => { cls := o.cls, dict := some s.heap.objs.size, data := o.data, slots := o.slots }).get? b = some o := fun b o hb e => by
    rw [Heap.get?_update_ne _ _ _ _ hb]
    exact Heap.get?_push_of_some _ e
  have e3 : ((s.heap.push { cls := Value.type "dict", data := Data.dict #[] }).update x fun o => { cls := o.cls, dict := some s.heap.objs.size, data := o.data, slots := o.slots }).Ns s.heap.objs.size (fun _ => none) := ⟨_, #[], _, e2, rfl, (fun e he => absurd he (by simp)), fun _ => rfl⟩
  refine wpAny_nsSet1 (Heap.Ns1.of_empty e3) fun h' hn2 hs2 => ?_
  have wi : PySem.Within (fun _ => (none : Option Value)) [] := fun y hy => absurd rfl hy
  obtain ⟨oD, esD, epD, hoD, hdD, hcD⟩ := hn2.count (PySem.Within.cons name v wi)
  refine wpAny_bind (wpAny_lookBehind hoD (by rw [hdD]; exact pastItsLine_dict (Nat.le_trans hcD (by show 1 ≤ sizeLine + 1; decide))) ?_)
  exact wpAny_pure (h _ ((hs2.2 x xs).trans e1) hn2 fun b o hb e => (hs2.2 b (ne_size e)).trans (kp b o hb e))
end
end L2

set_option Elab.async false
set_option linter.all false
set_option maxRecDepth 100000
namespace L2
open PySem PySem.Spec PyProof.Rows

/-! ### the dict of an exception, as it is tracked -/
def XDict (dx : Addr) (fs : List (Str × V)) (h : Heap) : Prop := ∃ mA, h.Ns1 dx mA ∧ (∀ f, RelO (fs.lookup f) (mA f)) ∧ PySem.Within mA (fs.map (·.1))
theorem XDict.stay {dx : Addr} {fs : List (Str × V)} {h1 h2 : Heap} (x : XDict dx fs h1) (k : ∀ o, h1.get? dx = some o → h2.get? dx = some o) : XDict dx fs h2 := by
  obtain ⟨mA, ⟨o, es, ep, e, r⟩, q⟩ := x
  exact ⟨mA, ⟨o, es, ep, k o e, r⟩, q⟩
theorem XDict.ok {P : Program} {w : World} {H : Hp} {h : Heap} {dx : Addr} {fs : List (Str × V)} (x : XDict dx fs h) : ObjOk P w H h dx (.ext (XDict dx fs)) := by
  refine ⟨x, ?_, fun h1 h2 y k => y.stay k⟩
  obtain ⟨mA, ⟨o, es, ep, e, r⟩, q⟩ := x
  exact ⟨o, e⟩
theorem XAtF.ok {fl : Bool} {P : Program} {w : World} {H : Hp} {h : Heap} {x C : Addr} {od : Option Addr} (a : XAtF fl x C od h) : ObjOk P w H h x (.ext (XAtF fl x C od)) := by
  obtain ⟨oe, vs, e1, e2, e3, e4⟩ := id a
  exact ⟨a, ⟨oe, e1⟩, fun h1 h2 ⟨o, v, p1, p2⟩ k => ⟨o, v, k o p1, p2⟩⟩
section
variable {fl : Bool} {X : Cx} {pins : List (Addr × Obj)} {σ : St} {H : Hp} {s : Shared} {x C Pk : Addr} {f : Str} {A : Around} {E : Value → Shared → Prop}
/-- the first attribute: the dict is made -/
theorem setx_first {y : V} {u : Value} {Q : Unit → Shared → Prop} (I : Inv X pins σ H s) (e : H x = some (.ext (XAtF fl x C none))) (hx : XIn X.K C Pk) (hs : XSet X.K C) (n : NoAttr X.K C f) (ry : RelV y u)
    (h : ∀ s' dx, H dx = none → dx ≠ x → Inv X pins σ (upd (upd H dx (.ext (XDict dx [(f, y)]))) x (.ext (XAtF fl x C (some dx)))) s' → Q () s') : wpAny (model X.prog X.w) A (setAttr (.ref x) f u) Q E s := by
  obtain ⟨⟨oe, vs, e1, e2, e3, e4, e5⟩, _⟩ := (show ObjOk X.prog X.w H s.heap x (.ext (XAtF fl x C none)) from I.hok x _ e)
  have J : PySem.W.InstAt s.heap x oe C none := ⟨e1, e2, by unfold PySem.W.notCls; rw [e4], by rw [e3]; trivial⟩
  refine setx_open I.kIn J hx hs n fun A' => storex_none (s := { s with toks := s.toks + 1 }) I.kIn hs e1 e2 e3 e4 fun h' p1 p2 p3 => ?_
  have nd : H s.heap.objs.size = none := I.hok.fresh (Nat.le_refl _)
  have nx : s.heap.objs.size ≠ x := Ne.symm (ne_size e1)
  have neH : ∀ b o, s.heap.get? b = some o → H b = none → b ≠ x ∧ b ≠ s.heap.objs.size := fun b o z q => ⟨fun w => (by rw [w, e] at q; cases q), ne_size z⟩
  have neT : ∀ b t, H b = some t → (∀ φ, t ≠ .ext φ) → b ≠ x ∧ b ≠ s.heap.objs.size := fun b t z q => ⟨fun w => (by rw [w, e] at z; cases z; exact q _ rfl), fun w => (by rw [w, nd] at z; cases z)⟩
  refine h _ s.heap.objs.size nd nx (I.un (t' := s.toks + 1 + 1) (h' := h') ⟨fun b o z q _ _ => p3 b o (neH b o z q).1 z, fun b o z q _ _ => ⟨o.slots, p3 b o (neH b o z q).1 z⟩, fun b o z q _ => ?_, fun b o z _ => ?_, fun b xs z => ?_, fun b o t z => ?_, fun b ps z => ?_⟩ fun a o z => ?_)
  · rw [upd_ne (neH b o z q).1, upd_ne (neH b o z q).2]; exact q
  · by_cases w : b = x
    · rw [w]; exact ⟨_, p1⟩
    · exact ⟨o, p3 b o w z⟩
  · have q := neT b _ z fun φ w => nomatch w
    rw [upd_ne q.1, upd_ne q.2]; exact z
  · have q := neT b _ z fun φ w => nomatch w
    rw [upd_ne q.1, upd_ne q.2]; exact z
  · have q := neT b _ z fun φ w => nomatch w
    exact ⟨#[], by rw [upd_ne q.1, upd_ne q.2, z]; simp⟩
  · by_cases w : a = x
    · subst w
      rw [upd_same] at z
      cases z
      exact XAtF.ok ⟨_, vs, p1, e2, rfl, e4, e5⟩
    · rw [upd_ne w] at z
      by_cases w2 : a = s.heap.objs.size
      · subst w2
        rw [upd_same] at z
        cases z
        refine XDict.ok ⟨_, p2, fun g => ?_, fun g hg => ?_⟩
        · show RelO (([(f, y)] : List (Str × V)).lookup g) (if g = f then some u else none)
          rw [List.lookup_cons]
          by_cases q : g = f
          · rw [if_pos q, q, beq_self_eq_true]; exact ry
          · rw [if_neg q, beq_eq_false_iff_ne.mpr q]; trivial
        · by_cases q : g = f
          · rw [q]; simp
          · exact absurd (by show (if g = f then some u else none) = none; rw [if_neg q]) hg
      · rw [upd_ne w2] at z
        refine (I.hok a o z).stay (fun b t hb q => p3 b t ?_ q) (fun b q => ?_) fun b xs q => ?_
        · rcases hb with hb | hb
          · rw [hb]; exact w
          · exact (neT b _ hb fun φ w => nomatch w).1
        · have r := neT b _ q fun φ w => nomatch w
          rw [upd_ne r.1, upd_ne r.2]; exact q
        · have r := neT b _ q fun φ w => nomatch w
          rw [upd_ne r.1, upd_ne r.2]; exact q
/-- further ones -/
theorem setx_more {y : V} {u : Value} {dx : Addr} {fs : List (Str × V)} {Q : Unit → Shared → Prop} (I : Inv X pins σ H s) (e : H x = some (.ext (XAtF fl x C (some dx)))) (ed : H dx = some (.ext (XDict dx fs))) (hl : fs.length < 1000) (hx : XIn X.K C Pk) (hs : XSet X.K C) (n : NoAttr X.K C f) (ry : RelV y u)
    (h : ∀ s', Inv X pins σ (upd H dx (.ext (XDict dx (putF f y fs)))) s' → Q () s') : wpAny (model X.prog X.w) A (setAttr (.ref x) f u) Q E s := by
  obtain ⟨⟨oe, vs, e1, e2, e3, e4, e5⟩, _⟩ := (show ObjOk X.prog X.w H s.heap x (.ext (XAtF fl x C (some dx))) from I.hok x _ e)
  obtain ⟨⟨mA, ns, r, wi⟩, ⟨ob, eo⟩, _⟩ := (show ObjOk X.prog X.w H s.heap dx (.ext (XDict dx fs)) from I.hok dx _ ed)
  have J : PySem.W.InstAt s.heap x oe C (some ob) := ⟨e1, e2, by unfold PySem.W.notCls; rw [e4], by rw [e3]; exact eo⟩
  have hz : (fs.map (·.1)).length ≤ sizeLine := by rw [List.length_map, sizeLine_eq]; omega
  refine setx_open I.kIn J hx hs n fun A' => storex_some (s := { s with toks := s.toks + 1 }) I.kIn hs e1 e2 e3 ns wi hz fun h' p1 p2 => h _ ?_
  have hd : ∃ o, h'.get? dx = some o := let ⟨o, _, _, e', _⟩ := p1; ⟨o, e'⟩
  refine I.write (x := dx) (e := dx) (t' := s.toks + 1 + 1) (by rw [ed]; exact True.intro) (.inl rfl) (fun b q hb z => (p2.2 b hb).trans z) hd (XDict.ok ⟨_, p1, fun g => ?_, fun g hg => ?_⟩)
  · show RelO ((putF f y fs).lookup g) (if g = f then some u else mA g)
    rw [lookup_putF]
    by_cases q : g = f
    · rw [if_pos q, if_pos q]; exact ry
    · rw [if_neg q, if_neg q]; exact r g
  · by_cases q : g = f
    · rw [q]; exact (keys_putF f y fs).1
    · refine (keys_putF f y fs).2 g (wi g fun z => hg ?_)
      show (if g = f then some u else mA g) = none
      rw [if_neg q]; exact z
/-- e.f of an exception -/
theorem getx_ok {v : V} {dx : Addr} {fs : List (Str × V)} {b : Bool} {Q : Value → Shared → Prop} (I : Inv X pins σ H s) (e : H x = some (.ext (XAtF fl x C (some dx)))) (ed : H dx = some (.ext (XDict dx fs))) (hx : XIn X.K C Pk) (hs : XSet X.K C) (n : NoAttr X.K C f) (l : fs.lookup f = some v)
    (h : ∀ u s', Inv X pins σ H s' → RelV v u → Q u s') : wpAny (model X.prog X.w) A (getAttr (.ref x) f b) Q E s := by
  obtain ⟨⟨oe, vs, e1, e2, e3, e4, e5⟩, _⟩ := (show ObjOk X.prog X.w H s.heap x (.ext (XAtF fl x C (some dx))) from I.hok x _ e)
  obtain ⟨⟨mA, ns, r, wi⟩, _⟩ := (show ObjOk X.prog X.w H s.heap dx (.ext (XDict dx fs)) from I.hok dx _ ed)
  obtain ⟨ob, eo, lk⟩ := lookIn_ns ns
  have J : PySem.W.InstAt s.heap x oe C (some ob) := ⟨e1, e2, by unfold PySem.W.notCls; rw [e4], by rw [e3]; exact eo⟩
  obtain ⟨u, hu, ru⟩ := RelO.some_of (v := v) (o := mA f) (by rw [← l]; exact r f)
  exact exc_value I.kIn J hx (PySem.W.findObj_own hs.hd n rfl (by rw [lk, hu])) (handed_of ru) (h u _ (I.tok _) ru)
end
/-! ### readings -/
section
variable {X : Cx} {o e value : Expr} {f : Str} {pos pos' : Pos} {ta tv : TE}
/-- e.f of a caught exception -/
def tFldX (K : PySem.W.Frag) (ta : TE) (f : Str) : TE := fun σ H Q => ta σ H fun x H1 => ∃ fl a C Pk dx fs v, x = .ref a ∧ H1 a = some (.ext (XAtF fl a C (some dx))) ∧ H1 dx = some (.ext (XDict dx fs)) ∧ XIn K C Pk ∧ XSet K C ∧ NoAttr K C f ∧ fs.lookup f = some v ∧ Q v H1
theorem pe_fldX (he : PE X e ta) (hb : attributeBase e f X.env (eval e X.env) = eval e X.env) : PE X (.Attribute e f pos) (tFldX X.K ta f) := by
  intro pins s σ H Q I h
  refine attr_of hb (thn (he pins s σ H _ I h) fun u s1 ⟨x, H1, I1, rx, fl, a, C, Pk, dx, fs, v, ex, ea, ed, c, c2, n, l, q⟩ => ?_)
  subst ex
  obtain rfl : u = Value.ref a := rx
  exact getx_ok I1 ea ed c c2 n l fun u' s2 I2 ru => ⟨v, H1, I2, ru, q⟩
/-- self.f = value in an exception's __init__: the first one makes the dict -/
def sFldX1 (K : PySem.W.Frag) (ta tv : TE) (f : Str) : TS := fun D σ H => tv σ H fun y H1 => ta σ H1 fun x H2 => ∃ fl a C Pk, x = .ref a ∧ H2 a = some (.ext (XAtF fl a C none)) ∧ XIn K C Pk ∧ XSet K C ∧ NoAttr K C f ∧
  ∀ dx, H2 dx = none → dx ≠ a → D.nx σ (upd (upd H2 dx (.ext (XDict dx [(f, y)]))) a (.ext (XAtF fl a C (some dx))))
theorem ps_fldX1 (ha : PE X o ta) (hv : PE X value tv) (hs : swapsWith value (some (.Attribute o f pos')) pos.line X.env = pure false) : PS X (.Assign [.Attribute o f pos'] value pos) (sFldX1 X.K ta tv f) := by
  intro pins s σ H D I h
  refine plainObj_wpAny_Assign_Attribute (thn (hv pins s σ H _ I h) fun u s1 ⟨y, H1, I1, ry, q⟩ => thn (ha pins s1 σ H1 _ I1 q) fun ov s2 ⟨x, H2, I2, rx, fl, a, C, Pk, ex, ea, c, c2, n, q2⟩ => ?_) hs
  subst ex
  obtain rfl : ov = Value.ref a := rx
  exact setx_first I2 ea c c2 n ry fun s3 dx n1 n2 I3 => ⟨σ, _, I3, q2 dx n1 n2⟩
def sFldX2 (K : PySem.W.Frag) (ta tv : TE) (f : Str) : TS := fun D σ H => tv σ H fun y H1 => ta σ H1 fun x H2 => ∃ fl a C Pk dx fs, x = .ref a ∧ H2 a = some (.ext (XAtF fl a C (some dx))) ∧ H2 dx = some (.ext (XDict dx fs)) ∧ fs.length < 1000 ∧ XIn K C Pk ∧ XSet K C ∧ NoAttr K C f ∧
  D.nx σ (upd H2 dx (.ext (XDict dx (putF f y fs))))
theorem ps_fldX2 (ha : PE X o ta) (hv : PE X value tv) (hs : swapsWith value (some (.Attribute o f pos')) pos.line X.env = pure false) : PS X (.Assign [.Attribute o f pos'] value pos) (sFldX2 X.K ta tv f) := by
  intro pins s σ H D I h
  refine plainObj_wpAny_Assign_Attribute (thn (hv pins s σ H _ I h) fun u s1 ⟨y, H1, I1, ry, q⟩ => thn (ha pins s1 σ H1 _ I1 q) fun ov s2 ⟨x, H2, I2, rx, fl, a, C, Pk, dx, fs, ex, ea, ed, hl, c, c2, n, q2⟩ => ?_) hs
  subst ex
  obtain rfl : ov = Value.ref a := rx
  exact setx_more I2 ea ed hl c c2 n ry fun s3 I3 => ⟨σ, _, I3, q2⟩
end
end L2

set_option Elab.async false
set_option linter.all false
set_option maxRecDepth 100000
namespace L2
open PySem PySem.Spec PyProof.Rows

/-! ### P.__init__(self, ..) of the own class above -/
structure XUp (K : PySem.W.Frag) (Pk : Addr) : Prop where
  sp : PySem.W.specialIn K (.ref Pk) "__getattribute__" = some (some (.builtin "type.__getattribute__"))
  rd : PySem.W.readsIn K Pk (.type "type") = true
  fc : PySem.W.findCls K (.ref Pk) (.type "type") "__init__" = some (.val (.builtin "ValueError.__init__"))
section
variable {prog : Program} {w : World} {A : Around} {E : Value → Shared → Prop} {s : Shared} {K : PySem.W.Frag} {x C Pk : Addr} {oe : Obj} {vs : Array Value} {us : List Value} {Q : Value → Shared → Prop}
theorem binit_ok (KX : K.In s.heap) (hx : XIn K C Pk) (h1 : s.heap.get? x = some oe) (h2 : oe.cls = .ref C) (h3 : oe.data = .fields vs) (h4 : 0 < vs.size) (hu : us.length ≤ sizeLine)
    (h : ∀ h' vs', h'.get? x = some { oe with data := .fields vs' } → vs'.size = vs.size → vs'[1]? = vs[1]? → (∀ b o, b ≠ x → s.heap.get? b = some o → h'.get? b = some o) → Q .none { s with heap := h' }) :
    wpAny (model prog w) A (call (.builtin "ValueError.__init__") (.ref x :: us)) Q E s := by
  have V := F.excBase_ValueError
  obtain ⟨hh, g, d, t, os⟩ := s
  obtain ⟨nm, q, N, bs, hdct, sn, sub, ab, col, dd, k0, k1, k2, k3, k5, hC, T1, T2⟩ := xq_ok KX hx.cls
  refine wpAny_call (codeAny_call_builtin V.init.plain V.initEntry (wpAny_check_init_subU V T2 hC h1 h2 ?_))
  unfold Builtin.«BaseException.__init__»
  dsimp only
  refine wpAny_ite_false rfl ?_
  refine wpAny_bind (wpAny_newTuple ?_ hu)
  unfold Builtin.BaseException.bexcPut
  have h1' := Heap.get?_push_of_some { cls := Value.type "tuple", data := Data.seq us.toArray } h1
  have hv : vs[0]? = some vs[0] := Array.getElem?_eq_getElem h4
  refine wpAny_bind (wpAny_bind (wpAny_field h1' h3 hv (wpAny_bind (wpAny_setField h1' h3 h4 ?_))))
  have live : (Obj.mapFields (fun v => v.setIfInBounds 0 (Value.ref hh.objs.size)) oe).isFreed = false := by rw [mapFields_of (vs := vs) _ h3]; rfl
  have fin : Q Value.none { heap := (hh.push { cls := Value.type "tuple", data := Data.seq us.toArray }).update x (Obj.mapFields fun v => v.setIfInBounds 0 (Value.ref hh.objs.size)), gens := g, drawn := d, toks := t, os := os } :=
    h _ (vs.setIfInBounds 0 (Value.ref hh.objs.size)) (by rw [Heap.get?_update_self _ h1' live, mapFields_of (vs := vs) _ h3]) (by simp) (by simp) fun b o hb e => by
      rw [Heap.get?_update_ne _ _ _ _ hb]; exact Heap.get?_push_of_some _ e
  cases vs[0] with
  | ref a => exact wpAny_letGo (wpAny_pure fin)
  | _ => exact wpAny_pure (wpAny_pure fin)
end
section
variable {X : Cx} {P c : Str} {p pos apos : Pos} {e : Expr} {es : List Expr} {t : TA} {Pk : Addr}
def tBinit (K : PySem.W.Frag) (Pk : Addr) (t : TA) : TE := fun σ H Q => t σ H fun vs H1 => ∃ fl a C od r, vs = .ref a :: r ∧ r.length ≤ 1000 ∧ H1 a = some (.ext (XAtF fl a C od)) ∧ XIn K C Pk ∧ Q .non H1
theorem pe_binit {pl : Sem Bool} (hg : Gl X c) (hm : X.mg c = some (.ref Pk)) (hu : XUp X.K Pk) (ha : PA X (e :: es) t) (hdb : (c == ("__debug__" : Str)) = false := by decide)
    (hst : starEach (e :: es) X.env = (false, eval e X.env) :: starEach es X.env := by rfl) (hpl : (backTo pos (starEach es X.env)).any (·.1) = false := by rfl)
    (ht : eval (.Call (.Attribute (.Name c p) "__init__" apos) (e :: es) [] pos) X.env = (do
      let ov ← eval (.Name c p) X.env
      standAt apos.atName
      let (f, first) ← holding [ov] (getMethod ov "__init__" pl)
      callWith pos f first (backTo pos (starEach (e :: es) X.env)) (backToKw pos (keywordEach [] X.env))) := by rfl) :
    PE X (.Call (.Attribute (.Name c p) "__init__" apos) (e :: es) [] pos) (tBinit X.K Pk t) := by
  intro pins s σ H Q I h
  refine PySem.W.methodCall_KW (pl := pl) (ld_glob I hg hm ?_ hdb) ht
  refine PySem.W.method_cls I.kIn hu.sp (PySem.W.cls_value I.kIn hu.rd hu.fc rfl ?_)
  have I0 := I.tok (s.toks + 1)
  refine PyProof.Rows.callWith_builtin1 (thn (ha pos pins _ σ H _ I0 h) fun us s1 ⟨vs, H1, I1, r, fl, a, C, od, rr, ev, hl, ea, hx, q⟩ => ?_) hst hpl
  subst ev
  cases r with
  | cons r1 r2 =>
    cases (show _ = Value.ref a from r1)
    obtain ⟨⟨oe, vs, e1, e2, e3, e4, e5⟩, _⟩ := (show ObjOk X.prog X.w H1 s1.heap a (.ext (XAtF fl a C od)) from I1.hok a _ ea)
    refine binit_ok I1.kIn hx e1 e2 e4 (Nat.lt_trans Nat.zero_lt_one e5.1) (by rw [← Vals.length r2]; exact Nat.le_of_lt (small1000 hl)) fun h' vs' p1 p3 p4 p2 => ?_
    have up : upd H1 a (.ext (XAtF fl a C od)) = H1 := by
      funext b
      unfold upd
      split
      · rename_i z; rw [z, ea]
      · rfl
    refine ⟨.non, _, I1.write (x := a) (e := a) (o := .ext (XAtF fl a C od)) (t' := s1.toks) (by rw [ea]; exact True.intro) (.inl rfl) (fun b u hb z => p2 b u hb z) ⟨_, p1⟩ (XAtF.ok ⟨_, vs', p1, e2, e3, rfl, ?_⟩), rfl, ?_⟩
    · exact ⟨by rw [p3]; exact e5.1, fun z => by rw [p4]; exact e5.2 z⟩
    · rw [up]; exact q
end
end L2

set_option Elab.async false
set_option linter.all false
set_option maxRecDepth 100000
namespace L2
open PySem PySem.Spec PyProof.Rows

/-! ### raise of an object of an own class -/
theorem raise_own {prog : Program} {w : World} {A : Around} {E : Value → Shared → Prop} {s : Shared} {env : Env} {K : PySem.W.Frag} {C Pk : Addr} {x : Sem Value} {Q : Flow → Shared → Prop} (hx : XIn K C Pk) (hh : A.handled = none)
    (h : wpAny (model prog w) A x (fun v s₁ => ∃ e oe vs, v = .ref e ∧ K.In s₁.heap ∧ s₁.heap.get? e = some oe ∧ oe.cls = .ref C ∧ oe.data = .fields vs ∧ vs[1]? = some Value.none ∧ E (.ref e) s₁) E s) :
    wpAny (model prog w) A (raiseStmt env (some x) none) Q E s := by
  unfold raiseStmt
  dsimp only
  refine wpAny_bind (thn h fun v s1 ⟨e, oe, vs, ev, KX, h1, h2, h3, h4, q⟩ => ?_)
  subst ev
  obtain ⟨hp, g, d, t, os⟩ := s1
  obtain ⟨nm, qn, N, bs, hdct, sn, sub, ab, col, dd, k0, k1, k2, k3, k5, hC, T1, T2⟩ := xq_ok KX hx.cls
  have ist : ∀ {Q' : Bool → Shared → Prop} {E' : Value → Shared → Prop}, Q' false ⟨hp, g, d, t, os⟩ → wpAny (model prog w) A (isType (.ref e)) Q' E' ⟨hp, g, d, t, os⟩ := fun {Q' E'} q' => by
    unfold isType
    refine wpAny_bind (wpAny_loadPart_at h1 (wpAny_pure ?_))
    rw [h3]
    exact q'
  refine wpAny_bind (wpAny_pure (wpAny_bind (wpAny_holding ?_)))
  unfold excFromValue isExcClass
  refine wpAny_bind (wpAny_bind (ist ?_))
  refine wpAny_ite_false rfl (wpAny_pure ?_)
  refine wpAny_ite_false rfl ?_
  unfold isInstance
  refine wpAny_bind (wpAny_bind (wpAny_typeOf_ref h1 ?_))
  rw [h2]
  refine wpAny_isSubtype_exc hC ?_
  refine wpAny_ite_true rfl (wpAny_pure ?_)
  refine wpAny_bind (ist ?_)
  refine wpAny_ite_false rfl ?_
  unfold raisedInstance
  refine wpAny_bind (wpAny_bind (wpAny_typeOf_ref h1 ?_))
  rw [h2]
  refine wpAny_bind (wpAny_typeOf_ref hC ?_)
  refine wpAny_ite_true (by show decide ((Value.type "type" == Value.type "type") = true) = true; decide +kernel) (wpAny_pure ?_)
  unfold setFlight
  refine wpAny_bind (wpAny_bind (wpAny_field h1 h3 h4 (wpAny_ite_false rfl (wpAny_pure ?_))))
  exact wpAny_raiseNew_none hh q
end L2

set_option Elab.async false
set_option linter.all false
set_option maxRecDepth 100000
namespace L2
open PySem PySem.Spec PyProof.Rows

def drop (H : Hp) (x : Addr) : Hp := fun b => if b = x then none else H b
theorem drop_same (H : Hp) (x : Addr) : drop H x x = none := by unfold drop; rw [if_pos rfl]
theorem drop_ne {H : Hp} {x b : Addr} (h : b ≠ x) : drop H x b = H b := by unfold drop; rw [if_neg h]
theorem drop_none {H : Hp} {x b : Addr} (h : H b = none) : drop H x b = none := by
  unfold drop
  split
  · rfl
  · exact h
section
variable {X : Cx} {pins : List (Addr × Obj)} {σ : St} {H : Hp} {s : Shared} {x : Addr} {φ : Heap → Prop}
theorem Inv.untrack (I : Inv X pins σ H s) (e : H x = some (.ext φ)) : Inv X pins σ (drop H x) s := by
  have ne : ∀ b t, H b = some t → (∀ ψ, t ≠ .ext ψ) → b ≠ x := fun b t z q w => by rw [w, e] at z; cases z; exact q _ rfl
  refine ⟨I.ok, I.os, I.bare, ⟨I.base.keep, I.base.slot, fun b o z n h => drop_none (I.base.free b o z n h), I.base.there, fun b xs z => ?_, fun b o u z => ?_, fun b ps z => ?_⟩, I.loc, I.cell, drop_none I.free, fun y c z => drop_none (I.freeC y c z), fun p hp => ?_, fun a o z => ?_, I.len⟩
  · have q := I.base.tups b xs z
    rw [drop_ne (ne b _ q fun ψ w => nomatch w)]; exact q
  · have q := I.base.frzs b o u z
    rw [drop_ne (ne b _ q fun ψ w => nomatch w)]; exact q
  · obtain ⟨m, q⟩ := I.base.tbls b ps z
    exact ⟨m, by rw [drop_ne (ne b _ q fun ψ w => nomatch w)]; exact q⟩
  · obtain ⟨q1, q2, q3⟩ := I.pin p hp
    exact ⟨q1, drop_none q2, q3⟩
  · have ax : a ≠ x := fun w => by rw [w, drop_same] at z; cases z
    rw [drop_ne ax] at z
    exact (I.hok a o z).stay (fun _ _ _ q => q) (fun b q => by rw [drop_ne (ne b _ q fun ψ w => nomatch w)]; exact q) fun b xs q => by rw [drop_ne (ne b _ q fun ψ w => nomatch w)]; exact q
end
structure XMk (K : PySem.W.Frag) (C f : Addr) : Prop where
  init : PySem.W.findIn K (.ref C) "__init__" = some (some (.ref f))
  fn : PySem.W.typeIn K (.ref f) = some (.type "function")
  kp : PySem.W.keepIn K (.ref C) = true
section
variable {X : Cx} {E : XK} {c : Str} {C Pk f : Addr} {fd : FuncData} {ps : List Str} {sp : Sp} {k : Nat} {p cpos pos : Pos} {e : Expr} {es : List Expr} {t : TA}
def tRaiseI (C : Addr) (sp : Sp) (E : XK) (t : TA) : TS := fun _ σ H => t σ H fun vs H1 => vs.length ≤ 1000 ∧ ∀ x, H1 x = none →
  sp (.ref x :: vs) (upd H1 x (.ext (XAtF true x C none))) (fun v H2 => v = .non ∧ ∃ od, H2 x = some (.ext (XAtF true x C od)) ∧ E (.ref C) od (drop H2 x)) E0
theorem ps_raiseI (M : XMk X.K C f) (hxi : XIn X.K C Pk) (F : FnOk X.prog X.w X.K X.mg X.base CX0 k f fd ps sp) (hr : Room (k + 1) X.A) (hb : Binds X.K fd ps []) (hcalm : X.calm = true) (hex : X.ex = []) (hg : Gl X c) (hm : X.mg c = some (.ref C)) (hx : Rises X E) (ha : PA X (e :: es) t)
    (hdb : (c == ("__debug__" : Str)) = false := by decide) (he : starEach (e :: es) X.env = (false, eval e X.env) :: starEach es X.env := by rfl) (hpl : (backTo cpos (starEach es X.env)).any (·.1) = false := by rfl) :
    PS X (.Raise (some (.Call (.Name c p) (e :: es) [] cpos)) none pos) (tRaiseI C sp E t) := by
  intro pins s σ H D I h
  rw [arm_exec_Raise]
  refine wpAny_bind (wpAny_standAt (raise_own (K := X.K) hxi (I.ok.hd hcalm) (wpAny_bind ?_)))
  refine wpAny_Call_Name_kw (ld_glob I hg hm ?_ hdb)
  refine PySem.W.callWith_K (h₀ := X.base) I.ok.mod.kin M.kp (thn (ha cpos pins s σ H _ I h) fun us s1 ⟨vs, H1, I1, r, hl, q⟩ => ⟨I1.kIn, ?_⟩) he hpl
  refine call_xinit I1.kIn hxi M.init M.fn (by rw [List.nil_append, ← r.length]; exact Nat.le_of_lt (small1000 hl)) fun h' x Md => ?_
  obtain ⟨tt, m1, m2, m3⟩ := Md.there
  have I2 : Inv X pins σ H1 { s1 with heap := h' } := I1.kept (t' := s1.toks) Md.keeps
  have fr : X.s₀.heap.get? x = none := by
    cases q : X.s₀.heap.get? x with
    | none => rfl
    | some o =>
      obtain ⟨o', e1⟩ := I1.base.there x o q (by rw [hex]; simp)
      rw [Md.new] at e1; cases e1
  have hn : H1 x = none := I1.hok.nowhere Md.new
  have at0 : XAtF true x C none h' := ⟨_, _, m1, rfl, rfl, rfl, (by show 1 < 6; decide), fun _ => rfl⟩
  have I3 := I2.track at0 fr hn fun p hp z => by
    have := (I1.pin p hp).1
    rw [z, Md.new] at this; cases this
  have r2 : Vals (V.ref x :: vs) (Value.ref x :: us) := .cons rfl r
  have hq := q x hn
  have hlen : (Value.ref x :: us ++ []).length = ps.length := by
    rw [List.append_nil, ← r2.length]; exact F.len _ _ _ _ hq
  have hb2 := hb { s1 with heap := h' } (Value.ref x :: us) I3.kIn hlen
  rw [List.append_nil] at hb2
  refine wpAny_call (codeAny_mono (F.run _ X.stack _ _ ⟨Value.ref x :: us, []⟩ (Value.ref x :: us) _ _ _ (hr.make C us []) (I3.env0.make C us []) hb2 r2 hq) fun r s' z => ?_)
  cases r with
  | error e => exact False.elim z
  | ok fl =>
    cases fl with
    | ret u =>
      obtain ⟨v, H4, I4, rv, ev, od, e4, q4⟩ := I3.after z
      subst ev
      refine ⟨rv, ?_⟩
      obtain ⟨⟨oe, ws, o1, o2, o3, o4, o5, o6⟩, _⟩ := (show ObjOk X.prog X.w H4 s'.heap x (.ext (XAtF true x C od)) from I4.hok x _ e4)
      refine wpAny_bind (wpAny_standAt (wpAny_pure ?_))
      exact ⟨x, oe, ws, rfl, I4.kIn, o1, o2, o4, o6 rfl, hx pins σ (drop H4 x) s' x C od none (I4.untrack e4) ⟨oe, ws, o1, o2, o3, o4, o6 rfl⟩ fr (fun T z => nomatch z) (drop_same _ _) q4⟩
    | next => exact False.elim z
    | brk => exact False.elim z
    | cont => exact False.elim z
end
end L2

set_option linter.all false
set_option maxRecDepth 100000
set_option maxHeartbeats 1000000
namespace L2
open PySem PySem.Spec PyProof.Rows
/-! ### lists of lists, each of them a list of its own -/
/-- ps are unlike lists, with these contents -/
structure RowsAt (H : Hp) (ps : List Addr) (n : Nat) (row : Nat → List V) : Prop where
  len : ps.length = n
  nd : ps.Nodup
  on : ∀ j p, ps[j]? = some p → H p = some (.lst (row j))
section
variable {H H' : Hp} {ps : List Addr} {n : Nat} {row : Nat → List V} {p : Addr}
theorem RowsAt.same (h : RowsAt H ps n row) (s : Same H H') : RowsAt H' ps n row := ⟨h.len, h.nd, fun j p e => s _ _ (h.on j p e)⟩
theorem RowsAt.none : RowsAt H [] 0 row := ⟨rfl, List.nodup_nil, fun j p e => by simp at e⟩
theorem RowsAt.ne (h : RowsAt H ps n row) (hp : H p = Option.none) : p ∉ ps := fun m => by
  obtain ⟨j, hj, e⟩ := List.getElem_of_mem m
  have := h.on j p (by rw [List.getElem?_eq_getElem hj, e])
  rw [hp] at this
  cases this
theorem RowsAt.snoc (h : RowsAt H ps n row) (np : p ∉ ps) (hp : H p = some (.lst (row n))) : RowsAt H (ps ++ [p]) (n + 1) row := by
  refine ⟨by rw [List.length_append, h.len]; rfl, List.nodup_append.mpr ⟨h.nd, by simp, fun a ha b hb e => ?_⟩, fun j q e => ?_⟩
  · rw [List.mem_singleton.mp hb] at e
    exact np (e ▸ ha)
  · rw [List.getElem?_append] at e
    split at e
    · exact h.on j q e
    · rename_i hj
      have hj0 : j - ps.length = 0 := by
        by_cases z : j - ps.length = 0
        · exact z
        · rw [List.getElem?_eq_none (by simp; omega)] at e; cases e
      have hjn : j = n := by have := h.len; omega
      rw [hj0] at e
      cases e
      rw [hjn]
      exact hp
theorem RowsAt.get (h : RowsAt H ps n row) {j : Nat} (hj : j < n) : ∃ p, ps[j]? = some p ∧ H p = some (.lst (row j)) ∧ p ∈ ps := by
  have hl : j < ps.length := by rw [h.len]; exact hj
  exact ⟨ps[j], List.getElem?_eq_getElem hl, h.on j _ (List.getElem?_eq_getElem hl), List.getElem_mem hl⟩
theorem RowsAt.upd (h : RowsAt H ps n row) (hp : p ∉ ps) {o : HO} : RowsAt (upd H p o) ps n row := by
  refine ⟨h.len, h.nd, fun j q e => ?_⟩
  have : q ≠ p := fun z => hp (by rw [← z]; exact List.mem_of_getElem? e)
  rw [upd_ne this]
  exact h.on j q e
theorem RowsAt.drop (h : RowsAt H ps n row) (k : Nat) : RowsAt H (ps.drop k) (n - k) (fun j => row (j + k)) :=
  ⟨by rw [List.length_drop, h.len], h.nd.sublist (List.drop_sublist k ps), fun j q e => by
    rw [List.getElem?_drop] at e
    rw [Nat.add_comm j k]
    exact h.on _ q e⟩
theorem notMem_drop (nd : ps.Nodup) {k j : Nat} (hj : j < k) (e : ps[j]? = some p) : p ∉ ps.drop k := fun m => by
  obtain ⟨i, hi, ei⟩ := List.getElem_of_mem m
  have h1 : ps[k + i]? = some p := by rw [← ei, ← List.getElem?_drop, List.getElem?_eq_getElem hi]
  obtain ⟨l1, e1⟩ := List.getElem?_eq_some_iff.mp h1
  obtain ⟨l2, e2⟩ := List.getElem?_eq_some_iff.mp e
  have := (List.getElem_inj nd).mp (e1.trans e2.symm)
  omega
/-- the first ones changed, the others stay -/
theorem RowsAt.dropUpd (h : RowsAt H ps n row) {k j : Nat} (hj : j < k) (e : ps[j]? = some p) {o : HO} : RowsAt (L2.upd H p o) (ps.drop k) (n - k) (fun j => row (j + k)) :=
  (h.drop k).upd (notMem_drop h.nd hj e)
end
theorem SeesL.of {K : PySem.W.Frag} {H : Hp} : ∀ {xs : List V} {ds : List Dt}, xs.length = ds.length → (∀ (j : Nat) v d, xs[j]? = some v → ds[j]? = some d → Sees K H v d) → SeesL K H xs ds
  | [], [], _, _ => by rw [SeesL]
  | [], _ :: _, h, _ => by cases h
  | _ :: _, [], h, _ => by cases h
  | x :: xs, d :: ds, h, f => by
    rw [SeesL]
    exact ⟨x, xs, rfl, f 0 x d rfl rfl, SeesL.of (by simpa using h) fun j v e a b => f (j + 1) v e (by simpa using a) (by simpa using b)⟩
theorem seesInts {K : PySem.W.Frag} {H : Hp} : ∀ (ns : List Int), SeesL K H (ns.map V.int) (ns.map Dt.int)
  | [] => by simp [SeesL]
  | n :: ns => by
    rw [List.map_cons, List.map_cons, SeesL]
    exact ⟨_, _, rfl, by simp [Sees], seesInts ns⟩
theorem depInts : ∀ (ns : List Int), depDs (ns.map Dt.int) = 0
  | [] => by simp [depDs]
  | n :: ns => by
    rw [List.map_cons, depDs, depInts ns, depD]
    rfl
    all_goals (intro _ h; cases h)
theorem depRows (f : Nat → List Int) : ∀ (js : List Nat), depDs (js.map fun j => Dt.lst ((f j).map Dt.int)) ≤ 1
  | [] => by simp [depDs]
  | j :: js => by
    rw [List.map_cons, depDs, depD, depInts]
    have := depRows f js
    omega
abbrev rowsD (n : Nat) (f : Nat → List Int) : Dt := .lst ((List.range n).map fun j => Dt.lst ((f j).map Dt.int))
theorem dep_rowsD (n : Nat) (f : Nat → List Int) : depD (rowsD n f) ≤ 2 := by
  rw [depD]
  have := depRows f (List.range n)
  omega
theorem RowsAt.sees {K : PySem.W.Frag} {H : Hp} {ps : List Addr} {n : Nat} {f : Nat → List Int} {D : Addr} (h : RowsAt H ps n (fun j => (f j).map V.int)) (hD : SqL K H D (ps.map V.ref)) : Sees K H (.ref D) (rowsD n f) := by
  rw [rowsD, Sees]
  refine ⟨D, _, rfl, hD, SeesL.of (by simp [h.len]) fun j v d e1 e2 => ?_⟩
  rw [List.getElem?_map] at e1 e2
  cases hp : ps[j]? with
  | none => rw [hp] at e1; cases e1
  | some p =>
    rw [hp] at e1
    cases e1
    have hl : j < n := by rw [← h.len]; exact (List.getElem?_eq_some_iff.mp hp).1
    rw [List.getElem?_range hl] at e2
    cases e2
    show Sees K H (.ref p) (.lst ((f j).map Dt.int))
    rw [Sees]
    exact ⟨p, _, rfl, SqL.of (h.on j p hp), seesInts _⟩
theorem eqDs_ints : ∀ (xs ys : List Int), eqDs (xs.map Dt.int) (ys.map Dt.int) = decide (xs = ys)
  | [], [] => by simp [eqDs]
  | [], y :: ys => by simp [eqDs]
  | x :: xs, [] => by simp [eqDs]
  | x :: xs, y :: ys => by
    rw [List.map_cons, List.map_cons, eqDs, eqD, eqDs_ints xs ys]
    by_cases h : x = y
    · subst h; simp
    · simp [h]
/-- a comprehension whose elements are new lists -/
theorem comp_rows {J : It} {n k : Nat} {src : Nat → V} {row : Nat → List V} {te : TE} {cs : St} {H1 : Hp} {D : Addr} {Q : Hp → Prop} (hD : H1 D = none) (hk : k = cs.length) (hn : n ≤ sizeLine)
    (stop : ∀ H, Same H1 H → J.stop n H) (go : ∀ i H, i < n → Same H1 H → J.go i H) (yld : ∀ i H x H', i < n → Same H1 H → J.yld i H x H' → x = src i ∧ H' = H)
    (he : ∀ i H (R : V → Hp → Prop), i < n → Same H1 H → (∀ p H4, H p = none → Same H H4 → H4 p = some (.lst (row i)) → R (.ref p) H4) → te (cs ++ [some (src i)]) H R)
    (hQ : ∀ ps H, Same H1 H → H D = some (.lst (ps.map V.ref)) → RowsAt H ps n row → (∀ p ∈ ps, H1 p = none) → D ∉ ps → Q H) : tCompQ J (gName k) tTrue te (cs ++ [none]) H1 D Q := by
  refine ⟨fun i m ys σ H => m = n - i ∧ i ≤ n ∧ Same H1 H ∧ (∃ ps : List Addr, ys = ps.map V.ref ∧ RowsAt H ps i row ∧ (∀ p ∈ ps, H1 p = none) ∧ D ∉ ps) ∧ H D = some (.lst ys) ∧ ∃ o, σ = cs ++ [o],
    ⟨n, rfl, Nat.zero_le _, (Same.refl _).up hD, ⟨[], rfl, RowsAt.none, by simp, by simp⟩, upd_same, none, rfl⟩, ?_⟩
  rintro i m ys σ H ⟨rfl, hi, sm, ⟨ps, rfl, hr, hf, hd'⟩, hd, o, rfl⟩
  refine ⟨hd, ?_⟩
  by_cases hlt : i < n
  · refine .inr ⟨go i H hlt sm, fun x H' y => ?_⟩
    obtain ⟨rfl, rfl⟩ := yld i H x H' hlt sm y
    have e : (cs ++ [o]).set k (some (src i)) = cs ++ [some (src i)] := by
      rw [hk, List.set_append_right _ _ (Nat.le_refl _), Nat.sub_self]
      rfl
    unfold gName
    rw [e]
    unfold tTrue
    refine iteT ?_
    refine he i H' _ hlt sm fun p H4 hp s4 h4 => ⟨s4 _ _ hd, ?_, n - (i + 1), by omega, rfl, hlt, (sm.trans s4).up hD, ⟨ps ++ [p], by rw [List.map_append]; rfl, ?_, ?_, ?_⟩, upd_same, _, rfl⟩
    · rw [List.length_map, hr.len]
      omega
    · have np : p ≠ D := fun z => by rw [z, hd] at hp; cases hp
      have hps := hr.ne hp
      refine ((hr.same s4).snoc hps h4).upd ?_
      intro z
      rcases List.mem_append.mp z with z | z
      · exact hd' z
      · exact np (List.mem_singleton.mp z).symm
    · intro q hq
      rcases List.mem_append.mp hq with z | z
      · exact hf q z
      · rw [List.mem_singleton.mp z]
        exact sm.free hp
    · intro z
      rcases List.mem_append.mp z with z | z
      · exact hd' z
      · rw [List.mem_singleton.mp z] at hd
        rw [hd] at hp; cases hp
  · have e : i = n := by omega
    subst e
    exact .inl ⟨stop H sm, hQ ps H sm hd hr hf hd'⟩
theorem comp_rowsR {n : Nat} {row : Nat → List V} {k : Nat} {te : TE} {cs : St} {H1 : Hp} {D : Addr} {Q : Hp → Prop} (hD : H1 D = none) (hk : k = cs.length) (hn : n ≤ sizeLine)
    (he : ∀ i H (R : V → Hp → Prop), i < n → Same H1 H → (∀ p H4, H p = none → Same H H4 → H4 p = some (.lst (row i)) → R (.ref p) H4) → te (cs ++ [some (.int (i : Nat))]) H R)
    (hQ : ∀ ps H, Same H1 H → H D = some (.lst (ps.map V.ref)) → RowsAt H ps n row → (∀ p ∈ ps, H1 p = none) → D ∉ ps → Q H) : tCompQ (Itr 0 n) (gName k) tTrue te (cs ++ [none]) H1 D Q :=
  comp_rows (src := fun i => .int (0 + (i : Nat))) hD hk hn (fun H _ => Nat.le_refl _) (fun i H hi _ => hi) (fun i H x H' _ _ y => ⟨y.2, y.1⟩) (fun i H R hi sm r => by
    have e : (0 : Int) + (i : Nat) = (i : Nat) := by omega
    rw [e]
    exact he i H R hi sm r) hQ
theorem comp_rowsL {K : PySem.W.Frag} {a : Addr} {xs : List V} {row : Nat → List V} {k : Nat} {te : TE} {cs : St} {H1 : Hp} {D : Addr} {Q : Hp → Prop} (hs : SqL K H1 a xs) (hD : H1 D = none) (hk : k = cs.length) (hn : xs.length ≤ sizeLine)
    (he : ∀ i x H (R : V → Hp → Prop), xs[i]? = some x → Same H1 H → (∀ p H4, H p = none → Same H H4 → H4 p = some (.lst (row i)) → R (.ref p) H4) → te (cs ++ [some x]) H R)
    (hQ : ∀ ps H, Same H1 H → H D = some (.lst (ps.map V.ref)) → RowsAt H ps xs.length row → (∀ p ∈ ps, H1 p = none) → D ∉ ps → Q H) : tCompQ (Itl K a) (gName k) tTrue te (cs ++ [none]) H1 D Q := by
  refine comp_rows (src := fun i => xs.getD i .non) hD hk hn (fun H sm => ⟨xs, sm.seq hs, Nat.le_refl _⟩) (fun i H hi sm => ⟨xs, xs[i], sm.seq hs, List.getElem?_eq_getElem hi⟩) (fun i H x H' hi sm y => ?_) (fun i H R hi sm r => ?_) hQ
  · obtain ⟨e, y⟩ := y
    refine ⟨?_, e⟩
    have := y xs (sm.seq hs)
    rw [List.getD_eq_getElem?_getD, this]
    rfl
  · refine he i _ H R ?_ sm r
    rw [List.getD_eq_getElem?_getD, List.getElem?_eq_getElem hi]
    rfl
theorem call_isxK {X : Cx} {K : PySem.W.Frag} {Pk : Addr} (hK : X.K = K) : CallR X (.builtin "isinstance") (fun xs H Q => ∃ x C od c u b, xs = [.ref x, c] ∧ IsX H x C od ∧ XIn K C Pk ∧ RelV c u ∧ (∀ u', RelV c u' → u' = u) ∧ PySem.W.kitOne K (.ref C) u = some b ∧ Q (.bl b) H) := by
  subst hK
  exact call_isx
theorem pe_fldXK {X : Cx} {K : PySem.W.Frag} {e : Expr} {f : Str} {pos : Pos} {ta : TE} (hK : X.K = K) (he : PE X e ta) (hb : attributeBase e f X.env (eval e X.env) = eval e X.env) : PE X (.Attribute e f pos) (tFldX K ta f) := by
  subst hK
  exact pe_fldX he hb
theorem cutD {α : Type} (xs : List V) {k : Nat} (h : k ≤ xs.length) : cutV xs (some (k : Int)) none = xs.drop k := by
  unfold cutV
  rw [HT.sIx_none, HT.sIx_nat, Nat.min_eq_left h]
  apply List.take_of_length_le
  rw [List.length_drop]
  exact Nat.le_refl _
end L2

set_option linter.all false
set_option maxRecDepth 100000
set_option maxHeartbeats 1000000
namespace L2
open PySem PySem.Spec PyProof.Rows
variable {X : Cx}
theorem ints_are : ∀ {ns : List Int} {its : List Value}, Vals (ns.map V.int) its → IntsAre its ns
  | [], _, .nil => .nil
  | n :: ns, _, .cons r rs => by
    obtain ⟨t, rfl⟩ := r
    exact .cons n t (ints_are rs)
theorem are_ints : ∀ {ns : List Int} {its : List Value}, IntsAre its ns → Vals (ns.map V.int) its
  | _, _, .nil => .nil
  | _, _, .cons n t rs => .cons ⟨t, rfl⟩ (are_ints rs)
theorem sortedAll_at {h : Heap} {vs : List Value} {out : Array Value} : ∃ e, (sortedAll h vs out).get? (h.objs.size + 1) = some (seqObj "list" out e) := by
  unfold sortedAll
  refine sortedHeap_at (n := 0) (Heap.get?_push_at ?_ rfl)
  simp [Heap.update, Heap.push]
/-- sorted(..) of whole numbers -/
theorem call_sorted : CallR X (.builtin "sorted") (fun xs H Q => ∃ (p : Addr) (ns : List Int), xs = [.ref p] ∧ SqL X.K H p (ns.map V.int) ∧ ns.length < 64 ∧ ∀ l ns', H l = none → ns'.Perm ns → List.Pairwise (fun x y => x ≤ y) ns' → Q (.ref l) (upd H l (.lst (ns'.map V.int)))) := by
  intro pins s σ H xs us Q I r h
  obtain ⟨p, ns, rfl, hq, hl, q⟩ := h
  obtain ⟨u, rfl, rx⟩ := vals1 r
  cases rx
  obtain ⟨its, r', pl, hz⟩ := I.list hq
  have hlen := r'.length
  rw [List.length_map] at hlen
  refine sorted_ints (ns := ns) pl.isList (ints_are r') (by omega) fun out ns' hi hp hs => ?_
  obtain ⟨e, he⟩ := sortedAll_at (h := s.heap) (vs := its) (out := out)
  have hv := are_ints hi
  have hl' := hv.length
  rw [List.length_map, hp.length_eq] at hl'
  refine ⟨.ref (s.heap.objs.size + 1), _, I.laid (t' := s.toks) (fun b o' z => sortedAll_old z) (Nat.le_succ _) (show ObjOk X.prog X.w _ _ _ (.lst (ns'.map V.int)) from ⟨?_, out.toList, e, hv, ?_⟩), rfl, q _ _ (I.hok.fresh (Nat.le_succ _)) hp hs⟩
  · rw [List.length_map, hp.length_eq]
    exact Nat.le_trans (Nat.le_of_lt hl) (by decide)
  · rw [he]
/-- a range's object -/
def RngAt (r : Addr) (lo hi : Int) (h : Heap) : Prop := ∃ t u v, IsRange h r lo hi 1 t u v
theorem call_range1V : CallR X (.type "range") (fun xs H Q => ∃ j : Int, xs = [.int j] ∧ ∀ r, H r = none → Q (.ref r) (upd H r (.ext (RngAt r 0 j)))) := by
  intro pins s σ H xs us Q I r h
  obtain ⟨j, rfl, q⟩ := h
  obtain ⟨u, rfl, t, rfl⟩ := vals1 r
  refine call_range_1 ⟨.ref s.heap.objs.size, _, I.laid (fun b o' z => Heap.get?_push_of_some _ z) (Nat.le_refl _) (show ObjOk X.prog X.w _ _ _ (.ext (RngAt s.heap.objs.size 0 j)) from ⟨?_, ?_, ?_⟩), rfl, q _ (I.hok.fresh (Nat.le_refl _))⟩
  · exact ⟨_, _, _, Heap.get?_push_size _ rfl⟩
  · exact ⟨_, Heap.get?_push_size _ rfl⟩
  · rintro h1 h2 ⟨t, u, v, e⟩ k
    exact ⟨t, u, v, k _ e⟩
theorem items_ints {lo : Int} : ∀ {n : Nat} {acc : Array Value}, ItemsOf (fun i v => ∃ t, v = Value.int (lo + (i : Int) * 1) t) acc n → Vals ((List.range n).map fun i : Nat => V.int (lo + (i : Int))) acc.toList := by
  intro n acc ⟨h1, h2⟩
  have : ∀ (xs : List Value) (k : Nat), (∀ (j : Nat) (v : Value), xs[j]? = some v → ∃ t, v = Value.int (lo + ((k + j : Nat) : Int) * 1) t) → Vals ((List.range' k xs.length).map fun i : Nat => V.int (lo + (i : Int))) xs := by
    intro xs
    induction xs with
    | nil => intro k _; exact .nil
    | cons x xs ih =>
      intro k hx
      obtain ⟨t, ht⟩ := hx 0 x rfl
      rw [List.length_cons, List.range'_succ, List.map_cons]
      refine .cons ⟨t, ?_⟩ (ih (k + 1) fun j v e => ?_)
      · rw [ht, Nat.add_zero, Int.mul_one]
      · obtain ⟨t', e'⟩ := hx (j + 1) v (by simpa using e)
        exact ⟨t', by rw [e']; congr 3; omega⟩
  have h3 := this acc.toList 0 fun j v e => by
    obtain ⟨t, ht⟩ := h2 j v (by simpa using e)
    exact ⟨t, by rw [ht, Nat.zero_add]⟩
  rw [List.range_eq_range', ← h1]
  simpa using h3
theorem call_list_rng (hc : X.calm = true) : CallR X (.type "list") (fun xs H Q => ∃ (r : Addr) (lo hi : Int), xs = [.ref r] ∧ H r = some (.ext (RngAt r lo hi)) ∧ -(2 ^ 20) ≤ lo ∧ lo < 2 ^ 20 ∧ -(2 ^ 20) ≤ hi ∧ hi < 2 ^ 20 ∧ ∀ l, H l = none → Q (.ref l) (upd H l (.lst ((List.range (hi - lo).toNat).map fun i : Nat => V.int (lo + (i : Int)))))) := by
  intro pins s σ H xs us Q I rv h
  obtain ⟨r, lo, hi, rfl, hr, b1, b2, b3, b4, q⟩ := h
  obtain ⟨u, rfl, rx⟩ := vals1 rv
  cases rx
  obtain ⟨t, u, v, e⟩ := (I.hok r _ hr).1
  refine call_list_range (n := (hi - lo).toNat) (I.ok.hd hc) e ?_ ?_ ?_ fun h' tk acc' c' kp e1 it => ?_
  · have e1 : Builtin.Range.rangeSize lo hi 1 = ((hi - lo).toNat : Int) := by rw [rangeSize_one]; split <;> omega
    unfold Builtin.Range.small
    rw [e1]
    have fl : ∀ i : Int, -(2 ^ 22) ≤ i → i < 2 ^ 22 → Builtin.Range.rangeFitsLong i = true := fun i h1 h2 => by
      unfold Builtin.Range.rangeFitsLong
      simp
      omega
    rw [fl lo (by omega) (by omega), fl hi (by omega) (by omega), fl 1 (by omega) (by omega), fl _ (by omega) (by omega), if_pos (by decide), fl (hi + (1 - 1)) (by omega) (by omega)]
    simp
  · rw [rangeSize_one]; split <;> omega
  · omega
  · refine ⟨.ref s.heap.objs.size, _, I.laid (t' := tk) kp (Nat.le_refl _) (show ObjOk X.prog X.w _ h' _ (.lst ((List.range (hi - lo).toNat).map fun i : Nat => V.int (lo + (i : Int)))) from ⟨?_, acc'.toList, c', items_ints it, e1⟩), rfl, q _ (I.hok.fresh (Nat.le_refl _))⟩
    rw [List.length_map, List.length_range]
    exact Nat.le_trans (show (hi - lo).toNat ≤ 2 ^ 21 by omega) (by decide)
section
variable {K : PySem.W.Frag}
theorem call_list_ofK (hK : X.K = K) : CallR X (.type "list") (fun xs H Q => ∃ p ys, xs = [.ref p] ∧ (SqL K H p ys ∨ SqT K H p ys) ∧ ∀ l, H l = none → Q (.ref l) (upd H l (.lst ys))) := by
  subst hK
  exact call_list_of
theorem call_sortedK (hK : X.K = K) : CallR X (.builtin "sorted") (fun xs H Q => ∃ (p : Addr) (ns : List Int), xs = [.ref p] ∧ SqL K H p (ns.map V.int) ∧ ns.length < 64 ∧ ∀ l ns', H l = none → ns'.Perm ns → List.Pairwise (fun x y => x ≤ y) ns' → Q (.ref l) (upd H l (.lst (ns'.map V.int)))) := by
  subst hK
  exact call_sorted
end
/-- a sorted row of all of the first n numbers is these in their order -/
theorem sorted_range {n : Nat} {ns ns' : List Int} (hp : ns'.Perm ns) (hs : List.Pairwise (fun x y => x ≤ y) ns') (h : ns.Perm ((List.range n).map fun i : Nat => (i : Int))) : ns' = (List.range n).map fun i : Nat => (i : Int) := by
  refine List.Perm.eq_of_pairwise (le := fun x y => x ≤ y) (fun a b _ _ h1 h2 => Int.le_antisymm h1 h2) hs ?_ (hp.trans h)
  rw [List.pairwise_map]
  exact List.pairwise_lt_range.imp fun h => by omega
end L2

set_option linter.all false
set_option maxRecDepth 100000
set_option maxHeartbeats 1000000
namespace L2
open PySem PySem.Spec PyProof.Rows
variable {X : Cx}
def rInsert : V → List V → Hp → VK → Prop := fun x vs H Q => ∃ (l : Addr) (xs : List V) (i : Int) (y : V), x = .ref l ∧ vs = [.int i, y] ∧ H l = some (.lst xs) ∧ 0 ≤ i ∧ i ≤ xs.length ∧ xs.length < 1000 ∧ Q .non (upd H l (.lst (xs.take i.toNat ++ y :: xs.drop i.toNat)))
theorem mt_insert : MtM X "list.insert" rInsert := by
  intro pins s σ H x vs v us Q I rx rv h
  obtain ⟨l, xs, i, y, rfl, rfl, hH, hi0, hk, hz, q⟩ := h
  cases rx
  obtain ⟨u, w, rfl, ⟨t, rfl⟩, rw'⟩ := vals2 rv
  obtain ⟨z, its, n, r, hl, e⟩ := I.lstM hH
  have fit : Builtin.List.listFitsIndex i = true := fitsIndex_both (by omega) (by omega)
  have hsz : its.length ≤ sizeLine := by
    have := line63
    omega
  refine call_meets F.slot_list_insert ⟨_, e, rfl⟩ F.entry_list_insert (F.args_list_insert_3 _ _ _) (AutoSeq1.list_insert_list_int_val_1 l its.toArray n i t w (by simp [fit]) (by rw [List.size_toArray]; exact hsz)) ⟨e, ?_⟩
  refine ⟨.non, _, I.lset (its' := its.take i.toNat ++ w :: its.drop i.toNat) hH e ?_ ((Vals.take i.toNat r).append (.cons rw' (Vals.drop i.toNat r))) ?_, rfl, q⟩
  · have e1 : ¬ (i < 0) := by omega
    have e2 : min i.toNat its.toArray.size = i.toNat := by
      rw [List.size_toArray]
      omega
    dsimp only
    rw [if_neg e1, e2]
    simp
    apply List.take_of_length_le
    rw [List.length_drop]
    exact Nat.le_refl _
  · rw [List.length_append, List.length_cons, List.length_take, List.length_drop]
    exact Nat.le_trans (show min i.toNat xs.length + (xs.length - i.toNat + 1) ≤ 1001 by omega) (by decide)
def rIndexI : V → List V → Hp → VK → Prop := fun x vs H Q => ∃ (l : Addr) (ns : List Int) (i : Int) (j : Nat), x = .ref l ∧ vs = [.int i] ∧ H l = some (.lst (ns.map V.int)) ∧ ns[j]? = some i ∧ (∀ m, m < j → ns[m]? ≠ some i) ∧ ns.length < 1000 ∧ Q (.int j) H
theorem mt_indexI : MtM X "list.index" rIndexI := by
  intro pins s σ H x vs v us Q I rx rv h
  obtain ⟨l, ns, i, j, rfl, rfl, hH, hj, hfirst, hz, q⟩ := h
  cases rx
  obtain ⟨u, rfl, ⟨t, rfl⟩⟩ := rv.one
  obtain ⟨z, its, n, r, hl, e⟩ := I.lstM hH
  rw [List.length_map] at hl
  have ia := ints_are r
  have hjl : j < ns.length := (List.getElem?_eq_some_iff.mp hj).1
  have item : ∀ m (hm : m < its.length), ∃ t, its[m] = Value.int (ns[m]'(by omega)) t := by
    have : ∀ {its : List Value} {ns : List Int}, IntsAre its ns → ∀ m (hm : m < its.length) (hn : m < ns.length), ∃ t, its[m] = Value.int ns[m] t := by
      intro its ns h
      induction h with
      | nil => intro m hm; cases hm
      | cons k t rs ih =>
        intro m hm hn
        cases m with
        | zero => exact ⟨t, rfl⟩
        | succ m => exact ih m (by simpa using hm) (by simpa using hn)
    intro m hm
    exact this ia m hm (by omega)
  let ev : Value → Bool := fun v => match v with | .int m _ => decide (m = i) | _ => false
  have hev : ∀ m (hm : m < its.length), ev its[m] = decide (ns[m]'(by omega) = i) := fun m hm => by
    obtain ⟨t, e⟩ := item m hm
    rw [e]
  refine call_meets F.slot_list_index ⟨_, e, rfl⟩ F.entry_list_index (F.args_list_index_2 _ _) (SeqAt.list_indexAt l its.toArray n none #[] (.int i t) ev j (by rw [List.size_toArray]; omega) (by omega) ?_ ?_) ⟨e, ?_, ?_⟩
  · have := hev j (by omega)
    simp only [List.getElem_toArray]
    rw [this]
    exact decide_eq_true (List.getElem?_eq_some_iff.mp hj).2
  · intro m hm hmj
    have := hev m (by rw [List.size_toArray] at hm; exact hm)
    simp only [List.getElem_toArray]
    rw [this]
    refine decide_eq_false fun z => hfirst m hmj ?_
    rw [List.getElem?_eq_getElem (by omega), z]
  · intro y hy
    have hy' : y ∈ its := by simpa using hy
    obtain ⟨m, hm, e1⟩ := List.getElem_of_mem hy'
    obtain ⟨t', e2⟩ := item m hm
    have e3 : y = Value.int (ns[m]'(by omega)) t' := e1.symm.trans e2
    rw [e3]
    exact eqAt_V (y := .int _) (x := .int i) ⟨t', rfl⟩ ⟨t, rfl⟩ rfl rfl
  · exact ⟨.int j, H, I.tok _, ⟨_, rfl⟩, q⟩
/-- an if that ends a try's body -/
theorem psx_if {c : Expr} {b o : List Stmt} {tc : TT} {tb to : TSX} {pos : Pos} (hc : PT X.nox c tc) (hb : PSX X b tb) (ho : PSX X o to) : PSX X [.If c b o pos] (fun D EX σ H => tc σ H fun k H1 => if k = true then tb D EX σ H1 else to D EX σ H1) := by
  intro pins s σ H D EX I h
  refine wpAny_execs_cons (wpAny_If (wpAny_mono (hc pins s σ H _ (I.wish _) h) (fun d s1 ⟨H1, I1, q1⟩ => ?_) fun _ _ z => False.elim z))
  have I2 := I1.unwish
  cases d with
  | true => exact wpAny_mono (hb pins s1 σ H1 D EX I2 q1) (fun f s2 q => by cases f <;> first | exact wpAny_execs_nil q | exact q) fun _ _ z => z
  | false => exact wpAny_mono (ho pins s1 σ H1 D EX I2 q1) (fun f s2 q => by cases f <;> first | exact wpAny_execs_nil q | exact q) fun _ _ z => z
end L2

set_option Elab.async false
set_option linter.all false
set_option maxRecDepth 100000
namespace L2
open PySem PySem.Spec PyProof.Rows

/-! ### a list that is unpacked: a, b, .. = list -/
theorem draw_list {prog : Program} {w : World} {A : Around} {E : Value → Shared → Prop} {it l : Addr} {items : Array Value} (hne : l ≠ it) :
    ∀ (n i : Nat) (s : Shared) (Q : List Value → Shared → Prop), s.heap.IsListIter it l i → s.heap.IsList l items → i + n ≤ items.size →
      (∀ h' : Heap, h'.IsListIter it l (i + n) → Heap.SameBut it s.heap h' → Q (List.take n (List.drop i items.toList)) { s with heap := h' }) → wpAny (model prog w) A (draw (Value.ref it) n) Q E s
  | 0, i, s, Q, hi, hl, hn, h => by
    rw [draw.eq_1]
    exact wpAny_pure (h s.heap hi (Heap.SameBut.refl _ _))
  | n + 1, i, s, Q, hi, hl, hn, h => by
    rw [draw.eq_2]
    obtain ⟨o, e1, e2, nn, e3⟩ := hl
    have hx : items[i]? = some items[i] := Array.getElem?_eq_getElem (by omega)
    refine wpAny_bind (wpAny_pyNext_list_item hi ⟨o, e1, e2, nn, e3⟩ hx fun h1 i1 s1 => ?_)
    dsimp only
    refine wpAny_bind (wpAny_holding (draw_list hne n (i + 1) _ _ i1 ⟨o, by rw [← e1]; exact s1.2 l hne, e2, nn, e3⟩ (by omega) fun h2 i2 s2 => wpAny_pure ?_))
    have e : List.take (n + 1) (List.drop i items.toList) = items[i] :: List.take n (List.drop (i + 1) items.toList) := by
      rw [List.drop_eq_getElem_cons (by simpa using (by omega : i < items.size))]
      rfl
    rw [← e]
    exact h h2 (by rw [show i + (n + 1) = i + 1 + n by omega]; exact i2) (Heap.SameBut.trans s1 s2)
theorem unpackItems_list {prog : Program} {w : World} {A : Around} {E : Value → Shared → Prop} {s : Shared} {l : Addr} {items : Array Value} {Q : List Value → Shared → Prop} (hh : A.handled = none) (hl : s.heap.IsList l items)
    (h : ∀ h' : Heap, Heap.ExtBut s.heap.objs.size s.heap h' → Q items.toList { s with heap := h' }) : wpAny (model prog w) A (unpackItems (Value.ref l) items.size none) Q E s := by
  obtain ⟨o, e1, e2, nn, e3⟩ := id hl
  have hlt : l ≠ s.heap.objs.size := Nat.ne_of_lt (Heap.lt_size e1)
  unfold unpackItems notIterableAtAll
  refine wpAny_bind (wpAny_bind (wpAny_specialOf ⟨o, e1, e2⟩ slot_list_iter.lookup (wpAny_ite_true rfl (wpAny_pure ?_))))
  refine wpAny_ite_false rfl ?_
  refine wpAny_bind (wpAny_holding (wpAny_pyIter_list hl ?_))
  dsimp only
  have hl2 : (s.heap.push { cls := Value.type "list_iterator", data := Data.fields #[Value.ref l, Value.int 0 0] }).IsList l items := ⟨o, Heap.get?_push_of_some _ e1, e2, nn, e3⟩
  have hi2 : (s.heap.push { cls := Value.type "list_iterator", data := Data.fields #[Value.ref l, Value.int 0 0] }).IsListIter s.heap.objs.size l 0 := ⟨_, Heap.get?_push_size _ rfl, rfl, rfl⟩
  refine wpAny_bind (wpAny_holding (draw_list hlt items.size 0 _ _ hi2 hl2 (by omega) fun h1 i1 s1 => ?_))
  have hall : List.take items.size (List.drop 0 items.toList) = items.toList := by
    rw [List.drop_zero]
    exact List.take_of_length_le (by simp)
  rw [hall]
  refine wpAny_ite_false (by simp) ?_
  have hl3 : h1.IsList l items := ⟨o, (s1.2 l hlt).trans (Heap.get?_push_of_some _ e1), e2, nn, e3⟩
  refine wpAny_bind (wpAny_holding (wpAny_pyNext_list_end hh i1 hl3 (by simp) fun h2 x2 => ?_))
  refine wpAny_ite_false rfl (wpAny_pure (h h2 fun b o' hb e => ?_))
  refine x2 b o' hb ?_
  show h1.get? b = _
  rw [s1.2 b hb]
  exact Heap.get?_push_of_some _ e
section
variable {X : Cx} {pos : Pos}
def gTupL (K : PySem.W.Frag) (n : Nat) (t : TGs) : TG := fun v σ H Q => ∃ a xs, v = .ref a ∧ SqL K H a xs ∧ xs.length = n ∧ t xs σ H Q
theorem pg_tupL {es : List Expr} {k : Nat} {t : TGs} {n : Nat} (hc : X.calm = true) (h : PGs X es t)
    (hn : (assignEach es X.env).length = n := by rfl) (hst : (assignEach es X.env).findIdx? (·.1) = none := by rfl) : PG X (.Tuple es k pos) (gTupL X.K n t) := by
  intro pins s σ H v u Q I r hw
  obtain ⟨a, xs, e1, hq, hl, hw⟩ := hw
  subst e1
  cases r
  obtain ⟨its, rv, ht, hz⟩ := I.list hq
  rw [assign_Tuple]
  refine wpAny_bind (wpAny_standAt ?_)
  unfold unpack
  have hsz : (assignEach es X.env).length = its.toArray.size := by simp [hn, ← hl, rv.length]
  rw [hsz, hst]
  obtain ⟨o, nn, e1, e2, e3, e4⟩ := ht
  refine wpAny_bind (wpAny_holding (unpackItems_list (I.ok.hd hc) ⟨o, e1, e2, nn, by first | exact e3 | exact e4⟩ fun h' hx => ?_))
  have I1 : Inv X pins σ H { s with heap := h' } := I.kept (t' := s.toks) fun b o e => hx b o (Nat.ne_of_lt (Heap.lt_size e)) e
  exact h pins _ σ H xs _ Q I1 (by simpa using rv) hw
end
/-! ### f"{..}" of a list of whole numbers -/
theorem textFrom_len : ∀ (ts : List Str) (i : Nat) (acc : Str) (m : Nat), (∀ t ∈ ts, t.length ≤ m) → (textFrom i acc ts).length ≤ acc.length + ts.length * (m + 2)
  | [], i, acc, m, _ => by rw [textFrom.eq_1]; simp
  | t :: ts, i, acc, m, h => by
    rw [textFrom.eq_2]
    refine Nat.le_trans (textFrom_len ts (i + 1) _ m fun u hu => h u (List.mem_cons_of_mem _ hu)) ?_
    have h1 := h t List.mem_cons_self
    have h2 : (Str.ofString (if i > 0 then ", " else "")).length ≤ 2 := by
      split <;> decide
    rw [Str.length_append, Str.length_append, List.length_cons, Nat.add_mul, Nat.one_mul]
    omega
theorem listText_len {ts : List Str} (h : ∀ t ∈ ts, t.length ≤ 1921) (hn : ts.length ≤ 16) : (listText ts).length ≤ 40000 := by
  unfold listText
  rw [Str.length_append]
  have h1 := textFrom_len ts 0 (Str.ofString "[") 1921 h
  have h2 : (Str.ofString "[").length = 1 := by decide
  have h3 : (Str.ofString "]").length = 1 := by decide
  have h4 : ts.length * (1921 + 2) ≤ 16 * (1921 + 2) := Nat.mul_le_mul_right _ hn
  omega
section
variable {X : Cx} {e : Expr} {es : List Expr} {n : Nat} {te : TE} {t : TJ} {pos : Pos}
theorem pj_lst (hg : X.A.guards = some []) (hu : X.A.units + 64 < cLine) (he : PE X e te) (hr : PJ X es n t) : PJ X (.FormattedValue e (-1) none pos :: es) (40000 + n) (fun σ H Q => te σ H fun v H1 => ∃ (p : Addr) (ns : List Int), v = .ref p ∧ SqL X.K H1 p (ns.map V.int) ∧ ns.length ≤ 16 ∧ (∀ i ∈ ns, i.natAbs.log2 < 1920) ∧ t σ H1 Q) := by
  intro pins s σ H out m Q I hl hm h
  show wpAny _ _ (eval (.FormattedValue e (-1) none pos) X.env) _ _ s
  refine wpAny_FormattedValue_plain (thn (he pins s σ H _ I h) fun u s1 ⟨v, H1, I1, r, p, ns, ev, hq, hn, hs, q⟩ => ?_)
  subst ev
  cases r
  obtain ⟨its, rv, ⟨o, nn, e1, e2, e3, e4⟩, hz⟩ := I1.list hq
  have hlen : its.length = ns.length := by rw [← rv.length, List.length_map]
  have at' : ∀ i y, its[i]? = some y → ∃ z, ns[i]? = some z ∧ ∃ tk, y = Value.int z tk := fun i y hy => by
    have hi : i < ns.length := by rw [← hlen]; exact (List.getElem?_eq_some_iff.mp hy).1
    refine ⟨ns[i], List.getElem?_eq_getElem hi, ?_⟩
    obtain ⟨u, hu, ru⟩ := rv.get (i := i) (x := V.int ns[i]) (by rw [List.getElem?_map, List.getElem?_eq_getElem hi]; rfl)
    rw [hy] at hu
    cases hu
    exact ru
  have fin : ∀ (y : Str) (h' : Heap) (tk : Nat) (k : Tok), y.length ≤ 40000 → (∀ b o, s1.heap.get? b = some o → h'.get? b = some o) → ∃ y' t', Value.str y k = Value.str y' t' ∧ (out ++ y').length ≤ sizeLine ∧ Joins (model X.prog X.w) X.A X.xe (evalEach es X.env) (out ++ y') (fun o s' => o.length ≤ m ∧ ∃ H', Inv X pins σ H' s' ∧ Q H') { s1 with heap := h', toks := tk } := fun y h' tk k hy kp =>
    ⟨y, k, rfl, by rw [Str.length_append]; omega, hr pins _ σ H1 (out ++ y) m Q (I1.kept (t' := tk) kp) (by rw [Str.length_append]; omega) hm q⟩
  refine wpAny_formatField_slot (fun y t z => nomatch z) (by omega) ⟨o, e1, e2⟩ F.slot_list_format F.slot_list_str F.slot_list_repr.toG ?_
  cases its with
  | nil =>
    refine call_list_repr_empty ⟨o, e1, e2⟩ e1 e4 ⟨_, _, rfl, ?_⟩
    exact fin _ s1.heap _ _ (by decide) fun b o e => e
  | cons x l =>
    refine call_list_reprK (as := []) (h₀ := s1.heap) (d := 0) (ts := ns.map fun i => Str.ofString (toString i)) e1 e2 e4 (by simp) (by rw [List.length_map, ← hlen]; simp) (fun i y hy => ?_) hg (fun b _ id v rest kw hm => by simp at hm) (by show X.A.units + 1 + 1 + _ < _; omega) (fun b o e => e) (fun h' u tk kp => ?_) ?_
    · obtain ⟨z, hz', tk, rfl⟩ := at' i y (by simpa using hy)
      exact ⟨_, by rw [List.getElem?_map, hz']; rfl, ReprK.of_is (ReprIs.int tk (hs z (List.mem_of_getElem? hz'))) _ _ _⟩
    · refine ⟨_, _, rfl, fin _ h' tk u ?_ kp⟩
      refine listText_len (fun t ht => ?_) (by rw [List.length_map]; exact hn)
      obtain ⟨i, hi, rfl⟩ := List.mem_map.mp ht
      exact int_len (hs i hi)
    · refine Nat.le_trans (listText_len (fun t ht => ?_) (by rw [List.length_map]; exact hn)) (by decide)
      obtain ⟨i, hi, rfl⟩ := List.mem_map.mp ht
      exact int_len (hs i hi)
end
end L2

namespace GF
end GF

namespace My
open PySem L2 PyProof.Rows
set_option maxRecDepth 100000
set_option maxHeartbeats 1000000
def top (i : Nat) : Stmt := PySem.Challenge.pw_spareplank_k14_shapes_refused.main.body.getD i (.Pass ⟨0, 0, 0, 0⟩)
abbrev s_check_counts : Stmt := top 11
abbrev s_check_turns : Stmt := top 12
abbrev s_Shape_init : Stmt := inClass (top 13) 0
abbrev s_cell : Stmt := top 15
abbrev s_whole : Stmt := top 16
abbrev s_turn : Stmt := top 17
abbrev s_spoiled : Stmt := top 18
abbrev s_any : Stmt := top 19
abbrev s_numbers : Stmt := top 20
abbrev s_turns : Stmt := top 21
abbrev s_good : Stmt := top 22
abbrev s_refused : Stmt := top 23
abbrev s_law : Stmt := top 24
theorem sc_check_counts : FnScope ["data", "planks", "stripes"] ["data", "planks", "stripes"] (defScope s_check_counts) := ⟨rfl, rfl, rfl, by decide +kernel, rfl, by decide +kernel, by decide +kernel⟩
theorem sc_check_turns : FnScope ["planks", "turns", "turn"] ["planks", "turns"] (defScope s_check_turns) := ⟨rfl, rfl, rfl, by decide +kernel, rfl, by decide +kernel, by decide +kernel⟩
theorem sc_Shape_init : FnScope ["self", "data", "planks", "stripes", "turns"] ["self", "data", "planks", "stripes", "turns"] (defScope s_Shape_init) := ⟨rfl, rfl, rfl, by decide +kernel, rfl, by decide +kernel, by decide +kernel⟩
theorem sc_cell : FnScope ["_law_script", "_law_k"] ["_law_script", "_law_k"] (defScope s_cell) := ⟨rfl, rfl, rfl, by decide +kernel, rfl, by decide +kernel, by decide +kernel⟩
theorem sc_whole : FnScope ["_law_found"] ["_law_found"] (defScope s_whole) := ⟨rfl, rfl, rfl, by decide +kernel, rfl, by decide +kernel, by decide +kernel⟩
theorem sc_turn : FnScope ["_law_cell_here", "_law_planks", "_law_left", "_law_row", "_law_plank"] ["_law_cell_here", "_law_planks"] (defScope s_turn) := ⟨rfl, rfl, rfl, by decide +kernel, rfl, by decide +kernel, by decide +kernel⟩
theorem sc_spoiled : FnScope ["_law_row", "_law_planks", "_law_cell_here", "_law_way", "_law_at", "_law_other"] ["_law_row", "_law_planks", "_law_cell_here"] (defScope s_spoiled) := ⟨rfl, rfl, rfl, by decide +kernel, rfl, by decide +kernel, by decide +kernel⟩
theorem sc_any : FnScope ["_law_cell_here", "_law_low", "_law_high"] ["_law_cell_here", "_law_low", "_law_high"] (defScope s_any) := ⟨rfl, rfl, rfl, by decide +kernel, rfl, by decide +kernel, by decide +kernel⟩
theorem sc_numbers : FnScope ["_law_script", "_law_first", "_law_second", "_law_numbers_here", "_law_fault"] ["_law_script"] (defScope s_numbers) := ⟨rfl, rfl, rfl, by decide +kernel, rfl, by decide +kernel, by decide +kernel⟩
theorem sc_turns : FnScope ["_law_script", "_law_planks", "_law_many", "_law_turns_here", "_law_k", "_law_at"] ["_law_script", "_law_planks", "_law_many"] (defScope s_turns) := ⟨rfl, rfl, rfl, by decide +kernel, rfl, by decide +kernel, by decide +kernel⟩
theorem sc_good : FnScope ["_law_data", "_law_planks", "_law_stripes", "_law_turns_here", "_law_row"] ["_law_data", "_law_planks", "_law_stripes", "_law_turns_here"] (defScope s_good) := ⟨rfl, rfl, rfl, by decide +kernel, rfl, by decide +kernel, by decide +kernel⟩
theorem sc_refused : FnScope ["_law_data", "_law_planks", "_law_stripes", "_law_turns_here", "e"] ["_law_data", "_law_planks", "_law_stripes", "_law_turns_here"] (defScope s_refused) := ⟨rfl, rfl, rfl, by decide +kernel, rfl, by decide +kernel, by decide +kernel⟩
theorem sc_law : FnScope ["_law_script", "_law_data", "_law_planks", "_law_stripes", "_law_many", "_law_turns_here", "_law_handed", "_law_shape", "_law_found", "_law_number"] ["_law_script"] (defScope s_law) := ⟨rfl, rfl, rfl, by decide +kernel, rfl, by decide +kernel, by decide +kernel⟩
structure Adr where
  C_Shape : Addr
  C_PlankError : Addr
  C_NoShape : Addr
  C_NoPlace : Addr
  f_check_counts : Addr
  d_check_counts : FuncData
  f_check_turns : Addr
  d_check_turns : FuncData
  f_Shape_init : Addr
  d_Shape_init : FuncData
  f_cell : Addr
  d_cell : FuncData
  f_whole : Addr
  d_whole : FuncData
  f_turn : Addr
  d_turn : FuncData
  f_spoiled : Addr
  d_spoiled : FuncData
  f_any : Addr
  d_any : FuncData
  f_numbers : Addr
  d_numbers : FuncData
  f_turns : Addr
  d_turns : FuncData
  f_good : Addr
  d_good : FuncData
  f_refused : Addr
  d_refused : FuncData
  f_law : Addr
  d_law : FuncData
  t_MOST_TURNS : Tok
  t_MOST_STRIPES : Tok
  t_MOST_SUMS : Tok
  t_MOST_PLANKS : Tok
  t_LEAST_PLANKS : Tok
structure Txt (K : PySem.W.Frag) (mg : Str → Option Value) (a : Adr) : Prop where
  cl_Shape : Cls K a.C_Shape
  m_Shape : mg "Shape" = some (.ref a.C_Shape)
  no_Shape_data : NoAttr K a.C_Shape "data"
  no_Shape_planks : NoAttr K a.C_Shape "planks"
  no_Shape_stripes : NoAttr K a.C_Shape "stripes"
  no_Shape_size : NoAttr K a.C_Shape "size"
  no_Shape_turns : NoAttr K a.C_Shape "turns"
  mk_Shape : Mk K a.C_Shape a.f_Shape_init
  F_check_counts : Fun K "check_counts" "check_counts" s_check_counts a.f_check_counts a.d_check_counts
  b_check_counts : Binds K a.d_check_counts ["data", "planks", "stripes"] []
  k_check_counts : PySem.W.keepIn K (.ref a.f_check_counts) = true
  m_check_counts : mg "check_counts" = some (.ref a.f_check_counts)
  F_check_turns : Fun K "check_turns" "check_turns" s_check_turns a.f_check_turns a.d_check_turns
  b_check_turns : Binds K a.d_check_turns ["planks", "turns"] []
  k_check_turns : PySem.W.keepIn K (.ref a.f_check_turns) = true
  m_check_turns : mg "check_turns" = some (.ref a.f_check_turns)
  F_Shape_init : Fun K "__init__" "Shape.__init__" s_Shape_init a.f_Shape_init a.d_Shape_init
  b_Shape_init : Binds K a.d_Shape_init ["self", "data", "planks", "stripes", "turns"] []
  k_Shape_init : PySem.W.keepIn K (.ref a.f_Shape_init) = true
  me_Shape_init : Meth K a.C_Shape "__init__" a.f_Shape_init
  F_cell : Fun K "_law_cell" "_law_cell" s_cell a.f_cell a.d_cell
  b_cell : Binds K a.d_cell ["_law_script", "_law_k"] []
  k_cell : PySem.W.keepIn K (.ref a.f_cell) = true
  m_cell : mg "_law_cell" = some (.ref a.f_cell)
  F_whole : Fun K "_law_whole" "_law_whole" s_whole a.f_whole a.d_whole
  b_whole : Binds K a.d_whole ["_law_found"] []
  k_whole : PySem.W.keepIn K (.ref a.f_whole) = true
  m_whole : mg "_law_whole" = some (.ref a.f_whole)
  F_turn : Fun K "_law_turn" "_law_turn" s_turn a.f_turn a.d_turn
  b_turn : Binds K a.d_turn ["_law_cell_here", "_law_planks"] []
  k_turn : PySem.W.keepIn K (.ref a.f_turn) = true
  m_turn : mg "_law_turn" = some (.ref a.f_turn)
  F_spoiled : Fun K "_law_spoiled" "_law_spoiled" s_spoiled a.f_spoiled a.d_spoiled
  b_spoiled : Binds K a.d_spoiled ["_law_row", "_law_planks", "_law_cell_here"] []
  k_spoiled : PySem.W.keepIn K (.ref a.f_spoiled) = true
  m_spoiled : mg "_law_spoiled" = some (.ref a.f_spoiled)
  F_any : Fun K "_law_any" "_law_any" s_any a.f_any a.d_any
  b_any : Binds K a.d_any ["_law_cell_here", "_law_low", "_law_high"] []
  k_any : PySem.W.keepIn K (.ref a.f_any) = true
  m_any : mg "_law_any" = some (.ref a.f_any)
  F_numbers : Fun K "_law_numbers" "_law_numbers" s_numbers a.f_numbers a.d_numbers
  b_numbers : Binds K a.d_numbers ["_law_script"] []
  k_numbers : PySem.W.keepIn K (.ref a.f_numbers) = true
  m_numbers : mg "_law_numbers" = some (.ref a.f_numbers)
  F_turns : Fun K "_law_turns" "_law_turns" s_turns a.f_turns a.d_turns
  b_turns : Binds K a.d_turns ["_law_script", "_law_planks", "_law_many"] []
  k_turns : PySem.W.keepIn K (.ref a.f_turns) = true
  m_turns : mg "_law_turns" = some (.ref a.f_turns)
  F_good : Fun K "_law_good" "_law_good" s_good a.f_good a.d_good
  b_good : Binds K a.d_good ["_law_data", "_law_planks", "_law_stripes", "_law_turns_here"] []
  k_good : PySem.W.keepIn K (.ref a.f_good) = true
  m_good : mg "_law_good" = some (.ref a.f_good)
  F_refused : Fun K "_law_refused" "_law_refused" s_refused a.f_refused a.d_refused
  b_refused : Binds K a.d_refused ["_law_data", "_law_planks", "_law_stripes", "_law_turns_here"] []
  k_refused : PySem.W.keepIn K (.ref a.f_refused) = true
  m_refused : mg "_law_refused" = some (.ref a.f_refused)
  F_law : Fun K "law" "law" s_law a.f_law a.d_law
  b_law : Binds K a.d_law ["_law_script"] []
  k_law : PySem.W.keepIn K (.ref a.f_law) = true
  m_law : mg "law" = some (.ref a.f_law)
  m_PlankError : mg "PlankError" = some (.ref a.C_PlankError)
  m_NoShape : mg "NoShape" = some (.ref a.C_NoShape)
  m_NoPlace : mg "NoPlace" = some (.ref a.C_NoPlace)
  xc_NoShape : xcIn K a.C_NoShape a.C_PlankError = true
  xi_NoShape : XIn K a.C_NoShape a.C_PlankError
  ex_NoShape_PlankError : PySem.W.exmOne K (.ref a.C_NoShape) (.ref a.C_PlankError) = some true
  ko_NoShape_NoShape : PySem.W.kitOne K (.ref a.C_NoShape) (.ref a.C_NoShape) = some true
  ko_NoShape_NoPlace : PySem.W.kitOne K (.ref a.C_NoShape) (.ref a.C_NoPlace) = some false
  kv_NoShape : PySem.W.kitOne K (.ref a.C_NoShape) (.type "ValueError") = some true
  n_len : mg "len" = none
  n_sorted : mg "sorted" = none
  n_list : mg "list" = none
  n_range : mg "range" = none
  n_isinstance : mg "isinstance" = none
  n_int : mg "int" = none
  n_bool : mg "bool" = none
  n_ValueError : mg "ValueError" = none
  v_LEAST_PLANKS : mg "LEAST_PLANKS" = some (.int 2 a.t_LEAST_PLANKS)
  v_MOST_PLANKS : mg "MOST_PLANKS" = some (.int 8 a.t_MOST_PLANKS)
  v_MOST_SUMS : mg "MOST_SUMS" = some (.int 2 a.t_MOST_SUMS)
  v_MOST_STRIPES : mg "MOST_STRIPES" = some (.int 32 a.t_MOST_STRIPES)
  v_MOST_TURNS : mg "MOST_TURNS" = some (.int 16 a.t_MOST_TURNS)
theorem txt_mk {K : PySem.W.Frag} {h : Heap} {mg : Str → Option Value} {C_Shape C_PlankError C_NoShape C_NoPlace f_check_counts f_check_turns f_Shape_init f_cell f_whole f_turn f_spoiled f_any f_numbers f_turns f_good f_refused f_law : Addr} (X : K.In h) (G : h.Ns mainGlobals mg)
    {t_LEAST_PLANKS t_MOST_PLANKS t_MOST_SUMS t_MOST_STRIPES t_MOST_TURNS : Tok} {od_check_counts an_check_counts : Option Addr} {sl_check_counts : Array (Option Value)} {oc_check_counts kV_check_counts dc_check_counts pm_check_counts cd_check_counts ct_check_counts : Value}
    {od_check_turns an_check_turns : Option Addr} {sl_check_turns : Array (Option Value)} {oc_check_turns kV_check_turns dc_check_turns pm_check_turns cd_check_turns ct_check_turns : Value}
    {od_Shape_init an_Shape_init : Option Addr} {sl_Shape_init : Array (Option Value)} {oc_Shape_init kV_Shape_init dc_Shape_init pm_Shape_init cd_Shape_init ct_Shape_init : Value}
    {od_cell an_cell : Option Addr} {sl_cell : Array (Option Value)} {oc_cell kV_cell dc_cell pm_cell cd_cell ct_cell : Value}
    {od_whole an_whole : Option Addr} {sl_whole : Array (Option Value)} {oc_whole kV_whole dc_whole pm_whole cd_whole ct_whole : Value}
    {od_turn an_turn : Option Addr} {sl_turn : Array (Option Value)} {oc_turn kV_turn dc_turn pm_turn cd_turn ct_turn : Value}
    {od_spoiled an_spoiled : Option Addr} {sl_spoiled : Array (Option Value)} {oc_spoiled kV_spoiled dc_spoiled pm_spoiled cd_spoiled ct_spoiled : Value}
    {od_any an_any : Option Addr} {sl_any : Array (Option Value)} {oc_any kV_any dc_any pm_any cd_any ct_any : Value}
    {od_numbers an_numbers : Option Addr} {sl_numbers : Array (Option Value)} {oc_numbers kV_numbers dc_numbers pm_numbers cd_numbers ct_numbers : Value}
    {od_turns an_turns : Option Addr} {sl_turns : Array (Option Value)} {oc_turns kV_turns dc_turns pm_turns cd_turns ct_turns : Value}
    {od_good an_good : Option Addr} {sl_good : Array (Option Value)} {oc_good kV_good dc_good pm_good cd_good ct_good : Value}
    {od_refused an_refused : Option Addr} {sl_refused : Array (Option Value)} {oc_refused kV_refused dc_refused pm_refused cd_refused ct_refused : Value}
    {od_law an_law : Option Addr} {sl_law : Array (Option Value)} {oc_law kV_law dc_law pm_law cd_law ct_law : Value}
    (a_Shape : PySem.W.nsIn K mainGlobals "Shape" = some (some (.ref C_Shape)))
    (pg_Shape : PySem.W.plainGet K C_Shape Str.empty = true)
    (hd_Shape : PySem.W.hasDictIn K C_Shape = true)
    (po_Shape : PySem.W.plainOver K C_Shape = true)
    (sa_Shape : PySem.W.findIn K (.ref C_Shape) "__setattr__" = some (some (.builtin "object.__setattr__")))
    (no_Shape_data : PySem.W.findIn K (.ref C_Shape) "data" = some none)
    (no_Shape_planks : PySem.W.findIn K (.ref C_Shape) "planks" = some none)
    (no_Shape_stripes : PySem.W.findIn K (.ref C_Shape) "stripes" = some none)
    (no_Shape_size : PySem.W.findIn K (.ref C_Shape) "size" = some none)
    (no_Shape_turns : PySem.W.findIn K (.ref C_Shape) "turns" = some none)
    (mk_Shape : PySem.W.makesIn K C_Shape = true)
    (kc_Shape : PySem.W.keepIn K (.ref C_Shape) = true)
    (a_PlankError : PySem.W.nsIn K mainGlobals "PlankError" = some (some (.ref C_PlankError)))
    (a_NoShape : PySem.W.nsIn K mainGlobals "NoShape" = some (some (.ref C_NoShape)))
    (a_NoPlace : PySem.W.nsIn K mainGlobals "NoPlace" = some (some (.ref C_NoPlace)))
    (a_check_counts : PySem.W.nsIn K mainGlobals "check_counts" = some (some (.ref f_check_counts)))
    (l_check_counts : K.lookup f_check_counts = some ⟨oc_check_counts, od_check_counts, .func (PySem.W.fnOf "check_counts" "check_counts" (defArgs s_check_counts) (defBody s_check_counts) (defScope s_check_counts) .none kV_check_counts dc_check_counts pm_check_counts an_check_counts cd_check_counts ct_check_counts), sl_check_counts⟩)
    (c_check_counts : PySem.W.codeIn K cd_check_counts "check_counts" = true)
    (k_check_counts : PySem.W.keepIn K (.ref f_check_counts) = true)
    (a_check_turns : PySem.W.nsIn K mainGlobals "check_turns" = some (some (.ref f_check_turns)))
    (l_check_turns : K.lookup f_check_turns = some ⟨oc_check_turns, od_check_turns, .func (PySem.W.fnOf "check_turns" "check_turns" (defArgs s_check_turns) (defBody s_check_turns) (defScope s_check_turns) .none kV_check_turns dc_check_turns pm_check_turns an_check_turns cd_check_turns ct_check_turns), sl_check_turns⟩)
    (c_check_turns : PySem.W.codeIn K cd_check_turns "check_turns" = true)
    (k_check_turns : PySem.W.keepIn K (.ref f_check_turns) = true)
    (a_Shape_init : PySem.W.findIn K (.ref C_Shape) "__init__" = some (some (.ref f_Shape_init)))
    (i_Shape_init : PySem.W.isFn K (.ref f_Shape_init) = true)
    (l_Shape_init : K.lookup f_Shape_init = some ⟨oc_Shape_init, od_Shape_init, .func (PySem.W.fnOf "__init__" "Shape.__init__" (defArgs s_Shape_init) (defBody s_Shape_init) (defScope s_Shape_init) .none kV_Shape_init dc_Shape_init pm_Shape_init an_Shape_init cd_Shape_init ct_Shape_init), sl_Shape_init⟩)
    (c_Shape_init : PySem.W.codeIn K cd_Shape_init "Shape.__init__" = true)
    (k_Shape_init : PySem.W.keepIn K (.ref f_Shape_init) = true)
    (a_cell : PySem.W.nsIn K mainGlobals "_law_cell" = some (some (.ref f_cell)))
    (l_cell : K.lookup f_cell = some ⟨oc_cell, od_cell, .func (PySem.W.fnOf "_law_cell" "_law_cell" (defArgs s_cell) (defBody s_cell) (defScope s_cell) .none kV_cell dc_cell pm_cell an_cell cd_cell ct_cell), sl_cell⟩)
    (c_cell : PySem.W.codeIn K cd_cell "_law_cell" = true)
    (k_cell : PySem.W.keepIn K (.ref f_cell) = true)
    (a_whole : PySem.W.nsIn K mainGlobals "_law_whole" = some (some (.ref f_whole)))
    (l_whole : K.lookup f_whole = some ⟨oc_whole, od_whole, .func (PySem.W.fnOf "_law_whole" "_law_whole" (defArgs s_whole) (defBody s_whole) (defScope s_whole) .none kV_whole dc_whole pm_whole an_whole cd_whole ct_whole), sl_whole⟩)
    (c_whole : PySem.W.codeIn K cd_whole "_law_whole" = true)
    (k_whole : PySem.W.keepIn K (.ref f_whole) = true)
    (a_turn : PySem.W.nsIn K mainGlobals "_law_turn" = some (some (.ref f_turn)))
    (l_turn : K.lookup f_turn = some ⟨oc_turn, od_turn, .func (PySem.W.fnOf "_law_turn" "_law_turn" (defArgs s_turn) (defBody s_turn) (defScope s_turn) .none kV_turn dc_turn pm_turn an_turn cd_turn ct_turn), sl_turn⟩)
    (c_turn : PySem.W.codeIn K cd_turn "_law_turn" = true)
    (k_turn : PySem.W.keepIn K (.ref f_turn) = true)
    (a_spoiled : PySem.W.nsIn K mainGlobals "_law_spoiled" = some (some (.ref f_spoiled)))
    (l_spoiled : K.lookup f_spoiled = some ⟨oc_spoiled, od_spoiled, .func (PySem.W.fnOf "_law_spoiled" "_law_spoiled" (defArgs s_spoiled) (defBody s_spoiled) (defScope s_spoiled) .none kV_spoiled dc_spoiled pm_spoiled an_spoiled cd_spoiled ct_spoiled), sl_spoiled⟩)
    (c_spoiled : PySem.W.codeIn K cd_spoiled "_law_spoiled" = true)
    (k_spoiled : PySem.W.keepIn K (.ref f_spoiled) = true)
    (a_any : PySem.W.nsIn K mainGlobals "_law_any" = some (some (.ref f_any)))
    (l_any : K.lookup f_any = some ⟨oc_any, od_any, .func (PySem.W.fnOf "_law_any" "_law_any" (defArgs s_any) (defBody s_any) (defScope s_any) .none kV_any dc_any pm_any an_any cd_any ct_any), sl_any⟩)
    (c_any : PySem.W.codeIn K cd_any "_law_any" = true)
    (k_any : PySem.W.keepIn K (.ref f_any) = true)
    (a_numbers : PySem.W.nsIn K mainGlobals "_law_numbers" = some (some (.ref f_numbers)))
    (l_numbers : K.lookup f_numbers = some ⟨oc_numbers, od_numbers, .func (PySem.W.fnOf "_law_numbers" "_law_numbers" (defArgs s_numbers) (defBody s_numbers) (defScope s_numbers) .none kV_numbers dc_numbers pm_numbers an_numbers cd_numbers ct_numbers), sl_numbers⟩)
    (c_numbers : PySem.W.codeIn K cd_numbers "_law_numbers" = true)
    (k_numbers : PySem.W.keepIn K (.ref f_numbers) = true)
    (a_turns : PySem.W.nsIn K mainGlobals "_law_turns" = some (some (.ref f_turns)))
    (l_turns : K.lookup f_turns = some ⟨oc_turns, od_turns, .func (PySem.W.fnOf "_law_turns" "_law_turns" (defArgs s_turns) (defBody s_turns) (defScope s_turns) .none kV_turns dc_turns pm_turns an_turns cd_turns ct_turns), sl_turns⟩)
    (c_turns : PySem.W.codeIn K cd_turns "_law_turns" = true)
    (k_turns : PySem.W.keepIn K (.ref f_turns) = true)
    (a_good : PySem.W.nsIn K mainGlobals "_law_good" = some (some (.ref f_good)))
    (l_good : K.lookup f_good = some ⟨oc_good, od_good, .func (PySem.W.fnOf "_law_good" "_law_good" (defArgs s_good) (defBody s_good) (defScope s_good) .none kV_good dc_good pm_good an_good cd_good ct_good), sl_good⟩)
    (c_good : PySem.W.codeIn K cd_good "_law_good" = true)
    (k_good : PySem.W.keepIn K (.ref f_good) = true)
    (a_refused : PySem.W.nsIn K mainGlobals "_law_refused" = some (some (.ref f_refused)))
    (l_refused : K.lookup f_refused = some ⟨oc_refused, od_refused, .func (PySem.W.fnOf "_law_refused" "_law_refused" (defArgs s_refused) (defBody s_refused) (defScope s_refused) .none kV_refused dc_refused pm_refused an_refused cd_refused ct_refused), sl_refused⟩)
    (c_refused : PySem.W.codeIn K cd_refused "_law_refused" = true)
    (k_refused : PySem.W.keepIn K (.ref f_refused) = true)
    (a_law : PySem.W.nsIn K mainGlobals "law" = some (some (.ref f_law)))
    (l_law : K.lookup f_law = some ⟨oc_law, od_law, .func (PySem.W.fnOf "law" "law" (defArgs s_law) (defBody s_law) (defScope s_law) .none kV_law dc_law pm_law an_law cd_law ct_law), sl_law⟩)
    (c_law : PySem.W.codeIn K cd_law "law" = true)
    (k_law : PySem.W.keepIn K (.ref f_law) = true)
    (xc_NoShape : xcIn K C_NoShape C_PlankError = true)
    (xcls_NoShape : xqIn K C_NoShape C_PlankError = true)
    (xga_NoShape : PySem.W.findIn K (.ref C_NoShape) "__getattribute__" = some (some (.builtin "BaseException.__getattribute__")))
    (xgt_NoShape : PySem.W.findIn K (.ref C_NoShape) "__getattr__" = some none)
    (xca_NoShape : PySem.W.findIn K (.ref C_NoShape) "__class__" = some (some (.builtin "object.__class__")))
    (xhn_NoShape : PySem.W.specialIn K (.builtin "object.__class__") "__get__" = some (some (.builtin "getset_descriptor.__get__")))
    (xtk_NoShape : PySem.W.takesIn K (.builtin "object.__class__") = some true)
    (xmo_NoShape : PySem.W.mroIn K C_NoShape (.type "object") = some true)
    (xkc_NoShape : PySem.W.kitCls K (.ref C_NoShape) (.ref C_NoShape) = some true)
    (ex_NoShape_PlankError : PySem.W.exmOne K (.ref C_NoShape) (.ref C_PlankError) = some true)
    (ko_NoShape_NoShape : PySem.W.kitOne K (.ref C_NoShape) (.ref C_NoShape) = some true)
    (ko_NoShape_NoPlace : PySem.W.kitOne K (.ref C_NoShape) (.ref C_NoPlace) = some false)
    (kv_NoShape : PySem.W.kitOne K (.ref C_NoShape) (.type "ValueError") = some true)
    (z_len : PySem.W.nsIn K mainGlobals "len" = some none)
    (z_sorted : PySem.W.nsIn K mainGlobals "sorted" = some none)
    (z_list : PySem.W.nsIn K mainGlobals "list" = some none)
    (z_range : PySem.W.nsIn K mainGlobals "range" = some none)
    (z_isinstance : PySem.W.nsIn K mainGlobals "isinstance" = some none)
    (z_int : PySem.W.nsIn K mainGlobals "int" = some none)
    (z_bool : PySem.W.nsIn K mainGlobals "bool" = some none)
    (z_ValueError : PySem.W.nsIn K mainGlobals "ValueError" = some none)
    (v_LEAST_PLANKS : PySem.W.nsIn K mainGlobals "LEAST_PLANKS" = some (some (.int 2 t_LEAST_PLANKS)))
    (v_MOST_PLANKS : PySem.W.nsIn K mainGlobals "MOST_PLANKS" = some (some (.int 8 t_MOST_PLANKS)))
    (v_MOST_SUMS : PySem.W.nsIn K mainGlobals "MOST_SUMS" = some (some (.int 2 t_MOST_SUMS)))
    (v_MOST_STRIPES : PySem.W.nsIn K mainGlobals "MOST_STRIPES" = some (some (.int 32 t_MOST_STRIPES)))
    (v_MOST_TURNS : PySem.W.nsIn K mainGlobals "MOST_TURNS" = some (some (.int 16 t_MOST_TURNS))) :
    ∃ a : Adr, Txt K mg a ∧ (∀ (s : Shared) (v : Value), BindsTo s a.d_law ⟨[v], []⟩ [("_law_script", v)]) := by
  have F_check_counts := fun_mk (st := s_check_counts) l_check_counts c_check_counts k_check_counts
  have F_check_turns := fun_mk (st := s_check_turns) l_check_turns c_check_turns k_check_turns
  have F_Shape_init := fun_mk (st := s_Shape_init) l_Shape_init c_Shape_init k_Shape_init
  have F_cell := fun_mk (st := s_cell) l_cell c_cell k_cell
  have F_whole := fun_mk (st := s_whole) l_whole c_whole k_whole
  have F_turn := fun_mk (st := s_turn) l_turn c_turn k_turn
  have F_spoiled := fun_mk (st := s_spoiled) l_spoiled c_spoiled k_spoiled
  have F_any := fun_mk (st := s_any) l_any c_any k_any
  have F_numbers := fun_mk (st := s_numbers) l_numbers c_numbers k_numbers
  have F_turns := fun_mk (st := s_turns) l_turns c_turns k_turns
  have F_good := fun_mk (st := s_good) l_good c_good k_good
  have F_refused := fun_mk (st := s_refused) l_refused c_refused k_refused
  have F_law := fun_mk (st := s_law) l_law c_law k_law
  refine ⟨⟨C_Shape, C_PlankError, C_NoShape, C_NoPlace, f_check_counts, PySem.W.fnOf "check_counts" "check_counts" (defArgs s_check_counts) (defBody s_check_counts) (defScope s_check_counts) .none kV_check_counts dc_check_counts pm_check_counts an_check_counts cd_check_counts ct_check_counts, f_check_turns, PySem.W.fnOf "check_turns" "check_turns" (defArgs s_check_turns) (defBody s_check_turns) (defScope s_check_turns) .none kV_check_turns dc_check_turns pm_check_turns an_check_turns cd_check_turns ct_check_turns, f_Shape_init, PySem.W.fnOf "__init__" "Shape.__init__" (defArgs s_Shape_init) (defBody s_Shape_init) (defScope s_Shape_init) .none kV_Shape_init dc_Shape_init pm_Shape_init an_Shape_init cd_Shape_init ct_Shape_init, f_cell, PySem.W.fnOf "_law_cell" "_law_cell" (defArgs s_cell) (defBody s_cell) (defScope s_cell) .none kV_cell dc_cell pm_cell an_cell cd_cell ct_cell, f_whole, PySem.W.fnOf "_law_whole" "_law_whole" (defArgs s_whole) (defBody s_whole) (defScope s_whole) .none kV_whole dc_whole pm_whole an_whole cd_whole ct_whole, f_turn, PySem.W.fnOf "_law_turn" "_law_turn" (defArgs s_turn) (defBody s_turn) (defScope s_turn) .none kV_turn dc_turn pm_turn an_turn cd_turn ct_turn, f_spoiled, PySem.W.fnOf "_law_spoiled" "_law_spoiled" (defArgs s_spoiled) (defBody s_spoiled) (defScope s_spoiled) .none kV_spoiled dc_spoiled pm_spoiled an_spoiled cd_spoiled ct_spoiled, f_any, PySem.W.fnOf "_law_any" "_law_any" (defArgs s_any) (defBody s_any) (defScope s_any) .none kV_any dc_any pm_any an_any cd_any ct_any, f_numbers, PySem.W.fnOf "_law_numbers" "_law_numbers" (defArgs s_numbers) (defBody s_numbers) (defScope s_numbers) .none kV_numbers dc_numbers pm_numbers an_numbers cd_numbers ct_numbers, f_turns, PySem.W.fnOf "_law_turns" "_law_turns" (defArgs s_turns) (defBody s_turns) (defScope s_turns) .none kV_turns dc_turns pm_turns an_turns cd_turns ct_turns, f_good, PySem.W.fnOf "_law_good" "_law_good" (defArgs s_good) (defBody s_good) (defScope s_good) .none kV_good dc_good pm_good an_good cd_good ct_good, f_refused, PySem.W.fnOf "_law_refused" "_law_refused" (defArgs s_refused) (defBody s_refused) (defScope s_refused) .none kV_refused dc_refused pm_refused an_refused cd_refused ct_refused, f_law, PySem.W.fnOf "law" "law" (defArgs s_law) (defBody s_law) (defScope s_law) .none kV_law dc_law pm_law an_law cd_law ct_law, t_MOST_TURNS, t_MOST_STRIPES, t_MOST_SUMS, t_MOST_PLANKS, t_LEAST_PLANKS⟩, ?_, fun s v => .of_eq rfl⟩
  exact {
    cl_Shape := ⟨pg_Shape, hd_Shape, po_Shape, sa_Shape⟩
    m_Shape := PySem.W.mg_of X G a_Shape
    no_Shape_data := no_Shape_data
    no_Shape_planks := no_Shape_planks
    no_Shape_stripes := no_Shape_stripes
    no_Shape_size := no_Shape_size
    no_Shape_turns := no_Shape_turns
    mk_Shape := ⟨mk_Shape, a_Shape_init, i_Shape_init, kc_Shape⟩
    F_check_counts := F_check_counts
    b_check_counts := F_check_counts.binds (ps := ["data", "planks", "stripes"]) fun _ _ _ _ _ _ us hl => match us, hl with | [_, _, _], _ => rfl
    k_check_counts := k_check_counts
    m_check_counts := PySem.W.mg_of X G a_check_counts
    F_check_turns := F_check_turns
    b_check_turns := F_check_turns.binds (ps := ["planks", "turns"]) fun _ _ _ _ _ _ us hl => match us, hl with | [_, _], _ => rfl
    k_check_turns := k_check_turns
    m_check_turns := PySem.W.mg_of X G a_check_turns
    F_Shape_init := F_Shape_init
    b_Shape_init := F_Shape_init.binds (ps := ["self", "data", "planks", "stripes", "turns"]) fun _ _ _ _ _ _ us hl => match us, hl with | [_, _, _, _, _], _ => rfl
    k_Shape_init := k_Shape_init
    me_Shape_init := ⟨a_Shape_init, i_Shape_init, k_Shape_init⟩
    F_cell := F_cell
    b_cell := F_cell.binds (ps := ["_law_script", "_law_k"]) fun _ _ _ _ _ _ us hl => match us, hl with | [_, _], _ => rfl
    k_cell := k_cell
    m_cell := PySem.W.mg_of X G a_cell
    F_whole := F_whole
    b_whole := F_whole.binds (ps := ["_law_found"]) fun _ _ _ _ _ _ us hl => match us, hl with | [_], _ => rfl
    k_whole := k_whole
    m_whole := PySem.W.mg_of X G a_whole
    F_turn := F_turn
    b_turn := F_turn.binds (ps := ["_law_cell_here", "_law_planks"]) fun _ _ _ _ _ _ us hl => match us, hl with | [_, _], _ => rfl
    k_turn := k_turn
    m_turn := PySem.W.mg_of X G a_turn
    F_spoiled := F_spoiled
    b_spoiled := F_spoiled.binds (ps := ["_law_row", "_law_planks", "_law_cell_here"]) fun _ _ _ _ _ _ us hl => match us, hl with | [_, _, _], _ => rfl
    k_spoiled := k_spoiled
    m_spoiled := PySem.W.mg_of X G a_spoiled
    F_any := F_any
    b_any := F_any.binds (ps := ["_law_cell_here", "_law_low", "_law_high"]) fun _ _ _ _ _ _ us hl => match us, hl with | [_, _, _], _ => rfl
    k_any := k_any
    m_any := PySem.W.mg_of X G a_any
    F_numbers := F_numbers
    b_numbers := F_numbers.binds (ps := ["_law_script"]) fun _ _ _ _ _ _ us hl => match us, hl with | [_], _ => rfl
    k_numbers := k_numbers
    m_numbers := PySem.W.mg_of X G a_numbers
    F_turns := F_turns
    b_turns := F_turns.binds (ps := ["_law_script", "_law_planks", "_law_many"]) fun _ _ _ _ _ _ us hl => match us, hl with | [_, _, _], _ => rfl
    k_turns := k_turns
    m_turns := PySem.W.mg_of X G a_turns
    F_good := F_good
    b_good := F_good.binds (ps := ["_law_data", "_law_planks", "_law_stripes", "_law_turns_here"]) fun _ _ _ _ _ _ us hl => match us, hl with | [_, _, _, _], _ => rfl
    k_good := k_good
    m_good := PySem.W.mg_of X G a_good
    F_refused := F_refused
    b_refused := F_refused.binds (ps := ["_law_data", "_law_planks", "_law_stripes", "_law_turns_here"]) fun _ _ _ _ _ _ us hl => match us, hl with | [_, _, _, _], _ => rfl
    k_refused := k_refused
    m_refused := PySem.W.mg_of X G a_refused
    F_law := F_law
    b_law := F_law.binds (ps := ["_law_script"]) fun _ _ _ _ _ _ us hl => match us, hl with | [_], _ => rfl
    k_law := k_law
    m_law := PySem.W.mg_of X G a_law
    m_PlankError := PySem.W.mg_of X G a_PlankError
    m_NoShape := PySem.W.mg_of X G a_NoShape
    m_NoPlace := PySem.W.mg_of X G a_NoPlace
    xc_NoShape := xc_NoShape
    xi_NoShape := ⟨xcls_NoShape, xga_NoShape, xgt_NoShape, xca_NoShape, xhn_NoShape, xtk_NoShape, xmo_NoShape, xkc_NoShape⟩
    ex_NoShape_PlankError := ex_NoShape_PlankError
    ko_NoShape_NoShape := ko_NoShape_NoShape
    ko_NoShape_NoPlace := ko_NoShape_NoPlace
    kv_NoShape := kv_NoShape
    n_len := PySem.W.mg_none_of X G z_len
    n_sorted := PySem.W.mg_none_of X G z_sorted
    n_list := PySem.W.mg_none_of X G z_list
    n_range := PySem.W.mg_none_of X G z_range
    n_isinstance := PySem.W.mg_none_of X G z_isinstance
    n_int := PySem.W.mg_none_of X G z_int
    n_bool := PySem.W.mg_none_of X G z_bool
    n_ValueError := PySem.W.mg_none_of X G z_ValueError
    v_LEAST_PLANKS := PySem.W.mg_of X G v_LEAST_PLANKS
    v_MOST_PLANKS := PySem.W.mg_of X G v_MOST_PLANKS
    v_MOST_SUMS := PySem.W.mg_of X G v_MOST_SUMS
    v_MOST_STRIPES := PySem.W.mg_of X G v_MOST_STRIPES
    v_MOST_TURNS := PySem.W.mg_of X G v_MOST_TURNS }
/-! ### small words -/
theorem Same.new {H : Hp} {p : Addr} {o : HO} (h : H p = none) : Same H (upd H p o) := fun b u e => by rw [upd_ne (ne_of_none e h)]; exact e
theorem ne_off {u v : V} (h : u = v) : ¬ (!decide (u = v)) = true := by rw [decide_eq_true h]; decide
theorem modN (c : Int) {n : Nat} (h : 0 < n) : ∃ y : Nat, y < n ∧ c % (n : Int) = (y : Int) := by
  have hp : (0 : Int) < (n : Int) := by omega
  have h1 := Int.emod_lt_of_pos c hp
  have h2 := Int.emod_nonneg c (Int.ne_of_gt hp)
  exact ⟨(c % (n : Int)).toNat, by omega, by omega⟩
theorem log_small {i : Int} (h : i.natAbs < 1267650600228229401496703205376) : i.natAbs.log2 < 1920 := by
  by_cases h0 : i.natAbs = 0
  · rw [h0]; decide
  · exact Nat.lt_trans ((Nat.log2_lt h0).mpr (show i.natAbs < 2 ^ 100 from h)) (by decide)
theorem ixN_nat {n j : Nat} (h : j < n) : ixN n (j : Int) = some j := by
  unfold ixN
  rw [if_pos (by omega), if_pos (by omega), Int.toNat_natCast]
def cel (ns : List Int) (k : Nat) : Int := ns.getD k (7 * (k : Int) + 3)
section
variable {P : Program} {wo : World} {K : PySem.W.Frag} {mg : Str → Option Value} {base : Heap} {a : Adr}
def spCel (K : PySem.W.Frag) : Sp := fun vs H Q _ => ∃ (s : Addr) (ns : List Int) (k : Nat), vs = [.ref s, .int k] ∧ SqL K H s (ns.map V.int) ∧ Q (.int (cel ns k)) H
theorem ok_cell (T : Txt K mg a) : FnOk P wo K mg base CX0 1 a.f_cell a.d_cell ["_law_script", "_law_k"] (spCel K) := by
  refine T.F_cell.ok (k := 0) sc_cell (fun vs H Q E h => ?_) (fun cdv A outer s H vs Q E hr h => ?_)
  · obtain ⟨p, ns, k, rfl, _⟩ := h
    rfl
  · obtain ⟨p, ns, k, rfl, hS, q⟩ := h
    refine ⟨_, (pss_cons (ps_if (pt_cmpR op_lt (pv 1) (pe_callB call_len_seq rfl T.n_len PySem.boot_len (pa_cons (pv 0) pa_nil)) (nomark _)) (pss_one (ps_ret (pe_ix ix_list (pv 0) (pv 1) (fun _ _ => rfl)))) pss_nil)
      (pss_one (ps_ret (pe_op op_add (pe_op op_mul pe_int (pv 1)) pe_int)))), ?_⟩
    refine ⟨_, rfl, _, rfl, p, _, rfl, .inl hS, _, _, rfl, rfl, _, rfl, ?_⟩
    refine ite2 (fun h => ?_) (fun h => ?_)
    · have hk : k < ns.length := by
        have := of_decide_eq_true h
        rw [List.length_map] at this
        omega
      have e : (ns.map V.int)[k]? = some (V.int (cel ns k)) := by
        unfold cel
        rw [List.getElem?_map, List.getD_eq_getElem?_getD, List.getElem?_eq_getElem hk]
        rfl
      exact ⟨_, rfl, _, rfl, p, _, _, _, rfl, rfl, hS, atI_nat e, q⟩
    · have hk : ns.length ≤ k := by
        have : ¬ ((k : Int) < ((ns.map V.int).length : Nat)) := fun z => h (decide_eq_true z)
        rw [List.length_map] at this
        omega
      have e : cel ns k = 7 * (k : Int) + 3 := by
        unfold cel
        rw [List.getD_eq_getElem?_getD, List.getElem?_eq_none hk]
        rfl
      rw [e] at q
      exact ⟨_, rfl, _, _, rfl, rfl, .inl ⟨by decide, by decide⟩, _, _, rfl, rfl, q⟩
end

section
variable {P : Program} {wo : World} {K : PySem.W.Frag} {mg : Str → Option Value} {base : Heap} {a : Adr}
def spWhole : Sp := fun vs H Q _ => ∃ x : Int, vs = [.int x] ∧ Q (.bl true) H
theorem ok_whole (T : Txt K mg a) : FnOk P wo K mg base CX0 1 a.f_whole a.d_whole ["_law_found"] spWhole := by
  refine T.F_whole.ok (k := 0) sc_whole (fun vs H Q E h => ?_) (fun cdv A outer s H vs Q E hr h => ?_)
  · obtain ⟨x, rfl, _⟩ := h
    rfl
  · obtain ⟨x, rfl, q⟩ := h
    refine ⟨_, (pss_one (ps_ret (pe_and (pe_callB call_isi rfl T.n_isinstance boot_isinstance (pa_cons (pv 0) (pa_cons (pe_bltn (v := .ty "int") rfl T.n_int (by decide +kernel) rfl) pa_nil))) (pe_one (pe_not (pe_callB call_isi rfl T.n_isinstance boot_isinstance (pa_cons (pv 0) (pa_cons (pe_bltn (v := .ty "bool") rfl T.n_bool (by decide +kernel) rfl) pa_nil)))))))), ?_⟩
    refine ⟨_, rfl, _, _, _, _, rfl, .int _, kit_same _ _, _, rfl, iteT ?_⟩
    refine ⟨_, rfl, _, _, _, _, rfl, .int _, kit_int_bool _, _, rfl, ?_⟩
    exact q
end

/-! ### shapes -/
def shf (d n st : Nat) (tp : Addr) : List (Str × V) := [("data", .int d), ("planks", .int n), ("stripes", .int st), ("size", .int ((d * st : Nat) : Int)), ("turns", .ref tp)]
theorem shf_data (d n st : Nat) (tp : Addr) : (shf d n st tp).lookup ("data" : Str) = some (.int d) := rfl
theorem shf_planks (d n st : Nat) (tp : Addr) : (shf d n st tp).lookup ("planks" : Str) = some (.int n) := rfl
theorem shf_stripes (d n st : Nat) (tp : Addr) : (shf d n st tp).lookup ("stripes" : Str) = some (.int st) := rfl
theorem shf_size (d n st : Nat) (tp : Addr) : (shf d n st tp).lookup ("size" : Str) = some (.int ((d * st : Nat) : Int)) := rfl
theorem shf_turns (d n st : Nat) (tp : Addr) : (shf d n st tp).lookup ("turns" : Str) = some (.ref tp) := rfl
def rangeI (n : Nat) : List Int := (List.range n).map fun i : Nat => (i : Int)
theorem rangeI_len (n : Nat) : (rangeI n).length = n := by unfold rangeI; rw [List.length_map, List.length_range]
theorem rangeV (n : Nat) : ((List.range ((n : Int) - 0).toNat).map fun i : Nat => V.int (0 + (i : Int))) = (rangeI n).map V.int := by
  have e : ((n : Int) - 0).toNat = n := by omega
  unfold rangeI
  rw [e, List.map_map]
  apply List.map_congr_left
  intro i _
  show V.int (0 + (i : Int)) = V.int (i : Int)
  rw [Int.zero_add]
theorem seesI {K : PySem.W.Frag} {H : Hp} {p : Addr} {ns : List Int} (h : SqL K H p (ns.map V.int)) : Sees K H (.ref p) (.lst (ns.map Dt.int)) := by
  rw [Sees]
  exact ⟨p, _, rfl, h, seesInts _⟩
theorem depI (ns : List Int) : depD (.lst (ns.map Dt.int)) ≤ 60 := by
  rw [depD, depInts]
  decide

/-! ### any order of the planks -/
def insR (c : Int) : Nat → List Int × Int
  | 0 => ([], c % 40320)
  | i + 1 => ((insR c i).1.take ((insR c i).2 % ((i : Int) + 1)).toNat ++ (i : Int) :: (insR c i).1.drop ((insR c i).2 % ((i : Int) + 1)).toNat, (insR c i).2 / ((i : Int) + 1))
theorem rangeI_succ (n : Nat) : rangeI (n + 1) = rangeI n ++ [(n : Int)] := by
  unfold rangeI
  rw [List.range_succ, List.map_append]
  rfl
theorem insR_perm (c : Int) : ∀ i, (insR c i).1.Perm (rangeI i)
  | 0 => List.Perm.refl _
  | i + 1 => by
    rw [rangeI_succ]
    refine List.Perm.trans (List.perm_middle) ?_
    rw [List.take_append_drop]
    exact ((insR_perm c i).cons _).trans (List.perm_append_singleton _ _).symm
theorem insR_len (c : Int) (i : Nat) : (insR c i).1.length = i := by rw [(insR_perm c i).length_eq, rangeI_len]
def turnOf (c : Int) (n : Nat) : List Int := (insR c n).1
theorem turnOf_perm (c : Int) (n : Nat) : (turnOf c n).Perm (rangeI n) := insR_perm c n
section
variable {P : Program} {wo : World} {K : PySem.W.Frag} {mg : Str → Option Value} {base : Heap} {a : Adr}
def spTurn : Sp := fun vs H Q _ => ∃ (c : Int) (n : Nat), vs = [.int c, .int n] ∧ n ≤ 16 ∧ ∀ D H', H D = none → Same H H' → H' D = some (.lst ((turnOf c n).map V.int)) → Q (.ref D) H'
theorem ok_turn (T : Txt K mg a) : FnOk P wo K mg base CX0 1 a.f_turn a.d_turn ["_law_cell_here", "_law_planks"] spTurn := by
  refine T.F_turn.ok (k := 0) sc_turn (fun vs H Q E h => ?_) (fun cdv A outer s H vs Q E hr h => ?_)
  · obtain ⟨c, n, rfl, _⟩ := h
    rfl
  · obtain ⟨c, n, rfl, h16, q⟩ := h
    refine ⟨_, (pss_cons (ps_set (i := 2) sc_turn.nd rfl (Or.inl rfl) (pe_op op_mod (pv 0) pe_int))
      (pss_cons (ps_set (i := 3) sc_turn.nd rfl (Or.inl rfl) (pe_lst pa_nil))
      (pss_cons (ps_for PassesOwn.never rfl (pi_range1 rfl T.n_range (pa_cons (pv 1) pa_nil)) (pg_name (i := 4) sc_turn.nd rfl (Or.inl rfl)) (pss_cons (ps_expr (pe_bm PySem.F.plainAttrs_list PySem.F.slot_list_insert PySem.F.type_list_insert mt_insert (pv 3) (pa_cons (pe_op op_mod (pv 2) (pe_op op_add (pv 4) pe_int)) (pa_cons (pv 4) pa_nil))))
      (pss_one (ps_set (i := 2) sc_turn.nd rfl (Or.inl rfl) (pe_op op_fdiv (pv 2) (pe_op op_add (pv 4) pe_int))))))
      (pss_one (ps_ret (pv 3)))))), ?_⟩
    refine ⟨_, rfl, _, _, rfl, rfl, p0 (by decide), ?_⟩
    refine ⟨by decide, fun D nD => ?_⟩
    refine ⟨_, rfl, _, rfl, by omega, by omega, for_range (lo := 0) (n := n) (fun i σ H' => ∃ v4 : Option V, σ = [some (.int c), some (.int n), some (.int (insR c i).2), some (.ref D), v4] ∧ Same H H' ∧ H' D = some (.lst ((insR c i).1.map V.int))) ⟨none, rfl, Same.new nD, upd_same⟩ ?_ ?_⟩
    · rintro i σ H' hi ⟨v4, rfl, sm, hD⟩
      rw [Int.zero_add]
      have hp : (0 : Int) < (i : Int) + 1 := by omega
      have b1 := Int.emod_nonneg (insR c i).2 (Int.ne_of_gt hp)
      have b2 := Int.emod_lt_of_pos (insR c i).2 hp
      refine ⟨_, rfl, .inl ⟨rfl, _, SqL.of hD⟩, _, rfl, _, rfl, _, _, rfl, rfl, _, _, rfl, rfl, p0 hp, _, rfl, D, _, _, _, rfl, rfl, hD, b1, ?_, ?_, ?_⟩
      · rw [List.length_map, insR_len]
        omega
      · rw [List.length_map, insR_len]
        omega
      refine ⟨_, rfl, _, rfl, _, _, rfl, rfl, _, _, rfl, rfl, ⟨by omega, by omega⟩, ?_⟩
      refine ⟨_, rfl, sm.up nD, ?_⟩
      rw [upd_same, insR, List.map_append, List.map_cons, List.map_take, List.map_drop]
    · rintro σ H' ⟨v4, rfl, sm, hD⟩
      exact ⟨_, rfl, q D H' nD sm hD⟩
end

theorem seesL_of {K : PySem.W.Frag} {H : Hp} : ∀ {xs : List V} {ds : List Dt}, xs.length = ds.length → (∀ (i : Nat) v d, xs[i]? = some v → ds[i]? = some d → Sees K H v d) → SeesL K H xs ds
  | [], [], _, _ => by rw [SeesL]
  | v :: xs, d :: ds, hl, h => by
    rw [SeesL]
    exact ⟨v, xs, rfl, h 0 v d rfl rfl, seesL_of (by simpa using hl) fun i u e h1 h2 => h (i + 1) u e (by simpa using h1) (by simpa using h2)⟩
  | [], _ :: _, hl, _ => by simp at hl
  | _ :: _, [], hl, _ => by simp at hl
theorem depDs_le {n : Nat} : ∀ {ds : List Dt}, (∀ d ∈ ds, depD d ≤ n) → depDs ds ≤ n
  | [], _ => by rw [depDs]; exact Nat.zero_le _
  | d :: ds, h => by
    rw [depDs]
    have h1 := h d (List.mem_cons_self)
    have h2 := depDs_le (ds := ds) fun e he => h e (List.mem_cons_of_mem _ he)
    omega

theorem eqDs_ints : ∀ xs ys : List Int, eqDs (xs.map Dt.int) (ys.map Dt.int) = decide (xs = ys)
  | [], [] => by rw [List.map_nil, eqDs]; rfl
  | [], y :: ys => by rw [List.map_nil, List.map_cons, eqDs]; rfl
  | x :: xs, [] => by rw [List.map_nil, List.map_cons, eqDs]; rfl
  | x :: xs, y :: ys => by
    rw [List.map_cons, List.map_cons, eqDs, eqD, eqDs_ints xs ys]
    by_cases h : x = y
    · subst h; simp
    · simp [h]
theorem eqD_ints (xs ys : List Int) : eqD (.lst (xs.map Dt.int)) (.lst (ys.map Dt.int)) = decide (xs = ys) := by
  rw [eqD, eqDs_ints]
/-- what check_counts takes -/
def Counts (d n st : Int) : Prop := 2 ≤ n ∧ n ≤ 8 ∧ 1 ≤ d ∧ d < n ∧ n ≤ d + 2 ∧ 1 ≤ st ∧ st ≤ 32
/-- what check_turns takes -/
def Turns (n m : Nat) (row : Nat → List Int) : Prop := 1 ≤ m ∧ m ≤ 16 ∧ ∀ j, j < m → (row j).Perm (rangeI n)
/-- rows of small whole numbers, and few in each -/
structure RowsI (H : Hp) (ps : List Addr) (m : Nat) (row : Nat → List Int) : Prop where
  on : RowsAt H ps m (fun j => (row j).map V.int)
  len : ∀ j, j < m → (row j).length ≤ 16
  sm : ∀ j, j < m → ∀ i ∈ row j, i.natAbs.log2 < 1920
theorem RowsI.same {H H' : Hp} {ps : List Addr} {m : Nat} {row : Nat → List Int} (h : RowsI H ps m row) (s : Same H H') : RowsI H' ps m row := ⟨h.on.same s, h.len, h.sm⟩
section
variable {P : Program} {wo : World} {K : PySem.W.Frag} {mg : Str → Option Value} {base : Heap} {a : Adr}
def spCounts (a : Adr) : Sp := fun vs H Q E => ∃ d n st : Int, vs = [.int d, .int n, .int st] ∧ d.natAbs.log2 < 1920 ∧ n.natAbs.log2 < 1920 ∧ st.natAbs.log2 < 1920 ∧ ((Counts d n st ∧ Q .non H) ∨ (¬ Counts d n st ∧ E (.ref a.C_NoShape) none H))
theorem ok_check_counts (T : Txt K mg a) : FnOk P wo K mg base (CXe P wo) 1 a.f_check_counts a.d_check_counts ["data", "planks", "stripes"] (spCounts a) := by
  refine T.F_check_counts.okX (k := 0) sc_check_counts (fun vs H Q E h => ?_) (fun cdv A outer s H vs Q E hr h => ?_)
  · obtain ⟨d, n, st, rfl, _⟩ := h
    rfl
  · obtain ⟨d, n, st, rfl, hd, hn, hst, h⟩ := h
    refine ⟨_, (pss_cons (ps_if (PW.pt (pw_or (pt_cmpR op_lt (pv 1) (pe_glob (v := .int 2) rfl T.v_LEAST_PLANKS ⟨_, rfl⟩) (nomark _)) (pw_or1 (pt_cmpR op_gt (pv 1) (pe_glob (v := .int 8) rfl T.v_MOST_PLANKS ⟨_, rfl⟩) (nomark _))))) (pss_one (ps_raise T.xc_NoShape rfl rfl rfl T.m_NoShape rises_cx (pa_cons (pe_fstr (pj_str (pj_int (pe_glob (v := .int 2) rfl T.v_LEAST_PLANKS ⟨_, rfl⟩) (pj_str (pj_int (pe_glob (v := .int 8) rfl T.v_MOST_PLANKS ⟨_, rfl⟩) (pj_str (pj_int (pv 1) pj_nil)))))) (by decide)) pa_nil))) pss_nil)
      (pss_cons (ps_if (PW.pt (pw_or (pt_cmpR op_lt (pv 0) pe_int (nomark _)) (pw_or (pt_cmpR op_ge (pv 0) (pv 1) (nomark _)) (pw_or1 (pt_cmpR op_gt (pe_op op_sub (pv 1) (pv 0)) (pe_glob (v := .int 2) rfl T.v_MOST_SUMS ⟨_, rfl⟩) (nomark _)))))) (pss_one (ps_raise T.xc_NoShape rfl rfl rfl T.m_NoShape rises_cx (pa_cons (pe_fstr (pj_int (pv 1) (pj_str (pj_int (pv 0) (pj_str pj_nil)))) (by decide)) pa_nil))) pss_nil)
      (pss_one (ps_if (PW.pt (pw_or (pt_cmpR op_lt (pv 2) pe_int (nomark _)) (pw_or1 (pt_cmpR op_gt (pv 2) (pe_glob (v := .int 32) rfl T.v_MOST_STRIPES ⟨_, rfl⟩) (nomark _))))) (pss_one (ps_raise T.xc_NoShape rfl rfl rfl T.m_NoShape rises_cx (pa_cons (pe_fstr (pj_str (pj_int (pe_glob (v := .int 32) rfl T.v_MOST_STRIPES ⟨_, rfl⟩) (pj_str (pj_int (pv 2) pj_nil)))) (by decide)) pa_nil))) pss_nil)))), ?_⟩
    rcases h with ⟨⟨h1, h2, h3, h4, h5, h6, h7⟩, q⟩ | ⟨hc, q⟩
    · refine ⟨_, rfl, _, _, rfl, rfl, _, rfl, ?_⟩
      refine ite2 (fun h => absurd (of_decide_eq_true h) (by omega)) (fun _ => ?_)
      refine ⟨_, rfl, _, _, rfl, rfl, _, rfl, ?_⟩
      refine ite2 (fun h => absurd (of_decide_eq_true h) (by omega)) (fun _ => ?_)
      refine ⟨_, rfl, _, _, rfl, rfl, _, rfl, ?_⟩
      refine ite2 (fun h => absurd (of_decide_eq_true h) (by omega)) (fun _ => ?_)
      refine ⟨_, rfl, _, rfl, _, _, rfl, rfl, _, rfl, ?_⟩
      refine ite2 (fun h => absurd (of_decide_eq_true h) (by omega)) (fun _ => ?_)
      refine ⟨_, rfl, _, rfl, _, _, rfl, rfl, _, _, rfl, rfl, _, rfl, ?_⟩
      refine ite2 (fun h => absurd (of_decide_eq_true h) (by omega)) (fun _ => ?_)
      refine ⟨_, rfl, _, _, rfl, rfl, _, rfl, ?_⟩
      refine ite2 (fun h => absurd (of_decide_eq_true h) (by omega)) (fun _ => ?_)
      refine ⟨_, rfl, _, _, rfl, rfl, _, rfl, ?_⟩
      refine ite2 (fun h => absurd (of_decide_eq_true h) (by omega)) (fun _ => ?_)
      exact q
    · have fin : ∀ y : Str, [V.str y].length ≤ sizeLine ∧ E (.ref a.C_NoShape) none H := fun y => ⟨by show 1 ≤ sizeLine; decide, q⟩
      refine ⟨_, rfl, _, _, rfl, rfl, _, rfl, ?_⟩
      refine ite2 (fun h => ?_) (fun y1 => ?_)
      · exact ⟨2, rfl, by decide, 8, rfl, by decide, _, rfl, n, rfl, hn, fin⟩
      refine ⟨_, rfl, _, _, rfl, rfl, _, rfl, ?_⟩
      refine ite2 (fun h => ?_) (fun y2 => ?_)
      · exact ⟨2, rfl, by decide, 8, rfl, by decide, _, rfl, n, rfl, hn, fin⟩
      refine ⟨_, rfl, _, _, rfl, rfl, _, rfl, ?_⟩
      refine ite2 (fun h => ?_) (fun y3 => ?_)
      · exact ⟨_, rfl, n, rfl, hn, _, rfl, d, rfl, hd, fin⟩
      refine ⟨_, rfl, _, rfl, _, _, rfl, rfl, _, rfl, ?_⟩
      refine ite2 (fun h => ?_) (fun y4 => ?_)
      · exact ⟨_, rfl, n, rfl, hn, _, rfl, d, rfl, hd, fin⟩
      refine ⟨_, rfl, _, rfl, _, _, rfl, rfl, _, _, rfl, rfl, _, rfl, ?_⟩
      refine ite2 (fun h => ?_) (fun y5 => ?_)
      · exact ⟨_, rfl, n, rfl, hn, _, rfl, d, rfl, hd, fin⟩
      refine ⟨_, rfl, _, _, rfl, rfl, _, rfl, ?_⟩
      refine ite2 (fun h => ?_) (fun y6 => ?_)
      · exact ⟨32, rfl, by decide, _, rfl, st, rfl, hst, fin⟩
      refine ⟨_, rfl, _, _, rfl, rfl, _, rfl, ?_⟩
      refine ite2 (fun h => ?_) (fun y7 => ?_)
      · exact ⟨32, rfl, by decide, _, rfl, st, rfl, hst, fin⟩
      refine absurd ?_ hc
      have z1 : ¬ n < 2 := fun z => y1 (decide_eq_true z)
      have z2 : ¬ 8 < n := fun z => y2 (decide_eq_true z)
      have z3 : ¬ d < 1 := fun z => y3 (decide_eq_true z)
      have z4 : ¬ n ≤ d := fun z => y4 (decide_eq_true z)
      have z5 : ¬ 2 < n - d := fun z => y5 (decide_eq_true z)
      have z6 : ¬ st < 1 := fun z => y6 (decide_eq_true z)
      have z7 : ¬ 32 < st := fun z => y7 (decide_eq_true z)
      unfold Counts
      omega
def spTurns (K : PySem.W.Frag) (a : Adr) : Sp := fun vs H Q E => ∃ (n m : Nat) (L : Addr) (ps : List Addr) (row : Nat → List Int), vs = [.int n, .ref L] ∧ n ≤ 8 ∧ m ≤ 18 ∧ H L = some (.lst (ps.map V.ref)) ∧ RowsI H ps m row ∧ ((Turns n m row ∧ ∀ H', Same H H' → Q .non H') ∨ (¬ Turns n m row ∧ ∀ H', Same H H' → E (.ref a.C_NoShape) none H'))
theorem ok_check_turns (T : Txt K mg a) : FnOk P wo K mg base (CXe P wo) 1 a.f_check_turns a.d_check_turns ["planks", "turns"] (spTurns K a) := by
  refine T.F_check_turns.okX (k := 0) sc_check_turns (fun vs H Q E h => ?_) (fun cdv A outer s H vs Q E hr h => ?_)
  · obtain ⟨n, m, L, ps, row, rfl, _⟩ := h
    rfl
  · obtain ⟨n, m, L, ps, row, rfl, h8, h18, hL, hps, h⟩ := h
    have el : (ps.map V.ref).length = m := by rw [List.length_map, hps.on.len]
    have hE : ∀ j, j < m → ¬ (row j).Perm (rangeI n) → ∀ H', Same H H' → E (.ref a.C_NoShape) none H' := fun j hj hn => by
      rcases h with ⟨ht, _⟩ | ⟨_, q⟩
      · exact absurd (ht.2.2 j hj) hn
      · exact q
    refine ⟨_, (pss_cons (ps_if (PW.pt (pw_or (pt_cmpR op_lt (pe_callB call_len_seq rfl T.n_len PySem.boot_len (pa_cons (pv 1) pa_nil)) pe_int (nomark _)) (pw_or1 (pt_cmpR op_gt (pe_callB call_len_seq rfl T.n_len PySem.boot_len (pa_cons (pv 1) pa_nil)) (pe_glob (v := .int 16) rfl T.v_MOST_TURNS ⟨_, rfl⟩) (nomark _))))) (pss_one (ps_raise T.xc_NoShape rfl rfl rfl T.m_NoShape rises_cx (pa_cons (pe_fstr (pj_str (pj_int (pe_glob (v := .int 16) rfl T.v_MOST_TURNS ⟨_, rfl⟩) (pj_str pj_nil))) (by decide)) pa_nil))) pss_nil)
      (pss_one (ps_for PassesOwn.leaving rfl (pi_list (pv 1)) (pg_name (i := 2) sc_check_turns.nd rfl (Or.inl rfl)) (pss_one (ps_if (pt_cmpR (op_neD hr.units) (pe_callB call_sorted rfl T.n_sorted PyProof.Rows.Boot.sorted (pa_cons (pv 2) pa_nil)) (pe_callTy (call_list_rng rfl) rfl T.n_list (by decide +kernel) (pa_cons (pe_callTy call_range1V rfl T.n_range (by decide +kernel) (pa_cons (pv 0) pa_nil)) pa_nil)) (nomark _)) (pss_one (ps_raise T.xc_NoShape rfl rfl rfl T.m_NoShape rises_cx (pa_cons (pe_fstr (pj_lst hr.gd hr.units (pv 2) (pj_str (pj_int (pv 0) (pj_str pj_nil)))) (by decide)) pa_nil))) pss_nil))))), ?_⟩
    refine ⟨_, rfl, L, _, rfl, .inl (SqL.of hL), _, _, rfl, rfl, _, rfl, ?_⟩
    refine ite2 (fun y => ?_) (fun y1 => ?_)
    · have := of_decide_eq_true y
      rw [el] at this
      rcases h with ⟨ht, _⟩ | ⟨_, q⟩
      · have := ht.1
        omega
      · exact ⟨16, rfl, by decide, fun y => ⟨by show 1 ≤ sizeLine; decide, q _ (Same.refl _)⟩⟩
    refine ⟨_, rfl, L, _, rfl, .inl (SqL.of hL), _, _, rfl, rfl, _, rfl, ?_⟩
    refine ite2 (fun y => ?_) (fun y2 => ?_)
    · have := of_decide_eq_true y
      rw [el] at this
      rcases h with ⟨ht, _⟩ | ⟨_, q⟩
      · have := ht.2.1
        omega
      · exact ⟨16, rfl, by decide, fun y => ⟨by show 1 ≤ sizeLine; decide, q _ (Same.refl _)⟩⟩
    have z1 : 1 ≤ m := by
      have : ¬ (((ps.map V.ref).length : Nat) : Int) < 1 := fun z => y1 (decide_eq_true z)
      rw [el] at this
      omega
    have z2 : m ≤ 16 := by
      have : ¬ (16 : Int) < (((ps.map V.ref).length : Nat) : Int) := fun z => y2 (decide_eq_true z)
      rw [el] at this
      omega
    refine ⟨_, rfl, L, rfl, ⟨_, SqL.of hL⟩, for_list (K := K) (a := L) (xs := ps.map V.ref) (fun i σ H' => ∃ v2 : Option V, σ = [some (.int n), some (.ref L), v2] ∧ Same H H' ∧ ∀ j, j < i → (row j).Perm (rangeI n)) ⟨none, rfl, Same.refl _, fun j hj => absurd hj (Nat.not_lt_zero j)⟩ ?_ ?_ ?_⟩
    · rintro i σ H' _ ⟨v2, _, sm, _⟩
      exact SqL.of (sm _ _ hL)
    · rintro i v σ H' hv ⟨v2, rfl, sm, ih⟩
      rw [List.getElem?_map] at hv
      cases hp : ps[i]? with
      | none => rw [hp] at hv; cases hv
      | some p =>
        rw [hp] at hv
        cases hv
        have hi : i < m := by rw [← hps.on.len]; exact (List.getElem?_eq_some_iff.mp hp).1
        have hr' := sm _ _ (hps.on.on i p hp)
        have hlen := hps.len i hi
        refine ⟨_, rfl, p, row i, rfl, SqL.of hr', by omega, fun l ns' nl hp' hs => ?_⟩
        refine ⟨_, rfl, n, rfl, fun r nr => ⟨r, 0, n, rfl, upd_same, by decide, by decide, by omega, by omega, fun l2 nl2 => ?_⟩⟩
        rw [rangeV]
        have sF := ((Same.new (o := .lst (ns'.map V.int)) nl).trans (Same.new (o := .ext (RngAt r 0 n)) nr)).trans (Same.new (o := .lst ((rangeI n).map V.int)) nl2)
        refine ⟨_, _, seesI (SqL.of (((Same.new nr).trans (Same.new nl2)) _ _ upd_same)), seesI (SqL.of upd_same), rfl, rfl, ⟨_, rfl⟩, depI _, _, rfl, ?_⟩
        show if (!eqD _ _) = true then _ else _
        rw [eqD_ints]
        by_cases hpm : (row i).Perm (rangeI n)
        · have e1 : ns' = rangeI n := sorted_range hp' hs hpm
          rw [decide_eq_true e1]
          refine iteF ⟨_, rfl, sm.trans sF, fun j hj => ?_⟩
          by_cases z : j = i
          · rw [z]; exact hpm
          · exact ih j (by omega)
        · have e1 : ¬ ns' = rangeI n := fun z => hpm (z ▸ hp'.symm)
          rw [decide_eq_false e1]
          refine iteT ?_
          refine ⟨_, rfl, p, row i, rfl, SqL.of (sF _ _ hr'), hlen, hps.sm i hi, _, rfl, n, rfl, log_small (by omega), fun y => ⟨by show 1 ≤ sizeLine; decide, hE i hi hpm _ (sm.trans sF)⟩⟩
    · rintro σ H' ⟨v2, rfl, sm, ih⟩
      rw [el] at ih
      rcases h with ⟨_, q⟩ | ⟨hn, _⟩
      · exact q _ sm
      · exact absurd ⟨z1, z2, ih⟩ hn
end

theorem joinU {F G : Prop} (h : F → G) (key : F) : G := h key
theorem cutL {xs : List Int} {k : Nat} : cutV (xs.map V.int) none (some (k : Int)) = (xs.take k).map V.int := by
  unfold cutV
  rw [HT.sIx_none, HT.sIx_nat, List.length_map, List.drop_zero, Nat.sub_zero, ← List.map_take]
  congr 1
  rw [List.take_eq_take_iff]
  omega
theorem cutR {xs : List Int} {k : Nat} : cutV (xs.map V.int) (some (k : Int)) none = (xs.drop k).map V.int := by
  unfold cutV
  rw [HT.sIx_none, HT.sIx_nat, List.length_map, ← List.map_drop, ← List.map_take]
  congr 1
  by_cases h : k ≤ xs.length
  · rw [Nat.min_eq_left h]
    apply List.take_of_length_le
    rw [List.length_drop]
    exact Nat.le_refl _
  · rw [Nat.min_eq_right (by omega), Nat.sub_self, List.take_zero, List.drop_eq_nil_of_le (by omega)]
def SmallL (xs : List Int) : Prop := ∀ i ∈ xs, i.natAbs.log2 < 1920
theorem SmallL.mid {xs : List Int} {k j : Nat} {z : Int} (h : SmallL xs) (hz : z.natAbs.log2 < 1920) : SmallL (xs.take k ++ [z] ++ xs.drop j) := fun i hi => by
  rcases List.mem_append.mp hi with hi | hi
  · rcases List.mem_append.mp hi with hi | hi
    · exact h i (List.mem_of_mem_take hi)
    · rw [List.mem_singleton.mp hi]; exact hz
  · exact h i (List.mem_of_mem_drop hi)
theorem SmallL.out {xs : List Int} {k j : Nat} (h : SmallL xs) : SmallL (xs.take k ++ xs.drop j) := fun i hi => by
  rcases List.mem_append.mp hi with hi | hi
  · exact h i (List.mem_of_mem_take hi)
  · exact h i (List.mem_of_mem_drop hi)
section
variable {P : Program} {wo : World} {K : PySem.W.Frag} {mg : Str → Option Value} {base : Heap} {a : Adr}
def spShapeInit (a : Adr) : Sp := fun vs H Q E => ∃ (p dx L : Addr) (d n st : Int) (m : Nat) (ps : List Addr) (row : Nat → List Int), vs = [.ref p, .int d, .int n, .int st, .ref L] ∧ H p = some (.ins a.C_Shape dx []) ∧ d.natAbs.log2 < 1920 ∧ n.natAbs.log2 < 1920 ∧ st.natAbs.log2 < 1920 ∧ m ≤ 18 ∧
  H L = some (.lst (ps.map V.ref)) ∧ RowsI H ps m row ∧
  ((∃ d' n' st' : Nat, d = (d' : Int) ∧ n = (n' : Int) ∧ st = (st' : Int) ∧ Counts d n st ∧ Turns n' m row ∧ ∀ tp H', (∀ b o, b ≠ p → H b = some o → H' b = some o) → H' p = some (.ins a.C_Shape dx (shf d' n' st' tp)) → Q .non H') ∨
    ((¬ Counts d n st ∨ ∃ n' : Nat, n = (n' : Int) ∧ ¬ Turns n' m row) ∧ ∀ H', Same H H' → E (.ref a.C_NoShape) none H'))
theorem ok_Shape_init (T : Txt K mg a) : FnOk P wo K mg base (CXe P wo) 2 a.f_Shape_init a.d_Shape_init ["self", "data", "planks", "stripes", "turns"] (spShapeInit a) := by
  have G_check_counts : FnOk P wo K mg base (CXe P wo) 1 _ _ _ _ := ok_check_counts T
  have G_check_turns : FnOk P wo K mg base (CXe P wo) 1 _ _ _ _ := ok_check_turns T
  refine T.F_Shape_init.okX (k := 1) sc_Shape_init (fun vs H Q E h => ?_) (fun cdv A outer s H vs Q E hr h => ?_)
  · obtain ⟨p, dx, L, d, n, st, m, ps, row, rfl, _⟩ := h
    rfl
  · obtain ⟨p, dx, L, d, n, st, m, ps, row, rfl, hp, hd, hn, hst, h18, hL, hps, h⟩ := h
    refine ⟨_, (pss_cons (ps_expr (pe_call G_check_counts (hr.mono (by decide)) rfl T.m_check_counts T.k_check_counts T.b_check_counts .nil (passX fun _ _ _ h => h) (pa_cons (pv 1) (pa_cons (pv 2) (pa_cons (pv 3) pa_nil)))))
      (pss_cons (ps_expr (pe_call G_check_turns (hr.mono (by decide)) rfl T.m_check_turns T.k_check_turns T.b_check_turns .nil (passX fun _ _ _ h => h) (pa_cons (pv 2) (pa_cons (pv 4) pa_nil))))
      (pss_cons (ps_fld (pv 0) (pv 1) rfl)
      (pss_cons (ps_fld (pv 0) (pv 2) rfl)
      (pss_cons (ps_fld (pv 0) (pv 3) rfl)
      (pss_cons (ps_fld (pv 0) (pe_op op_mul (pv 1) (pv 3)) rfl)
      (pss_one (ps_fld (pv 0) (pe_comp (CompOk.of (cap := []) (own := ["turn"]) (by kernel_rfl)) rfl (pi_list (pv 4)) (fun _ _ _ _ _ => (pg_name (i := 0) (of_decide_eq_true (by kernel_rfl)) rfl (Or.inl rfl))) (fun _ _ _ _ _ => pts_nil) (fun _ _ _ _ _ => by exact (pe_callTy (call_list_ofK (K := K) rfl) rfl T.n_list (by decide +kernel) (pa_cons (pv 0) pa_nil)))) rfl)))))))), ?_⟩
    by_cases hc : Counts d n st
    rotate_left
    · refine ⟨_, rfl, _, rfl, _, rfl, d, n, st, rfl, hd, hn, hst, .inr ⟨hc, ?_⟩⟩
      rcases h with ⟨_, _, _, _, _, _, hc', _⟩ | ⟨_, q⟩
      · exact absurd hc' hc
      · exact q _ (Same.refl _)
    refine ⟨_, rfl, _, rfl, _, rfl, d, n, st, rfl, hd, hn, hst, .inl ⟨hc, ?_⟩⟩
    obtain ⟨n', rfl⟩ : ∃ n' : Nat, n = (n' : Int) := ⟨n.toNat, by have := hc.1; omega⟩
    have hn8 : n' ≤ 8 := by have := hc.2.1; omega
    by_cases hT : Turns n' m row
    rotate_left
    · refine ⟨_, rfl, _, rfl, n', m, L, ps, row, rfl, hn8, h18, hL, hps, .inr ⟨hT, fun H1 s1 => ?_⟩⟩
      rcases h with ⟨d', n2, st', _, e2, _, _, hT', _⟩ | ⟨_, q⟩
      · have : n2 = n' := by omega
        subst this
        exact absurd hT' hT
      · exact q _ s1
    rcases h with ⟨d', n2, st', rfl, e2, rfl, _, _, q⟩ | ⟨hb, _⟩
    rotate_left
    · rcases hb with hb | ⟨n2, e2, hb⟩
      · exact absurd hc hb
      · have : n2 = n' := by omega
        subst this
        exact absurd hT hb
    have e3 : n2 = n' := by omega
    subst e3
    refine ⟨_, rfl, _, rfl, n2, m, L, ps, row, rfl, hn8, h18, hL, hps, .inl ⟨hT, fun H1 s1 => ?_⟩⟩
    have hc3 := hc.2.2
    refine ⟨_, rfl, _, rfl, p, a.C_Shape, dx, _, rfl, s1 _ _ hp, T.cl_Shape, T.no_Shape_data, (by decide), ?_⟩
    refine ⟨_, rfl, _, rfl, p, a.C_Shape, dx, _, rfl, upd_same, T.cl_Shape, T.no_Shape_planks, (by show (1 : Nat) < 1000; decide), ?_⟩
    refine ⟨_, rfl, _, rfl, p, a.C_Shape, dx, _, rfl, upd_same, T.cl_Shape, T.no_Shape_stripes, (by show (2 : Nat) < 1000; decide), ?_⟩
    refine ⟨_, rfl, _, rfl, _, _, rfl, rfl, .inl ⟨by omega, by omega⟩, _, rfl, p, a.C_Shape, dx, _, rfl, upd_same, T.cl_Shape, T.no_Shape_size, (by show (3 : Nat) < 1000; decide), ?_⟩
    dsimp only
    rw [upd_upd, upd_upd, upd_upd]
    have ef : putF "size" (.int ((d' : Int) * (st' : Int))) (putF "stripes" (.int (st' : Int)) (putF "planks" (.int (n2 : Int)) (putF "data" (.int (d' : Int)) []))) = [(("data" : Str), V.int d'), (("planks" : Str), V.int n2), (("stripes" : Str), V.int st'), (("size" : Str), V.int ((d' * st' : Nat) : Int))] := by
      rw [Int.natCast_mul]
      rfl
    rw [ef]
    have nLp : L ≠ p := fun z => by rw [z, hp] at hL; cases hL
    have hnp : p ∉ ps := fun z => by
      obtain ⟨j, hj, e⟩ := List.getElem_of_mem z
      have := hps.on.on j p (by rw [List.getElem?_eq_getElem hj, e])
      rw [hp] at this
      cases this
    have hps2 := (hps.on.same s1).upd (o := .ins a.C_Shape dx [(("data" : Str), V.int d'), (("planks" : Str), V.int n2), (("stripes" : Str), V.int st'), (("size" : Str), V.int ((d' * st' : Nat) : Int))]) hnp
    have hL2 : (upd H1 p (.ins a.C_Shape dx [(("data" : Str), V.int d'), (("planks" : Str), V.int n2), (("stripes" : Str), V.int st'), (("size" : Str), V.int ((d' * st' : Nat) : Int))])) L = some (.lst (ps.map V.ref)) := by rw [upd_ne nLp]; exact s1 _ _ hL
    have hp2 : (upd H1 p (.ins a.C_Shape dx [(("data" : Str), V.int d'), (("planks" : Str), V.int n2), (("stripes" : Str), V.int st'), (("size" : Str), V.int ((d' * st' : Nat) : Int))])) p = some (.ins a.C_Shape dx [(("data" : Str), V.int d'), (("planks" : Str), V.int n2), (("stripes" : Str), V.int st'), (("size" : Str), V.int ((d' * st' : Nat) : Int))]) := upd_same
    have k2 : ∀ b o, b ≠ p → H b = some o → (upd H1 p (.ins a.C_Shape dx [(("data" : Str), V.int d'), (("planks" : Str), V.int n2), (("stripes" : Str), V.int st'), (("size" : Str), V.int ((d' * st' : Nat) : Int))])) b = some o := fun b o z e => by rw [upd_ne z]; exact s1 _ _ e
    generalize upd H1 p _ = H2 at hps2 hL2 hp2 k2
    refine ⟨_, rfl, L, rfl, ⟨_, SqL.of hL2⟩, fun tp ntp => ?_⟩
    have el : (ps.map V.ref).length = m := by rw [List.length_map, hps.on.len]
    refine comp_rowsL (xs := ps.map V.ref) (row := fun j => (row j).map V.int) (cs := []) (SqL.of hL2) ntp rfl (by rw [el]; exact Nat.le_trans h18 (by decide)) (fun i x H3 R3 hx s3 hR => ?_) (fun qs H3 s3 hD hrows hf hd => ?_)
    · rw [List.getElem?_map] at hx
      cases hq : ps[i]? with
      | none => rw [hq] at hx; cases hx
      | some q =>
        rw [hq] at hx
        cases hx
        exact ⟨_, rfl, q, _, rfl, .inl (SqL.of (s3 _ _ (hps2.on i q hq))), fun l nl => hR l _ nl (Same.new nl) upd_same⟩
    · refine ⟨_, rfl, p, a.C_Shape, dx, _, rfl, s3 _ _ hp2, T.cl_Shape, T.no_Shape_turns, (by show (4 : Nat) < 1000; decide), ?_⟩
      refine q tp _ (fun b o z e => ?_) upd_same
      rw [upd_ne z]
      exact s3 _ _ (k2 b o z e)
def spSpoiled : Sp := fun vs H Q _ => ∃ (p : Addr) (n : Nat) (c : Int) (xs : List Int), vs = [.ref p, .int n, .int c] ∧ n ≤ 10 ∧ H p = some (.lst (xs.map V.int)) ∧ xs.length ≤ 10 ∧ SmallL xs ∧ ∀ D H' ys, H D = none → Same H H' → H' D = some (.lst (ys.map V.int)) → ys.length ≤ 11 → SmallL ys → Q (.ref D) H'
theorem ok_spoiled (T : Txt K mg a) : FnOk P wo K mg base CX0 1 a.f_spoiled a.d_spoiled ["_law_row", "_law_planks", "_law_cell_here"] spSpoiled := by
  refine T.F_spoiled.ok (k := 0) sc_spoiled (fun vs H Q E h => ?_) (fun cdv A outer s H vs Q E hr h => ?_)
  · obtain ⟨p, n, c, xs, rfl, _⟩ := h
    rfl
  · obtain ⟨p, n, c, xs, rfl, hn, hp, hl, hs, q⟩ := h
    refine ⟨_, (pss_cons (ps_set (i := 3) sc_spoiled.nd rfl (Or.inl rfl) (pe_op op_mod (pv 2) pe_int))
      (pss_cons (ps_set (i := 4) sc_spoiled.nd rfl (Or.inl rfl) (pe_op op_mod (pe_op op_fdiv (pv 2) pe_int) (pe_op op_add (pe_callB call_len_seq rfl T.n_len PySem.boot_len (pa_cons (pv 0) pa_nil)) pe_int)))
      (pss_cons (ps_set (i := 5) sc_spoiled.nd rfl (Or.inl rfl) (pe_op op_mod (pe_op op_fdiv (pv 2) pe_int) (pe_op op_add (pv 1) pe_int)))
      (pss_cons (ps_if (PW.pt (pw_and (pt_cmpR op_eq (pv 3) pe_int (nomark _)) (pw_and1 (pt_cmpR op_lt (pv 4) (pe_callB call_len_seq rfl T.n_len PySem.boot_len (pa_cons (pv 0) pa_nil)) (nomark _))))) (pss_one (ps_ret (pe_op op_cat (pe_op op_cat (pe_slice sl_list (pv 0) po_none (po_some (pv 4))) (pe_lst (pa_cons (pv 5) pa_nil))) (pe_slice sl_list (pv 0) (po_some (pe_op op_add (pv 4) pe_int)) po_none)))) pss_nil)
      (pss_cons (ps_if (pt_cmpR op_eq (pv 3) pe_int (nomark _)) (pss_one (ps_ret (pe_op op_cat (pe_slice sl_list (pv 0) po_none (po_some (pv 4))) (pe_slice sl_list (pv 0) (po_some (pe_op op_add (pv 4) pe_int)) po_none)))) pss_nil)
      (pss_cons (ps_if (pt_cmpR op_eq (pv 3) pe_int (nomark _)) (pss_one (ps_ret (pe_op op_cat (pe_op op_cat (pe_slice sl_list (pv 0) po_none (po_some (pv 4))) (pe_lst (pa_cons (pv 5) pa_nil))) (pe_slice sl_list (pv 0) (po_some (pv 4)) po_none)))) pss_nil)
      (pss_one (ps_ret (pe_op op_cat (pe_op op_cat (pe_slice sl_list (pv 0) po_none (po_some (pv 4))) (pe_lst (pa_cons (pe_ix ix_list (pe_lst (pa_cons (pe_un un_neg pe_int) (pa_cons (pv 1) (pa_cons (pe_op op_add (pv 1) (pe_op op_pow pe_int pe_int)) (pa_cons (pe_op op_sub pe_int (pe_op op_pow pe_int pe_int)) pa_nil))))) (pe_op op_mod (pe_op op_fdiv (pv 2) pe_int) pe_int) (fun _ _ => rfl)) pa_nil))) (pe_slice sl_list (pv 0) (po_some (pe_op op_add (pv 4) pe_int)) po_none)))))))))), ?_⟩
    have hlm : (xs.map V.int).length = xs.length := List.length_map _
    have hpos : (0 : Int) < (xs.length : Int) + 1 := by omega
    have hpn : (0 : Int) < (n : Int) + 1 := by omega
    obtain ⟨at', hat, eat⟩ := modN (c / 4) (n := xs.length + 1) (by omega)
    have eat' : c / 4 % ((xs.length : Int) + 1) = (at' : Int) := eat
    have o1 := Int.emod_lt_of_pos (c / 44) hpn
    have o2 := Int.emod_nonneg (c / 44) (Int.ne_of_gt hpn)
    have ho : (c / 44 % ((n : Int) + 1)).natAbs.log2 < 1920 := log_small (by omega)
    refine ⟨_, rfl, _, _, rfl, rfl, p0 (by decide), _, rfl, _, _, rfl, rfl, ⟨by decide, by decide⟩, _, rfl, p, _, rfl, .inl (SqL.of hp), _, _, rfl, rfl, _, _, rfl, rfl, p0 (by rw [hlm]; exact hpos), ?_⟩
    refine ⟨_, rfl, _, _, rfl, rfl, ⟨by decide, by decide⟩, _, rfl, _, _, rfl, rfl, _, _, rfl, rfl, p0 hpn, ?_⟩
    try dsimp only
    rw [hlm, eat']
    generalize c / 44 % ((n : Int) + 1) = z at ho
    have e1 : (at' : Int) + 1 = ((at' + 1 : Nat) : Int) := by omega
    have lt1 : (xs.take at').length ≤ at' := by rw [List.length_take]; omega
    have ld1 : (xs.drop (at' + 1)).length = xs.length - (at' + 1) := List.length_drop
    have ld0 : (xs.drop at').length = xs.length - at' := List.length_drop
    refine ⟨_, rfl, rfl, _, rfl, ?_⟩
    by_cases w0 : c % 4 = 0 ∧ at' < xs.length
    · refine ite2 (fun _ => ?_) (fun y => absurd (decide_eq_true (congrArg V.int w0.1)) y)
      refine ⟨_, rfl, _, rfl, p, _, rfl, .inl (SqL.of hp), _, _, rfl, rfl, _, rfl, ?_⟩
      refine ite2 (fun _ => ?_) (fun y => absurd (decide_eq_true (by rw [hlm]; omega)) y)
      refine ⟨_, rfl, _, rfl, _, rfl, p, _, rfl, SqL.of hp, fun d1 n1 => ?_⟩
      rw [cutL]
      refine ⟨_, rfl, (show 1 ≤ sizeLine by decide), fun d2 n2 => ?_⟩
      refine ⟨d1, d2, _, _, rfl, rfl, (Same.new (o := .lst [V.int z]) n2) _ _ upd_same, upd_same, ?_, fun d3 n3 => ?_⟩
      · rw [List.length_map]
        exact Nat.le_trans (Nat.add_le_add_right lt1 1) (Nat.le_trans (by omega : at' + 1 ≤ 20) (by decide))
      have sD := (Same.new (o := .lst ((xs.take at').map V.int)) n1).trans ((Same.new (o := .lst [V.int z]) n2).trans (Same.new (o := .lst ((xs.take at').map V.int ++ [V.int z])) n3))
      refine ⟨_, rfl, _, rfl, _, _, rfl, rfl, _, rfl, p, _, rfl, SqL.of (sD _ _ hp), fun d4 n4 => ?_⟩
      rw [e1, cutR]
      refine ⟨d3, d4, _, _, rfl, rfl, Same.new n4 _ _ upd_same, upd_same, ?_, fun d5 n5 => ?_⟩
      · rw [List.length_append, List.length_map, List.length_map, ld1]
        exact Nat.le_trans (Nat.add_le_add_right (Nat.add_le_add_right lt1 1) _) (Nat.le_trans (by omega) (by decide : 20 ≤ sizeLine))
      have sE := sD.trans (Same.new (o := .lst ((xs.drop (at' + 1)).map V.int)) n4)
      refine q d5 _ (xs.take at' ++ [z] ++ xs.drop (at' + 1)) (sE.free n5) (sE.trans (Same.new n5)) ?_ ?_ (hs.mid ho)
      · rw [upd_same, List.map_append, List.map_append]
        rfl
      · rw [List.length_append, List.length_append, ld1]
        have : [z].length = 1 := rfl
        omega
    have hw : c % 4 = 0 → ¬ (at' : Int) < (((xs.map V.int).length : Nat) : Int) := fun w1 y => w0 ⟨w1, by rw [hlm] at y; omega⟩
    refine joinU (fun k => by
      by_cases w1 : c % 4 = 0
      · refine ite2 (fun _ => ?_) (fun y => absurd (decide_eq_true (congrArg V.int w1)) y)
        refine ⟨_, rfl, _, rfl, p, _, rfl, .inl (SqL.of hp), _, _, rfl, rfl, _, rfl, ?_⟩
        refine ite2 (fun y => absurd (of_decide_eq_true y) (hw w1)) (fun _ => ?_)
        exact k
      · refine ite2 (fun y => absurd (V.int.inj (of_decide_eq_true y)) w1) (fun _ => ?_)
        refine iteF ?_
        exact k) ?_
    refine ⟨_, rfl, rfl, _, rfl, ?_⟩
    refine ite2 (fun _ => ?_) (fun _ => ?_)
    · refine ⟨_, rfl, _, rfl, _, rfl, p, _, rfl, SqL.of hp, fun d1 n1 => ?_⟩
      rw [cutL]
      refine ⟨_, rfl, _, rfl, _, _, rfl, rfl, _, rfl, p, _, rfl, SqL.of (Same.new n1 _ _ hp), fun d4 n4 => ?_⟩
      rw [e1, cutR]
      refine ⟨d1, d4, _, _, rfl, rfl, Same.new n4 _ _ upd_same, upd_same, ?_, fun d5 n5 => ?_⟩
      · rw [List.length_map, List.length_map, ld1]
        exact Nat.le_trans (Nat.add_le_add_right lt1 _) (Nat.le_trans (by omega) (by decide : 20 ≤ sizeLine))
      have sE := (Same.new (o := .lst ((xs.take at').map V.int)) n1).trans (Same.new (o := .lst ((xs.drop (at' + 1)).map V.int)) n4)
      refine q d5 _ (xs.take at' ++ xs.drop (at' + 1)) (sE.free n5) (sE.trans (Same.new n5)) ?_ ?_ hs.out
      · rw [upd_same, List.map_append]
      · rw [List.length_append, ld1]
        omega
    refine ⟨_, rfl, rfl, _, rfl, ?_⟩
    refine ite2 (fun _ => ?_) (fun _ => ?_)
    · skip
      refine ⟨_, rfl, _, rfl, _, rfl, p, _, rfl, SqL.of hp, fun d1 n1 => ?_⟩
      rw [cutL]
      refine ⟨_, rfl, (show 1 ≤ sizeLine by decide), fun d2 n2 => ?_⟩
      refine ⟨d1, d2, _, _, rfl, rfl, (Same.new (o := .lst [V.int z]) n2) _ _ upd_same, upd_same, ?_, fun d3 n3 => ?_⟩
      · rw [List.length_map]
        exact Nat.le_trans (Nat.add_le_add_right lt1 1) (Nat.le_trans (by omega : at' + 1 ≤ 20) (by decide))
      have sD := (Same.new (o := .lst ((xs.take at').map V.int)) n1).trans ((Same.new (o := .lst [V.int z]) n2).trans (Same.new (o := .lst ((xs.take at').map V.int ++ [V.int z])) n3))
      refine ⟨_, rfl, _, rfl, _, rfl, p, _, rfl, SqL.of (sD _ _ hp), fun d4 n4 => ?_⟩
      rw [cutR]
      refine ⟨d3, d4, _, _, rfl, rfl, Same.new n4 _ _ upd_same, upd_same, ?_, fun d5 n5 => ?_⟩
      · rw [List.length_append, List.length_map, List.length_map, ld0]
        exact Nat.le_trans (Nat.add_le_add_right (Nat.add_le_add_right lt1 1) _) (Nat.le_trans (by omega) (by decide : 20 ≤ sizeLine))
      have sE := sD.trans (Same.new (o := .lst ((xs.drop at').map V.int)) n4)
      refine q d5 _ (xs.take at' ++ [z] ++ xs.drop at') (sE.free n5) (sE.trans (Same.new n5)) ?_ ?_ (hs.mid ho)
      · rw [upd_same, List.map_append, List.map_append]
        rfl
      · rw [List.length_append, List.length_append, ld0]
        have : [z].length = 1 := rfl
        omega
    · have e29 : ((10 : Int) ^ (29 : Int).toNat) = 100000000000000000000000000000 := by decide
      obtain ⟨k, hk, ek⟩ := modN (c / 44) (n := 4) (by decide)
      have ek' : c / 44 % 4 = (k : Int) := ek
      obtain ⟨w, ew, hw4⟩ : ∃ w : Int, ([V.int (-1), V.int (n : Int), V.int ((n : Int) + (10 : Int) ^ (29 : Int).toNat), V.int (0 - (10 : Int) ^ (29 : Int).toNat)] : List V)[k]? = some (.int w) ∧ w.natAbs.log2 < 1920 := by
        have h4 : k = 0 ∨ k = 1 ∨ k = 2 ∨ k = 3 := by omega
        rcases h4 with rfl | rfl | rfl | rfl
        · exact ⟨_, rfl, log_small (by decide)⟩
        · exact ⟨_, rfl, log_small (by omega)⟩
        · exact ⟨_, rfl, log_small (by rw [e29]; omega)⟩
        · exact ⟨_, rfl, log_small (by rw [e29]; decide)⟩
      refine ⟨_, rfl, _, rfl, _, rfl, p, _, rfl, SqL.of hp, fun d1 n1 => ?_⟩
      rw [cutL]
      refine ⟨1, rfl, _, rfl, _, rfl, _, _, rfl, rfl, ⟨by decide, by decide⟩, _, _, rfl, rfl, _, _, rfl, rfl, ⟨by decide, by decide⟩, _, _, rfl, rfl, (show 4 ≤ sizeLine by decide), fun l nl => ?_⟩
      refine ⟨_, rfl, _, _, rfl, rfl, ⟨by decide, by decide⟩, _, _, rfl, rfl, p0 (by decide), ?_⟩
      try dsimp only
      rw [ek']
      refine ⟨l, _, _, _, rfl, rfl, SqL.of upd_same, atI_nat ew, (show 1 ≤ sizeLine by decide), fun d2 n2 => ?_⟩
      refine ⟨d1, d2, _, _, rfl, rfl, ((Same.new (o := .lst [V.int (-1), V.int (n : Int), V.int ((n : Int) + (10 : Int) ^ (29 : Int).toNat), V.int (0 - (10 : Int) ^ (29 : Int).toNat)]) nl).trans (Same.new (o := .lst [V.int w]) n2)) _ _ upd_same, upd_same, ?_, fun d3 n3 => ?_⟩
      · rw [List.length_map]
        exact Nat.le_trans (Nat.add_le_add_right lt1 1) (Nat.le_trans (by omega : at' + 1 ≤ 20) (by decide))
      have sD := (Same.new (o := .lst ((xs.take at').map V.int)) n1).trans (((Same.new (o := .lst [V.int (-1), V.int (n : Int), V.int ((n : Int) + (10 : Int) ^ (29 : Int).toNat), V.int (0 - (10 : Int) ^ (29 : Int).toNat)]) nl).trans (Same.new (o := .lst [V.int w]) n2)).trans (Same.new (o := .lst ((xs.take at').map V.int ++ [V.int w])) n3))
      refine ⟨_, rfl, _, rfl, _, _, rfl, rfl, _, rfl, p, _, rfl, SqL.of (sD _ _ hp), fun d4 n4 => ?_⟩
      rw [e1, cutR]
      refine ⟨d3, d4, _, _, rfl, rfl, Same.new n4 _ _ upd_same, upd_same, ?_, fun d5 n5 => ?_⟩
      · rw [List.length_append, List.length_map, List.length_map, ld1]
        exact Nat.le_trans (Nat.add_le_add_right (Nat.add_le_add_right lt1 1) _) (Nat.le_trans (by omega) (by decide : 20 ≤ sizeLine))
      have sE := sD.trans (Same.new (o := .lst ((xs.drop (at' + 1)).map V.int)) n4)
      refine q d5 _ (xs.take at' ++ [w] ++ xs.drop (at' + 1)) (sE.free n5) (sE.trans (Same.new n5)) ?_ ?_ (hs.mid hw4)
      · rw [upd_same, List.map_append, List.map_append]
        rfl
      · rw [List.length_append, List.length_append, ld1]
        have : [w].length = 1 := rfl
        omega
end

theorem joinH {F : Hp → Prop} {G : Prop} (Pz : Hp → Prop) (h : (∀ H, Pz H → F H) → G) (key : ∀ H, Pz H → F H) : G := h key
theorem joinZ {F : Int → Prop} {G : Prop} (Pz : Int → Prop) (h : (∀ z, Pz z → F z) → G) (key : ∀ z, Pz z → F z) : G := h key
def Far (z : Int) : Prop := z.natAbs ≤ 400000000000000000000000000000
section
variable {P : Program} {wo : World} {K : PySem.W.Frag} {mg : Str → Option Value} {base : Heap} {a : Adr}
def spAny : Sp := fun vs H Q _ => ∃ (c : Int) (hi : Nat), vs = [.int c, .int (-1), .int hi] ∧ hi ≤ 100 ∧ ∀ z H', Far z → Same H H' → Q (.int z) H'
theorem ok_any (T : Txt K mg a) : FnOk P wo K mg base CX0 1 a.f_any a.d_any ["_law_cell_here", "_law_low", "_law_high"] spAny := by
  refine T.F_any.ok (k := 0) sc_any (fun vs H Q E h => ?_) (fun cdv A outer s H vs Q E hr h => ?_)
  · obtain ⟨c, hi, rfl, _⟩ := h
    rfl
  · obtain ⟨c, hi, rfl, hh, q⟩ := h
    refine ⟨_, (pss_cons (ps_if (pt_cmpR op_eq (pe_op op_mod (pv 0) pe_int) pe_int (nomark _)) (pss_one (ps_ret (pe_op op_add (pe_ix ix_list (pe_lst (pa_cons (pe_op op_pow pe_int pe_int) (pa_cons (pe_op op_sub pe_int (pe_op op_pow pe_int pe_int)) pa_nil))) (pe_op op_mod (pe_op op_fdiv (pv 0) pe_int) pe_int) (fun _ _ => rfl)) (pe_op op_mod (pe_op op_fdiv (pv 0) pe_int) (pe_op op_pow pe_int pe_int))))) pss_nil)
      (pss_one (ps_ret (pe_op op_add (pv 1) (pe_op op_mod (pe_op op_fdiv (pv 0) pe_int) (pe_op op_add (pe_op op_sub (pv 2) (pv 1)) pe_int)))))), ?_⟩
    have e29 : ((10 : Int) ^ (29 : Int).toNat) = 100000000000000000000000000000 := by decide
    have e28 : ((10 : Int) ^ (28 : Int).toNat) = 10000000000000000000000000000 := by decide
    have f1 := Int.emod_lt_of_pos (c / 8) (by decide : (0 : Int) < 10000000000000000000000000000)
    have f2 := Int.emod_nonneg (c / 8) (by decide : (10000000000000000000000000000 : Int) ≠ 0)
    have hp : (0 : Int) < (hi : Int) - (-1) + 1 := by omega
    have g1 := Int.emod_lt_of_pos (c / 4) hp
    have g2 := Int.emod_nonneg (c / 4) (Int.ne_of_gt hp)
    refine ⟨_, rfl, _, _, rfl, rfl, p0 (by decide), rfl, _, rfl, ?_⟩
    refine ite2 (fun _ => ?_) (fun _ => ?_)
    · obtain ⟨k, hk, ek⟩ := modN (c / 4) (n := 2) (by decide)
      have ek' : c / 4 % 2 = (k : Int) := ek
      obtain ⟨w, ew, hw⟩ : ∃ w : Int, ([V.int ((10 : Int) ^ (29 : Int).toNat), V.int (0 - (10 : Int) ^ (29 : Int).toNat)] : List V)[k]? = some (.int w) ∧ w.natAbs ≤ 100000000000000000000000000000 := by
        have h2 : k = 0 ∨ k = 1 := by omega
        rcases h2 with rfl | rfl
        · exact ⟨_, rfl, by rw [e29]; decide⟩
        · exact ⟨_, rfl, by rw [e29]; decide⟩
      refine ⟨_, _, rfl, rfl, ⟨by decide, by decide⟩, _, _, rfl, rfl, ⟨by decide, by decide⟩, _, _, rfl, rfl, (show 2 ≤ sizeLine by decide), fun l nl => ?_⟩
      refine ⟨_, rfl, _, _, rfl, rfl, ⟨by decide, by decide⟩, _, _, rfl, rfl, p0 (by decide), ?_⟩
      try dsimp only
      rw [ek']
      refine ⟨l, _, _, _, rfl, rfl, SqL.of upd_same, atI_nat ew, _, rfl, _, _, rfl, rfl, ⟨by decide, by decide⟩, _, _, rfl, rfl, ⟨by decide, by decide⟩, _, _, rfl, rfl, p0 (by decide), _, _, rfl, rfl, ?_⟩
      try dsimp only
      rw [e28]
      exact q _ _ (by unfold Far; omega) (Same.new nl)
    · refine ⟨_, rfl, _, rfl, _, _, rfl, rfl, ⟨by decide, by decide⟩, _, rfl, _, rfl, _, _, rfl, rfl, _, _, rfl, rfl, _, _, rfl, rfl, p0 hp, _, _, rfl, rfl, ?_⟩
      exact q _ _ (by unfold Far; omega) (Same.refl _)
def spNumbers (K : PySem.W.Frag) : Sp := fun vs H Q _ => ∃ (s : Addr) (ns : List Int), vs = [.ref s] ∧ SqL K H s (ns.map V.int) ∧ ∀ (D : Addr) H' (d n st : Int) (m : Nat), Same H H' → H' D = some (.lst [.int d, .int n, .int st, .int m]) → d.natAbs.log2 < 1920 → n.natAbs.log2 < 1920 → st.natAbs.log2 < 1920 → m ≤ 18 → (5 < cel ns 0 % 8 → 1 ≤ m) → Q (.ref D) H'
theorem ok_numbers (T : Txt K mg a) : FnOk P wo K mg base CX0 2 a.f_numbers a.d_numbers ["_law_script"] (spNumbers K) := by
  have G_cell : FnOk P wo K mg base CX0 1 _ _ _ _ := ok_cell T
  have G_any : FnOk P wo K mg base CX0 1 _ _ _ _ := ok_any T
  refine T.F_numbers.ok (k := 1) sc_numbers (fun vs H Q E h => ?_) (fun cdv A outer s H vs Q E hr h => ?_)
  · obtain ⟨sa, ns, rfl, _⟩ := h
    rfl
  · obtain ⟨sa, ns, rfl, hS, q⟩ := h
    refine ⟨_, (pss_cons (ps_set (i := 1) sc_numbers.nd rfl (Or.inl rfl) (pe_call G_cell (hr.mono (by decide)) rfl T.m_cell T.k_cell T.b_cell .nil pass0 (pa_cons (pv 0) (pa_cons pe_int pa_nil))))
      (pss_cons (ps_set (i := 2) sc_numbers.nd rfl (Or.inl rfl) (pe_call G_cell (hr.mono (by decide)) rfl T.m_cell T.k_cell T.b_cell .nil pass0 (pa_cons (pv 0) (pa_cons pe_int pa_nil))))
      (pss_cons (ps_set (i := 3) sc_numbers.nd rfl (Or.inl rfl) (pe_lst (pa_cons pe_int (pa_cons (pe_op op_add pe_int (pe_op op_mod (pv 2) pe_int)) (pa_cons (pe_op op_add pe_int (pe_op op_mod (pe_op op_fdiv (pv 2) pe_int) pe_int)) (pa_cons (pe_op op_add pe_int (pe_op op_mod (pe_op op_fdiv (pv 2) pe_int) pe_int)) pa_nil))))))
      (pss_cons (ps_set (i := 4) sc_numbers.nd rfl (Or.inl rfl) (pe_op op_mod (pv 1) pe_int))
      (pss_cons (ps_if (pt_cmpR op_eq (pv 4) pe_int (nomark _)) (pss_one (ps_asg (pe_call G_any (hr.mono (by decide)) rfl T.m_any T.k_any T.b_any .nil pass0 (pa_cons (pe_call G_cell (hr.mono (by decide)) rfl T.m_cell T.k_cell T.b_cell .nil pass0 (pa_cons (pv 0) (pa_cons pe_int pa_nil))) (pa_cons (pe_un un_neg pe_int) (pa_cons pe_int pa_nil)))) (pg_sub (pv 3) pe_int set_list))) pss_nil)
      (pss_cons (ps_if (pt_cmpR op_eq (pv 4) pe_int (nomark _)) (pss_one (ps_asg (pe_call G_any (hr.mono (by decide)) rfl T.m_any T.k_any T.b_any .nil pass0 (pa_cons (pe_call G_cell (hr.mono (by decide)) rfl T.m_cell T.k_cell T.b_cell .nil pass0 (pa_cons (pv 0) (pa_cons pe_int pa_nil))) (pa_cons (pe_un un_neg pe_int) (pa_cons pe_int pa_nil)))) (pg_sub (pv 3) pe_int set_list))) pss_nil)
      (pss_cons (ps_if (pt_cmpR op_eq (pv 4) pe_int (nomark _)) (pss_one (ps_asg (pe_op op_mod (pe_call G_cell (hr.mono (by decide)) rfl T.m_cell T.k_cell T.b_cell .nil pass0 (pa_cons (pv 0) (pa_cons pe_int pa_nil))) pe_int) (pg_sub (pv 3) pe_int set_list))) pss_nil)
      (pss_cons (ps_asg (pe_op op_sub (pe_op op_sub (pe_ix ix_list (pv 3) pe_int (fun _ _ => rfl)) pe_int) (pe_op op_mod (pe_op op_fdiv (pv 1) pe_int) pe_int)) (pg_sub (pv 3) pe_int set_list))
      (pss_cons (ps_if (pt_cmpR op_eq (pe_ix ix_list (pv 3) pe_int (fun _ _ => rfl)) pe_int (nomark _)) (pss_one (ps_asg pe_int (pg_sub (pv 3) pe_int set_list))) pss_nil)
      (pss_cons (ps_if (pt_cmpR op_eq (pv 4) pe_int (nomark _)) (pss_one (ps_asg (pe_call G_any (hr.mono (by decide)) rfl T.m_any T.k_any T.b_any .nil pass0 (pa_cons (pe_call G_cell (hr.mono (by decide)) rfl T.m_cell T.k_cell T.b_cell .nil pass0 (pa_cons (pv 0) (pa_cons pe_int pa_nil))) (pa_cons (pe_un un_neg pe_int) (pa_cons pe_int pa_nil)))) (pg_sub (pv 3) pe_int set_list))) pss_nil)
      (pss_one (ps_ret (pv 3))))))))))))), ?_⟩
    refine ⟨_, rfl, sa, ns, 0, rfl, hS, _, rfl, sa, ns, 1, rfl, hS, ?_⟩
    generalize cel ns 1 = c1
    generalize hc0 : cel ns 0 = c0 at q
    have b1 := Int.emod_lt_of_pos c1 (by decide : (0 : Int) < 7)
    have b1' := Int.emod_nonneg c1 (by decide : (7 : Int) ≠ 0)
    have b2 := Int.emod_lt_of_pos (c1 / 7) (by decide : (0 : Int) < 32)
    have b2' := Int.emod_nonneg (c1 / 7) (by decide : (32 : Int) ≠ 0)
    obtain ⟨m0, hm0, em0⟩ := modN (c1 / 224) (n := 16) (by decide)
    have em : (1 : Int) + c1 / 224 % 16 = ((1 + m0 : Nat) : Int) := by
      have : c1 / 224 % 16 = (m0 : Int) := em0
      omega
    refine ⟨_, rfl, _, _, rfl, rfl, p0 (by decide), _, _, rfl, rfl, _, rfl, _, _, rfl, rfl, ⟨by decide, by decide⟩, _, _, rfl, rfl, p0 (by decide), _, _, rfl, rfl, _, rfl, _, _, rfl, rfl, ⟨by decide, by decide⟩, _, _, rfl, rfl, p0 (by decide), _, _, rfl, rfl, (show 4 ≤ sizeLine by decide), fun D nD => ?_⟩
    try dsimp only
    rw [em]
    have sD := Same.new (o := .lst [V.int 0, V.int (2 + c1 % 7), V.int (1 + c1 / 7 % 32), V.int ((1 + m0 : Nat) : Int)]) nD
    have hD : (upd H D (.lst [V.int 0, V.int (2 + c1 % 7), V.int (1 + c1 / 7 % 32), V.int ((1 + m0 : Nat) : Int)])) D = some (.lst [V.int 0, V.int (2 + c1 % 7), V.int (1 + c1 / 7 % 32), V.int ((1 + m0 : Nat) : Int)]) := upd_same
    generalize (upd H D (.lst [V.int 0, V.int (2 + c1 % 7), V.int (1 + c1 / 7 % 32), V.int ((1 + m0 : Nat) : Int)])) = H1 at sD hD
    have fn : Far (2 + c1 % 7) := by unfold Far; omega
    have fs : Far (1 + c1 / 7 % 32) := by unfold Far; omega
    generalize 2 + c1 % 7 = n1 at hD fn
    generalize 1 + c1 / 7 % 32 = st1 at hD fs
    have ix : ∀ {j : Nat} {w x y z : V}, j < 4 → ixN ([w, x, y, z] : List V).length (j : Int) = some j := fun {j w x y z} h => ixN_nat h
    refine ⟨_, rfl, _, _, rfl, rfl, p0 (by decide), ?_⟩
    try dsimp only
    -- fault 3
    refine joinH (fun H' => Same H H' ∧ ∃ n : Int, Far n ∧ H' D = some (.lst [V.int 0, .int n, .int st1, .int ((1 + m0 : Nat) : Int)])) (fun k => by
      refine ⟨_, rfl, rfl, _, rfl, ?_⟩
      refine ite2 (fun _ => ?_) (fun _ => ?_)
      · refine ⟨_, rfl, sa, ns, 2, rfl, sD.seq hS, 1, rfl, _, 10, rfl, by decide, fun z H2 hz s2 => ?_⟩
        refine ⟨_, rfl, D, _, _, 1, rfl, rfl, s2 _ _ hD, ix (by decide), ?_⟩
        have s3 := (sD.trans s2).up nD (o := .lst [V.int 0, .int z, .int st1, .int ((1 + m0 : Nat) : Int)])
        have h3 : (upd H2 D (.lst [V.int 0, .int z, .int st1, .int ((1 + m0 : Nat) : Int)])) D = some (.lst [V.int 0, .int z, .int st1, .int ((1 + m0 : Nat) : Int)]) := upd_same
        show _
        change tNext _ _ (upd H2 D (.lst [V.int 0, .int z, .int st1, .int ((1 + m0 : Nat) : Int)]))
        generalize (upd H2 D (.lst [V.int 0, .int z, .int st1, .int ((1 + m0 : Nat) : Int)])) = H3 at s3 h3
        exact k H3 ⟨s3, z, hz, h3⟩
      · exact k H1 ⟨sD, n1, fn, hD⟩) ?_
    rintro H2 ⟨s2, n, fn2, h2⟩
    clear hD sD fn H1
    -- fault 4
    refine joinH (fun H' => Same H H' ∧ ∃ st : Int, Far st ∧ H' D = some (.lst [V.int 0, .int n, .int st, .int ((1 + m0 : Nat) : Int)])) (fun k => by
      refine ⟨_, rfl, rfl, _, rfl, ?_⟩
      refine ite2 (fun _ => ?_) (fun _ => ?_)
      · refine ⟨_, rfl, sa, ns, 2, rfl, s2.seq hS, 1, rfl, _, 34, rfl, by decide, fun z H3 hz s3 => ?_⟩
        refine ⟨_, rfl, D, _, _, 2, rfl, rfl, s3 _ _ h2, ix (by decide), ?_⟩
        have s4 := (s2.trans s3).up nD (o := .lst [V.int 0, .int n, .int z, .int ((1 + m0 : Nat) : Int)])
        have h4 : (upd H3 D (.lst [V.int 0, .int n, .int z, .int ((1 + m0 : Nat) : Int)])) D = some (.lst [V.int 0, .int n, .int z, .int ((1 + m0 : Nat) : Int)]) := upd_same
        change tNext _ _ (upd H3 D (.lst [V.int 0, .int n, .int z, .int ((1 + m0 : Nat) : Int)]))
        generalize (upd H3 D (.lst [V.int 0, .int n, .int z, .int ((1 + m0 : Nat) : Int)])) = H4 at s4 h4
        exact k H4 ⟨s4, z, hz, h4⟩
      · exact k H2 ⟨s2, st1, fs, h2⟩) ?_
    rintro H3 ⟨s3, st, fs2, h3⟩
    clear h2 s2 fs H2
    -- fault 5
    obtain ⟨m5, hm5, em5⟩ := modN (cel ns 2) (n := 19) (by decide)
    have em5' : cel ns 2 % 19 = (m5 : Int) := em5
    refine joinH (fun H' => Same H H' ∧ ∃ m : Nat, m ≤ 18 ∧ (5 < c0 % 8 → 1 ≤ m) ∧ H' D = some (.lst [V.int 0, .int n, .int st, .int (m : Nat)])) (fun k => by
      refine ⟨_, rfl, rfl, _, rfl, ?_⟩
      refine ite2 (fun y => ?_) (fun _ => ?_)
      · have y5 := V.int.inj (of_decide_eq_true y)
        refine ⟨_, rfl, sa, ns, 2, rfl, s3.seq hS, _, _, rfl, rfl, p0 (by decide), ?_⟩
        try dsimp only
        rw [em5']
        refine ⟨_, rfl, D, _, _, 3, rfl, rfl, h3, ix (by decide), ?_⟩
        have s4 := s3.up nD (o := .lst [V.int 0, .int n, .int st, .int (m5 : Nat)])
        have h4 : (upd H3 D (.lst [V.int 0, .int n, .int st, .int (m5 : Nat)])) D = some (.lst [V.int 0, .int n, .int st, .int (m5 : Nat)]) := upd_same
        change tSeq _ _ _ _ (upd H3 D (.lst [V.int 0, .int n, .int st, .int (m5 : Nat)]))
        generalize (upd H3 D (.lst [V.int 0, .int n, .int st, .int (m5 : Nat)])) = H4 at s4 h4
        refine k H4 ⟨s4, m5, ?_, ?_, h4⟩
        · clear k; omega
        · clear k; intro z; omega
      · refine k H3 ⟨s3, 1 + m0, ?_, ?_, h3⟩
        · clear k; omega
        · clear k; intro z; omega) ?_
    rintro H4 ⟨s4, m, hm, hm1, h4⟩
    clear h3 s3 H3
    have b8 := Int.emod_lt_of_pos (c0 / 8) (by decide : (0 : Int) < 2)
    have b8' := Int.emod_nonneg (c0 / 8) (by decide : (2 : Int) ≠ 0)
    unfold Far at fn2 fs2
    refine ⟨_, rfl, D, _, _, _, rfl, rfl, SqL.of h4, atI_nat (j := 1) rfl, _, _, rfl, rfl, _, rfl, _, _, rfl, rfl, ⟨by decide, by decide⟩, _, _, rfl, rfl, p0 (by decide), _, _, rfl, rfl, ?_⟩
    refine ⟨_, rfl, D, _, _, 0, rfl, rfl, h4, ix (by decide), ?_⟩
    have s5 := s4.up nD (o := .lst [.int (n - 1 - c0 / 8 % 2), .int n, .int st, .int (m : Nat)])
    have h5 : (upd H4 D (.lst [.int (n - 1 - c0 / 8 % 2), .int n, .int st, .int (m : Nat)])) D = some (.lst [.int (n - 1 - c0 / 8 % 2), .int n, .int st, .int (m : Nat)]) := upd_same
    have fd5 : (n - 1 - c0 / 8 % 2).natAbs ≤ 500000000000000000000000000000 := by omega
    change tSeq _ _ _ _ (upd H4 D (.lst [.int (n - 1 - c0 / 8 % 2), .int n, .int st, .int (m : Nat)]))
    generalize (upd H4 D (.lst [.int (n - 1 - c0 / 8 % 2), .int n, .int st, .int (m : Nat)])) = H5 at s5 h5
    generalize n - 1 - c0 / 8 % 2 = d1 at h5 fd5
    refine joinH (fun H' => Same H H' ∧ ∃ d : Int, d.natAbs ≤ 500000000000000000000000000000 ∧ H' D = some (.lst [.int d, .int n, .int st, .int (m : Nat)])) (fun k => by
      refine ⟨_, rfl, D, _, _, _, rfl, rfl, SqL.of h5, atI_nat (j := 1) rfl, rfl, _, rfl, ?_⟩
      refine ite2 (fun y => ?_) (fun _ => ?_)
      · refine ⟨_, rfl, D, _, _, 0, rfl, rfl, h5, ix (by decide), ?_⟩
        have s6 := s5.up nD (o := .lst [.int 1, .int n, .int st, .int (m : Nat)])
        have h6 : (upd H5 D (.lst [.int 1, .int n, .int st, .int (m : Nat)])) D = some (.lst [.int 1, .int n, .int st, .int (m : Nat)]) := upd_same
        change tNext _ _ (upd H5 D (.lst [.int 1, .int n, .int st, .int (m : Nat)]))
        generalize (upd H5 D (.lst [.int 1, .int n, .int st, .int (m : Nat)])) = H6 at s6 h6
        exact k H6 ⟨s6, 1, by decide, h6⟩
      · exact k H5 ⟨s5, d1, fd5, h5⟩) ?_
    rintro H6 ⟨s6, d, fd, h6⟩
    refine ⟨_, rfl, rfl, _, rfl, ?_⟩
    refine ite2 (fun y => ?_) (fun _ => ?_)
    · refine ⟨_, rfl, sa, ns, 2, rfl, s6.seq hS, 1, rfl, _, 9, rfl, by decide, fun z H7 hz s7 => ?_⟩
      unfold Far at hz
      refine ⟨_, rfl, D, _, _, 0, rfl, rfl, s7 _ _ h6, ix (by decide), ?_⟩
      exact ⟨_, rfl, q D _ z n st m ((s6.trans s7).up nD) upd_same (log_small (by omega)) (log_small (by omega)) (log_small (by omega)) hm hm1⟩
    · exact ⟨_, rfl, q D H6 d n st m s6 h6 (log_small (by omega)) (log_small (by omega)) (log_small (by omega)) hm hm1⟩
end

theorem perm_small {n : Nat} {xs : List Int} (h : xs.Perm (rangeI n)) (hn : n ≤ 16) : SmallL xs := fun i hi => by
  have := h.mem_iff.mp hi
  unfold rangeI at this
  obtain ⟨k, hk, rfl⟩ := List.mem_map.mp this
  have := List.mem_range.mp hk
  exact log_small (by omega)
def dRows (m : Nat) (row : Nat → List Int) : Dt := .lst ((List.range m).map fun j => .lst ((row j).map Dt.int))
theorem sees_rows {K : PySem.W.Frag} {H : Hp} {L : Addr} {ps : List Addr} {m : Nat} {row : Nat → List Int} (hL : H L = some (.lst (ps.map V.ref))) (h : RowsI H ps m row) : Sees K H (.ref L) (dRows m row) := by
  unfold dRows
  rw [Sees]
  refine ⟨L, _, rfl, SqL.of hL, seesL_of (by rw [List.length_map, List.length_map, List.length_range, h.on.len]) fun i v d h1 h2 => ?_⟩
  rw [List.getElem?_map] at h1 h2
  have hi : i < m := by
    cases e : (List.range m)[i]? with
    | none => rw [e] at h2; cases h2
    | some j =>
      have := (List.getElem?_eq_some_iff.mp e).1
      rw [List.length_range] at this
      exact this
  cases hp : ps[i]? with
  | none => rw [hp] at h1; cases h1
  | some p =>
    rw [hp] at h1
    rw [List.getElem?_range hi] at h2
    have e1 := Option.some.inj h1
    have e2 := Option.some.inj h2
    subst e1
    subst e2
    exact seesI (SqL.of (h.on.on i p hp))
theorem dep_rows (m : Nat) (row : Nat → List Int) : depD (dRows m row) ≤ 60 := by
  unfold dRows
  rw [depD]
  have : depDs ((List.range m).map fun j => Dt.lst ((row j).map Dt.int)) ≤ 50 := depDs_le fun d hd => by
    obtain ⟨j, _, rfl⟩ := List.mem_map.mp hd
    have := depI (row j)
    rw [depD, depInts] at *
    omega
  omega
theorem eqD_nil (m : Nat) (row : Nat → List Int) : eqD (dRows m row) (.lst []) = decide (m = 0) := by
  unfold dRows
  cases m with
  | zero => rfl
  | succ m =>
    rw [List.range_succ_eq_map, List.map_cons, eqD, eqDs]
    rfl
theorem nodup_set {x : Addr} : ∀ {ps : List Addr} {i : Nat}, ps.Nodup → x ∉ ps → (ps.set i x).Nodup
  | [], _, _, _ => by rw [List.set_nil]; exact List.nodup_nil
  | p :: ps, 0, h, hx => by
    rw [List.set_cons_zero]
    exact List.nodup_cons.mpr ⟨fun z => hx (List.mem_cons_of_mem _ z), (List.nodup_cons.mp h).2⟩
  | p :: ps, i + 1, h, hx => by
    rw [List.set_cons_succ]
    have h' := List.nodup_cons.mp h
    refine List.nodup_cons.mpr ⟨fun z => ?_, nodup_set h'.2 fun z => hx (List.mem_cons_of_mem _ z)⟩
    rcases List.mem_or_eq_of_mem_set z with z | z
    · exact h'.1 z
    · exact hx (by rw [z]; exact List.mem_cons_self)
section
variable {P : Program} {wo : World} {K : PySem.W.Frag} {mg : Str → Option Value} {base : Heap} {a : Adr}
def spLTurns (K : PySem.W.Frag) : Sp := fun vs H Q _ => ∃ (s : Addr) (ns : List Int) (n : Int) (m : Nat), vs = [.ref s, .int n, .int m] ∧ SqL K H s (ns.map V.int) ∧ m ≤ 18 ∧ (5 < cel ns 0 % 8 → 1 ≤ m) ∧ ∀ (D : Addr) H' ps row, Same H H' → H' D = some (.lst (ps.map V.ref)) → RowsI H' ps m row → Q (.ref D) H'
theorem ok_turns (T : Txt K mg a) : FnOk P wo K mg base CX0 2 a.f_turns a.d_turns ["_law_script", "_law_planks", "_law_many"] (spLTurns K) := by
  have G_cell : FnOk P wo K mg base CX0 1 _ _ _ _ := ok_cell T
  have G_turn : FnOk P wo K mg base CX0 1 _ _ _ _ := ok_turn T
  have G_spoiled : FnOk P wo K mg base CX0 1 _ _ _ _ := ok_spoiled T
  refine T.F_turns.ok (k := 1) sc_turns (fun vs H Q E h => ?_) (fun cdv A outer s H vs Q E hr h => ?_)
  · obtain ⟨sa, ns, n, m, rfl, _⟩ := h
    rfl
  · obtain ⟨sa, ns, n0, m, rfl, hS, hm, hm1, q⟩ := h
    refine ⟨_, (pss_cons (ps_if (PW.pt (pw_or (pt_cmpR op_gt (pv 1) pe_int (nomark _)) (pw_or1 (pt_cmpR op_lt (pv 1) pe_int (nomark _))))) (pss_one (ps_set (i := 1) sc_turns.nd rfl (Or.inl rfl) pe_int)) pss_nil)
      (pss_cons (ps_set (i := 3) sc_turns.nd rfl (Or.inl rfl) (pe_lst pa_nil))
      (pss_cons (ps_for PassesOwn.never rfl (pi_range1 rfl T.n_range (pa_cons (pv 2) pa_nil)) (pg_name (i := 4) sc_turns.nd rfl (Or.inl rfl)) (pss_one (ps_expr (pe_bm PySem.F.plainAttrs_list PySem.F.slot_list_append PySem.F.type_list_append mt_append (pv 3) (pa_cons (pe_call G_turn (hr.mono (by decide)) rfl T.m_turn T.k_turn T.b_turn .nil pass0 (pa_cons (pe_call G_cell (hr.mono (by decide)) rfl T.m_cell T.k_cell T.b_cell .nil pass0 (pa_cons (pv 0) (pa_cons (pe_op op_add pe_int (pv 4)) pa_nil))) (pa_cons (pv 1) pa_nil))) pa_nil)))))
      (pss_cons (ps_if (pt_cmpR op_gt (pe_op op_mod (pe_call G_cell (hr.mono (by decide)) rfl T.m_cell T.k_cell T.b_cell .nil pass0 (pa_cons (pv 0) (pa_cons pe_int pa_nil))) pe_int) pe_int (nomark _)) (pss_cons (ps_set (i := 5) sc_turns.nd rfl (Or.inl rfl) (pe_op op_mod (pe_call G_cell (hr.mono (by decide)) rfl T.m_cell T.k_cell T.b_cell .nil pass0 (pa_cons (pv 0) (pa_cons pe_int pa_nil))) (pv 2)))
      (pss_one (ps_asg (pe_call G_spoiled (hr.mono (by decide)) rfl T.m_spoiled T.k_spoiled T.b_spoiled .nil pass0 (pa_cons (pe_ix ix_list (pv 3) (pv 5) (fun _ _ => rfl)) (pa_cons (pv 1) (pa_cons (pe_call G_cell (hr.mono (by decide)) rfl T.m_cell T.k_cell T.b_cell .nil pass0 (pa_cons (pv 0) (pa_cons pe_int pa_nil))) pa_nil)))) (pg_sub (pv 3) (pv 5) set_list)))) pss_nil)
      (pss_one (ps_ret (pv 3))))))), ?_⟩
    refine joinZ (fun z => ∃ n : Nat, z = (n : Int) ∧ n ≤ 10) (fun k => by
      by_cases h0 : ¬ 10 < n0 ∧ ¬ n0 < 0
      · refine ⟨_, rfl, _, _, rfl, rfl, _, rfl, ?_⟩
        refine ite2 (fun y => absurd (of_decide_eq_true y) h0.1) (fun _ => ?_)
        refine ⟨_, rfl, _, _, rfl, rfl, _, rfl, ?_⟩
        refine ite2 (fun y => absurd (of_decide_eq_true y) h0.2) (fun _ => ?_)
        have hz : ∃ n : Nat, n0 = (n : Int) ∧ n ≤ 10 := ⟨n0.toNat, (Int.toNat_of_nonneg (Int.not_lt.mp h0.2)).symm, Int.toNat_le.mpr (Int.not_lt.mp h0.1)⟩
        generalize n0 = z at hz ⊢
        exact k z hz
      · by_cases h1 : 10 < n0
        · refine ⟨_, rfl, _, _, rfl, rfl, _, rfl, ?_⟩
          refine ite2 (fun _ => ?_) (fun y => absurd (decide_eq_true h1) y)
          exact k 3 ⟨3, rfl, by decide⟩
        · have h2 : n0 < 0 := Decidable.byContradiction fun y => h0 ⟨h1, y⟩
          refine ⟨_, rfl, _, _, rfl, rfl, _, rfl, ?_⟩
          refine ite2 (fun y => absurd (of_decide_eq_true y) h1) (fun _ => ?_)
          refine ⟨_, rfl, _, _, rfl, rfl, _, rfl, ?_⟩
          refine ite2 (fun _ => ?_) (fun y => absurd (decide_eq_true h2) y)
          exact k 3 ⟨3, rfl, by decide⟩) ?_
    rintro z ⟨n, rfl, hn⟩
    refine ⟨by decide, fun D nD => ⟨_, rfl, _, rfl, by omega, by omega, ?_⟩⟩
    rw [Int.toNat_natCast]
    refine for_range (lo := 0) (n := m) (fun i σ H' => ∃ (v4 : Option V) (ps : List Addr), σ = [some (.ref sa), some (.int n), some (.int m), some (.ref D), v4, none] ∧ Same H H' ∧ H' D = some (.lst (ps.map V.ref)) ∧ RowsI H' ps i (fun j => turnOf (cel ns (4 + j)) n) ∧ D ∉ ps)
      ⟨none, [], rfl, Same.new nD, upd_same, ⟨RowsAt.none, fun j h => absurd h (Nat.not_lt_zero j), fun j h => absurd h (Nat.not_lt_zero j)⟩, by simp⟩ ?_ ?_
    · rintro i σ H' hi ⟨v4, ps, rfl, s1, hD, hps, nin⟩
      rw [Int.zero_add]
      have e4 : (4 : Int) + (i : Nat) = ((4 + i : Nat) : Int) := by omega
      have hpl : (ps.map V.ref).length < sizeLine := Nat.lt_trans (by rw [List.length_map, hps.on.len]; omega : (ps.map V.ref).length < 20) (by decide)
      refine ⟨_, rfl, .inl ⟨rfl, _, SqL.of hD⟩, _, rfl, _, rfl, _, _, rfl, rfl, ?_⟩
      try dsimp only
      rw [e4]
      refine ⟨sa, ns, 4 + i, rfl, s1.seq hS, _, rfl, _, n, rfl, by omega, fun E1 H2 nE s2 hE => ?_⟩
      have nED : E1 ≠ D := fun z => by rw [z, hD] at nE; cases nE
      have ninE : E1 ∉ ps := hps.on.ne nE
      refine ⟨D, _, _, rfl, rfl, s2 _ _ hD, hpl, _, ps ++ [E1], rfl, (s1.trans s2).up nD, ?_, ?_, ?_⟩
      · rw [upd_same, List.map_append]
        rfl
      · have hp2 := (hps.on.same s2).upd (o := .lst (ps.map V.ref ++ [.ref E1])) nin
        refine ⟨hp2.snoc ninE (by rw [upd_ne nED]; exact hE), fun j hj => ?_, fun j hj => ?_⟩
        · rw [(turnOf_perm _ n).length_eq, rangeI_len]
          omega
        · exact perm_small (turnOf_perm _ n) (by omega)
      · intro z
        rcases List.mem_append.mp z with z | z
        · exact nin z
        · exact nED (List.mem_singleton.mp z).symm
    · rintro σ H' ⟨v4, ps, rfl, s1, hD, hps, nin⟩
      have hS1 := s1.seq hS
      refine ⟨_, rfl, sa, ns, 0, rfl, hS1, _, _, rfl, rfl, p0 (by decide), _, _, rfl, rfl, _, rfl, ?_⟩
      refine ite2 (fun y => ?_) (fun y => ?_)
      · have hm0 := hm1 (of_decide_eq_true y)
        have hp : (0 : Int) < (m : Int) := by omega
        obtain ⟨at', hat, eat⟩ := modN (cel ns 2) (n := m) hm0
        refine ⟨_, rfl, sa, ns, 2, rfl, hS1, _, rfl, _, _, rfl, rfl, p0 hp, ?_⟩
        try dsimp only
        rw [eat]
        obtain ⟨p, ep, hpp, _⟩ := hps.on.get hat
        have er : (ps.map V.ref)[at']? = some (.ref p) := by rw [List.getElem?_map, ep]; rfl
        have hlen : (turnOf (cel ns (4 + at')) n).length = n := by rw [(turnOf_perm _ n).length_eq, rangeI_len]
        refine ⟨_, rfl, _, rfl, D, _, _, _, rfl, rfl, SqL.of hD, atI_nat er, _, rfl, _, rfl, sa, ns, 3, rfl, hS1, ?_⟩
        refine ⟨p, n, _, _, rfl, hn, hpp, by omega, perm_small (turnOf_perm _ n) (by omega), fun E1 H2 ys nE s2 hE hl hs => ?_⟩
        have nED : E1 ≠ D := fun z => by rw [z, hD] at nE; cases nE
        refine ⟨_, rfl, _, rfl, D, _, _, at', rfl, rfl, s2 _ _ hD, ixN_nat (by rw [List.length_map, hps.on.len]; exact hat), ?_⟩
        rw [show (ps.map V.ref).set at' (.ref E1) = (ps.set at' E1).map V.ref from by rw [List.map_set]]
        refine ⟨_, rfl, q D _ (ps.set at' E1) (fun j => if j = at' then ys else turnOf (cel ns (4 + j)) n) ((s1.trans s2).up nD) upd_same ?_⟩
        have ninE : E1 ∉ ps := hps.on.ne nE
        refine ⟨⟨by rw [List.length_set, hps.on.len], nodup_set hps.on.nd ninE, fun j p' e => ?_⟩, fun j hj => ?_, fun j hj => ?_⟩
        · rw [List.getElem?_set] at e
          by_cases z : j = at'
          · rw [if_pos z.symm, if_pos (by rw [hps.on.len]; exact hat)] at e
            cases Option.some.inj e
            rw [upd_ne nED, if_pos z]
            exact hE
          · rw [if_neg (fun w => z w.symm)] at e
            have npD : p' ≠ D := fun w => nin (by rw [← w]; exact List.mem_of_getElem? e)
            rw [upd_ne npD, if_neg z]
            exact s2 _ _ (hps.on.on j p' e)
        · by_cases z : j = at'
          · rw [if_pos z]; omega
          · rw [if_neg z]; exact hps.len j hj
        · by_cases z : j = at'
          · rw [if_pos z]; exact hs
          · rw [if_neg z]; exact hps.sm j hj
      · exact ⟨_, rfl, q D H' ps _ s1 hD hps⟩
def spLGood (K : PySem.W.Frag) : Sp := fun vs H Q _ => ∃ (d n st : Int) (L : Addr) (m : Nat) (ps : List Addr) (row : Nat → List Int), vs = [.int d, .int n, .int st, .ref L] ∧ m ≤ 18 ∧ H L = some (.lst (ps.map V.ref)) ∧ RowsI H ps m row ∧ ∀ H', Same H H' → ((∃ n' : Nat, n = (n' : Int) ∧ Counts d n st ∧ Turns n' m row) → Q (.bl true) H') ∧ ((¬ Counts d n st ∨ ∃ n' : Nat, n = (n' : Int) ∧ ¬ Turns n' m row) → Q (.bl false) H')
theorem ok_good (T : Txt K mg a) : FnOk P wo K mg base CX0 1 a.f_good a.d_good ["_law_data", "_law_planks", "_law_stripes", "_law_turns_here"] (spLGood K) := by
  refine T.F_good.ok (k := 0) sc_good (fun vs H Q E h => ?_) (fun cdv A outer s H vs Q E hr h => ?_)
  · obtain ⟨d, n, st, L, m, ps, row, rfl, _⟩ := h
    rfl
  · obtain ⟨d, n, st, L, m, ps, row, rfl, hm, hL, hps, q⟩ := h
    have qf : ∀ H', Same H H' → ¬ Counts d n st → Q (.bl false) H' := fun H' s' z => (q H' s').2 (.inl z)
    have el : (ps.map V.ref).length = m := by rw [List.length_map, hps.on.len]
    refine ⟨_, (pss_cons (ps_if (PW.pt (pw_or (pt_cmpR op_lt (pv 1) pe_int (nomark _)) (pw_or (pt_cmpR op_gt (pv 1) pe_int (nomark _)) (pw_or (pt_cmpR op_lt (pv 2) pe_int (nomark _)) (pw_or (pt_cmpR op_gt (pv 2) pe_int (nomark _)) (pw_or (pt_cmpR (op_eqD hr.units) (pv 3) (pe_lst pa_nil) (nomark _)) (pw_or1 (pt_cmpR op_gt (pe_callB call_len_seq rfl T.n_len PySem.boot_len (pa_cons (pv 3) pa_nil)) pe_int (nomark _))))))))) (pss_one (ps_ret pe_bl)) pss_nil)
      (pss_cons (ps_if (PW.pt (pw_or (pt_cmpR op_lt (pv 0) pe_int (nomark _)) (pw_or (pt_cmpR op_ge (pv 0) (pv 1) (nomark _)) (pw_or1 (pt_cmpR op_lt (pv 0) (pe_op op_sub (pv 1) pe_int) (nomark _)))))) (pss_one (ps_ret pe_bl)) pss_nil)
      (pss_cons (ps_for PassesOwn.never rfl (pi_list (pv 3)) (pg_name (i := 4) sc_good.nd rfl (Or.inl rfl)) (pss_one (ps_if (pt_cmpR (op_neD hr.units) (pe_callB call_sorted rfl T.n_sorted PyProof.Rows.Boot.sorted (pa_cons (pv 4) pa_nil)) (pe_comp (CompOk.of (cap := []) (own := ["_law_plank"]) (by kernel_rfl)) rfl (pi_range1 rfl T.n_range (pa_cons (pv 1) pa_nil)) (fun _ _ _ _ _ => (pg_name (i := 0) (of_decide_eq_true (by kernel_rfl)) rfl (Or.inl rfl))) (fun _ _ _ _ _ => pts_nil) (fun _ _ _ _ _ => by exact (pv 0))) (nomark _)) (pss_one (ps_ret pe_bl)) pss_nil)))
      (pss_one (ps_ret pe_bl))))), ?_⟩
    refine ⟨_, rfl, _, _, rfl, rfl, _, rfl, ?_⟩
    refine ite2 (fun y => qf _ (Same.refl _) (fun z => absurd (of_decide_eq_true y) (by have := z.1; omega))) (fun y1 => ?_)
    refine ⟨_, rfl, _, _, rfl, rfl, _, rfl, ?_⟩
    refine ite2 (fun y => qf _ (Same.refl _) (fun z => absurd (of_decide_eq_true y) (by have := z.2.1; omega))) (fun y2 => ?_)
    refine ⟨_, rfl, _, _, rfl, rfl, _, rfl, ?_⟩
    refine ite2 (fun y => qf _ (Same.refl _) (fun z => absurd (of_decide_eq_true y) (by have := z.2.2.2.2.2.1; omega))) (fun y3 => ?_)
    refine ⟨_, rfl, _, _, rfl, rfl, _, rfl, ?_⟩
    refine ite2 (fun y => qf _ (Same.refl _) (fun z => absurd (of_decide_eq_true y) (by have := z.2.2.2.2.2.2; omega))) (fun y4 => ?_)
    have z1 : ¬ n < 2 := fun z => y1 (decide_eq_true z)
    have z2 : ¬ 8 < n := fun z => y2 (decide_eq_true z)
    have z3 : ¬ st < 1 := fun z => y3 (decide_eq_true z)
    have z4 : ¬ 32 < st := fun z => y4 (decide_eq_true z)
    obtain ⟨n', rfl⟩ : ∃ n' : Nat, n = (n' : Int) := ⟨n.toNat, by omega⟩
    refine ⟨_, rfl, by decide, fun e0 ne0 => ?_⟩
    have s0 := Same.new (o := .lst []) ne0
    refine ⟨_, _, sees_rows (s0 _ _ hL) (hps.same s0), (by rw [Sees]; exact ⟨e0, _, rfl, SqL.of upd_same, by rw [SeesL]⟩ : Sees _ _ (.ref e0) (.lst [])), rfl, rfl, ⟨_, rfl⟩, dep_rows _ _, _, rfl, ?_⟩
    rw [eqD_nil]
    generalize (upd H e0 (.lst [])) = H0 at s0
    refine ite2 (fun y => ?_) (fun y5 => ?_)
    · have hm0 := of_decide_eq_true y
      exact (q H0 s0).2 (.inr ⟨n', rfl, fun z => by have := z.1; omega⟩)
    have hm1 : m ≠ 0 := fun z => y5 (decide_eq_true z)
    refine ⟨_, rfl, L, _, rfl, .inl (SqL.of (s0 _ _ hL)), _, _, rfl, rfl, _, rfl, ?_⟩
    refine ite2 (fun y => ?_) (fun y6 => ?_)
    · have := of_decide_eq_true y
      rw [el] at this
      exact (q H0 s0).2 (.inr ⟨n', rfl, fun z => by have := z.2.1; omega⟩)
    have hm2 : m ≤ 16 := by
      have : ¬ (16 : Int) < (((ps.map V.ref).length : Nat) : Int) := fun z => y6 (decide_eq_true z)
      rw [el] at this
      omega
    refine ⟨_, rfl, _, _, rfl, rfl, _, rfl, ?_⟩
    refine ite2 (fun y => qf _ s0 (fun z => absurd (of_decide_eq_true y) (by have := z.2.2.1; omega))) (fun y7 => ?_)
    refine ⟨_, rfl, _, rfl, _, _, rfl, rfl, _, rfl, ?_⟩
    refine ite2 (fun y => qf _ s0 (fun z => absurd (of_decide_eq_true y) (by have := z.2.2.2.1; omega))) (fun y8 => ?_)
    refine ⟨_, rfl, _, rfl, _, _, rfl, rfl, _, _, rfl, rfl, _, rfl, ?_⟩
    refine ite2 (fun y => qf _ s0 (fun z => absurd (of_decide_eq_true y) (by have := z.2.2.2.2.1; omega))) (fun y9 => ?_)
    have z7 : ¬ d < 1 := fun z => y7 (decide_eq_true z)
    have z8 : ¬ (n' : Int) ≤ d := fun z => y8 (decide_eq_true z)
    have z9 : ¬ d < (n' : Int) - 2 := fun z => y9 (decide_eq_true z)
    have hc : Counts d (n' : Int) st := by unfold Counts; omega
    refine ⟨_, rfl, L, rfl, ⟨_, SqL.of (s0 _ _ hL)⟩, for_list (K := K) (a := L) (xs := ps.map V.ref) (fun i σ H' => (∃ v4 : Option V, σ = [some (.int d), some (.int (n' : Int)), some (.int st), some (.ref L), v4]) ∧ Same H H' ∧ ∀ j, j < i → (row j).Perm (rangeI n')) ⟨⟨none, rfl⟩, s0, fun j hj => absurd hj (Nat.not_lt_zero j)⟩ ?_ ?_ ?_⟩
    · rintro i σ H' _ ⟨_, sm, _⟩
      exact SqL.of (sm _ _ hL)
    · rintro i v σ H' hv ⟨⟨v4, rfl⟩, sm, ih⟩
      rw [List.getElem?_map] at hv
      cases hp : ps[i]? with
      | none => rw [hp] at hv; cases hv
      | some p =>
        rw [hp] at hv
        cases hv
        have hi : i < m := by rw [← hps.on.len]; exact (List.getElem?_eq_some_iff.mp hp).1
        have hr' := sm _ _ (hps.on.on i p hp)
        have hlen := hps.len i hi
        refine ⟨_, rfl, p, row i, rfl, SqL.of hr', by omega, fun l ns' nl hp' hs => ?_⟩
        have s1 := Same.new (o := .lst (ns'.map V.int)) nl
        have hl : (upd H' l (.lst (ns'.map V.int))) l = some (.lst (ns'.map V.int)) := upd_same
        generalize (upd H' l (.lst (ns'.map V.int))) = H1 at s1 hl
        refine ⟨_, rfl, _, rfl, by omega, by omega, fun D4 n4 => ?_⟩
        rw [Int.toNat_natCast]
        refine comp_range0 (n := n') (f := fun j => .int ((j : Nat) : Int)) (cs := []) n4 rfl (Nat.le_trans (by omega : n' ≤ 8) (by decide)) (fun j H5 R5 hj s5 hR => ?_) (fun H4 s4 h4 => ?_)
        · exact ⟨_, rfl, hR _ (Same.refl _)⟩
        · have h4' : H4 D4 = some (.lst ((rangeI n').map V.int)) := by
            rw [h4]
            unfold rangeI
            rw [List.map_map]
            rfl
          refine ⟨_, _, seesI (SqL.of (s4 _ _ hl)), seesI (SqL.of h4'), rfl, rfl, ⟨_, rfl⟩, depI _, _, rfl, ?_⟩
          show if (!eqD _ _) = true then _ else _
          rw [eqD_ints]
          by_cases hpm : (row i).Perm (rangeI n')
          · have e1 : ns' = rangeI n' := sorted_range hp' hs hpm
            rw [decide_eq_true e1]
            refine iteF ⟨⟨_, rfl⟩, sm.trans (s1.trans s4), fun j hj => ?_⟩
            by_cases z : j = i
            · rw [z]; exact hpm
            · exact ih j (by omega)
          · rw [decide_eq_false (fun z : ns' = rangeI n' => hpm (z ▸ hp'.symm))]
            refine iteT ?_
            exact (q _ (sm.trans (s1.trans s4))).2 (.inr ⟨n', rfl, fun z => hpm (z.2.2 i hi)⟩)
    · rintro σ H' ⟨⟨v4, rfl⟩, sm, ih⟩
      rw [el] at ih
      exact (q _ sm).1 ⟨n', rfl, hc, by omega, hm2, ih⟩
end

section
variable {P : Program} {wo : World} {K : PySem.W.Frag} {mg : Str → Option Value} {base : Heap} {a : Adr}
def spLRefused : Sp := fun vs H Q _ => ∃ (d n st : Int) (L : Addr) (m : Nat) (ps : List Addr) (row : Nat → List Int), vs = [.int d, .int n, .int st, .ref L] ∧ d.natAbs.log2 < 1920 ∧ n.natAbs.log2 < 1920 ∧ st.natAbs.log2 < 1920 ∧ m ≤ 18 ∧ H L = some (.lst (ps.map V.ref)) ∧ RowsI H ps m row ∧ (¬ Counts d n st ∨ ∃ n' : Nat, n = (n' : Int) ∧ ¬ Turns n' m row) ∧ ∀ H', Same H H' → Q (.bl true) H'
theorem ok_refused (T : Txt K mg a) : FnOk P wo K mg base CX0 4 a.f_refused a.d_refused ["_law_data", "_law_planks", "_law_stripes", "_law_turns_here"] spLRefused := by
  have G_Shape_init : FnOk P wo K mg base (CXe P wo) 2 _ _ _ _ := ok_Shape_init T
  refine T.F_refused.ok (k := 3) sc_refused (fun vs H Q E h => ?_) (fun cdv A outer s H vs Q E hr h => ?_)
  · obtain ⟨d, n, st, L, m, ps, row, rfl, _⟩ := h
    rfl
  · obtain ⟨d, n, st, L, m, ps, row, rfl, hd, hn, hst, hm, hL, hps, hb, q⟩ := h
    refine ⟨_, (pss_cons (ps_try rfl rfl rfl (psx_expr (pex_make T.mk_Shape G_Shape_init (hr.mono (by decide)) rfl rfl T.m_Shape T.b_Shape_init .nil (pa_cons (pv 0) (pa_cons (pv 1) (pa_cons (pv 2) (pa_cons (pv 3) pa_nil))))) psx_nil) (ph_as (i := 4) sc_refused.nd rfl rfl rfl rfl T.m_PlankError (fun _ => (pss_one (ps_ret (pe_and (pe_callB (call_isxK (K := K) rfl (Pk := a.C_PlankError)) rfl T.n_isinstance boot_isinstance (pa_cons (pv 4) (pa_cons (pe_glob (v := .ref a.C_NoShape) rfl T.m_NoShape rfl) pa_nil))) (pe_and (pe_callB (call_isxK (K := K) rfl (Pk := a.C_PlankError)) rfl T.n_isinstance boot_isinstance (pa_cons (pv 4) (pa_cons (pe_bltn (v := .ty "ValueError") rfl T.n_ValueError (by decide +kernel) rfl) pa_nil))) (pe_one (pe_not (pe_callB (call_isxK (K := K) rfl (Pk := a.C_PlankError)) rfl T.n_isinstance boot_isinstance (pa_cons (pv 4) (pa_cons (pe_glob (v := .ref a.C_NoPlace) rfl T.m_NoPlace rfl) pa_nil)))))))))) ph_none))
      (pss_one (ps_ret pe_bl))), ?_⟩
    refine ⟨_, rfl, _, rfl, _, rfl, _, rfl, fun b db nb ndb neb => ?_⟩
    have sb : Same H (upd (upd H db (.own b)) b (.ins a.C_Shape db [])) := fun x o e => by
      rw [upd_ne (ne_of_none e nb), upd_ne (ne_of_none e ndb)]
      exact e
    refine ⟨b, db, L, d, n, st, m, ps, row, rfl, upd_same, hd, hn, hst, hm, sb _ _ hL, hps.same sb, .inr ⟨hb, fun H1 s1 => ⟨_, rfl, true, T.ex_NoShape_PlankError, iteT fun e ne => ?_⟩⟩⟩
    have he : (upd H1 e (.ext (XAt e a.C_NoShape none))) e = some (.ext (XAt e a.C_NoShape none)) := upd_same
    have hx : IsX (upd H1 e (.ext (XAt e a.C_NoShape none))) e a.C_NoShape none := ⟨he, fun d' z => nomatch z⟩
    refine ⟨_, rfl, e, a.C_NoShape, none, .ref a.C_NoShape, .ref a.C_NoShape, true, rfl, hx, T.xi_NoShape, rfl, fun u h => h, T.ko_NoShape_NoShape, _, rfl, iteT ?_⟩
    refine ⟨_, rfl, e, a.C_NoShape, none, .ty "ValueError", .type "ValueError", true, rfl, hx, T.xi_NoShape, rfl, fun u h => h, T.kv_NoShape, _, rfl, iteT ?_⟩
    refine ⟨_, rfl, e, a.C_NoShape, none, .ref a.C_NoPlace, .ref a.C_NoPlace, false, rfl, hx, T.xi_NoShape, rfl, fun u h => h, T.ko_NoShape_NoPlace, _, rfl, ?_⟩
    exact q _ (sb.trans (s1.trans (Same.new ne)))
def spLaw (K : PySem.W.Frag) : Sp := fun vs H Q _ => ∃ (s : Addr) (ns : List Int), vs = [.ref s] ∧ SqL K H s (ns.map V.int) ∧ ns.length ≤ 63 ∧ ∀ H', Q (.bl true) H'
theorem ok_law (T : Txt K mg a) : FnOk P wo K mg base CX0 5 a.f_law a.d_law ["_law_script"] (spLaw K) := by
  have G_numbers : FnOk P wo K mg base CX0 4 _ _ _ _ := (ok_numbers T).mono (by decide)
  have G_turns : FnOk P wo K mg base CX0 4 _ _ _ _ := (ok_turns T).mono (by decide)
  have G_good : FnOk P wo K mg base CX0 4 _ _ _ _ := (ok_good T).mono (by decide)
  have G_refused : FnOk P wo K mg base CX0 4 _ _ _ _ := ok_refused T
  have G_whole : FnOk P wo K mg base CX0 4 _ _ _ _ := (ok_whole T).mono (by decide)
  have G_Shape_init : FnOk P wo K mg base (CXe P wo) 2 _ _ _ _ := ok_Shape_init T
  refine T.F_law.ok (k := 4) sc_law (fun vs H Q E h => ?_) (fun cdv A outer s H vs Q E hr h => ?_)
  · obtain ⟨sa, ns, rfl, _⟩ := h
    rfl
  · obtain ⟨sa, ns, rfl, hS, hn0, q⟩ := h
    refine ⟨_, (pss_cons (ps_asg (pe_call G_numbers (hr.mono (by decide)) rfl T.m_numbers T.k_numbers T.b_numbers .nil pass0 (pa_cons (pv 0) pa_nil)) (pg_tupL rfl (pgs_cons (pg_name (i := 1) sc_law.nd rfl (Or.inl rfl)) (pgs_cons (pg_name (i := 2) sc_law.nd rfl (Or.inl rfl)) (pgs_cons (pg_name (i := 3) sc_law.nd rfl (Or.inl rfl)) (pgs_cons (pg_name (i := 4) sc_law.nd rfl (Or.inl rfl)) pgs_nil))))))
      (pss_cons (ps_set (i := 5) sc_law.nd rfl (Or.inl rfl) (pe_call G_turns (hr.mono (by decide)) rfl T.m_turns T.k_turns T.b_turns .nil pass0 (pa_cons (pv 0) (pa_cons (pv 2) (pa_cons (pv 4) pa_nil)))))
      (pss_cons (ps_setC (i := 6) sc_law.nd rfl (Or.inl rfl) (CompOk.of (cap := []) (own := ["_law_row"]) (by kernel_rfl)) rfl (pi_list (pv 5)) (fun _ _ _ _ _ => (pg_name (i := 0) (of_decide_eq_true (by kernel_rfl)) rfl (Or.inl rfl))) (fun _ _ _ _ _ => pts_nil) (fun _ _ _ _ _ => by exact (pe_callTy (call_list_ofK (K := K) rfl) rfl T.n_list (by decide +kernel) (pa_cons (pv 0) pa_nil))))
      (pss_cons (ps_if (pt_not (pt_val (pe_call G_good (hr.mono (by decide)) rfl T.m_good T.k_good T.b_good .nil pass0 (pa_cons (pv 1) (pa_cons (pv 2) (pa_cons (pv 3) (pa_cons (pv 5) pa_nil))))))) (pss_one (ps_ret (pe_and (pe_call G_refused (hr.mono (by decide)) rfl T.m_refused T.k_refused T.b_refused .nil pass0 (pa_cons (pv 1) (pa_cons (pv 2) (pa_cons (pv 3) (pa_cons (pv 6) pa_nil))))) (pe_one (pe_cmpR (op_eqD hr.units) (pv 6) (pv 5) (nomark _)))))) pss_nil)
      (pss_cons (ps_set (i := 7) sc_law.nd rfl (Or.inl rfl) (pe_make T.mk_Shape G_Shape_init (hr.mono (by decide)) rfl T.m_Shape T.b_Shape_init .nil passE0 (pa_cons (pv 1) (pa_cons (pv 2) (pa_cons (pv 3) (pa_cons (pv 6) pa_nil))))))
      (pss_cons (ps_set (i := 8) sc_law.nd rfl (Or.inl rfl) (pe_lst (pa_cons (pe_fld (pv 7) rfl) (pa_cons (pe_fld (pv 7) rfl) (pa_cons (pe_fld (pv 7) rfl) (pa_cons (pe_fld (pv 7) rfl) pa_nil))))))
      (pss_cons (ps_for PassesOwn.never rfl (pi_list (pv 8)) (pg_name (i := 9) sc_law.nd rfl (Or.inl rfl)) (pss_one (ps_if (pt_not (pt_val (pe_call G_whole (hr.mono (by decide)) rfl T.m_whole T.k_whole T.b_whole .nil pass0 (pa_cons (pv 9) pa_nil)))) (pss_one (ps_ret pe_bl)) pss_nil)))
      (pss_one (ps_ret (pe_and (pe_cmpR (op_eqD hr.units) (pv 8) (pe_lst (pa_cons (pv 1) (pa_cons (pv 2) (pa_cons (pv 3) (pa_cons (pe_op op_mul (pv 1) (pv 3)) pa_nil))))) (nomark _)) (pe_one (pe_cmpR (op_eqD hr.units) (pv 6) (pv 5) (nomark _))))))))))))), ?_⟩
    refine ⟨_, rfl, sa, ns, rfl, hS, fun D H1 d n st m s1 hD hd hn hst hm hm1 => ?_⟩
    refine ⟨D, _, rfl, SqL.of hD, rfl, _, _, rfl, _, _, rfl, _, _, rfl, _, _, rfl, rfl, ?_⟩
    refine ⟨_, rfl, _, rfl, _, rfl, sa, ns, n, m, rfl, s1.seq hS, hm, hm1, fun L H2 pL row s2 hL hps => ?_⟩
    have el : (pL.map V.ref).length = m := by rw [List.length_map, hps.on.len]
    refine ⟨_, rfl, L, rfl, ⟨_, SqL.of hL⟩, fun D2 nD2 => ?_⟩
    refine comp_rowsL (xs := pL.map V.ref) (row := fun j => (row j).map V.int) (cs := []) (SqL.of hL) nD2 rfl (by rw [el]; exact Nat.le_trans hm (by decide)) (fun i x H3 R3 hx s3 hR => ?_) (fun qs H3 s3 hD3 hrows hf hdd => ?_)
    · rw [List.getElem?_map] at hx
      cases hq : pL[i]? with
      | none => rw [hq] at hx; cases hx
      | some p =>
        rw [hq] at hx
        cases hx
        exact ⟨_, rfl, p, _, rfl, .inl (SqL.of (s3 _ _ (hps.on.on i p hq))), fun l nl => hR l _ nl (Same.new nl) upd_same⟩
    · rw [el] at hrows
      have hq3 : RowsI H3 qs m row := ⟨hrows, hps.len, hps.sm⟩
      have hL3 := s3 _ _ hL
      have hps3 := hps.same s3
      clear hrows hps hL
      have cmp : ∀ H', Same H3 H' → Sees K H' (.ref D2) (dRows m row) ∧ Sees K H' (.ref L) (dRows m row) := fun H' s' => ⟨sees_rows (s' _ _ hD3) (hq3.same s'), sees_rows (s' _ _ hL3) (hps3.same s')⟩
      refine ⟨_, rfl, _, rfl, _, rfl, _, rfl, d, n, st, L, m, pL, row, rfl, hm, hL3, hps3, fun H4 s4 => ⟨fun hg => ?_, fun hb => ?_⟩⟩
      · refine ⟨_, rfl, iteF ?_⟩
        obtain ⟨n', rfl, hc, hT⟩ := hg
        have hc' := hc
        unfold Counts at hc'
        obtain ⟨d', rfl⟩ : ∃ d' : Nat, d = (d' : Int) := ⟨d.toNat, by omega⟩
        obtain ⟨st', rfl⟩ : ∃ st' : Nat, st = (st' : Int) := ⟨st.toNat, by omega⟩
        refine ⟨_, rfl, _, rfl, _, rfl, _, rfl, fun b db nb ndb neb => ?_⟩
        have sb : Same H4 (upd (upd H4 db (.own b)) b (.ins a.C_Shape db [])) := fun x o e => by
          rw [upd_ne (ne_of_none e nb), upd_ne (ne_of_none e ndb)]
          exact e
        have s34 := s4.trans sb
        refine ⟨b, db, D2, _, _, _, m, qs, row, rfl, upd_same, hd, hn, hst, hm, s34 _ _ hD3, hq3.same s34, .inl ⟨d', n', st', rfl, rfl, rfl, hc, hT, fun tp H5 k5 hb5 => ⟨rfl, ?_⟩⟩⟩
        have s5 : Same H4 H5 := fun x o e => k5 x o (ne_of_none e nb) (sb x o e)
        have fl : ∀ (f : Str) (v : V), (shf d' n' st' tp).lookup f = some v → True := fun _ _ _ => trivial
        refine ⟨_, rfl, b, _, _, _, _, rfl, hb5, T.cl_Shape, T.no_Shape_data, shf_data d' n' st' tp, _, rfl, b, _, _, _, _, rfl, hb5, T.cl_Shape, T.no_Shape_planks, shf_planks d' n' st' tp, _, rfl, b, _, _, _, _, rfl, hb5, T.cl_Shape, T.no_Shape_stripes, shf_stripes d' n' st' tp, _, rfl, b, _, _, _, _, rfl, hb5, T.cl_Shape, T.no_Shape_size, shf_size d' n' st' tp, (show 4 ≤ sizeLine by decide), fun f6 n6 => ?_⟩
        have s6 := Same.new (o := .lst ([(d' : Int), n', st', ((d' * st' : Nat) : Int)].map V.int)) n6
        have h6 : (upd H5 f6 (.lst ([(d' : Int), n', st', ((d' * st' : Nat) : Int)].map V.int))) f6 = some (.lst ([(d' : Int), n', st', ((d' * st' : Nat) : Int)].map V.int)) := upd_same
        change gName 8 (.ref f6) _ (upd H5 f6 (.lst ([(d' : Int), n', st', ((d' * st' : Nat) : Int)].map V.int))) _
        generalize (upd H5 f6 (.lst ([(d' : Int), n', st', ((d' * st' : Nat) : Int)].map V.int))) = H6 at s6 h6
        refine ⟨_, rfl, f6, rfl, ⟨_, SqL.of h6⟩, for_list (K := K) (a := f6) (xs := [(d' : Int), n', st', ((d' * st' : Nat) : Int)].map V.int) (fun i σ H' => (∃ v9 : Option V, σ = [some (.ref sa), some (.int d'), some (.int n'), some (.int st'), some (.int m), some (.ref L), some (.ref D2), some (.ref b), some (.ref f6), v9]) ∧ H' = H6) ⟨⟨none, rfl⟩, rfl⟩ ?_ ?_ ?_⟩
        · rintro i σ H' _ ⟨_, rfl⟩
          exact SqL.of h6
        · rintro i v σ H' hv ⟨⟨v9, rfl⟩, rfl⟩
          rw [List.getElem?_map] at hv
          cases hz : ([(d' : Int), n', st', ((d' * st' : Nat) : Int)] : List Int)[i]? with
          | none => rw [hz] at hv; cases hv
          | some z =>
            rw [hz] at hv
            cases hv
            exact ⟨_, rfl, z, rfl, _, rfl, iteF ⟨⟨_, rfl⟩, rfl⟩⟩
        · rintro σ H' ⟨⟨v9, rfl⟩, rfl⟩
          have h1 : d' ≤ 8 := by omega
          have h2 : st' ≤ 32 := by omega
          refine ⟨_, rfl, _, rfl, _, rfl, _, rfl, _, rfl, _, rfl, _, _, rfl, rfl, .inl ⟨by omega, by omega⟩, (show 4 ≤ sizeLine by decide), fun f7 n7 => ?_⟩
          try dsimp only
          rw [← Int.natCast_mul]
          have s7 := Same.new (o := .lst ([(d' : Int), n', st', ((d' * st' : Nat) : Int)].map V.int)) n7
          refine ⟨_, _, seesI (SqL.of (s7 _ _ h6)), seesI (ns := [(d' : Int), n', st', ((d' * st' : Nat) : Int)]) (SqL.of upd_same), rfl, rfl, ⟨_, rfl⟩, depI _, _, rfl, ?_⟩
          rw [eqD_refl]
          refine iteT ?_
          have c := cmp _ (s4.trans (s5.trans (s6.trans s7)))
          refine ⟨_, rfl, _, rfl, _, _, c.1, c.2, rfl, rfl, ⟨_, rfl⟩, dep_rows _ _, ?_⟩
          rw [eqD_refl]
          exact q _
      · refine ⟨_, rfl, iteT ?_⟩
        refine ⟨_, rfl, _, rfl, _, rfl, _, rfl, d, n, st, D2, m, qs, row, rfl, hd, hn, hst, hm, s4 _ _ hD3, hq3.same s4, hb, fun H5 s5 => ?_⟩
        refine ⟨_, rfl, iteT ?_⟩
        have c := cmp H5 (s4.trans s5)
        refine ⟨_, rfl, _, rfl, _, _, c.1, c.2, rfl, rfl, ⟨_, rfl⟩, dep_rows _ _, ?_⟩
        rw [eqD_refl]
        exact q _
end
theorem walk {l : PySem.W.OpenLaw} {q : Program} {loose : List Str} {XP : (Str → Option Value) → Heap → Prop} {YP : World → Heap → Prop} {d : DefRec} {K : Params → PySem.W.Frag} (hn : l.most = some 63) (hdf : d.params.defaults = [])
    (hY : ∀ (w : World) (h : Heap), YP w h → (K w.params).In h)
    (F : ∀ (w : World) (mg : Str → Option Value) (fa : Addr) (h : Heap), (K w.params).In h → h.Ns mainGlobals mg → mg d.name = some (.ref fa) →
      ∃ fd : FuncData, (∀ (s : Shared) (u : Value), BindsTo s fd ⟨[u], []⟩ [("_law_script", u)]) ∧ ∀ base : Heap, (K w.params).In base → base.Ns mainGlobals mg → FnOk l.prog w (K w.params) mg base CX0 5 fa fd ["_law_script"] (spLaw (K w.params))) :
    PySem.W.WalkO q loose XP YP l.row.toRowW d [] (fun f vs => PySem.call f vs) :=
  L2.walk_of (n := 63) (k := 5) (x := "_law_script") (CX := fun _ => CX0) (sp := fun w => spLaw (K w.params)) hn (by decide) hdf ⟨rfl, by decide, by decide, rfl⟩ hY F (fun _ _ a ns hl _ hS => ⟨a, ns, rfl, hS, hl, fun _ => rfl⟩) fun _ _ _ _ _ z => z


end My
open PySem PySem.W PyProof.Rows
set_option maxRecDepth 100000 in
set_option maxHeartbeats 0 in
theorem PySem.Challenge.cw_spareplank_k14_shapes_refused_holds : PySem.Challenge.rw_spareplank_k14_shapes_refused.Holds := by
  w_on; o_law; k_head; (case hw => w_witness2)
  k_fill
  refine My.walk (l := PySem.Challenge.rw_spareplank_k14_shapes_refused) rfl rfl (fun w h Y => PySem.W.kIn_of Y) ?F
  case F =>
    intro w mg fa h KX G hmg
    have T : ∃ a : My.Adr, My.Txt (L2.KOf KX) mg a ∧ (∀ (s : Shared) (v : Value), BindsTo s a.d_law ⟨[v], []⟩ [("_law_script", v)]) := by
      dsimp only [L2.KOf]
      refine' My.txt_mk KX G ?a_Shape ?pg_Shape ?hd_Shape ?po_Shape ?sa_Shape ?no_Shape_data ?no_Shape_planks ?no_Shape_stripes ?no_Shape_size ?no_Shape_turns ?mk_Shape ?kc_Shape ?a_PlankError ?a_NoShape ?a_NoPlace ?a_check_counts ?l_check_counts ?c_check_counts ?k_check_counts ?a_check_turns ?l_check_turns ?c_check_turns ?k_check_turns ?a_Shape_init ?i_Shape_init ?l_Shape_init ?c_Shape_init ?k_Shape_init ?a_cell ?l_cell ?c_cell ?k_cell ?a_whole ?l_whole ?c_whole ?k_whole ?a_turn ?l_turn ?c_turn ?k_turn ?a_spoiled ?l_spoiled ?c_spoiled ?k_spoiled ?a_any ?l_any ?c_any ?k_any ?a_numbers ?l_numbers ?c_numbers ?k_numbers ?a_turns ?l_turns ?c_turns ?k_turns ?a_good ?l_good ?c_good ?k_good ?a_refused ?l_refused ?c_refused ?k_refused ?a_law ?l_law ?c_law ?k_law ?xc_NoShape ?xcls_NoShape ?xga_NoShape ?xgt_NoShape ?xca_NoShape ?xhn_NoShape ?xtk_NoShape ?xmo_NoShape ?xkc_NoShape ?ex_NoShape_PlankError ?ko_NoShape_NoShape ?ko_NoShape_NoPlace ?kv_NoShape ?z_len ?z_sorted ?z_list ?z_range ?z_isinstance ?z_int ?z_bool ?z_ValueError ?v_LEAST_PLANKS ?v_MOST_PLANKS ?v_MOST_SUMS ?v_MOST_STRIPES ?v_MOST_TURNS
      (case a_Shape => k_is)
      (case pg_Shape => k_is)
      (case hd_Shape => k_is)
      (case po_Shape => k_is)
      (case sa_Shape => k_is)
      (case no_Shape_data => k_is)
      (case no_Shape_planks => k_is)
      (case no_Shape_stripes => k_is)
      (case no_Shape_size => k_is)
      (case no_Shape_turns => k_is)
      (case mk_Shape => k_is)
      (case kc_Shape => k_is)
      (case a_PlankError => k_is)
      (case a_NoShape => k_is)
      (case a_NoPlace => k_is)
      (case a_check_counts => k_is)
      (case l_check_counts => k_is)
      (case c_check_counts => k_is)
      (case k_check_counts => k_is)
      (case a_check_turns => k_is)
      (case l_check_turns => k_is)
      (case c_check_turns => k_is)
      (case k_check_turns => k_is)
      (case a_Shape_init => k_is)
      (case i_Shape_init => k_is)
      (case l_Shape_init => k_is)
      (case c_Shape_init => k_is)
      (case k_Shape_init => k_is)
      (case a_cell => k_is)
      (case l_cell => k_is)
      (case c_cell => k_is)
      (case k_cell => k_is)
      (case a_whole => k_is)
      (case l_whole => k_is)
      (case c_whole => k_is)
      (case k_whole => k_is)
      (case a_turn => k_is)
      (case l_turn => k_is)
      (case c_turn => k_is)
      (case k_turn => k_is)
      (case a_spoiled => k_is)
      (case l_spoiled => k_is)
      (case c_spoiled => k_is)
      (case k_spoiled => k_is)
      (case a_any => k_is)
      (case l_any => k_is)
      (case c_any => k_is)
      (case k_any => k_is)
      (case a_numbers => k_is)
      (case l_numbers => k_is)
      (case c_numbers => k_is)
      (case k_numbers => k_is)
      (case a_turns => k_is)
      (case l_turns => k_is)
      (case c_turns => k_is)
      (case k_turns => k_is)
      (case a_good => k_is)
      (case l_good => k_is)
      (case c_good => k_is)
      (case k_good => k_is)
      (case a_refused => k_is)
      (case l_refused => k_is)
      (case c_refused => k_is)
      (case k_refused => k_is)
      (case a_law => k_is)
      (case l_law => k_is)
      (case c_law => k_is)
      (case k_law => k_is)
      (case xc_NoShape => rfl)
      (case xcls_NoShape => rfl)
      (case xga_NoShape => k_is)
      (case xgt_NoShape => k_is)
      (case xca_NoShape => k_is)
      (case xhn_NoShape => k_is)
      (case xtk_NoShape => k_is)
      (case xmo_NoShape => k_is)
      (case xkc_NoShape => rfl)
      (case ex_NoShape_PlankError => rfl)
      (case ko_NoShape_NoShape => rfl)
      (case ko_NoShape_NoPlace => rfl)
      (case kv_NoShape => rfl)
      (case z_len => k_is)
      (case z_sorted => k_is)
      (case z_list => k_is)
      (case z_range => k_is)
      (case z_isinstance => k_is)
      (case z_int => k_is)
      (case z_bool => k_is)
      (case z_ValueError => k_is)
      (case v_LEAST_PLANKS => k_is)
      (case v_MOST_PLANKS => k_is)
      (case v_MOST_SUMS => k_is)
      (case v_MOST_STRIPES => k_is)
      (case v_MOST_TURNS => k_is)
    obtain ⟨a, T, hb⟩ := T
    have e0 := hmg.symm.trans T.m_law
    cases e0
    exact ⟨a.d_law, hb, fun base kb nb => My.ok_law T⟩
#print axioms PySem.Challenge.cw_spareplank_k14_shapes_refused_holds
