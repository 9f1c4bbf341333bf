import PyProof.Rows.All
import Wide.All
import OpenK.AllK
import Wide.FinOn
import Lean
import PyProof.EqAt
import PyProof.EqKinds
import PyProof.TupleCall
import PyProof.NeKinds
import PySem.Challenge.RW_spareplank_k32_laid_and_looked_at

set_option Elab.async false
set_option linter.all false
set_option maxRecDepth 100000
/-! THE HAND LAYER, for ints, bools, texts, own classes, LISTS and tuples (index, slices, in, append, pop ..), calls, loops. Paste it whole ahead of your own text; what your proof does not reach may be deleted. -/
namespace L2
open PySem PySem.Spec PyProof.Rows

/-- a key: an int or a str -/
abbrev Key := Sum Int Str
def keyIs : Key → Value → Bool
  | .inl k, v => Value.isInt k v
  | .inr x, v => Value.isStrOf x v
def keyH (w : World) : Key → Int
  | .inl k => hashInt k
  | .inr x => hashStr w x
theorem keyIs_shape : ∀ {k : Key} {v : Value}, keyIs k v = true → (∃ i t, k = Sum.inl i ∧ v = Value.int i t) ∨ (∃ x t, k = Sum.inr x ∧ v = Value.str x t)
  | .inl i, v, h => by
    obtain ⟨t, e⟩ := Value.isInt_shape (k := i) (v := v) h
    exact .inl ⟨i, t, rfl, e⟩
  | .inr x, v, h => by
    obtain ⟨t, e⟩ := Value.isStrOf_shape (x := x) (v := v) h
    exact .inr ⟨x, t, rfl, e⟩
theorem keyIs_int (i : Int) (t : Tok) : keyIs (.inl i) (.int i t) = true := by simp [keyIs, Value.isInt]
theorem keyIs_str (x : Str) (t : Tok) : keyIs (.inr x) (.str x t) = true := by simp [keyIs, Value.isStrOf]
theorem key_ll (a b : Int) : decide ((Sum.inl a : Key) = Sum.inl b) = (a == b) := by
  by_cases e : a = b
  · subst e; simp
  · have h : ¬ (Sum.inl a : Key) = Sum.inl b := fun q => e (Sum.inl.inj q)
    rw [decide_eq_false h]
    exact (beq_eq_false_iff_ne.mpr e).symm
theorem key_rr (a b : Str) : decide ((Sum.inr a : Key) = Sum.inr b) = decide (a = b) := by
  by_cases e : a = b
  · subst e; simp
  · have h : ¬ (Sum.inr a : Key) = Sum.inr b := fun q => e (Sum.inr.inj q)
    rw [decide_eq_false h, decide_eq_false e]
theorem key_lr (a : Int) (b : Str) : decide ((Sum.inl a : Key) = Sum.inr b) = false := decide_eq_false (fun q => nomatch q)
theorem key_rl (a : Str) (b : Int) : decide ((Sum.inr a : Key) = Sum.inl b) = false := decide_eq_false (fun q => nomatch q)

def mixKind (prog : Program) (w : World) : PySem.KeyKind prog w Key where
  is := keyIs
  hash := keyH w
  inj := fun v a b ha hb => by
    rcases keyIs_shape ha with ⟨i, t, rfl, rfl⟩ | ⟨x, t, rfl, rfl⟩
    · rcases keyIs_shape hb with ⟨j, u, rfl, e⟩ | ⟨y, u, rfl, e⟩
      · injection e with e1 _; rw [e1]
      · exact nomatch e
    · rcases keyIs_shape hb with ⟨j, u, rfl, e⟩ | ⟨y, u, rfl, e⟩
      · exact nomatch e
      · injection e with e1 _; rw [e1]
  byValue := fun k v h => by
    rcases keyIs_shape h with ⟨i, t, rfl, rfl⟩ | ⟨x, t, rfl, rfl⟩ <;> rfl
  pyHash := fun hv h => by
    rcases keyIs_shape hv with ⟨i, t, rfl, rfl⟩ | ⟨x, t, rfl, rfl⟩
    · exact wpAny_pyHash_int h
    · exact wpAny_pyHash_str h
  eqBool := fun hu hv h => by
    rcases keyIs_shape hu with ⟨i, t, rfl, rfl⟩ | ⟨x, t, rfl, rfl⟩
    · rcases keyIs_shape hv with ⟨j, u, rfl, rfl⟩ | ⟨y, u, rfl, rfl⟩
      · rw [key_ll] at h; exact wpAny_eqBool_int h
      · rw [key_lr] at h; exact SeqAt.EqAt.int_str i t y u _ _ _ _ h
    · rcases keyIs_shape hv with ⟨j, u, rfl, rfl⟩ | ⟨y, u, rfl, rfl⟩
      · rw [key_rl] at h; exact SeqAt.EqAt.str_int x t j u _ _ _ _ h
      · rw [key_rr] at h; exact wpAny_eqBool_str h
  «strs» := fun k x t v h => by
    rcases keyIs_shape h with ⟨i, u, rfl, e⟩ | ⟨y, u, rfl, e⟩
    · exact nomatch e
    · injection e with e1 _
      subst e1
      cases v <;> rfl

theorem mixKind_int (prog : Program) (w : World) (i : Int) (t : Tok) : (mixKind prog w).is (.inl i) (.int i t) = true := keyIs_int i t
theorem mixKind_str (prog : Program) (w : World) (x : Str) (t : Tok) : (mixKind prog w).is (.inr x) (.str x t) = true := keyIs_str x t
end L2

namespace L2
open PySem PySem.Spec PyProof.Rows

/-- a value, without the heap -/
inductive V where
  | non | bl (b : Bool) | int (i : Int) | str (x : Str) | byt (b : Array UInt8) | flt (b : UInt64) | ref (a : Addr) | ty (n : String)
  deriving DecidableEq

def RelV : V → Value → Prop
  | .non, u => u = Value.none
  | .bl b, u => u = Value.bool b
  | .int i, u => ∃ t, u = Value.int i t
  | .str x, u => ∃ t, u = Value.str x t
  | .byt b, u => ∃ t, u = Value.bytes b t
  | .flt b, u => ∃ t, u = Value.float b t
  | .ref a, u => u = Value.ref a
  | .ty n, u => u = Value.type n

abbrev Vals : List V → List Value → Prop := Paired RelV
theorem Vals.length {xs : List V} {us : List Value} (r : Vals xs us) : xs.length = us.length := Paired.length r
theorem Vals.get : ∀ {xs : List V} {us : List Value} {i : Nat} {x : V}, Vals xs us → xs[i]? = some x → ∃ u, us[i]? = some u ∧ RelV x u
  | _, _, _, _, .nil, e => by simp at e
  | _, _, 0, _, .cons r _, e => by simp at e; subst e; exact ⟨_, rfl, r⟩
  | _, _, i + 1, x, .cons _ t, e => by
    obtain ⟨u, h1, h2⟩ := Vals.get (i := i) (x := x) t (by simpa using e)
    exact ⟨u, by simpa using h1, h2⟩
theorem Vals.set {x : V} {u : Value} (r : RelV x u) : ∀ {xs : List V} {us : List Value} (i : Nat), Vals xs us → Vals (xs.set i x) (us.set i u)
  | _, _, _, .nil => .nil
  | _, _, 0, .cons _ t => .cons r t
  | _, _, i + 1, .cons q t => .cons q (Vals.set r i t)
theorem Vals.append : ∀ {xs ys : List V} {us ws : List Value}, Vals xs us → Vals ys ws → Vals (xs ++ ys) (us ++ ws)
  | _, _, _, _, .nil, s => s
  | _, _, _, _, .cons r t, s => .cons r (Vals.append t s)
def RelO : Option V → Option Value → Prop
  | some v, some u => RelV v u
  | none, none => True
  | _, _ => False
def KV {κ : Type} : List (κ × V) → List (κ × Value) → Prop := Paired fun (p : κ × V) (q : κ × Value) => p.1 = q.1 ∧ RelV p.2 q.2

/-- a key of a dict (00_mix): an int or a text -/
def kV : Key → V
  | .inl i => .int i
  | .inr x => .str x

/-- what stands at a tracked address -/
inductive HO where
  /-- a list -/
  | lst (xs : List V)
  /-- a tuple (never changes) -/
  | tup (xs : List V)
  /-- a dict whose keys are ints and texts; one whose keys are tuples of ints and texts (the empty one is both) -/
  | dK (kvs : List (Key × V)) | dT (kvs : List (List Key × V))
  /-- a set of ints: its members, its size -/
  | set (S : Int → Bool) (n : Nat)
  /-- an instance of the class at C, its dict at dx, its attributes -/
  | ins (C dx : Addr) (fs : List (Str × V))
  /-- the dict of the instance at x -/
  | own (x : Addr)
  /-- the dict of an exception -/
  | xd (fs : List (Str × V))
  /-- a bound method, f of x -/
  | met (f x : Addr)
  /-- a range object lo, lo + 1, .. below hi -/
  | rng (lo hi : Int)
  /-- a thing that is known to the object (the script; a dict while a loop walks it): read, never written while it is so -/
  | frz (o : Obj) (u : HO)
  /-- a code object's table -/
  | tbl (ps : Array Value)
  /-- any other thing, by what is true of its one object (a def of one's own: SetO a S n := HO.ext fun h => ..) -/
  | ext (φ : Heap → Prop)

abbrev Hp := Addr → Option HO
def upd (H : Hp) (a : Addr) (o : HO) : Hp := fun b => if b = a then some o else H b
theorem upd_same {H : Hp} {a : Addr} {o : HO} : upd H a o a = some o := by unfold upd; rw [if_pos rfl]
theorem upd_ne {H : Hp} {a b : Addr} {o : HO} (h : b ≠ a) : upd H a o b = H b := by unfold upd; rw [if_neg h]
theorem upd_upd {H : Hp} {a : Addr} {o u : HO} : upd (upd H a o) a u = upd H a u := by
  funext b; unfold upd; split <;> rfl
/-- two objects of different content stand apart -/
theorem ne_of {H : Hp} {a b : Addr} {o u : HO} (h : H a = some o) (h' : H b = some u) (d : o ≠ u) : a ≠ b := by
  intro e; subst e; rw [h] at h'; exact d (Option.some.inj h')
theorem ne_of_none {H : Hp} {a b : Addr} {o : HO} (h : H a = some o) (h' : H b = none) : a ≠ b := by
  intro e; subst e; rw [h] at h'; cases h'

section
variable (P : Program) (w : World)
def ObjOk (H : Hp) (h : Heap) (a : Addr) : HO → Prop
  | .lst xs => xs.length ≤ sizeLine ∧ ∃ (its : List Value) (n : Nat), Vals xs its ∧ h.get? a = some { cls := .type "list", data := .seq its.toArray n }
  | .tup xs => xs.length ≤ sizeLine ∧ ∃ its : List Value, Vals xs its ∧ IsTup h a its.toArray
  | .dK kvs => kvs.length ≤ sizeLine ∧ (a == sysModules) = false ∧ ∃ vs, KV kvs vs ∧ h.DictOf (mixKind P w) a vs
  | .dT kvs => kvs.length ≤ sizeLine ∧ (a == sysModules) = false ∧ ∃ xs : List (List Key × Addr × Value),
      Paired (fun (p : List Key × V) (q : List Key × Addr × Value) => p.1 = q.1 ∧ H q.2.1 = some (.tup (p.1.map kV)) ∧ RelV p.2 q.2.2) kvs xs ∧
      ∃ o es ep, h.get? a = some o ∧ o.ExactDict ∧ o.data = .dict es ep ∧ es.toList = xs.map (entryOfKey (tupleKind (mixKind P w))) ∧ (xs.map (·.1)).Nodup
  | .set S n => h.SetOf (intKind P w) a S n
  | .ins C dx fs => H dx = some (.own a) ∧ fs.length ≤ 1000 ∧ dx ≠ a ∧ h.get? a = some (PySem.W.instObj C dx) ∧
      ∃ mA, h.Ns1 dx mA ∧ (∀ f, RelO (fs.lookup f) (mA f)) ∧ PySem.Within mA (fs.map (·.1))
  | .own _ => ∃ o, h.get? a = some o
  | .xd fs => ∃ mA, h.Ns1 a mA ∧ ∀ f, RelO (fs.lookup f) (mA f)
  | .rng lo hi => ∃ t u v, h.get? a = some { cls := .type "range", data := .fields #[.int lo t, .int hi u, .int 1 v] }
  | .frz o u => h.get? a = some o ∧ ObjOk H h a u
  | .tbl ps => h.get? a = some { cls := .none, data := .fields ps }
  | .met f x => h.get? a = some (PySem.W.methodObj (.ref f) (.ref x))
  | .ext φ => φ h ∧ (∃ o, h.get? a = some o) ∧ ∀ h1 h2 : Heap, φ h1 → (∀ o, h1.get? a = some o → h2.get? a = some o) → φ h2
/-- the abstract heap is held -/
def HOk (H : Hp) (h : Heap) : Prop := ∀ a o, H a = some o → ObjOk P w H h a o
end

section
variable {P : Program} {w : World} {H H' : Hp} {h h' : Heap} {a : Addr} {o : HO}
theorem ObjOk.lt (x : ObjOk P w H h a o) : a < h.objs.size := by
  cases o with
  | lst xs => obtain ⟨_, _, _, _, e⟩ := x; exact Heap.lt_size e
  | tup xs => obtain ⟨_, _, _, p⟩ := x; exact p.lt
  | dK kvs => obtain ⟨_, _, _, _, o, _, _, e, _⟩ := x; exact Heap.lt_size e
  | dT kvs => obtain ⟨_, _, _, _, o, _, _, e, _⟩ := x; exact Heap.lt_size e
  | set S n => obtain ⟨o, _, _, _, e, _⟩ := x; exact Heap.lt_size e
  | ins C dx fs => obtain ⟨_, _, _, e, _⟩ := x; exact Heap.lt_size e
  | own y => obtain ⟨_, e⟩ := x; exact Heap.lt_size e
  | xd fs => obtain ⟨_, ⟨_, _, _, e, _⟩, _⟩ := x; exact Heap.lt_size e
  | rng lo hi => obtain ⟨_, _, _, e⟩ := x; exact Heap.lt_size e
  | frz ob u => obtain ⟨e, _⟩ := x; exact Heap.lt_size e
  | tbl ps => exact Heap.lt_size (show h.get? a = some _ from x)
  | met f y => exact Heap.lt_size (show h.get? a = some _ from x)
  | ext φ => obtain ⟨_, ⟨_, e⟩, _⟩ := x; exact Heap.lt_size e
theorem Paired.mapP {α β : Type} {F G : α → β → Prop} : ∀ {l₁ : List α} {l₂ : List β}, Paired F l₁ l₂ → (∀ a b, F a b → G a b) → Paired G l₁ l₂
  | _, _, .nil, _ => .nil
  | _, _, .cons r t, f => .cons (f _ _ r) (Paired.mapP t f)
/-- what an object's description leans on: its own object, its own dict, the tuples -/
theorem ObjOk.stay (x : ObjOk P w H h a o) (k : ∀ b u, (b = a ∨ H b = some (.own a)) → h.get? b = some u → h'.get? b = some u)
    (ho : ∀ b, H b = some (.own a) → H' b = some (.own a)) (ht : ∀ b xs, H b = some (.tup xs) → H' b = some (.tup xs)) : ObjOk P w H' h' a o := by
  induction o with
  | lst xs => obtain ⟨z, its, n, r, e⟩ := x; exact ⟨z, its, n, r, k _ _ (.inl rfl) e⟩
  | tup xs => obtain ⟨z, its, r, ob, e, c⟩ := x; exact ⟨z, its, r, ob, k _ _ (.inl rfl) e, c⟩
  | dK kvs => obtain ⟨z, y, vs, r, ob, es, ep, e, c⟩ := x; exact ⟨z, y, vs, r, ob, es, ep, k _ _ (.inl rfl) e, c⟩
  | dT kvs =>
    obtain ⟨z, y, xs, r, ob, es, ep, e, c⟩ := x
    exact ⟨z, y, xs, Paired.mapP r fun p q z => ⟨z.1, ht _ _ z.2.1, z.2.2⟩, ob, es, ep, k _ _ (.inl rfl) e, c⟩
  | set S n => obtain ⟨ob, es, ep, t, e, c⟩ := x; exact ⟨ob, es, ep, t, k _ _ (.inl rfl) e, c⟩
  | ins C dx fs =>
    obtain ⟨d, z, ne, e, mA, ⟨od, es, ep, e2, c⟩, r⟩ := x
    exact ⟨ho _ d, z, ne, k _ _ (.inl rfl) e, mA, ⟨od, es, ep, k _ _ (.inr d) e2, c⟩, r⟩
  | own y => obtain ⟨ob, e⟩ := x; exact ⟨ob, k _ _ (.inl rfl) e⟩
  | xd fs => obtain ⟨mA, ⟨od, es, ep, e, c⟩, r⟩ := x; exact ⟨mA, ⟨od, es, ep, k _ _ (.inl rfl) e, c⟩, r⟩
  | rng lo hi => obtain ⟨t, u, v, e⟩ := x; exact ⟨t, u, v, k _ _ (.inl rfl) e⟩
  | frz ob u ih => obtain ⟨e, q⟩ := x; exact ⟨k _ _ (.inl rfl) e, ih q⟩
  | tbl ps =>
    have e : h.get? a = some { cls := .none, data := .fields ps } := x
    show h'.get? a = some { cls := .none, data := .fields ps }
    exact k a _ (.inl rfl) e
  | met f y =>
    have e : h.get? a = some (PySem.W.methodObj (.ref f) (.ref y)) := x
    show h'.get? a = some (PySem.W.methodObj (.ref f) (.ref y))
    exact k a _ (.inl rfl) e
  | ext φ => obtain ⟨p, ⟨o, e⟩, st⟩ := x; exact ⟨st _ _ p fun o q => k _ _ (.inl rfl) q, ⟨o, k _ _ (.inl rfl) e⟩, st⟩
theorem HOk.lt (x : HOk P w H h) (e : H a = some o) : a < h.objs.size := (x a o e).lt
theorem HOk.fresh (x : HOk P w H h) (e : h.objs.size ≤ a) : H a = none := by
  cases q : H a with
  | none => rfl
  | some u => exact absurd (Nat.lt_of_lt_of_le (x.lt q) e) (Nat.lt_irrefl _)
/-- every object of the heap is kept -/
theorem HOk.kept (x : HOk P w H h) (k : ∀ b u, h.get? b = some u → h'.get? b = some u) : HOk P w H h' := fun a o e =>
  (x a o e).stay (fun b u _ q => k b u q) (fun _ q => q) fun _ _ q => q
/-- a new object is laid and tracked -/
theorem HOk.laid (x : HOk P w H h) (k : ∀ b u, h.get? b = some u → h'.get? b = some u) (hp : h.objs.size ≤ a) (new : ObjOk P w (upd H a o) h' a o) : HOk P w (upd H a o) h' := fun b u e => by
  have hn := x.fresh hp
  by_cases hb : b = a
  · subst hb; rw [upd_same] at e; cases e; exact new
  · rw [upd_ne hb] at e
    exact (x b u e).stay (fun c v _ q => k c v q) (fun c q => by rw [upd_ne (ne_of_none q hn)]; exact q) fun c xs q => by rw [upd_ne (ne_of_none q hn)]; exact q
end

/-- what may be read as u: it is u, or a known u -/
def Rd (H : Hp) (a : Addr) (u : HO) : Prop := H a = some u ∨ ∃ o, H a = some (.frz o u)
theorem Rd.ok {P : Program} {w : World} {H : Hp} {h : Heap} {a : Addr} {u : HO} (r : Rd H a u) (x : HOk P w H h) : ObjOk P w H h a u := by
  rcases r with r | ⟨o, r⟩
  · exact x a u r
  · obtain ⟨_, q⟩ := x a _ r
    exact q
/-- what may be written -/
def Mut : Option HO → Prop
  | some (.lst _) => True
  | some (.dK _) => True
  | some (.dT _) => True
  | some (.set _ _) => True
  | some (.ins _ _ _) => True
  | some (.ext _) => True
  | _ => False
section
variable {P : Program} {w : World} {H : Hp} {h h' : Heap} {x e : Addr} {o' : HO}
/-- the object at e is changed: x itself, or the dict of the instance x -/
theorem HOk.write (ok : HOk P w H h) (mu : Mut (H x)) (he : e = x ∨ H e = some (.own x)) (k : ∀ b u, b ≠ e → h.get? b = some u → h'.get? b = some u) (heo : ∃ u, h'.get? e = some u)
    (new : ObjOk P w (upd H x o') h' x o') : HOk P w (upd H x o') h' := fun b u q => by
  have nown : ∀ c y, H c = some (.own y) → c ≠ x := fun c y r z => by subst z; rw [r] at mu; exact mu
  have ntup : ∀ c xs, H c = some (.tup xs) → c ≠ x := fun c xs r z => by subst z; rw [r] at mu; exact mu
  by_cases hb : b = x
  · subst hb; rw [upd_same] at q; cases q; exact new
  · rw [upd_ne hb] at q
    by_cases hbe : b = e
    · have q' : H b = some (.own x) := by
        rcases he with z | z
        · exact absurd (hbe.trans z) hb
        · rw [hbe]; exact z
      rw [q] at q'; cases q'
      obtain ⟨v, hv⟩ := heo
      exact ⟨v, by rw [hbe]; exact hv⟩
    · refine (ok b u q).stay (fun c v hc r => k c v ?_ r) (fun c r => by rw [upd_ne (nown c b r)]; exact r) fun c xs r => by rw [upd_ne (ntup c xs r)]; exact r
      rcases hc with rfl | hc
      · exact hbe
      · rintro rfl
        rcases he with z | z
        · exact nown c b hc z
        · rw [hc] at z; cases z; exact hb rfl
end

/-! ### kept unless tracked; of the frames at fs (the callers') the slots may change (an exception that passes writes there); of the records at ex (iterators) nothing is said -/
structure Un (fs ex : List Addr) (H H' : Hp) (h h' : Heap) : Prop where
  keep : ∀ b o, h.get? b = some o → H b = none → b ∉ fs → b ∉ ex → h'.get? b = some o
  slot : ∀ b o, h.get? b = some o → H b = none → b ∈ fs → b ∉ ex → ∃ sl, h'.get? b = some { o with slots := sl }
  free : ∀ b o, h.get? b = some o → H b = none → b ∉ ex → H' b = none
  there : ∀ b o, h.get? b = some o → b ∉ ex → ∃ o', h'.get? b = some o'
  tups : ∀ b xs, H b = some (.tup xs) → H' b = some (.tup xs)
  frzs : ∀ b o u, H b = some (.frz o u) → H' b = some (.frz o u)
  tbls : ∀ b ps, H b = some (.tbl ps) → ∃ more, H' b = some (.tbl (ps ++ more))
section
variable {fs fs' ex ex' : List Addr} {H H1 H2 : Hp} {h h1 h2 h' : Heap} {a x e : Addr} {o : HO}
theorem Un.any (u : Un fs ex H H1 h h1) {b : Addr} {ob : Obj} (q : h.get? b = some ob) (n : H b = none) (hx : b ∉ ex) : ∃ sl, h1.get? b = some { ob with slots := sl } := by
  by_cases hb : b ∈ fs
  · exact u.slot b ob q n hb hx
  · exact ⟨ob.slots, u.keep b ob q n hb hx⟩
theorem Un.kept (k : ∀ b u, h.get? b = some u → h'.get? b = some u) : Un fs ex H H h h' :=
  ⟨fun b ob q _ _ _ => k b ob q, fun b ob q _ _ _ => ⟨ob.slots, k b ob q⟩, fun _ _ _ n _ => n, fun b ob q _ => ⟨ob, k b ob q⟩, fun _ _ q => q, fun _ _ _ q => q, fun _ ps q => ⟨#[], by rw [q]; simp⟩⟩
theorem Un.refl : Un fs ex H H h h := Un.kept fun _ _ q => q
theorem Un.laid (k : ∀ b u, h.get? b = some u → h'.get? b = some u) (hp : h.objs.size ≤ a) (hn : H a = none) : Un fs ex H (upd H a o) h h' where
  keep := fun b u q _ _ _ => k b u q
  slot := fun b u q _ _ _ => ⟨u.slots, k b u q⟩
  free := fun b u q n _ => by rw [upd_ne (Nat.ne_of_lt (Nat.lt_of_lt_of_le (Heap.lt_size q) hp))]; exact n
  there := fun b u q _ => ⟨u, k b u q⟩
  tups := fun b xs q => by rw [upd_ne (ne_of_none q hn)]; exact q
  frzs := fun b u xs q => by rw [upd_ne (ne_of_none q hn)]; exact q
  tbls := fun b ps q => ⟨#[], by rw [upd_ne (ne_of_none q hn), q]; simp⟩
theorem Un.write (mu : Mut (H x)) (he : e = x ∨ H e = some (.own x)) (k : ∀ b u, b ≠ e → h.get? b = some u → h'.get? b = some u) (heo : ∃ u, h'.get? e = some u) : Un fs ex H (upd H x o) h h' := by
  have hx : ∀ b, H b = none → b ≠ x := fun b n z => by subst z; rw [n] at mu; exact mu
  have hb : ∀ b, H b = none → b ≠ e := fun b n z => by
    subst z
    rcases he with r | r
    · exact hx b n r
    · rw [n] at r; cases r
  have hm : ∀ b u, H b = some u → ¬ Mut (some u) → b ≠ x := fun b u q nm z => by subst z; rw [q] at mu; exact nm mu
  refine ⟨fun b u q n _ _ => k b u (hb b n) q, fun b u q n _ _ => ⟨u.slots, k b u (hb b n) q⟩, fun b u q n _ => by rw [upd_ne (hx b n)]; exact n, fun b u q _ => ?_,
    fun b xs q => by rw [upd_ne (hm b _ q fun z => z)]; exact q, fun b u xs q => by rw [upd_ne (hm b _ q fun z => z)]; exact q, fun b ps q => ⟨#[], by rw [upd_ne (hm b _ q fun z => z), q]; simp⟩⟩
  by_cases hbe : b = e
  · subst hbe; exact heo
  · exact ⟨u, k b u hbe q⟩
end

/-! ### the heap without what is tracked -/
def trk (h : Heap) (H : Hp) : List Addr := (List.range h.objs.size).filter fun a => (H a).isSome
def hidT (h : Heap) (H : Hp) : Heap := PySem.W.hideAll h (trk h H)
theorem hidT_size (h : Heap) (H : Hp) : (hidT h H).objs.size = h.objs.size := PySem.W.hideAll_size _ _
theorem hidT_get {h : Heap} {H : Hp} {b : Addr} {o : Obj} (e : h.get? b = some o) (n : H b = none) : (hidT h H).get? b = some o :=
  PySem.W.hideAll_get _ e fun hm => by
    have q : (H b).isSome = true := (List.mem_filter.mp hm).2
    rw [n] at q; simp at q
theorem of_hidT {h : Heap} {H : Hp} {b : Addr} {o : Obj} (e : (hidT h H).get? b = some o) : h.get? b = some o ∧ H b = none := by
  have e' : h.get? b = some o := PySem.W.of_hideAll (trk h H) e
  refine ⟨e', ?_⟩
  cases q : H b with
  | none => rfl
  | some x =>
    have hm : b ∈ trk h H := List.mem_filter.mpr ⟨List.mem_range.mpr (Heap.lt_size e'), by simp [q]⟩
    have z : (hidT h H).get? b = none := PySem.W.hideAll_none (trk h H) hm
    rw [z] at e; cases e

/-! ### OpenK's ledger, filled with every new object but one -/
def allNews (g h : Heap) (L : Addr) : List (Addr × Obj) := (List.range h.objs.size).filterMap fun a => if a = L ∨ (g.get? a).isSome = true then none else (h.get? a).map fun o => (a, o)
def rest (g h : Heap) (L d : Addr) : List (Addr × Obj) := (allNews g h L).filter fun p => decide (p.1 ≠ d)
end L2

namespace L2
open PySem PySem.Spec PyProof.Rows

/-- the module's facts, over the base: the heap at the law's entry without what is tracked there -/
structure Mod (K : PySem.W.Frag) (mg : Str → Option Value) (base : Heap) : Prop where
  kin : K.In base
  glob : base.Ns mainGlobals mg
  blt : ∃ mb, base.Ns builtinsNs mb ∧ ∀ x : Str, x ≠ "__name__" → mb x = bootBuiltins x
  nolimit : base.NoLimit

/-- the context: a def's body (or a comprehension's block) running. base: fixed through the whole law; s₀, H₀: the entry; outer: the frames whose slots others may change (a def's callers); stack: all frames that run;
   ex: iterators that were made ahead of the entry and are walked here (a comprehension's); fn: the names whose cells were made at the entry (a def: all; a comprehension's block: its own); calm: not within an except suite; pn: pins that every state bears; xe: what is wanted of an exception that leaves the code -/
structure Cx where
  prog : Program
  w : World
  K : PySem.W.Frag
  mg : Str → Option Value
  base : Heap
  A : Around
  N : List Str
  s₀ : Shared
  H₀ : Hp
  env : Env
  outer : List Env
  stack : List Env
  ex : List Addr
  fn : Str → Bool
  calm : Bool
  pn : List (Addr × Obj)
  xe : Value → Shared → Prop
/-- the callers' frames -/
def frs (l : List Env) : List Addr := l.filterMap (·.frame)
abbrev Cx.fs (X : Cx) : List Addr := frs X.outer

def Vis (sc : Scope) (x : Str) : Prop := sc.names.lookup x = some .local ∨ sc.names.lookup x = some .cell ∨ sc.names.lookup x = some .free
def Loc (sc : Scope) (x : Str) : Prop := sc.names.lookup x = some .local ∨ sc.names.lookup x = some .cell
def Look (env : Env) (h : Heap) (m : Str → Option Value) (x : Str) (u : Value) : Prop :=
  (env.kindOf x = some .local ∧ m x = some u) ∨ ((env.kindOf x = some .cell ∨ env.kindOf x = some .free) ∧ ∃ c, env.cells.lookup x = some c ∧ h.IsCell c (some u))

structure Cx.Ok (X : Cx) : Prop where
  mod : Mod X.K X.mg X.base
  kind : X.env.scope.kind = .function
  glob : X.env.globals = mainGlobals
  blt : X.env.builtins = builtinsNs
  above : X.s₀.heap.objs.size ≤ X.env.locals
  inj : ∀ x y c, X.env.cells.lookup x = some c → X.env.cells.lookup y = some c → x = y
  has : ∀ x, (X.env.kindOf x = some .cell ∨ X.env.kindOf x = some .free) → ∃ c, X.env.cells.lookup x = some c
  cab : ∀ x c, X.fn x = true → X.env.cells.lookup x = some c → X.s₀.heap.objs.size ≤ c
  hd : X.calm = true → X.A.handled = none
  frames : X.A.frames = some X.stack
  stk : X.stack = X.outer ∨ (X.stack = X.env :: X.outer ∧ X.env.frame = some X.env.locals)
  exf : ∀ b ∈ X.ex, b ≠ X.env.locals ∧ ∀ x c, X.env.cells.lookup x = some c → c ≠ b
  bs : ∀ b o, X.base.get? b = some o → X.s₀.heap.get? b = some o ∧ X.H₀ b = none
  bsz : X.base.objs.size ≤ X.s₀.heap.objs.size
  noex : ∀ b o, X.base.get? b = some o → b ∉ X.ex
  exfs : ∀ b ∈ X.ex, b ∉ X.fs
  funs : X.s₀.heap.FunFrames X.base X.outer
  frf : ∀ b ∈ X.fs, X.H₀ b = none

structure Inv (X : Cx) (pins : List (Addr × Obj)) (σ : List (Option V)) (H : Hp) (s : Shared) : Prop where
  ok : X.Ok
  os : s.os = X.s₀.os
  bare : AllBare s.gens
  base : Un X.fs X.ex X.H₀ H X.s₀.heap s.heap
  loc : ∃ m, s.heap.Ns X.env.locals m ∧ ∀ (i : Nat) (x : Str) (v : V), X.N[i]? = some x → σ[i]? = some (some v) → Vis X.env.scope x → ∃ u, RelV v u ∧ Look X.env s.heap m x u
  cell : ∀ x c, X.env.cells.lookup x = some c → ∃ v, s.heap.IsCell c v
  free : H X.env.locals = none
  freeC : ∀ x c, X.env.cells.lookup x = some c → H c = none
  pin : ∀ p ∈ X.pn ++ pins, s.heap.get? p.1 = some p.2 ∧ H p.1 = none ∧ p.1 ≠ X.env.locals ∧ p.1 ∉ X.fs ∧ ∀ v, p.2.data ≠ .cell v
  hok : HOk X.prog X.w H s.heap
  len : σ.length = X.N.length

section
variable {X : Cx} {pins : List (Addr × Obj)} {σ : List (Option V)} {H H' : Hp} {s : Shared} {h' : Heap}

theorem Cx.Ok.nofr (ok : X.Ok) {b : Addr} {o : Obj} (e : X.base.get? b = some o) : b ∉ X.fs := fun hb => by
  have := (ok.funs.mem hb).1
  rw [e] at this; cases this
theorem Inv.bs (I : Inv X pins σ H s) : ∀ b o, X.base.get? b = some o → s.heap.get? b = some o ∧ H b = none := fun b o e =>
  ⟨I.base.keep b o (I.ok.bs b o e).1 (I.ok.bs b o e).2 (I.ok.nofr e) (I.ok.noex b o e), I.base.free b o (I.ok.bs b o e).1 (I.ok.bs b o e).2 (I.ok.noex b o e)⟩
theorem Inv.bk (I : Inv X pins σ H s) : ∀ b o, X.base.get? b = some o → s.heap.get? b = some o := fun b o e => (I.bs b o e).1
theorem Inv.mod (I : Inv X pins σ H s) : Mod X.K X.mg X.base := I.ok.mod
theorem Inv.kIn (I : Inv X pins σ H s) : X.K.In s.heap := I.ok.mod.kin.keeps I.bk
theorem Inv.lt (I : Inv X pins σ H s) : X.env.locals < s.heap.objs.size := let ⟨_, hn, _⟩ := I.loc; hn.lt
theorem Inv.sz (I : Inv X pins σ H s) : X.s₀.heap.objs.size ≤ s.heap.objs.size := Nat.le_trans I.ok.above (Nat.le_of_lt I.lt)
theorem Inv.nofs (I : Inv X pins σ H s) {a : Addr} (h : s.heap.objs.size ≤ a) : a ∉ X.fs := fun hb => by
  obtain ⟨_, o, ho, _⟩ := I.ok.funs.mem hb
  exact absurd (Nat.lt_of_lt_of_le (Heap.lt_size ho) (Nat.le_trans I.sz h)) (Nat.lt_irrefl _)
theorem Inv.cne (I : Inv X pins σ H s) : ∀ x c, X.env.cells.lookup x = some c → c ≠ X.env.locals := fun x c e z => by
  obtain ⟨v, o, ho, hd⟩ := I.cell x c e
  obtain ⟨m, ⟨o', es, ep, ho', hd', _⟩, _⟩ := I.loc
  rw [z, ho'] at ho; cases ho; rw [hd'] at hd; cases hd
theorem Inv.funs (I : Inv X pins σ H s) : s.heap.FunFrames X.base X.outer := by
  have all : ∀ (l : List Env), (∀ b ∈ frs l, b ∈ X.fs) → X.s₀.heap.FunFrames X.base l → s.heap.FunFrames X.base l := by
    intro l
    induction l with
    | nil => intro _ _; trivial
    | cons env r ih =>
      intro hs hl
      obtain ⟨hk, ⟨L, o, hf, hn, ho, hd⟩, hr⟩ := hl
      have hL : L ∈ X.fs := hs L (by unfold frs; rw [List.filterMap_cons, hf]; exact List.mem_cons_self)
      obtain ⟨sl, e⟩ := I.base.slot L o ho (I.ok.frf L hL) hL fun z => I.ok.exfs L z hL
      exact ⟨hk, ⟨L, _, hf, hn, e, hd⟩, ih (fun b hb => hs b (by unfold frs; rw [List.filterMap_cons, hf]; exact List.mem_cons_of_mem _ hb)) hr⟩
  exact all X.outer (fun _ hb => hb) I.ok.funs

/-- the frames that run, for a call -/
theorem Inv.stack (I : Inv X pins σ H s) : s.heap.FunFrames X.base X.stack := by
  rcases I.ok.stk with e | ⟨e, hf⟩
  · rw [e]; exact I.funs
  · rw [e]
    obtain ⟨m, hn, _⟩ := I.loc
    refine .cons (by rw [I.ok.kind]; decide) hf hn ?_ I.funs
    exact Heap.get?_none_of_le (Nat.le_trans I.ok.bsz I.ok.above)
theorem Inv.stkSub (I : Inv X pins σ H s) : ∀ b ∈ frs X.stack, b ∈ X.env.locals :: X.fs := fun b hb => by
  rcases I.ok.stk with e | ⟨e, hf⟩
  · rw [e] at hb; exact List.mem_cons_of_mem _ hb
  · rw [e] at hb
    unfold frs at hb
    rw [List.filterMap_cons, hf] at hb
    exact hb
theorem Inv.stkFree (I : Inv X pins σ H s) : ∀ b ∈ frs X.stack, H b = none := fun b hb => by
  rcases List.mem_cons.mp (I.stkSub b hb) with e | hb
  · rw [e]; exact I.free
  · obtain ⟨_, o, ho, _⟩ := I.ok.funs.mem hb
    exact I.base.free b o ho (I.ok.frf b hb) fun z => I.ok.exfs b z hb

/-- THE STEP: the untracked objects but the frame and the records at ch are kept (the callers' frames up to slots), the frame's map is kept, the new abstract heap is held -/
theorem Inv.step {g' : Array GenState} {t' : Nat} {d' : Drawn} {ch : List Addr} (I : Inv X pins σ H s)
    (hch : ∀ b ∈ ch, (b ∈ X.ex ∨ X.s₀.heap.objs.size ≤ b) ∧ b ≠ X.env.locals ∧ (∀ x c, X.env.cells.lookup x = some c → c ≠ b) ∧ ∀ p ∈ X.pn ++ pins, p.1 ≠ b)
    (keep : ∀ b o, b ≠ X.env.locals → b ∉ X.fs → b ∉ ch → s.heap.get? b = some o → H b = none → h'.get? b = some o)
    (slot : ∀ b o, b ≠ X.env.locals → b ∈ X.fs → b ∉ ch → s.heap.get? b = some o → H b = none → ∃ sl, h'.get? b = some { o with slots := sl }) (free : ∀ b o, b ∉ ch → s.heap.get? b = some o → H b = none → H' b = none)
    (there : ∀ b o, b ∉ ch → s.heap.get? b = some o → ∃ o', h'.get? b = some o')
    (tups : ∀ b xs, H b = some (.tup xs) → H' b = some (.tup xs)) (frzs : ∀ b o u, H b = some (.frz o u) → H' b = some (.frz o u)) (tbls : ∀ b ps, H b = some (.tbl ps) → ∃ more, H' b = some (.tbl (ps ++ more)))
    (ns : ∀ m, s.heap.Ns X.env.locals m → h'.Ns X.env.locals m) (hok : HOk X.prog X.w H' h') (hg : AllBare g') :
    Inv X pins σ H' { s with heap := h', gens := g', drawn := d', toks := t' } := by
  have neL : ∀ b o, X.s₀.heap.get? b = some o → b ≠ X.env.locals := fun b o e => Nat.ne_of_lt (Nat.lt_of_lt_of_le (Heap.lt_size e) I.ok.above)
  have neC : ∀ b o, X.s₀.heap.get? b = some o → b ∉ X.ex → b ∉ ch := fun b o e hx hb => by
    rcases (hch b hb).1 with z | z
    · exact hx z
    · exact absurd (Nat.lt_of_lt_of_le (Heap.lt_size e) z) (Nat.lt_irrefl _)
  have cellK : ∀ x c, X.env.cells.lookup x = some c → ∀ v, s.heap.IsCell c v → h'.IsCell c v := fun x c e v ⟨o, ho, hd⟩ => by
    have nch : c ∉ ch := fun z => (hch c z).2.2.1 x c e rfl
    by_cases hc : c ∈ X.fs
    · obtain ⟨sl, q⟩ := slot c o (I.cne x c e) hc nch ho (I.freeC x c e)
      exact ⟨_, q, hd⟩
    · exact ⟨o, keep c o (I.cne x c e) hc nch ho (I.freeC x c e), hd⟩
  refine ⟨I.ok, I.os, hg, ⟨fun b o e n hb hx => ?_, fun b o e n hb hx => ?_, fun b o e n hx => ?_, fun b o e hx => ?_, fun b xs e => tups b xs (I.base.tups b xs e), fun b o xs e => frzs b o xs (I.base.frzs b o xs e), fun b ps e => ?_⟩, ?_, fun x c e => ?_, ?_, fun x c e => ?_, fun p hp => ?_, hok, I.len⟩
  · exact keep b o (neL b o e) hb (neC b o e hx) (I.base.keep b o e n hb hx) (I.base.free b o e n hx)
  · obtain ⟨sl, e1⟩ := I.base.slot b o e n hb hx
    obtain ⟨sl', e2⟩ := slot b _ (neL b o e) hb (neC b o e hx) e1 (I.base.free b o e n hx)
    exact ⟨sl', e2⟩
  · obtain ⟨o', e1⟩ := I.base.there b o e hx
    exact free b o' (neC b o e hx) e1 (I.base.free b o e n hx)
  · obtain ⟨o', e1⟩ := I.base.there b o e hx
    exact there b o' (neC b o e hx) e1
  · obtain ⟨m1, e1⟩ := I.base.tbls b ps e
    obtain ⟨m2, e2⟩ := tbls b _ e1
    exact ⟨m1 ++ m2, by rw [e2, Array.append_assoc]⟩
  · obtain ⟨m, hn, hl⟩ := I.loc
    refine ⟨m, ns m hn, fun i x v e1 e2 e3 => ?_⟩
    obtain ⟨u, r, l⟩ := hl i x v e1 e2 e3
    refine ⟨u, r, ?_⟩
    rcases l with l | ⟨k, c, e, z⟩
    · exact .inl l
    · exact .inr ⟨k, c, e, cellK x c e _ z⟩
  · obtain ⟨v, z⟩ := I.cell x c e
    exact ⟨v, cellK x c e v z⟩
  · obtain ⟨m, ⟨o, _, _, ho, _⟩, _⟩ := I.loc
    exact free _ o (fun z => (hch _ z).2.1 rfl) ho I.free
  · obtain ⟨v, o, ho, hd⟩ := I.cell x c e
    exact free c o (fun z => (hch c z).2.2.1 x c e rfl) ho (I.freeC x c e)
  · obtain ⟨e, n, ne, nf, d⟩ := I.pin p hp
    have nch : p.1 ∉ ch := fun z => (hch p.1 z).2.2.2 p hp rfl
    exact ⟨keep p.1 p.2 ne nf nch e n, free p.1 p.2 nch e n, ne, nf, d⟩
/-- .. where the frame's own object is kept too -/
theorem Inv.un {t' : Nat} (I : Inv X pins σ H s) (u : Un X.fs [] H H' s.heap h') (hok : HOk X.prog X.w H' h') : Inv X pins σ H' { s with heap := h', toks := t' } := by
  obtain ⟨m, ⟨o, es, ep, ho, r⟩, _⟩ := id I.loc
  obtain ⟨sl, hL⟩ := u.any ho I.free (by simp)
  exact I.step (g' := s.gens) (d' := s.drawn) (ch := []) (fun _ z => nomatch z) (fun b o _ hb _ e n => u.keep b o e n hb (by simp)) (fun b o _ hb _ e n => u.slot b o e n hb (by simp)) (fun b o _ e n => u.free b o e n (by simp)) (fun b o _ e => u.there b o e (by simp)) u.tups u.frzs u.tbls (fun m' hm => by
    obtain ⟨o', es', ep', ho', r'⟩ := hm
    rw [ho] at ho'; cases ho'
    exact ⟨_, es', ep', hL, r'⟩) hok I.bare
/-- behind a call (or a comprehension's block): the slots of this frame may have changed too, the records at ch may have turned -/
theorem Inv.call {g' : Array GenState} {t' : Nat} {d' : Drawn} {ch : List Addr} (I : Inv X pins σ H s) (u : Un (frs X.stack) ch H H' s.heap h') (hok : HOk X.prog X.w H' h') (hg : AllBare g')
    (hch : ∀ b ∈ ch, (b ∈ X.ex ∨ X.s₀.heap.objs.size ≤ b) ∧ b ≠ X.env.locals ∧ (∀ x c, X.env.cells.lookup x = some c → c ≠ b) ∧ ∀ p ∈ X.pn ++ pins, p.1 ≠ b) :
    Inv X pins σ H' { s with heap := h', gens := g', drawn := d', toks := t' } := by
  obtain ⟨m, ⟨o, es, ep, ho, r⟩, _⟩ := id I.loc
  obtain ⟨sl, hL⟩ := u.any ho I.free fun z => (hch _ z).2.1 rfl
  exact I.step (ch := ch) hch (fun b o hL hb hc e n => u.keep b o e n (fun z => (List.mem_cons.mp (I.stkSub b z)).elim hL hb) hc) (fun b o _ _ hc e n => u.any e n hc) (fun b o hc e n => u.free b o e n hc) (fun b o hc e => u.there b o e hc) u.tups u.frzs u.tbls (fun m' hm => by
    obtain ⟨o', es', ep', ho', r'⟩ := hm
    rw [ho] at ho'; cases ho'
    exact ⟨_, es', ep', hL, r'⟩) hok hg
/-- an untracked record of ours (an iterator) has turned -/
theorem Inv.turned {t' : Nat} {it : Addr} (I : Inv X pins σ H s) (k : ∀ b o, b ≠ it → s.heap.get? b = some o → h'.get? b = some o) (hn : H it = none) (hL : it ≠ X.env.locals)
    (h1 : it ∈ X.ex ∨ X.s₀.heap.objs.size ≤ it) (h2 : ∀ x c, X.env.cells.lookup x = some c → c ≠ it) (h3 : ∀ p ∈ X.pn ++ pins, p.1 ≠ it) : Inv X pins σ H { s with heap := h', toks := t' } := by
  have nit : ∀ b u, H b = some u → b ≠ it := fun b u e z => by rw [z, hn] at e; cases e
  refine I.step (g' := s.gens) (d' := s.drawn) (ch := [it]) (fun b hb => ?_) (fun b o _ _ hc e _ => k b o (fun z => hc (by simp [z])) e) (fun b o _ _ hc e _ => ⟨o.slots, k b o (fun z => hc (by simp [z])) e⟩) (fun _ _ _ _ n => n)
    (fun b o hc e => ⟨o, k b o (fun z => hc (by simp [z])) e⟩) (fun _ _ e => e) (fun _ _ _ e => e) (fun b ps e => ⟨#[], by rw [e]; simp⟩) (fun m hm => ?_) (fun b u e => ?_) I.bare
  · have e : b = it := by simpa using hb
    subst e
    exact ⟨h1, hL, h2, h3⟩
  · obtain ⟨o, es, ep, ho, r⟩ := hm
    exact ⟨o, es, ep, k _ o (Ne.symm hL) ho, r⟩
  · refine (I.hok b u e).stay (fun c v hc q => k c v ?_ q) (fun _ q => q) fun _ _ q => q
    rcases hc with z | z
    · rw [z]; exact nit b u e
    · exact nit c _ z
theorem Inv.tok (I : Inv X pins σ H s) (t : Nat) : Inv X pins σ H { s with toks := t } := I.un (h' := s.heap) (t' := t) Un.refl I.hok
/-- all objects kept -/
theorem Inv.kept {t' : Nat} (I : Inv X pins σ H s) (k : ∀ b u, s.heap.get? b = some u → h'.get? b = some u) : Inv X pins σ H { s with heap := h', toks := t' } := I.un (Un.kept k) (I.hok.kept k)
/-- a new object laid and tracked -/
theorem Inv.laid {a : Addr} {o : HO} {t' : Nat} (I : Inv X pins σ H s) (k : ∀ b u, s.heap.get? b = some u → h'.get? b = some u) (hp : s.heap.objs.size ≤ a) (new : ObjOk X.prog X.w (upd H a o) h' a o) :
    Inv X pins σ (upd H a o) { s with heap := h', toks := t' } := I.un (Un.laid k hp (I.hok.fresh hp)) (I.hok.laid k hp new)
/-- an object written -/
theorem Inv.write {x e : Addr} {o : HO} {t' : Nat} (I : Inv X pins σ H s) (mu : Mut (H x)) (he : e = x ∨ H e = some (.own x)) (k : ∀ b u, b ≠ e → s.heap.get? b = some u → h'.get? b = some u) (heo : ∃ u, h'.get? e = some u)
    (new : ObjOk X.prog X.w (upd H x o) h' x o) : Inv X pins σ (upd H x o) { s with heap := h', toks := t' } := I.un (Un.write mu he k heo) (I.hok.write mu he k heo new)
theorem Inv.pins_of {pins' : List (Addr × Obj)} (I : Inv X pins σ H s) (h : ∀ p ∈ pins', s.heap.get? p.1 = some p.2 ∧ H p.1 = none ∧ p.1 ≠ X.env.locals ∧ p.1 ∉ X.fs ∧ ∀ v, p.2.data ≠ .cell v) : Inv X pins' σ H s :=
  ⟨I.ok, I.os, I.bare, I.base, I.loc, I.cell, I.free, I.freeC, fun p hp => (List.mem_append.mp hp).elim (fun z => I.pin p (List.mem_append_left _ z)) (h p), I.hok, I.len⟩

theorem nodup_ix {N : List Str} (hN : N.Nodup) {i j : Nat} {x : Str} (a : N[i]? = some x) (b : N[j]? = some x) : i = j := by
  obtain ⟨h1, e1⟩ := List.getElem?_eq_some_iff.mp a
  obtain ⟨h2, e2⟩ := List.getElem?_eq_some_iff.mp b
  exact (List.getElem_inj hN).mp (e1.trans e2.symm)

/-- a name is stored; what changed -/
theorem store_ok2 {M : Model} {A : Around} {E : Value → Shared → Prop} {i : Nat} {x : Str} {v : V} {u : Value} {Q : Unit → Shared → Prop} (I : Inv X pins σ H s) (hN : X.N.Nodup) (hi : X.N[i]? = some x) (hx : Loc X.env.scope x) (r : RelV v u)
    (h : ∀ s', Inv X pins (σ.set i (some v)) H s' → (∃ a, Heap.SameBut a s.heap s'.heap ∧ (a = X.env.locals ∨ X.env.cells.lookup x = some a)) → Q () s') (hf : X.fn x = true ∨ X.env.scope.names.lookup x = some .local := by first | exact .inl rfl | exact .inr rfl | assumption) : wpAny M A (storeName X.env x u) Q E s := by
  obtain ⟨m, hn, hl⟩ := id I.loc
  have hcls : (X.env.scope.kind == .class || (X.env.scope.kind == .module && X.env.locals != X.env.globals)) = false := by rw [I.ok.kind]; rfl
  have hiσ : i < σ.length := by rw [I.len]; exact (List.getElem?_eq_some_iff.mp hi).1
  have cne := I.cne
  have tracked : ∀ {a : Addr} {h' : Heap}, (∃ o, s.heap.get? a = some o ∧ H a = none) → Heap.SameBut a s.heap h' → HOk X.prog X.w H h' := fun {a h'} ha hs b ob e => by
    obtain ⟨_, _, hfree⟩ := ha
    refine (I.hok b ob e).stay (fun c w' hc q => (hs.2 c ?_).trans q) (fun _ q => q) fun _ _ q => q
    rintro rfl
    rcases hc with rfl | hc
    · rw [hfree] at e; cases e
    · rw [hfree] at hc; cases hc
  rcases hx with hk | hk
  · refine wpAny_storeName_local hk hn (fun h' hn' hs => ?_) hcls
    obtain ⟨oL, _, _, hoL, _⟩ := id hn
    refine h _ ⟨I.ok, I.os, I.bare, ⟨fun b o e n hb hx => ?_, fun b o e n hb hx => ?_, I.base.free, fun b o e hx => ?_, I.base.tups, I.base.frzs, I.base.tbls⟩, ⟨_, hn', fun j y v' e1 e2 e3 => ?_⟩, fun y c e => ?_, I.free, I.freeC, fun p hp => ?_, tracked ⟨oL, hoL, I.free⟩ hs, by simpa using I.len⟩ ⟨_, hs, .inl rfl⟩
    · exact (hs.2 b (Nat.ne_of_lt (Nat.lt_of_lt_of_le (Heap.lt_size e) I.ok.above))).trans (I.base.keep b o e n hb hx)
    · obtain ⟨sl, e1⟩ := I.base.slot b o e n hb hx
      exact ⟨sl, (hs.2 b (Nat.ne_of_lt (Nat.lt_of_lt_of_le (Heap.lt_size e) I.ok.above))).trans e1⟩
    · obtain ⟨o', e1⟩ := I.base.there b o e hx
      exact ⟨o', (hs.2 b (Nat.ne_of_lt (Nat.lt_of_lt_of_le (Heap.lt_size e) I.ok.above))).trans e1⟩
    · by_cases hj : j = i
      · subst hj
        rw [hi] at e1; cases e1
        rw [List.getElem?_set_self hiσ] at e2
        cases e2
        exact ⟨u, r, .inl ⟨hk, by simp⟩⟩
      · rw [List.getElem?_set_ne (Ne.symm hj)] at e2
        obtain ⟨u', r', q⟩ := hl j y v' e1 e2 e3
        refine ⟨u', r', ?_⟩
        rcases q with ⟨k, e⟩ | ⟨k, c, e, z⟩
        · refine .inl ⟨k, ?_⟩
          have : y ≠ x := fun e => hj (nodup_ix hN e1 (e ▸ hi))
          simp [this, e]
        · exact .inr ⟨k, c, e, z.sameBut hs (cne y c e)⟩
    · obtain ⟨w', z⟩ := I.cell y c e
      exact ⟨w', z.sameBut hs (cne y c e)⟩
    · obtain ⟨e, n, ne, nf, d⟩ := I.pin p hp
      exact ⟨(hs.2 p.1 ne).trans e, n, ne, nf, d⟩
  · have hfn : X.fn x = true := by
      rcases hf with z | z
      · exact z
      · rw [z] at hk; cases hk
    obtain ⟨c, hc⟩ := I.ok.has x (.inl hk)
    obtain ⟨w', z⟩ := I.cell x c hc
    refine wpAny_storeName_cell I.ok.kind hk hc z (fun h' hc' hs => ?_)
    obtain ⟨oc, hoc, hocd⟩ := id z
    refine h { s with heap := h' } ⟨I.ok, I.os, I.bare, ⟨fun b o e n hb hx => ?_, fun b o e n hb hx => ?_, I.base.free, fun b o e hx => ?_, I.base.tups, I.base.frzs, I.base.tbls⟩, ⟨m, hn.sameBut hs (Ne.symm (cne x c hc)), fun j y v' e1 e2 e3 => ?_⟩, fun y c' e => ?_, I.free, I.freeC, fun p hp => ?_, tracked ⟨oc, hoc, I.freeC x c hc⟩ hs, by simpa using I.len⟩ ⟨c, hs, .inr hc⟩
    · exact (hs.2 b (Nat.ne_of_lt (Nat.lt_of_lt_of_le (Heap.lt_size e) (I.ok.cab x c hfn hc)))).trans (I.base.keep b o e n hb hx)
    · obtain ⟨sl, e1⟩ := I.base.slot b o e n hb hx
      exact ⟨sl, (hs.2 b (Nat.ne_of_lt (Nat.lt_of_lt_of_le (Heap.lt_size e) (I.ok.cab x c hfn hc)))).trans e1⟩
    · obtain ⟨o', e1⟩ := I.base.there b o e hx
      exact ⟨o', (hs.2 b (Nat.ne_of_lt (Nat.lt_of_lt_of_le (Heap.lt_size e) (I.ok.cab x c hfn hc)))).trans e1⟩
    · by_cases hj : j = i
      · subst hj
        rw [hi] at e1; cases e1
        rw [List.getElem?_set_self hiσ] at e2
        cases e2
        exact ⟨u, r, .inr ⟨.inl hk, c, hc, hc'⟩⟩
      · rw [List.getElem?_set_ne (Ne.symm hj)] at e2
        obtain ⟨u', r', q⟩ := hl j y v' e1 e2 e3
        refine ⟨u', r', ?_⟩
        rcases q with q | ⟨k, c', e, z'⟩
        · exact .inl q
        · refine .inr ⟨k, c', e, z'.sameBut hs ?_⟩
          rintro rfl
          exact hj (nodup_ix hN e1 (I.ok.inj _ _ _ e hc ▸ hi))
    · by_cases hcc : c' = c
      · subst hcc; exact ⟨_, hc'⟩
      · obtain ⟨w2, z2⟩ := I.cell y c' e
        exact ⟨w2, z2.sameBut hs hcc⟩
    · obtain ⟨e, n, ne, nf, d⟩ := I.pin p hp
      refine ⟨(hs.2 p.1 ?_).trans e, n, ne, nf, d⟩
      intro q
      rw [q, hoc] at e
      have q' : oc = p.2 := Option.some.inj e
      exact d w' (by rw [← q']; exact hocd)
theorem store_ok {M : Model} {A : Around} {E : Value → Shared → Prop} {i : Nat} {x : Str} {v : V} {u : Value} {Q : Unit → Shared → Prop} (I : Inv X pins σ H s) (hN : X.N.Nodup) (hi : X.N[i]? = some x) (hx : Loc X.env.scope x) (r : RelV v u)
    (h : ∀ s', Inv X pins (σ.set i (some v)) H s' → Q () s') (hf : X.fn x = true ∨ X.env.scope.names.lookup x = some .local := by first | exact .inl rfl | exact .inr rfl | assumption) : wpAny M A (storeName X.env x u) Q E s :=
  store_ok2 I hN hi hx r (fun s' I' _ => h s' I') hf
/-- behind a call or a block, the state as it is -/
theorem Inv.call' {s' : Shared} {ch : List Addr} (I : Inv X pins σ H s) (ho : s'.os = s.os) (u : Un (frs X.stack) ch H H' s.heap s'.heap) (hok : HOk X.prog X.w H' s'.heap) (hg : AllBare s'.gens)
    (hch : ∀ b ∈ ch, (b ∈ X.ex ∨ X.s₀.heap.objs.size ≤ b) ∧ b ≠ X.env.locals ∧ (∀ x c, X.env.cells.lookup x = some c → c ≠ b) ∧ ∀ p ∈ X.pn ++ pins, p.1 ≠ b) : Inv X pins σ H' s' := by
  obtain ⟨h', g', d', t', o'⟩ := s'
  have e : o' = s.os := ho
  subst e
  exact I.call (g' := g') (t' := t') (d' := d') u hok hg hch
end

/-! ### the judgements -/
/-- an exception: its class, its own dict's address (where it has one), the abstract heap behind it -/
abbrev XK := Value → Option Addr → Hp → Prop
abbrev St := List (Option V)
abbrev VK := V → Hp → Prop
/-- an expression's reading; a test's; an argument list's -/
abbrev TE := St → Hp → VK → Prop
abbrev TT := St → Hp → (Bool → Hp → Prop) → Prop
abbrev TA := St → Hp → (List V → Hp → Prop) → Prop
/-- what is wanted behind a statement -/
structure Ends where
  nx : St → Hp → Prop
  rt : VK
  bk : St → Hp → Prop := fun _ _ => False
  ct : St → Hp → Prop := fun _ _ => False
abbrev TS := Ends → St → Hp → Prop

def EP (X : Cx) (pins : List (Addr × Obj)) (σ : St) (Q : VK) (u : Value) (s' : Shared) : Prop := ∃ v H', Inv X pins σ H' s' ∧ RelV v u ∧ Q v H'
def TP (X : Cx) (pins : List (Addr × Obj)) (σ : St) (Q : Bool → Hp → Prop) (b : Bool) (s' : Shared) : Prop := ∃ H', Inv X pins σ H' s' ∧ Q b H'
def AP (X : Cx) (pins : List (Addr × Obj)) (σ : St) (Q : List V → Hp → Prop) (us : List Value) (s' : Shared) : Prop := ∃ vs H', Inv X pins σ H' s' ∧ Vals vs us ∧ Q vs H'
def SP (X : Cx) (pins : List (Addr × Obj)) (D : Ends) (f : Flow) (s' : Shared) : Prop :=
  match f with
  | .next => ∃ σ' H', Inv X pins σ' H' s' ∧ D.nx σ' H'
  | .brk => ∃ σ' H', Inv X pins σ' H' s' ∧ D.bk σ' H'
  | .cont => ∃ σ' H', Inv X pins σ' H' s' ∧ D.ct σ' H'
  | .ret u => ∃ v σ' H', Inv X pins σ' H' s' ∧ RelV v u ∧ D.rt v H'

def PE (X : Cx) (e : Expr) (t : TE) : Prop :=
  ∀ (pins : List (Addr × Obj)) (s : Shared) (σ : St) (H : Hp) (Q : VK), Inv X pins σ H s → t σ H Q → wpAny (model X.prog X.w) X.A (eval e X.env) (EP X pins σ Q) X.xe s
def PT (X : Cx) (e : Expr) (t : TT) : Prop :=
  ∀ (pins : List (Addr × Obj)) (s : Shared) (σ : St) (H : Hp) (Q : Bool → Hp → Prop), Inv X pins σ H s → t σ H Q → wpAny (model X.prog X.w) X.A (isTrue e X.env (eval e X.env)) (TP X pins σ Q) X.xe s
/-- a test whatever its 'whole' is (and, or) -/
def PW (X : Cx) (e : Expr) (t : TT) : Prop :=
  ∀ (whole : Sem Value) (pins : List (Addr × Obj)) (s : Shared) (σ : St) (H : Hp) (Q : Bool → Hp → Prop), Inv X pins σ H s → t σ H Q → wpAny (model X.prog X.w) X.A (isTrue e X.env whole) (TP X pins σ Q) X.xe s
theorem PW.pt {X : Cx} {e : Expr} {t : TT} (h : PW X e t) : PT X e t := h _
/-- an argument list (no star), from the left -/
def PA (X : Cx) (es : List Expr) (t : TA) : Prop :=
  ∀ (pos : Pos) (pins : List (Addr × Obj)) (s : Shared) (σ : St) (H : Hp) (Q : List V → Hp → Prop), Inv X pins σ H s → t σ H Q → wpAny (model X.prog X.w) X.A (spliced (backTo pos (starEach es X.env))) (AP X pins σ Q) X.xe s
def PS (X : Cx) (st : Stmt) (t : TS) : Prop :=
  ∀ (pins : List (Addr × Obj)) (s : Shared) (σ : St) (H : Hp) (D : Ends), Inv X pins σ H s → t D σ H → wpAny (model X.prog X.w) X.A (exec st X.env) (SP X pins D) X.xe s
def PSs (X : Cx) (st : List Stmt) (t : TS) : Prop :=
  ∀ (pins : List (Addr × Obj)) (s : Shared) (σ : St) (H : Hp) (D : Ends), Inv X pins σ H s → t D σ H → wpAny (model X.prog X.w) X.A (execs st X.env) (SP X pins D) X.xe s
/-- weaken the end -/
theorem thn {α : Type} {t : Sem α} {Q Q' : α → Shared → Prop} {M : Model} {A : Around} {E : Value → Shared → Prop} {s : Shared} (h : wpAny M A t Q E s) (hQ : ∀ a s, Q a s → Q' a s) : wpAny M A t Q' E s := wpAny_mono h hQ fun _ _ x => x
end L2

namespace L2
open PySem PySem.Spec PyProof.Rows
section
variable {X : Cx}

/-! ### names and constants -/
def tVar (i : Nat) : TE := fun σ H Q => ∃ v, σ[i]? = some (some v) ∧ Q v H
def tC (v : V) : TE := fun _ H Q => Q v H
theorem pe_var {i : Nat} {x : Str} {pos : Pos} (hN : X.N[i]? = some x) (hv : Vis X.env.scope x) (hd : (x == ("__debug__" : Str)) = false := by decide) (hcd : (x == ("__classdict__" : Str)) = false := by decide) : PE X (.Name x pos) (tVar i) := by
  intro pins s σ H Q I h
  obtain ⟨v, e, h⟩ := h
  obtain ⟨m, hn, hl⟩ := I.loc
  obtain ⟨u, r, l⟩ := hl i x v hN e hv
  have fin : EP X pins σ Q u s := ⟨v, H, I, r, h⟩
  rcases l with ⟨hk, hm⟩ | ⟨hk, c, hc, hcell⟩
  · exact wpAny_Name (wpAny_loadName_local I.ok.kind hk hn hm fin) hd
  · rcases hk with hk | hk
    · exact wpAny_Name (wpAny_loadName_cell I.ok.kind hk hc hcell fin) hd
    · exact wpAny_Name (wpAny_loadName_free I.ok.kind hk hc hcell fin hcd) hd
theorem pe_int {i j pos} : PE X (.Constant (.int i) j pos) (tC (.int i)) := fun _ _ _ H _ I h => wpAny_Constant_int ⟨.int i, H, I.tok _, ⟨_, rfl⟩, h⟩
theorem pe_bl {b j pos} : PE X (.Constant (.bool b) j pos) (tC (.bl b)) := fun _ _ _ H _ I h => Constant_bool ⟨.bl b, H, I, rfl, h⟩
theorem pe_non {j pos} : PE X (.Constant .none j pos) (tC .non) := fun _ _ _ H _ I h => Constant_none ⟨.non, H, I, rfl, h⟩
theorem pe_str {x j pos} : PE X (.Constant (.str x) j pos) (tC (.str x)) := fun _ _ _ H _ I h => Calls.Constant_str ⟨.str x, H, I.tok _, ⟨_, rfl⟩, h⟩

/-- a global name of the def -/
def Gl (X : Cx) (x : Str) : Prop := X.env.kindOf x = some .globalImplicit
theorem ld_glob {E : Value → Shared → Prop} {pins : List (Addr × Obj)} {s : Shared} {σ : St} {H : Hp} {x : Str} {u : Value} {pos : Pos} {Q : Value → Shared → Prop} (I : Inv X pins σ H s) (hg : Gl X x) (hm : X.mg x = some u) (h : Q u s)
    (hd : (x == ("__debug__" : Str)) = false := by decide) : wpAny (model X.prog X.w) X.A (eval (.Name x pos) X.env) Q E s :=
  Calls.Name_function_global I.ok.kind hg (Calls.loadGlobal_global (by rw [I.ok.glob]; exact I.mod.glob.keeps I.bk) hm h) hd
theorem ld_blt {E : Value → Shared → Prop} {pins : List (Addr × Obj)} {s : Shared} {σ : St} {H : Hp} {x : Str} {u : Value} {pos : Pos} {Q : Value → Shared → Prop} (I : Inv X pins σ H s) (hg : Gl X x) (hm : X.mg x = none) (hv : bootBuiltins x = some u) (h : Q u s)
    (hn : x ≠ "__name__" := by decide) (hd : (x == ("__debug__" : Str)) = false := by decide) : wpAny (model X.prog X.w) X.A (eval (.Name x pos) X.env) Q E s := by
  obtain ⟨mb, h1, h2⟩ := I.mod.blt
  exact Calls.Name_function_global I.ok.kind hg (Calls.loadGlobal_builtin (by rw [I.ok.glob]; exact I.mod.glob.keeps I.bk) hm (by rw [I.ok.blt]; exact h1.keeps I.bk) ((h2 x hn).trans hv) h) hd
/-- a module's constant, a class, a function, as a value -/
theorem pe_glob {x : Str} {v : V} {u : Value} {pos : Pos} (hg : Gl X x) (hm : X.mg x = some u) (r : RelV v u) (hd : (x == ("__debug__" : Str)) = false := by decide) : PE X (.Name x pos) (tC v) :=
  fun _ _ _ H _ I h => ld_glob I hg hm ⟨v, H, I, r, h⟩ hd
theorem pe_bltn {x : Str} {v : V} {u : Value} {pos : Pos} (hg : Gl X x) (hm : X.mg x = none) (hv : bootBuiltins x = some u) (r : RelV v u) (hn : x ≠ "__name__" := by decide) (hd : (x == ("__debug__" : Str)) = false := by decide) : PE X (.Name x pos) (tC v) :=
  fun _ _ _ H _ I h => ld_blt I hg hm hv ⟨v, H, I, r, h⟩ hn hd

/-! ### arithmetic -/
/-- two ints -/
def t2I (ta tb : TE) (k : Int → Int → Hp → Prop) : St → Hp → Prop := fun σ H => ta σ H fun x H1 => tb σ H1 fun y H2 => ∃ i j, x = .int i ∧ y = .int j ∧ k i j H2
def tAdd (ta tb : TE) : TE := fun σ H Q => t2I ta tb (fun i j H2 => Q (.int (i + j)) H2) σ H
def tSub (ta tb : TE) : TE := fun σ H Q => t2I ta tb (fun i j H2 => Q (.int (i - j)) H2) σ H
/-- the left factor below 2^64 -/
def tMul (ta tb : TE) : TE := fun σ H Q => t2I ta tb (fun i j H2 => (-(2 ^ 64) < i ∧ i < 2 ^ 64) ∧ Q (.int (i * j)) H2) σ H
variable {a b : Expr} {ta tb : TE} {pos : Pos}
/-! ### comparisons -/
def PC (X : Cx) (op : CmpOp) (a b : Expr) (t : TE) : Prop :=
  ∀ (pins : List (Addr × Obj)) (s : Shared) (σ : St) (H : Hp) (Q : VK), Inv X pins σ H s → t σ H Q →
    wpAny (model X.prog X.w) X.A (eval a X.env) (fun v s₁ => wpAny (model X.prog X.w) X.A (eval b X.env) (fun u s₂ => wpAny (model X.prog X.w) X.A (compareOp op v u) (EP X pins σ Q) X.xe s₂) X.xe s₁) X.xe s
def tCmp (p : Int → Int → Bool) (ta tb : TE) : TE := fun σ H Q => t2I ta tb (fun i j H2 => Q (.bl (p i j)) H2) σ H
abbrev tLt : TE → TE → TE := tCmp fun i j => decide (i < j)
abbrev tLe : TE → TE → TE := tCmp fun i j => decide (i ≤ j)
abbrev tGt : TE → TE → TE := tCmp fun i j => decide (j < i)
abbrev tGe : TE → TE → TE := tCmp fun i j => decide (j ≤ i)
abbrev tEqI : TE → TE → TE := tCmp fun i j => decide (i = j)
abbrev tNeI : TE → TE → TE := tCmp fun i j => !decide (i = j)
/-- is None -/
def tIsN (ta : TE) : TE := fun σ H Q => ta σ H fun x H1 => Q (.bl (decide (x = .non))) H1
def tNotN (ta : TE) : TE := fun σ H Q => ta σ H fun x H1 => Q (.bl (!decide (x = .non))) H1
/-- a comparison as a value, as a test -/
def tB (t : TE) : TT := fun σ H Q => t σ H fun x H1 => ∃ c, x = .bl c ∧ Q c H1
/-- an expression whose value is a bool, as a test -/
theorem pt_val {e : Expr} {t : TE} (h : PE X e t) (he : ∀ whole, isTrue e X.env whole = (do let v ← whole; standAt e.pos; holding [v] (truthy v)) := by intro _; rfl) : PT X e (tB t) := by
  intro pins s σ H Q I hw
  refine isTrue_plain (thn (h pins s σ H _ I hw) fun v s1 ⟨x, H1, I1, r1, q1⟩ => ?_) (he _)
  obtain ⟨d, rfl, q⟩ := q1
  cases r1
  exact wpAny_truthy_bool ⟨H1, I1, q⟩

/-! ### and, or, not -/
variable {tA tB' : TT} {rest : List Expr}
def tAnd (t u : TT) : TT := fun σ H Q => t σ H fun c H1 => if c = true then u σ H1 Q else Q false H1
def tOr (t u : TT) : TT := fun σ H Q => t σ H fun c H1 => if c = true then Q true H1 else u σ H1 Q
def tNot (t : TT) : TT := fun σ H Q => t σ H fun c H1 => Q (!c) H1
theorem pw_and1 (ha : PT X a tA) : PW X (.BoolOp .And [a] pos) tA := by
  intro wh pins s σ H Q I h
  refine isTrue_and (thn (ha pins s σ H Q I h) fun c s1 e => ?_)
  cases c with
  | true => exact isTrue_and_nil e
  | false => exact e
theorem pw_or1 (ha : PT X a tA) : PW X (.BoolOp .Or [a] pos) tA := by
  intro wh pins s σ H Q I h
  refine isTrue_or (thn (ha pins s σ H Q I h) fun c s1 e => ?_)
  cases c with
  | false => exact isTrue_or_nil e
  | true => exact e
theorem pw_and (ha : PT X a tA) (hb : PW X (.BoolOp .And (b :: rest) pos) tB') : PW X (.BoolOp .And (a :: b :: rest) pos) (tAnd tA tB') := by
  intro wh pins s σ H Q I h
  refine isTrue_and (thn (ha pins s σ H _ I h) fun c s1 ⟨H1, I1, q1⟩ => ?_)
  cases c with
  | true => exact hb wh pins s1 σ H1 Q I1 q1
  | false => exact ⟨H1, I1, q1⟩
theorem pw_or (ha : PT X a tA) (hb : PW X (.BoolOp .Or (b :: rest) pos) tB') : PW X (.BoolOp .Or (a :: b :: rest) pos) (tOr tA tB') := by
  intro wh pins s σ H Q I h
  refine isTrue_or (thn (ha pins s σ H _ I h) fun c s1 ⟨H1, I1, q1⟩ => ?_)
  cases c with
  | true => exact ⟨H1, I1, q1⟩
  | false => exact hb wh pins s1 σ H1 Q I1 q1
theorem pt_not (ha : PT X a tA) : PT X (.UnaryOp .Not a pos) (tNot tA) := by
  intro pins s σ H Q I h
  exact isTrue_not (ha pins s σ H (fun c H1 => Q (!c) H1) I h)
/-- .. as values (bools) -/
def tAndV (ta tb : TE) : TE := fun σ H Q => ta σ H fun x H1 => ∃ c, x = .bl c ∧ if c = true then tb σ H1 Q else Q (.bl false) H1
def tOrV (ta tb : TE) : TE := fun σ H Q => ta σ H fun x H1 => ∃ c, x = .bl c ∧ if c = true then Q (.bl true) H1 else tb σ H1 Q
def tNotV (ta : TE) : TE := fun σ H Q => ta σ H fun x H1 => ∃ c, x = .bl c ∧ Q (.bl (!c)) H1
theorem pe_one {op} {t : TE} (h : PE X a t) : PE X (.BoolOp op [a] pos) t := fun pins s σ H Q I hw => BoolOp_one (h pins s σ H Q I hw)
theorem pe_and (ha : PE X a ta) (hb : PE X (.BoolOp .And (b :: rest) pos) tb) : PE X (.BoolOp .And (a :: b :: rest) pos) (tAndV ta tb) := by
  intro pins s σ H Q I h
  refine BoolOp_and (thn (ha pins s σ H _ I h) fun v s1 ⟨x, H1, I1, r1, q1⟩ => ?_)
  obtain ⟨c, rfl, q1⟩ := q1
  cases r1
  refine wpAny_truthy_bool ?_
  cases c with
  | true => exact hb pins s1 σ H1 Q I1 q1
  | false => exact ⟨.bl false, H1, I1, rfl, q1⟩
theorem pe_not (ha : PE X a ta) : PE X (.UnaryOp .Not a pos) (tNotV ta) := by
  intro pins s σ H Q I h
  refine UnaryOp_ (thn (ha pins s σ H _ I h) fun v s1 ⟨x, H1, I1, r1, q1⟩ => ?_)
  obtain ⟨c, rfl, q1⟩ := q1
  cases r1
  exact not_of (wpAny_truthy_bool ⟨.bl (!c), H1, I1, rfl, q1⟩)
/-- a if t else b -/
def tIf (t : TT) (ta tb : TE) : TE := fun σ H Q => t σ H fun c H1 => if c = true then ta σ H1 Q else tb σ H1 Q
end
end L2

namespace L2
open PySem PySem.Spec PyProof.Rows

/-! ### a list, a tuple that is read: tracked, frozen, or an object of the module -/
def SqL (K : PySem.W.Frag) (H : Hp) (a : Addr) (xs : List V) : Prop :=
  Rd H a (.lst xs) ∨
    ∃ (o : Obj) (its : Array Value) (n : Nat), K.lookup a = some o ∧ o.cls = .type "list" ∧ o.dict = none ∧ o.data = .seq its n ∧ its.size ≤ sizeLine ∧ Vals xs its.toList
def SqT (K : PySem.W.Frag) (H : Hp) (a : Addr) (xs : List V) : Prop :=
  Rd H a (.tup xs) ∨
    ∃ (o : Obj) (its : Array Value) (n : Nat), K.lookup a = some o ∧ o.cls = .type "tuple" ∧ o.data = .seq its n ∧ its.size ≤ sizeLine ∧ Vals xs its.toList
def absV : Value → Option V
  | .none => some .non
  | .bool b => some (.bl b)
  | .int i _ => some (.int i)
  | .str x _ => some (.str x)
  | .bytes b _ => some (.byt b)
  | .float b _ => some (.flt b)
  | .ref a => some (.ref a)
  | .type n => some (.ty n)
  | _ => none
theorem RelV.abs {x : V} {u : Value} (r : RelV x u) : absV u = some x := by
  cases x with
  | non => cases r; rfl
  | bl _ => cases r; rfl
  | int _ => obtain ⟨t, rfl⟩ := r; rfl
  | str _ => obtain ⟨t, rfl⟩ := r; rfl
  | byt _ => obtain ⟨t, rfl⟩ := r; rfl
  | flt _ => obtain ⟨t, rfl⟩ := r; rfl
  | ref _ => cases r; rfl
  | ty _ => cases r; rfl
theorem RelV.inj {x y : V} {u : Value} (r : RelV x u) (q : RelV y u) : x = y := Option.some.inj (r.abs.symm.trans q.abs)
theorem Vals.inj : ∀ {xs ys : List V} {us : List Value}, Vals xs us → Vals ys us → xs = ys
  | _, _, _, .nil, .nil => rfl
  | _, _, _, .cons r t, .cons r' t' => by rw [r.inj r', Vals.inj t t']
section
variable {X : Cx} {pins : List (Addr × Obj)} {σ : St} {H : Hp} {s : Shared} {a : Addr} {xs ys : List V}
theorem SqL.of {K : PySem.W.Frag} (h : H a = some (.lst xs)) : SqL K H a xs := .inl (.inl h)
theorem Inv.list (I : Inv X pins σ H s) (h : SqL X.K H a xs) : ∃ its : List Value, Vals xs its ∧ PlainL s.heap a its.toArray ∧ xs.length ≤ sizeLine := by
  rcases h with h | ⟨o, its, n, hk, hc, hd, hs, hz, r⟩
  · obtain ⟨z, its, n, r, e⟩ := h.ok I.hok
    exact ⟨its, r, ⟨_, n, e, rfl, rfl, rfl⟩, z⟩
  · refine ⟨its.toList, r, ⟨o, n, I.kIn a o hk, hc, hd, by simpa using hs⟩, ?_⟩
    have e := r.length
    simp only [Array.length_toList] at e
    omega
theorem Inv.tuple (I : Inv X pins σ H s) (h : SqT X.K H a xs) : ∃ its : List Value, Vals xs its ∧ IsTup s.heap a its.toArray ∧ xs.length ≤ sizeLine := by
  rcases h with h | ⟨o, its, n, hk, hc, hs, hz, r⟩
  · obtain ⟨z, its, r, p⟩ := h.ok I.hok
    exact ⟨its, r, p, z⟩
  · refine ⟨its.toList, r, ⟨o, I.kIn a o hk, hc, n, by simpa using hs⟩, ?_⟩
    have e := r.length
    simp only [Array.length_toList] at e
    omega
theorem Inv.list_inj (I : Inv X pins σ H s) (h : SqL X.K H a xs) (h' : SqL X.K H a ys) : xs = ys := by
  obtain ⟨its, r, ⟨o, n, e, _, _, d⟩, _⟩ := I.list h
  obtain ⟨its', r', ⟨o', n', e', _, _, d'⟩, _⟩ := I.list h'
  rw [e] at e'; cases e'
  rw [d] at d'
  injection d' with d1 _
  have : its = its' := by simpa using congrArg Array.toList d1
  subst this
  exact r.inj r'
end

/-! ### another wish about exceptions -/
abbrev Cx.wish (X : Cx) (E : Value → Shared → Prop) : Cx := { X with xe := E }
/-- no exception leaves -/
abbrev Cx.nox (X : Cx) : Cx := X.wish fun _ _ => False
theorem Cx.Ok.wish {X : Cx} (ok : X.Ok) (E : Value → Shared → Prop) : (X.wish E).Ok :=
  ⟨ok.mod, ok.kind, ok.glob, ok.blt, ok.above, ok.inj, ok.has, ok.cab, ok.hd, ok.frames, ok.stk, ok.exf, ok.bs, ok.bsz, ok.noex, ok.exfs, ok.funs, ok.frf⟩
theorem Cx.Ok.unwish {X : Cx} {E : Value → Shared → Prop} (ok : (X.wish E).Ok) : X.Ok :=
  ⟨ok.mod, ok.kind, ok.glob, ok.blt, ok.above, ok.inj, ok.has, ok.cab, ok.hd, ok.frames, ok.stk, ok.exf, ok.bs, ok.bsz, ok.noex, ok.exfs, ok.funs, ok.frf⟩
section
variable {X : Cx} {pins : List (Addr × Obj)} {σ : St} {H : Hp} {s : Shared} {E : Value → Shared → Prop}
theorem Inv.wish (I : Inv X pins σ H s) (E : Value → Shared → Prop) : Inv (X.wish E) pins σ H s := ⟨I.ok.wish E, I.os, I.bare, I.base, I.loc, I.cell, I.free, I.freeC, I.pin, I.hok, I.len⟩
theorem Inv.unwish (I : Inv (X.wish E) pins σ H s) : Inv X pins σ H s := ⟨I.ok.unwish, I.os, I.bare, I.base, I.loc, I.cell, I.free, I.freeC, I.pin, I.hok, I.len⟩
theorem SP.unwish {D : Ends} {f : Flow} {s' : Shared} (h : SP (X.wish E) pins D f s') : SP X pins D f s' := by
  cases f with
  | next => obtain ⟨σ', H', I, q⟩ := h; exact ⟨σ', H', I.unwish, q⟩
  | brk => obtain ⟨σ', H', I, q⟩ := h; exact ⟨σ', H', I.unwish, q⟩
  | cont => obtain ⟨σ', H', I, q⟩ := h; exact ⟨σ', H', I.unwish, q⟩
  | ret u => obtain ⟨v, σ', H', I, r, q⟩ := h; exact ⟨v, σ', H', I.unwish, r, q⟩
theorem PSs.nox {st : List Stmt} {t : TS} (h : PSs X.nox st t) : PSs X st t := fun pins s σ H D I hw =>
  wpAny_mono (h pins s σ H D (I.wish _) hw) (fun _ _ q => q.unwish) fun _ _ z => False.elim z
end

/-! ### blocks and small statements -/
section
variable {X : Cx} {st : Stmt} {rest : List Stmt} {t u : TS} {e : Expr} {te : TE} {pos : Pos}
def tNext : TS := fun D σ H => D.nx σ H
def tSeq (t u : TS) : TS := fun D σ H => t { D with nx := u D } σ H
theorem pss_nil : PSs X [] tNext := fun _ _ σ H _ I h => wpAny_execs_nil ⟨σ, H, I, h⟩
theorem pss_cons (h1 : PS X st t) (h2 : PSs X rest u) : PSs X (st :: rest) (tSeq t u) := by
  intro pins s σ H D I h
  refine wpAny_execs_cons (thn (h1 pins s σ H { D with nx := u D } I h) fun f s1 q => ?_)
  cases f with
  | next =>
    obtain ⟨σ', H', I', q⟩ := q
    exact h2 pins s1 σ' H' D I' q
  | ret v => exact q
  | brk => exact q
  | cont => exact q
theorem pss_one (h1 : PS X st t) : PSs X [st] t := by
  intro pins s σ H D I h
  refine wpAny_execs_cons (thn (h1 pins s σ H D I h) fun f s1 q => ?_)
  cases f with
  | next => exact wpAny_execs_nil q
  | ret v => exact q
  | brk => exact q
  | cont => exact q
def tBreak : TS := fun D σ H => D.bk σ H
def tCont : TS := fun D σ H => D.ct σ H
/-- in a def's body nothing is shown -/
theorem Inv.quiet {pins : List (Addr × Obj)} {σ : St} {H : Hp} {s : Shared} (I : Inv X pins σ H s) : interactive X.env = false := by simp [interactive, I.ok.kind]
/-- an expression whose value is dropped -/
def tDrop (te : TE) : TS := fun D σ H => te σ H fun _ H1 => D.nx σ H1
theorem ps_expr (he : PE X e te) (hs : swapsWith e none pos.line X.env = pure false := by rfl) : PS X (.Expr e pos) (tDrop te) := by
  intro pins s σ H D I h
  exact wpAny_Expr_any (thn (he pins s σ H _ I h) fun v s1 ⟨x, H1, I1, r1, q1⟩ => ⟨σ, H1, I1, q1⟩) I.quiet hs
def tRet (te : TE) : TS := fun D σ H => te σ H D.rt
theorem ps_ret (he : PE X e te) : PS X (.Return (some e) pos) (tRet te) := by
  intro pins s σ H D I h
  exact wpAny_Return_some (thn (he pins s σ H _ I h) fun v s1 ⟨x, H1, I1, r1, q1⟩ => ⟨x, σ, H1, I1, r1, q1⟩)
def tRetN : TS := fun D _ H => D.rt .non H
def tIfS (c : TT) (t u : TS) : TS := fun D σ H => c σ H fun b H1 => if b = true then t D σ H1 else u D σ H1
theorem ps_if {c : Expr} {a b : List Stmt} {tc : TT} (hc : PT X c tc) (ha : PSs X a t) (hb : PSs X b u) : PS X (.If c a b pos) (tIfS tc t u) := by
  intro pins s σ H D I h
  refine wpAny_If (thn (hc pins s σ H _ I h) fun d s1 ⟨H1, I1, q1⟩ => ?_)
  cases d with
  | true => exact ha pins s1 σ H1 D I1 q1
  | false => exact hb pins s1 σ H1 D I1 q1
/-- code that the proof never comes to -/
def tNever : TS := fun _ _ _ => False
theorem ps_never : PS X st tNever := fun _ _ _ _ _ _ h => h.elim
end

/-! ### targets -/
abbrev TG := V → St → Hp → (St → Hp → Prop) → Prop
abbrev TGs := List V → St → Hp → (St → Hp → Prop) → Prop
def PG (X : Cx) (target : Expr) (t : TG) : Prop :=
  ∀ (pins : List (Addr × Obj)) (s : Shared) (σ : St) (H : Hp) (v : V) (u : Value) (Q : St → Hp → Prop), Inv X pins σ H s → RelV v u → t v σ H Q →
    wpAny (model X.prog X.w) X.A (assign target X.env u) (fun _ s' => ∃ σ' H', Inv X pins σ' H' s' ∧ Q σ' H') X.xe s
/-- several targets, one after another -/
def PGs (X : Cx) (ts : List Expr) (t : TGs) : Prop :=
  ∀ (pins : List (Addr × Obj)) (s : Shared) (σ : St) (H : Hp) (vs : List V) (us : List Value) (Q : St → Hp → Prop), Inv X pins σ H s → Vals vs us → t vs σ H Q →
    wpAny (model X.prog X.w) X.A (assignInOrder ((assignEach ts X.env).map (·.2)) us) (fun _ s' => ∃ σ' H', Inv X pins σ' H' s' ∧ Q σ' H') X.xe s
/-- o[i] = v, by values -/
abbrev TSet := V → V → V → Hp → (Hp → Prop) → Prop
def PSet (X : Cx) (t : TSet) : Prop :=
  ∀ (pins : List (Addr × Obj)) (s : Shared) (σ : St) (H : Hp) (o i v : V) (ov iv u : Value) (Q : Hp → Prop), Inv X pins σ H s → RelV o ov → RelV i iv → RelV v u → t o i v H Q →
    wpAny (model X.prog X.w) X.A (setItem ov iv u) (fun _ s' => ∃ H', Inv X pins σ H' s' ∧ Q H') X.xe s
/-- a op= b, by values -/
abbrev TIp := V → V → Hp → VK → Prop
def PIp (X : Cx) (op : Operator) (t : TIp) : Prop :=
  ∀ (pins : List (Addr × Obj)) (s : Shared) (σ : St) (H : Hp) (x y : V) (v u : Value) (Q : VK), Inv X pins σ H s → RelV x v → RelV y u → t x y H Q →
    wpAny (model X.prog X.w) X.A (inplaceOp op v u) (EP X pins σ Q) X.xe s
section
variable {X : Cx} {pos : Pos}
def gName (i : Nat) : TG := fun v σ H Q => Q (σ.set i (some v)) H
theorem pg_name {i : Nat} {x : Str} (hN : X.N.Nodup) (hi : X.N[i]? = some x) (hx : Loc X.env.scope x) (hf : X.fn x = true ∨ X.env.scope.names.lookup x = some .local := by first | exact .inl rfl | exact .inr rfl | assumption) : PG X (.Name x pos) (gName i) := by
  intro pins s σ H v u Q I r h
  exact wpAny_assign_Name (store_ok I hN hi hx r (fun s' I' => ⟨_, H, I', h⟩) hf)
def gNil : TGs := fun vs σ H Q => vs = [] ∧ Q σ H
def gCons (t : TG) (u : TGs) : TGs := fun vs σ H Q => ∃ v r, vs = v :: r ∧ t v σ H fun σ' H' => u r σ' H' Q
/-- (a, b, ..) = a tuple of that length -/
def gTup (K : PySem.W.Frag) (n : Nat) (t : TGs) : TG := fun v σ H Q => ∃ a xs, v = .ref a ∧ SqT K H a xs ∧ xs.length = n ∧ t xs σ H Q
/-- o[i] = .. -/
def gSub (to ti : TE) (t : TSet) : TG := fun v σ H Q => to σ H fun o H1 => ti σ H1 fun i H2 => t o i v H2 fun H3 => Q σ H3
theorem pg_sub {o i : Expr} {to ti : TE} {t : TSet} (ho : PE X o to) (hi : PE X i ti) (hs : PSet X t)
    (ha : ∀ v, assign (.Subscript o i pos) X.env v = (do
      let ov ← holding [v] (eval o X.env)
      let iv ← holding [v, ov] (eval i X.env)
      standAt pos
      holding [v, ov, iv] (setItem ov iv v)
      release [v, ov, iv] []) := by intro _; rfl) : PG X (.Subscript o i pos) (gSub to ti t) := by
  intro pins s σ H v u Q I r h
  rw [ha]
  refine wpAny_bind (wpAny_holding (thn (ho pins s σ H _ I h) fun ov s1 ⟨x, H1, I1, r1, q1⟩ => ?_))
  refine wpAny_bind (wpAny_holding (thn (hi pins s1 σ H1 _ I1 q1) fun iv s2 ⟨y, H2, I2, r2, q2⟩ => ?_))
  refine wpAny_bind (wpAny_standAt (wpAny_bind (wpAny_holding (thn (hs pins s2 σ H2 x y v ov iv u _ I2 r1 r2 r q2) fun _ s3 ⟨H3, I3, q3⟩ => ?_))))
  exact wpAny_release ⟨σ, H3, I3, q3⟩
/-- target = value -/
def tAsg (te : TE) (g : TG) : TS := fun D σ H => te σ H fun x H1 => g x σ H1 D.nx
theorem ps_asg {tg e : Expr} {te : TE} {g : TG} (he : PE X e te) (hg : PG X tg g) (hs : swapsWithSole [tg] e pos.line X.env = pure false := by rfl) (hw : swappedStores [tg] e X.env = pure none := by rfl)
    (h1 : (assignEach [tg] X.env).map (·.2) = [assign tg X.env] := by rfl) : PS X (.Assign [tg] e pos) (tAsg te g) := by
  intro pins s σ H D I h
  refine wpAny_Assign_stores (thn (he pins s σ H _ I h) fun v s1 ⟨x, H1, I1, r1, q1⟩ => ?_) hs hw
  rw [h1]
  exact thn (hg pins s1 σ H1 x v _ I1 r1 q1) fun _ s2 q => q
/-- name = value -/
theorem ps_set {i : Nat} {x : Str} {e : Expr} {te : TE} {pos' : Pos} (hN : X.N.Nodup) (hi : X.N[i]? = some x) (hx : Loc X.env.scope x) (he : PE X e te) (hs : swapsWith e (some (.Name x pos')) pos.line X.env = pure false := by rfl) (hf : X.fn x = true ∨ X.env.scope.names.lookup x = some .local := by first | exact .inl rfl | exact .inr rfl | assumption) :
    PS X (.Assign [.Name x pos'] e pos) (tAsg te (gName i)) := by
  intro pins s σ H D I h
  refine wpAny_Assign_Name (thn (he pins s σ H _ I h) fun v s1 ⟨y, H1, I1, r1, q1⟩ => ?_) hs
  exact store_ok I1 hN hi hx r1 (fun s2 I2 => ⟨_, H1, I2, q1⟩) hf
/-- a, b = x, y with plain local names: stored from the right; the pair itself is not tracked (the opening rows as in PyProof/Rows/TupAssign.lean:23) -/
def tPar (i j : Nat) (ta : TA) : TS := fun D σ H => ta σ H fun vs H1 => ∃ v w, vs = [v, w] ∧ D.nx ((σ.set i (some v)).set j (some w)) H1
/-- name op= e -/
def tAug (i : Nat) (te : TE) (ti : TIp) : TS := fun D σ H => ∃ x, σ[i]? = some (some x) ∧ te σ H fun y H1 => ti x y H1 fun z H2 => D.nx (σ.set i (some z)) H2
/-- o[i] op= e -/
def tAugS (to ti te : TE) (tget : V → V → Hp → VK → Prop) (tip : TIp) (tset : TSet) : TS := fun D σ H => to σ H fun o H1 => ti σ H1 fun i H2 => tget o i H2 fun x H3 => te σ H3 fun y H4 => tip x y H4 fun z H5 => tset o i z H5 fun H6 => D.nx σ H6
/-- o[i], by values -/
def PGet (X : Cx) (t : V → V → Hp → VK → Prop) : Prop :=
  ∀ (pins : List (Addr × Obj)) (s : Shared) (σ : St) (H : Hp) (o i : V) (ov iv : Value) (Q : VK), Inv X pins σ H s → RelV o ov → RelV i iv → t o i H Q →
    wpAny (model X.prog X.w) X.A (getItem ov iv) (EP X pins σ Q) X.xe s
/-- ints -/
def ipI (f : Int → Int → Int) : TIp := fun x y H Q => ∃ i j, x = .int i ∧ y = .int j ∧ Q (.int (f i j)) H
theorem ip_sub : PIp X .Sub (ipI fun i j => i - j) := by
  intro pins s σ H x y v u Q I r1 r2 h
  obtain ⟨i, j, e1, e2, q⟩ := h
  subst e1; subst e2
  obtain ⟨t, rfl⟩ := r1
  obtain ⟨t', rfl⟩ := r2
  exact isub_int ⟨.int _, H, I.tok _, ⟨_, rfl⟩, q⟩
end

/-! ### while -/
section
variable {X : Cx} {pos : Pos}
/-- the invariant W with its measure -/
def tWhile (c : TT) (tb : TS) : TS := fun D σ H => ∃ W : Nat → St → Hp → Prop, (∃ m, W m σ H) ∧ ∀ m σ H, W m σ H →
  c σ H fun b H1 => if b = true then ∃ N : St → Hp → Prop, (∀ σ' H', N σ' H' → ∃ m', m' < m ∧ W m' σ' H') ∧ tb { D with nx := N, ct := N, bk := D.nx } σ H1 else D.nx σ H1
end

/-! ### what a loop or a comprehension walks -/
/-- at turn i: it yields x (the heap may grow), or it stops -/
structure It where
  go : Nat → Hp → Prop
  yld : Nat → Hp → V → Hp → Prop
  stop : Nat → Hp → Prop
/-- the iterator's own objects may turn: they are not the frame's, not pinned, younger than the entry (or a comprehension's own) -/
def FpOk (X : Cx) (pins : List (Addr × Obj)) (H : Hp) (b : Addr) : Prop :=
  H b = none ∧ b ≠ X.env.locals ∧ b ∉ X.fs ∧ (b ∈ X.ex ∨ X.s₀.heap.objs.size ≤ b) ∧ (∀ x c, X.env.cells.lookup x = some c → c ≠ b) ∧ ∀ p ∈ X.pn ++ pins, p.1 ≠ b
theorem Inv.fpOk {X : Cx} {pins : List (Addr × Obj)} {σ : St} {H H' : Hp} {s : Shared} {b : Addr} (I : Inv X pins σ H s) (hb : s.heap.objs.size ≤ b) (hn : H' b = none) : FpOk X pins H' b := by
  refine ⟨hn, Nat.ne_of_gt (Nat.lt_of_lt_of_le I.lt hb), I.nofs hb, .inr (Nat.le_trans I.sz hb), fun x c e z => ?_, fun p hp z => ?_⟩
  · obtain ⟨v, q⟩ := I.cell x c e
    exact absurd (Nat.lt_of_lt_of_le q.lt (by rw [z]; exact hb)) (Nat.lt_irrefl _)
  · exact absurd (Nat.lt_of_lt_of_le (Heap.lt_size (I.pin p hp).1) (by rw [z]; exact hb)) (Nat.lt_irrefl _)
structure Turn (P : Program) (w : World) (K : PySem.W.Frag) (tg : Expr) (J : It) (fp : List Addr) (it : Addr) (tn : Nat → Heap → Prop) : Prop where
  mem : it ∈ fp
  obj : ∀ i h, tn i h → ∀ b ∈ fp, ∃ o, h.get? b = some o ∧ ∀ v, o.data ≠ .cell v
  keep : ∀ i h h', tn i h → (∀ b ∈ fp, ∀ o, h.get? b = some o → h'.get? b = some o) → tn i h'
  item : ∀ (X : Cx), X.prog = P → X.w = w → X.K = K → X.calm = true → ∀ (i : Nat) (pins : List (Addr × Obj)) (s : Shared) (σ : St) (H : Hp) (E : Value → Shared → Prop), Inv X pins σ H s → (∀ b ∈ fp, FpOk X pins H b) → tn i s.heap → J.go i H →
    wpAny (model P w) X.A (pyNext (.ref it)) (fun r s1 => ∃ u, r = some u ∧
      wpAny (model P w) X.A (letOwnedTupleGo tg (.ref it) u) (fun _ s2 => ∃ x H', Inv X pins σ H' s2 ∧ RelV x u ∧ J.yld i H x H' ∧ tn (i + 1) s2.heap ∧ ∀ b ∈ fp, H' b = none) E s1) E s
  done : ∀ (X : Cx), X.prog = P → X.w = w → X.K = K → X.calm = true → ∀ (i : Nat) (pins : List (Addr × Obj)) (s : Shared) (σ : St) (H : Hp) (E : Value → Shared → Prop), Inv X pins σ H s → (∀ b ∈ fp, FpOk X pins H b) → tn i s.heap → J.stop i H →
    wpAny (model P w) X.A (pyNext (.ref it)) (fun r s1 => r = none ∧ Inv X pins σ H s1) E s
  self : ∀ (A : Around) (i : Nat) (s : Shared) (Q : Value → Shared → Prop) (E : Value → Shared → Prop), tn i s.heap → Q (.ref it) s → wpAny (model P w) A (pyIter (.ref it)) Q E s
abbrev TI := St → Hp → (It → Hp → Prop) → Prop
/-- an iterator has come -/
def PIE (X : Cx) (pins : List (Addr × Obj)) (σ : St) (tg : Expr) (R : It → Hp → Prop) (itv : Value) (s2 : Shared) : Prop :=
  ∃ (it : Addr) (fp : List Addr) (tn : Nat → Heap → Prop) (J : It) (H' : Hp), itv = .ref it ∧ Inv X pins σ H' s2 ∧ Turn X.prog X.w X.K tg J fp it tn ∧ tn 0 s2.heap ∧ (∀ b ∈ fp, FpOk X pins H' b) ∧ R J H'
def PI (X : Cx) (tg iter : Expr) (wi : TI) : Prop :=
  ∀ (pins : List (Addr × Obj)) (s : Shared) (σ : St) (H : Hp) (R : It → Hp → Prop), Inv X pins σ H s → wi σ H R →
    wpAny (model X.prog X.w) X.A (eval iter X.env) (fun v s1 => wpAny (model X.prog X.w) X.A (pyIter v) (PIE X pins σ tg R) X.xe s1) X.xe s

/-- the step ahead of the store is nothing for an iterator that keeps no tuple -/
theorem go_of {M : Model} {A : Around} {E : Value → Shared → Prop} {s : Shared} {tg : Expr} {it : Addr} {u : Value} {o : Obj} {n : String} {vs : Array Value} {Q : Unit → Shared → Prop} (ho : s.heap.get? it = some o) (hc : o.cls = .type n) (hd : o.data = .fields vs)
    (hn : ["enumerate", "zip", "dict_itemiterator", "dict_reverseitemiterator", "odict_iterator", "itertools.zip_longest", "itertools.pairwise"].contains n = false) (hQ : Q () s) : wpAny M A (letOwnedTupleGo tg (.ref it) u) Q E s := by
  unfold letOwnedTupleGo
  cases tg <;> first
    | exact wpAny_pure hQ
    | (cases u <;> first
        | exact wpAny_pure hQ
        | (refine wpAny_bind (wpAny_load ho ?_)
           rw [hc, hd]
           show wpAny M A (if (["enumerate", "zip", "dict_itemiterator", "dict_reverseitemiterator", "odict_iterator", "itertools.zip_longest", "itertools.pairwise"].contains n && vs[0]? == some (rawInt _)) = true then _ else _) Q E s
           rw [if_neg (by intro h; rw [hn, Bool.false_and] at h; cases h)]
           exact wpAny_pure hQ))

/-- the list at a, as it stands at each turn (a loop may append to it) -/
def Itl (K : PySem.W.Frag) (a : Addr) : It :=
  ⟨fun i H => ∃ xs x, SqL K H a xs ∧ xs[i]? = some x, fun i H x H' => H' = H ∧ ∀ xs, SqL K H a xs → xs[i]? = some x, fun i H => ∃ xs, SqL K H a xs ∧ xs.length ≤ i⟩
def Itt (K : PySem.W.Frag) (a : Addr) : It :=
  ⟨fun i H => ∃ xs x, SqT K H a xs ∧ xs[i]? = some x, fun i H x H' => H' = H ∧ ∀ xs, SqT K H a xs → xs[i]? = some x, fun i H => ∃ xs, SqT K H a xs ∧ xs.length ≤ i⟩
/-- lo, lo + 1, .. (n of them) -/
def Itr (lo : Int) (n : Nat) : It := ⟨fun i _ => i < n, fun i H x H' => H' = H ∧ x = .int (lo + i), fun i _ => n ≤ i⟩
theorem turn_list {P : Program} {w : World} {K : PySem.W.Frag} {tg : Expr} (a it : Addr) : Turn P w K tg (Itl K a) [it] it (fun i h => h.IsListIter it a i) where
  mem := by simp
  obj := fun i h st b hb => by
    have e : b = it := by simpa using hb
    subst e
    obtain ⟨o, e, c, d⟩ := st
    exact ⟨o, e, fun v z => by rw [d] at z; cases z⟩
  keep := fun i h h' st k => st.at fun o e => k it (by simp) o e
  item := by
    intro X hP hw hK hc i pins s σ H E I hf st hg
    subst hP hw hK
    obtain ⟨xs, x, hq, hx⟩ := hg
    obtain ⟨its, rv, p, hz⟩ := I.list hq
    obtain ⟨u, hu, ru⟩ := rv.get hx
    obtain ⟨f0, f1, f2, f3, f4, f5⟩ := hf it (by simp)
    refine wpAny_pyNext_list_item st p.isList (x := u) (by simpa using hu) fun h' st' sb => ?_
    have I1 : Inv X pins σ H { s with heap := h' } := I.turned (t' := s.toks) (fun b o hb e => (sb.2 b hb).trans e) f0 f1 f3 f4 f5
    obtain ⟨o, e, c, d⟩ := id st'
    exact ⟨u, rfl, go_of (s := { s with heap := h' }) e c d (by decide) ⟨x, H, I1, ru, ⟨rfl, fun ys hy => by rw [I.list_inj hy hq]; exact hx⟩, st', fun b hb => (hf b hb).1⟩⟩
  done := by
    intro X hP hw hK hc i pins s σ H E I hf st hg
    subst hP hw hK
    obtain ⟨xs, hq, hx⟩ := hg
    obtain ⟨its, rv, p, hz⟩ := I.list hq
    obtain ⟨f0, f1, f2, f3, f4, f5⟩ := hf it (by simp)
    have hl := rv.length
    exact wpAny_pyNext_list_end (I.ok.hd hc) st p.isList (by simp; omega) fun h' eb => ⟨rfl, I.turned (t' := s.toks) (fun b o hb e => eb b o hb e) f0 f1 f3 f4 f5⟩
  self := fun _ _ _ _ _ st h => wpAny_pyIter_listiter st h
theorem turn_range {P : Program} {w : World} {K : PySem.W.Frag} {tg : Expr} (it : Addr) (lo : Int) (n : Nat) : Turn P w K tg (Itr lo n) [it] it (fun i h => IsRangeIter h it (lo + (i : Nat) * 1) ((n : Int) - (i : Nat)) 1) where
  mem := by simp
  obj := fun i h st b hb => by
    have e : b = it := by simpa using hb
    subst e
    exact ⟨_, st, fun v z => by
      have z' : Data.fields _ = Data.cell v := z
      cases z'⟩
  keep := fun i h h' st k => k it (by simp) _ st
  item := by
    intro X hP hw hK hc i pins s σ H E I hf st hg
    subst hP hw hK
    obtain ⟨f0, f1, f2, f3, f4, f5⟩ := hf it (by simp)
    have W := Walks.range (prog := X.prog) (w := X.w) (I.ok.hd hc) it lo 1 n
    refine W.item i s _ _ hg st fun v h' tk hv st' kk => ?_
    obtain ⟨t, rfl⟩ := hv
    have I1 : Inv X pins σ H { s with heap := h', toks := tk } := I.turned (fun b o hb e => kk b o (by simpa using hb) e) f0 f1 f3 f4 f5
    refine ⟨_, rfl, go_of (s := { s with heap := h', toks := tk }) (n := "range_iterator") st' rfl rfl (by decide) ⟨.int (lo + i), H, I1, ⟨t, ?_⟩, ⟨rfl, rfl⟩, st', fun b hb => (hf b hb).1⟩⟩
    rw [Int.mul_one]
  done := by
    intro X hP hw hK hc i pins s σ H E I hf st hg
    subst hP hw hK
    obtain ⟨f0, f1, f2, f3, f4, f5⟩ := hf it (by simp)
    exact wpAny_pyNext_range_end (I.ok.hd hc) st (by have : n ≤ i := hg; omega) fun h' eb => ⟨rfl, I.turned (t' := s.toks) (fun b o hb e => eb b o hb e) f0 f1 f3 f4 f5⟩
  self := fun _ _ _ _ _ st h => wpAny_pyIter_rangeiter st h
end L2

namespace L2
open PySem PySem.Spec PyProof.Rows
section
variable {X : Cx} {tg : Expr}
def iList (K : PySem.W.Frag) (tl : TE) : TI := fun σ H R => tl σ H fun x H1 => ∃ a, x = .ref a ∧ (∃ xs, SqL K H1 a xs) ∧ R (Itl K a) H1
def iTup (K : PySem.W.Frag) (tl : TE) : TI := fun σ H R => tl σ H fun x H1 => ∃ a, x = .ref a ∧ (∃ xs, SqT K H1 a xs) ∧ R (Itt K a) H1
theorem pi_list {l : Expr} {tl : TE} (hl : PE X l tl) : PI X tg l (iList X.K tl) := by
  intro pins s σ H R I h
  refine thn (hl pins s σ H _ I h) fun v s1 ⟨x, H1, I1, r1, q1⟩ => ?_
  obtain ⟨a, e, ⟨xs, hq⟩, q⟩ := q1
  subst e
  cases r1
  obtain ⟨its, rv, p, hz⟩ := I1.list hq
  refine wpAny_pyIter_list p.isList ?_
  refine ⟨s1.heap.objs.size, [s1.heap.objs.size], _, _, H1, rfl, I1.kept (t' := s1.toks) fun b o e => Heap.get?_push_of_some _ e, turn_list a _, ⟨_, Heap.get?_push_size _ rfl, rfl, rfl⟩, fun b hb => ?_, q⟩
  have e : b = s1.heap.objs.size := by simpa using hb
  subst e
  exact I1.fpOk (Nat.le_refl _) (I1.hok.fresh (Nat.le_refl _))
/-- a range object just made, walked -/
theorem range_it {pins : List (Addr × Obj)} {σ : St} {H : Hp} {s : Shared} {R : It → Hp → Prop} {E : Value → Shared → Prop} {lo hi : Int} {t u v : Tok} {tk : Nat} (I : Inv X pins σ H s) (h1 : -(2 ^ 62) ≤ lo) (h2 : lo < 2 ^ 62) (h3 : -(2 ^ 62) ≤ hi) (h4 : hi < 2 ^ 62)
    (q : R (Itr lo (hi - lo).toNat) H) : wpAny (model X.prog X.w) X.A (pyIter (.ref s.heap.objs.size)) (PIE X pins σ tg R) E { s with heap := s.heap.push { cls := .type "range", data := .fields #[.int lo t, .int hi u, .int 1 v] }, toks := tk } := by
  refine wpAny_pyIter_range (IsRange.new ..) (small_one h1 h2 h3 h4) ?_
  have I1 : Inv X pins σ H { s with heap := s.heap.push { cls := .type "range", data := .fields #[.int lo t, .int hi u, .int 1 v] }, toks := tk } := I.kept fun b o e => Heap.get?_push_of_some _ e
  refine ⟨(s.heap.push { cls := .type "range", data := .fields #[.int lo t, .int hi u, .int 1 v] }).objs.size, [(s.heap.push { cls := .type "range", data := .fields #[.int lo t, .int hi u, .int 1 v] }).objs.size], _, _, H, rfl,
    I1.kept (t' := tk) fun b o e => Heap.get?_push_of_some _ e, turn_range _ lo (hi - lo).toNat, ?_, fun b hb => ?_, q⟩
  · have e1 : lo + ((0 : Nat) : Int) * 1 = lo := by simp
    have e2 : (((hi - lo).toNat : Nat) : Int) - ((0 : Nat) : Int) = Builtin.Range.rangeSize lo hi 1 := by rw [rangeSize_one]; split <;> omega
    show IsRangeIter _ _ (lo + ((0 : Nat) : Int) * 1) ((((hi - lo).toNat : Nat) : Int) - ((0 : Nat) : Int)) 1
    rw [e1, e2]
    exact Heap.get?_push_size _ rfl
  · have e : b = (s.heap.push { cls := .type "range", data := .fields #[.int lo t, .int hi u, .int 1 v] }).objs.size := by simpa using hb
    subst e
    exact I1.fpOk (Nat.le_refl _) (I1.hok.fresh (Nat.le_refl _))
def iRng1 (ta : TA) : TI := fun σ H R => ta σ H fun vs H1 => ∃ j : Int, vs = [.int j] ∧ -(2 ^ 62) ≤ j ∧ j < 2 ^ 62 ∧ R (Itr 0 j.toNat) H1
def iRng2 (ta : TA) : TI := fun σ H R => ta σ H fun vs H1 => ∃ i j : Int, vs = [.int i, .int j] ∧ (-(2 ^ 62) ≤ i ∧ i < 2 ^ 62 ∧ -(2 ^ 62) ≤ j ∧ j < 2 ^ 62) ∧ R (Itr i (j - i).toNat) H1
theorem pi_range1 {a : Expr} {ta : TA} {p pos : Pos} (hg : Gl X "range") (hm : X.mg "range" = none) (ha : PA X [a] ta) (hs : starEach [a] X.env = [(false, eval a X.env)] := by rfl) : PI X tg (.Call (.Name "range" p) [a] [] pos) (iRng1 ta) := by
  intro pins s σ H R I h
  refine Call_ (ld_blt I hg hm boot_range (PyProof.Rows.callWith_type1 (thn (ha pos pins s σ H _ I h) fun us s1 ⟨vs, H1, I1, r1, q1⟩ => ?_) hs rfl))
  obtain ⟨j, e, q1, q2, q⟩ := q1
  subst e
  cases r1 with
  | cons r rr =>
    cases rr
    obtain ⟨t, rfl⟩ := r
    exact call_range_1 (range_it I1 (by omega) (by omega) q1 q2 (by simpa using q))
theorem pi_range2 {a b : Expr} {ta : TA} {p pos : Pos} (hg : Gl X "range") (hm : X.mg "range" = none) (ha : PA X [a, b] ta) (hs : starEach [a, b] X.env = [(false, eval a X.env), (false, eval b X.env)] := by rfl) (hs2 : starEach [b] X.env = [(false, eval b X.env)] := by rfl) :
    PI X tg (.Call (.Name "range" p) [a, b] [] pos) (iRng2 ta) := by
  intro pins s σ H R I h
  refine Call_ (ld_blt I hg hm boot_range (PyProof.Rows.callWith_type1 (thn (ha pos pins s σ H _ I h) fun us s1 ⟨vs, H1, I1, r1, q1⟩ => ?_) (by rw [hs, hs2]) (by rw [hs2]; rfl)))
  obtain ⟨i, j, e, ⟨q1, q2, q3, q4⟩, q⟩ := q1
  subst e
  cases r1 with
  | cons r rr =>
    cases rr with
    | cons r' rr =>
      cases rr
      obtain ⟨t, rfl⟩ := r
      obtain ⟨t', rfl⟩ := r'
      exact call_range_2 (range_it I1 q1 q2 q3 q4 q)

/-! ### for -/
/-- W: the invariant by the turn and a measure; N: what the body is to reach -/
def tFor (wi : TI) (g : TG) (tb : TS) : TS := fun D σ H => wi σ H fun J H1 => ∃ W : Nat → Nat → St → Hp → Prop, (∃ m, W 0 m σ H1) ∧ ∀ i m σ H, W i m σ H →
  (J.stop i H ∧ D.nx σ H) ∨ (J.go i H ∧ ∃ N : St → Hp → Prop, (∀ σ' H', N σ' H' → ∃ m', m' < m ∧ W (i + 1) m' σ' H') ∧ ∀ x H', J.yld i H x H' → g x σ H' fun σ2 H2 => tb { D with nx := N, ct := N, bk := D.nx } σ2 H2)
/-- the records at fp as they stand -/
def pinsAt (fp : List Addr) (h : Heap) : List (Addr × Obj) := fp.filterMap fun b => (h.get? b).map fun o => (b, o)
theorem mem_pinsAt {fp : List Addr} {h : Heap} {b : Addr} {o : Obj} (hb : b ∈ fp) (e : h.get? b = some o) : (b, o) ∈ pinsAt fp h := List.mem_filterMap.mpr ⟨b, hb, by rw [e]; rfl⟩
theorem of_pinsAt {fp : List Addr} {h : Heap} {p : Addr × Obj} (hp : p ∈ pinsAt fp h) : p.1 ∈ fp ∧ h.get? p.1 = some p.2 := by
  obtain ⟨b, hb, e⟩ := List.mem_filterMap.mp hp
  cases q : h.get? b with
  | none => rw [q] at e; cases e
  | some o =>
    rw [q] at e
    have e' : (b, o) = p := Option.some.inj e
    subst e'
    exact ⟨hb, q⟩
theorem Inv.pinned {pins : List (Addr × Obj)} {σ : St} {H : Hp} {s : Shared} {fp : List Addr} (I : Inv X pins σ H s) (hf : ∀ b ∈ fp, FpOk X pins H b) (ho : ∀ b ∈ fp, ∃ o, s.heap.get? b = some o ∧ ∀ v, o.data ≠ .cell v) : Inv X (pins ++ pinsAt fp s.heap) σ H s :=
  I.pins_of fun p hp => (List.mem_append.mp hp).elim (fun z => I.pin p (List.mem_append_right _ z)) fun z => by
    obtain ⟨hb, e⟩ := of_pinsAt z
    obtain ⟨f0, f1, f2, _⟩ := hf p.1 hb
    obtain ⟨o, e', d⟩ := ho p.1 hb
    rw [e] at e'; cases e'
    exact ⟨e, f0, f1, f2, d⟩
theorem Inv.unpinned {pins pl : List (Addr × Obj)} {σ : St} {H : Hp} {s : Shared} (I : Inv X (pins ++ pl) σ H s) : Inv X pins σ H s := I.pins_of fun p hp => I.pin p (List.mem_append_right _ (List.mem_append_left _ hp))
theorem ps_for {iter : Expr} {body : List Stmt} {wi : TI} {g : TG} {tb : TS} {pos : Pos} (hp : PassesOwn (model X.prog X.w) X.A X.env X.xe) (hc : X.calm = true) (hi : PI X tg iter wi) (hg : PG X tg g) (hb : PSs X body tb)
    (hs : ∀ x, foldedSetIterable iter X.env x = pure x := by intro _; rfl) : PS X (.For tg iter body [] pos) (tFor wi g tb) := by
  intro pins s σ H D I h
  refine wpAny_For (thn (hi pins s σ H _ I h) fun v s1 h1 => thn h1 fun itv s2 h2 => ?_) hs
  obtain ⟨it, fp, tn, J, H2, e, I2, T, st2, f2, W, ⟨m0, w0⟩, turn⟩ := h2
  subst e
  -- what stays true of the iterator's objects through the loop
  have stat : ∀ {H' : Hp}, (∀ b ∈ fp, H' b = none) → ∀ b ∈ fp, FpOk X pins H' b := fun hn b hb => ⟨hn b hb, (f2 b hb).2⟩
  refine codeAny_forLoop_any (fun n s' => ∃ i σ' H', Inv X pins σ' H' s' ∧ tn i s'.heap ∧ (∀ b ∈ fp, H' b = none) ∧ W i n σ' H') ?_ m0 ⟨0, σ, H2, I2, st2, fun b hb => (f2 b hb).1, w0⟩
  rintro n s3 ⟨i, σ3, H3, I3, st3, fr3, w3⟩
  rcases turn i n σ3 H3 w3 with ⟨stop, qn⟩ | ⟨go, N, hN, step⟩
  · refine wpAny_passesOwn hp (thn (T.done X rfl rfl rfl hc i pins s3 σ3 H3 X.xe I3 (stat fr3) st3 stop) fun r s4 ⟨hr, I4⟩ => ?_)
    subst hr
    exact wpAny_execs_nil ⟨σ3, H3, I4, qn⟩
  · refine wpAny_passesOwn hp (thn (T.item X rfl rfl rfl hc i pins s3 σ3 H3 X.xe I3 (stat fr3) st3 go) fun r s4 ⟨u, hr, h4⟩ => ?_)
    subst hr
    refine wpAny_passesOwn hp (thn h4 fun _ s5 ⟨x, H5, I5, r5, y5, st5, fr5⟩ => ?_)
    have I5' := I5.pinned (stat fr5) (T.obj _ _ st5)
    refine wpAny_passesOwn hp (thn (hg _ s5 σ3 H5 x u _ I5' r5 (step x H5 y5)) fun _ s6 ⟨σ6, H6, I6, q6⟩ => ?_)
    refine wpAny_passesOwn hp (thn (hb _ s6 σ6 H6 _ I6 q6) fun f s7 q7 => ?_)
    have again : ∀ {σ7 : St} {H7 : Hp}, Inv X (pins ++ pinsAt fp s5.heap) σ7 H7 s7 → N σ7 H7 → ∃ m, m < n ∧ ∃ i σ' H', Inv X pins σ' H' s7 ∧ tn i s7.heap ∧ (∀ b ∈ fp, H' b = none) ∧ W i m σ' H' := fun {σ7 H7} I7 n7 => by
      obtain ⟨m', hm, w7⟩ := hN σ7 H7 n7
      refine ⟨m', hm, i + 1, σ7, H7, I7.unpinned, T.keep _ _ _ st5 fun b hb o e => (I7.pin (b, o) (List.mem_append_right _ (List.mem_append_right _ (mem_pinsAt hb e)))).1, fun b hb => ?_, w7⟩
      obtain ⟨o, e, d⟩ := T.obj _ _ st5 b hb
      exact (I7.pin (b, o) (List.mem_append_right _ (List.mem_append_right _ (mem_pinsAt hb e)))).2.1
    cases f with
    | next => obtain ⟨σ7, H7, I7, n7⟩ := q7; exact again I7 n7
    | cont => obtain ⟨σ7, H7, I7, n7⟩ := q7; exact again I7 n7
    | brk => obtain ⟨σ7, H7, I7, q7⟩ := q7; exact ⟨σ7, H7, I7.unpinned, q7⟩
    | ret v => obtain ⟨x7, σ7, H7, I7, r7, q7⟩ := q7; exact ⟨x7, σ7, H7, I7.unpinned, r7, q7⟩
end

/-! ### the forms one uses -/
theorem for_range {lo : Int} {n : Nat} {g : TG} {tb : TS} {D : Ends} {σ : St} {H : Hp} (Pv : Nat → St → Hp → Prop) (h0 : Pv 0 σ H)
    (hs : ∀ i σ H, i < n → Pv i σ H → g (.int (lo + i)) σ H fun σ2 H2 => tb { D with nx := Pv (i + 1), ct := Pv (i + 1), bk := D.nx } σ2 H2) (hd : ∀ σ H, Pv n σ H → D.nx σ H) :
    ∃ W : Nat → Nat → St → Hp → Prop, (∃ m, W 0 m σ H) ∧ ∀ i m σ H, W i m σ H →
      ((Itr lo n).stop i H ∧ D.nx σ H) ∨ ((Itr lo n).go i H ∧ ∃ N : St → Hp → Prop, (∀ σ' H', N σ' H' → ∃ m', m' < m ∧ W (i + 1) m' σ' H') ∧ ∀ x H', (Itr lo n).yld i H x H' → g x σ H' fun σ2 H2 => tb { D with nx := N, ct := N, bk := D.nx } σ2 H2) := by
  refine ⟨fun i m σ H => m = n - i ∧ i ≤ n ∧ Pv i σ H, ⟨n, by simp, Nat.zero_le _, h0⟩, ?_⟩
  rintro i m σ H ⟨rfl, hi, p⟩
  by_cases hlt : i < n
  · refine .inr ⟨hlt, Pv (i + 1), fun σ' H' p' => ⟨n - (i + 1), by omega, rfl, hlt, p'⟩, fun x H' y => ?_⟩
    obtain ⟨e, y⟩ := y
    subst e y
    exact hs i σ _ hlt p
  · have e : i = n := by omega
    subst e
    exact .inl ⟨Nat.le_refl _, hd σ H p⟩
end L2

namespace L2
open PySem PySem.Spec PyProof.Rows

abbrev R2 := V → V → Hp → VK → Prop
/-- a two-place operation on values: f is binaryOp op, inplaceOp op or compareOp op -/
def OpR (X : Cx) (f : Value → Value → Sem Value) (r : R2) : Prop :=
  ∀ (pins : List (Addr × Obj)) (s : Shared) (σ : St) (H : Hp) (x y : V) (v u : Value) (Q : VK), Inv X pins σ H s → RelV x v → RelV y u → r x y H Q →
    wpAny (model X.prog X.w) X.A (f v u) (EP X pins σ Q) X.xe s
/-- a one-place operation -/
def UnR (X : Cx) (f : Value → Sem Value) (r : V → Hp → VK → Prop) : Prop :=
  ∀ (pins : List (Addr × Obj)) (s : Shared) (σ : St) (H : Hp) (x : V) (v : Value) (Q : VK), Inv X pins σ H s → RelV x v → r x H Q →
    wpAny (model X.prog X.w) X.A (f v) (EP X pins σ Q) X.xe s
/-- a call of a value that is known (a builtin, a type) with values -/
def CallR (X : Cx) (f : Value) (r : List V → Hp → VK → Prop) : Prop :=
  ∀ (pins : List (Addr × Obj)) (s : Shared) (σ : St) (H : Hp) (xs : List V) (us : List Value) (Q : VK), Inv X pins σ H s → Vals xs us → r xs H Q →
    wpAny (model X.prog X.w) X.A (call f us) (EP X pins σ Q) X.xe s
/-- a value's truth -/
def TruR (X : Cx) (r : V → Hp → (Bool → Hp → Prop) → Prop) : Prop :=
  ∀ (pins : List (Addr × Obj)) (s : Shared) (σ : St) (H : Hp) (x : V) (v : Value) (Q : Bool → Hp → Prop), Inv X pins σ H s → RelV x v → r x H Q →
    wpAny (model X.prog X.w) X.A (truthy v) (TP X pins σ Q) X.xe s

def tOp (r : R2) (ta tb : TE) : TE := fun σ H Q => ta σ H fun x H1 => tb σ H1 fun y H2 => r x y H2 Q
def tUn (r : V → Hp → VK → Prop) (ta : TE) : TE := fun σ H Q => ta σ H fun x H1 => r x H1 Q
/-- ints in, under C, and a value out -/
def rI (C : Int → Int → Prop) (g : Int → Int → V) : R2 := fun x y H Q => ∃ i j, x = .int i ∧ y = .int j ∧ C i j ∧ Q (g i j) H
def rI0 (g : Int → Int → V) : R2 := fun x y H Q => ∃ i j, x = .int i ∧ y = .int j ∧ Q (g i j) H
def rU (g : Int → V) : V → Hp → VK → Prop := fun x H Q => ∃ i, x = .int i ∧ Q (g i) H

section
variable {X : Cx} {a b c : Expr} {ta tb tc : TE} {pos : Pos}

theorem binT (ha : PE X a ta) (hb : PE X b tb) {pins : List (Addr × Obj)} {s : Shared} {σ : St} {H : Hp} {R : V → V → Hp → Prop} (I : Inv X pins σ H s)
    (h : ta σ H fun x H1 => tb σ H1 fun y H2 => R x y H2) {Q : Value → Shared → Prop} {f : Value → Value → Sem Value}
    (hf : ∀ v u s2 x y H2, Inv X pins σ H2 s2 → RelV x v → RelV y u → R x y H2 → wpAny (model X.prog X.w) X.A (f v u) Q X.xe s2) :
    wpAny (model X.prog X.w) X.A (eval a X.env) (fun v s₁ => wpAny (model X.prog X.w) X.A (eval b X.env) (fun u s₂ => wpAny (model X.prog X.w) X.A (f v u) Q X.xe s₂) X.xe s₁) X.xe s := by
  refine thn (ha pins s σ H _ I h) fun v s1 ⟨x, H1, I1, r1, q1⟩ => ?_
  refine thn (hb pins s1 σ H1 _ I1 q1) fun u s2 ⟨y, H2, I2, r2, q2⟩ => ?_
  exact hf v u s2 x y H2 I2 r1 r2 q2

theorem pe_op {op : Operator} {r : R2} (ho : OpR X (binaryOp op) r) (ha : PE X a ta) (hb : PE X b tb) : PE X (.BinOp a op b pos) (tOp r ta tb) := by
  intro pins s σ H Q I h
  exact wpAny_BinOp (binT ha hb I h fun v u s2 x y H2 I2 rx ry q => ho pins s2 σ H2 x y v u Q I2 rx ry q)
/-! ### ints -/
theorem opI {f : Value → Value → Sem Value} {C : Int → Int → Prop} {g : Int → Int → Int}
    (rule : ∀ (i j : Int) (t u : Tok) (s : Shared) (Q : Value → Shared → Prop) (E : Value → Shared → Prop), C i j → Q (.int (g i j) s.toks) { s with toks := s.toks + 1 } → wpAny (model X.prog X.w) X.A (f (.int i t) (.int j u)) Q E s) :
    OpR X f (rI C fun i j => .int (g i j)) := by
  intro pins s σ H x y v u Q I rx ry h
  obtain ⟨i, j, rfl, rfl, hc, q⟩ := h
  obtain ⟨t, rfl⟩ := rx
  obtain ⟨t', rfl⟩ := ry
  exact rule i j t t' s _ _ hc ⟨.int (g i j), H, I.tok _, ⟨_, rfl⟩, q⟩
theorem opI0 {f : Value → Value → Sem Value} {g : Int → Int → Int}
    (rule : ∀ (i j : Int) (t u : Tok) (s : Shared) (Q : Value → Shared → Prop) (E : Value → Shared → Prop), Q (.int (g i j) s.toks) { s with toks := s.toks + 1 } → wpAny (model X.prog X.w) X.A (f (.int i t) (.int j u)) Q E s) :
    OpR X f (rI0 fun i j => .int (g i j)) := by
  intro pins s σ H x y v u Q I rx ry h
  obtain ⟨i, j, rfl, rfl, q⟩ := h
  obtain ⟨t, rfl⟩ := rx
  obtain ⟨t', rfl⟩ := ry
  exact rule i j t t' s _ _ ⟨.int (g i j), H, I.tok _, ⟨_, rfl⟩, q⟩
theorem opB0 {f : Value → Value → Sem Value} {g : Int → Int → Bool}
    (rule : ∀ (i j : Int) (t u : Tok) (s : Shared) (Q : Value → Shared → Prop) (E : Value → Shared → Prop), Q (.bool (g i j)) s → wpAny (model X.prog X.w) X.A (f (.int i t) (.int j u)) Q E s) :
    OpR X f (rI0 fun i j => .bl (g i j)) := by
  intro pins s σ H x y v u Q I rx ry h
  obtain ⟨i, j, rfl, rfl, q⟩ := h
  obtain ⟨t, rfl⟩ := rx
  obtain ⟨t', rfl⟩ := ry
  exact rule i j t t' s _ _ ⟨.bl (g i j), H, I, rfl, q⟩

def CDiv (i j : Int) : Prop := 0 < j ∧ j < 1073741824
def CDivN (i j : Int) : Prop := j ≠ 0 ∧ j.natAbs < 1073741824
def CPow (i j : Int) : Prop := 0 ≤ j ∧ j ≤ 1000000 ∧ i.natAbs < 2 ^ 64
def CMul (i j : Int) : Prop := (-(2 ^ 64) < i ∧ i < 2 ^ 64) ∨ (-(2 ^ 64) < j ∧ j < 2 ^ 64)
theorem CMul.ok {i j : Int} (h : CMul i j) : IntMulOk i j := by
  rcases h with ⟨h1, h2⟩ | ⟨h1, h2⟩
  · exact .of_left (intBits_le_64 h1 h2)
  · exact .of_right (intBits_le_64 h1 h2)
theorem op_add : OpR X (binaryOp .Add) (rI0 fun i j => .int (i + j)) := opI0 fun _ _ _ _ _ _ _ q => add_int q
theorem op_sub : OpR X (binaryOp .Sub) (rI0 fun i j => .int (i - j)) := opI0 fun _ _ _ _ _ _ _ q => sub_int q
theorem op_mul : OpR X (binaryOp .Mult) (rI CMul fun i j => .int (i * j)) := opI fun _ _ _ _ _ _ _ hc q => mul_int q hc.ok
/-- // by a positive divisor -/
theorem op_fdiv : OpR X (binaryOp .FloorDiv) (rI CDiv fun i j => .int (i / j)) := opI fun i j _ _ _ _ _ hc q => by
  have h1 : (0 : Int) < j := hc.1
  have h2 : j < 1073741824 := hc.2
  exact floordiv_int (by omega) (by rw [Int.fdiv_eq_ediv_of_nonneg i (by omega)]; exact q) (.inl (PyProof.noPylong_small (by omega)))
/-- % by a positive divisor of any size -/
theorem op_mod : OpR X (binaryOp .Mod) (rI (fun _ j => 0 < j) fun i j => .int (i % j)) := opI fun i j _ _ _ _ _ hc q => by
  have h1 : (0 : Int) < j := hc
  exact mod_int' (by omega) (by rw [Int.fmod_eq_emod_of_nonneg i (by omega)]; exact q)
theorem op_pow : OpR X (binaryOp .Pow) (rI CPow fun i j => .int (i ^ j.toNat)) := opI fun _ _ _ _ _ _ _ hc q => pow_int_small hc.1 hc.2.1 hc.2.2 q
theorem op_shl : OpR X (binaryOp .LShift) (rI CPow fun i j => .int (i * 2 ^ j.toNat)) := opI fun _ _ _ _ _ _ _ hc q => lshift_int_small hc.1 hc.2.1 hc.2.2 q
/-! ### bools among ints: n += (a < b) -/
end

/-! ### comparisons -/
/-- the scalars that == tells apart as data does -/
def scal : V → V → Bool
  | .non, .non => true | .non, .int _ => true | .int _, .non => true | .non, .bl _ => true | .bl _, .non => true | .non, .str _ => true | .str _, .non => true
  | .int _, .int _ => true | .bl _, .bl _ => true | .str _, .str _ => true | .byt _, .byt _ => true
  | .int _, .str _ => true | .str _, .int _ => true | .bl _, .str _ => true | .str _, .bl _ => true
  | _, _ => false
def rEq : R2 := fun x y H Q => scal x y = true ∧ Q (.bl (decide (x = y))) H
def rNe : R2 := fun x y H Q => scal x y = true ∧ Q (.bl (!decide (x = y))) H

theorem dec_int {i j : Int} : decide (V.int i = V.int j) = (i == j) := by
  rw [Bool.eq_iff_iff]
  simp
theorem dec_bl {i j : Bool} : decide (V.bl i = V.bl j) = (i == j) := by
  rw [Bool.eq_iff_iff]
  simp
theorem dec_str {i j : Str} : decide (V.str i = V.str j) = (i == j) := by
  rw [Bool.eq_iff_iff]
  simp
theorem dec_byt {i j : Array UInt8} : decide (V.byt i = V.byt j) = (i.toList == j.toList) := by
  rw [Bool.eq_iff_iff]
  cases i
  cases j
  simp

section
variable {X : Cx} {a b c : Expr} {ta tb tc : TE} {pos : Pos}
theorem fin_bl {pins : List (Addr × Obj)} {σ : St} {H : Hp} {s : Shared} {Q : VK} {k k' : Bool} (I : Inv X pins σ H s) (q : Q (.bl k) H) (e : k = k') : EP X pins σ Q (.bool k') s := by
  subst e
  exact ⟨.bl k, H, I, rfl, q⟩
theorem op_eq : OpR X (compareOp .Eq) rEq := by
  intro pins s σ H x y v u Q I rx ry h
  obtain ⟨hs, q⟩ := h
  cases x with
  | non =>
    cases rx
    cases y with
    | non => cases ry; exact PySem.EqNone.eq_none_none (fin_bl I q (by simp))
    | bl j => cases ry; exact PySem.EqNone.eq_none_bool (fin_bl I q (by simp))
    | int j => obtain ⟨t', rfl⟩ := ry; exact PySem.EqNone.eq_none_int (fin_bl I q (by simp))
    | str j => obtain ⟨t', rfl⟩ := ry; exact PySem.EqNone.eq_none_str (fin_bl I q (by simp))
    | _ => exact absurd (show false = true from hs) Bool.false_ne_true
  | bl i =>
    cases rx
    cases y with
    | non => cases ry; exact PySem.EqNone.eq_bool_none (fin_bl I q (by simp))
    | bl j => cases ry; exact eq_bool (fin_bl I q dec_bl)
    | str j => obtain ⟨t', rfl⟩ := ry; exact PySem.EqMixed.eq_bool_str (fin_bl I q (by simp))
    | _ => exact absurd (show false = true from hs) Bool.false_ne_true
  | int i =>
    obtain ⟨t, rfl⟩ := rx
    cases y with
    | non => cases ry; exact PySem.EqNone.eq_int_none (fin_bl I q (by simp))
    | int j => obtain ⟨t', rfl⟩ := ry; exact eq_int (fin_bl I q dec_int)
    | str j => obtain ⟨t', rfl⟩ := ry; exact PySem.EqMixed.eq_int_str (fin_bl I q (by simp))
    | _ => exact absurd (show false = true from hs) Bool.false_ne_true
  | str i =>
    obtain ⟨t, rfl⟩ := rx
    cases y with
    | non => cases ry; exact PySem.EqNone.eq_str_none (fin_bl I q (by simp))
    | bl j => cases ry; exact PySem.EqMixed.eq_str_bool (fin_bl I q (by simp))
    | int j => obtain ⟨t', rfl⟩ := ry; exact PySem.EqMixed.eq_str_int (fin_bl I q (by simp))
    | str j => obtain ⟨t', rfl⟩ := ry; exact eq_str (fin_bl I q dec_str)
    | _ => exact absurd (show false = true from hs) Bool.false_ne_true
  | byt i =>
    obtain ⟨t, rfl⟩ := rx
    cases y with
    | byt j => obtain ⟨t', rfl⟩ := ry; exact PySem.W.eq_bytes (fin_bl I q dec_byt)
    | _ => exact absurd (show false = true from hs) Bool.false_ne_true
  | _ => cases y <;> exact absurd (show false = true from hs) Bool.false_ne_true
theorem op_lt : OpR X (compareOp .Lt) (rI0 fun i j => .bl (decide (i < j))) := opB0 fun _ _ _ _ _ _ _ q => lt_int q
theorem op_gt : OpR X (compareOp .Gt) (rI0 fun i j => .bl (decide (j < i))) := opB0 fun _ _ _ _ _ _ _ q => gt_int q
theorem op_ge : OpR X (compareOp .GtE) (rI0 fun i j => .bl (decide (j ≤ i))) := opB0 fun _ _ _ _ _ _ _ q => ge_int q
/-- is None, is not None: the right side a value none -/
theorem op_isN : OpR X (compareOp .Is) (fun x y H Q => y = .non ∧ Q (.bl (decide (x = .non))) H) := by
  intro pins s σ H x y v u Q I rx ry h
  obtain ⟨rfl, q⟩ := h
  cases ry
  refine is_none_gen (fin_bl I q ?_)
  cases x <;> first
    | (cases rx; rfl)
    | (obtain ⟨t, rfl⟩ := rx; rfl)
theorem op_notN : OpR X (compareOp .IsNot) (fun x y H Q => y = .non ∧ Q (.bl (!decide (x = .non))) H) := by
  intro pins s σ H x y v u Q I rx ry h
  obtain ⟨rfl, q⟩ := h
  cases ry
  refine isnot_none_gen (fin_bl I q ?_)
  cases x <;> first
    | (cases rx; rfl)
    | (obtain ⟨t, rfl⟩ := rx; rfl)

/-- is, is not of two objects that are tracked lists or instances -/
def isObj : HO → Bool
  | .lst _ => true
  | .ins _ _ _ => true
  | _ => false
theorem nomark (b : Expr) {op : CmpOp} (h : op ≠ .In := by decide) (h2 : op ≠ .NotIn := by decide) : behindInMarks op b = false := by
  have e1 : (op == CmpOp.In) = false := by cases op <;> first | rfl | exact absurd rfl h
  have e2 : (op == CmpOp.NotIn) = false := by cases op <;> first | rfl | exact absurd rfl h2
  cases b <;> simp [behindInMarks, e1, e2]
/-- a comparison as a value; hm: nomark b, or (for in, not in) by with_unfolding_all rfl -/
theorem pe_cmpR {op : CmpOp} {r : R2} (ho : OpR X (compareOp op) r) (ha : PE X a ta) (hb : PE X b tb) (hm : behindInMarks op b = false) : PE X (.Compare a [op] [b] pos) (tOp r ta tb) := by
  intro pins s σ H Q I h
  exact wpAny_Compare1 (binT ha hb I h fun v u s2 x y H2 I2 rx ry q => ho pins s2 σ H2 x y v u Q I2 rx ry q) hm
/-- a reading of a value as a test -/
def tTest (t : TE) : TT := fun σ H Q => t σ H fun x H' => ∃ k, x = .bl k ∧ Q k H'
theorem pt_cmpR {op : CmpOp} {r : R2} (ho : OpR X (compareOp op) r) (ha : PE X a ta) (hb : PE X b tb) (hm : behindInMarks op b = false) : PT X (.Compare a [op] [b] pos) (tTest (tOp r ta tb)) := by
  intro pins s σ H Q I h
  refine wpAny_isTrue_Compare1 (thn (ha pins s σ H _ I h) fun v s1 ⟨x, H1, I1, r1, q1⟩ => thn (hb pins s1 σ H1 _ I1 q1) fun u s2 ⟨y, H2, I2, r2, q2⟩ =>
    thn (ho pins s2 σ H2 x y v u _ I2 r1 r2 q2) fun c s3 ⟨z, H3, I3, r3, k, e, q3⟩ => ?_) hm
  subst e
  cases r3
  exact wpAny_truthy_bool ⟨H3, I3, q3⟩
/-- a op1 b op2 c -/
def tChain (r r' : R2) (ta tb tc : TE) : TE := fun σ H Q => ta σ H fun x H1 => tb σ H1 fun y H2 => r x y H2 fun z H3 => ∃ k, z = .bl k ∧
  (if k = true then tc σ H3 fun w' H4 => r' y w' H4 Q else Q (.bl false) H3)
/-! ### truth -/
/-- a value's truth by the abstract heap -/
def TruV (K : PySem.W.Frag) (x : V) (H : Hp) (k : Bool) : Prop :=
  match x with
  | .non => k = false
  | .bl b => k = b
  | .int i => k = (i != 0)
  | .str y => y.length ≤ sizeLine ∧ k = ((y.length : Int) != 0)
  | .byt y => y.size ≤ sizeLine ∧ k = ((y.size : Int) != 0)
  | .ref p => (∃ xs, SqL K H p xs ∧ k = !xs.isEmpty) ∨ (∃ xs, SqT K H p xs ∧ k = !xs.isEmpty) ∨ ∃ kvs, H p = some (.dK kvs) ∧ k = !kvs.isEmpty
  | _ => False
theorem line63 : (sizeLine : Nat) < 2 ^ 63 := by rw [sizeLine_eq]; decide
/-! ### strs and bytes -/
def PlainIxT (b : Expr) : Prop := ∀ o i, subscripted b false o i = operate [o, i] (getItem o i)
/-! ### scalar builtins, by CallR -/
theorem vals1 {x : V} {us : List Value} (r : Vals [x] us) : ∃ u, us = [u] ∧ RelV x u := by
  cases r with
  | cons r1 r2 => cases r2; exact ⟨_, rfl, r1⟩
theorem vals2 {x y : V} {us : List Value} (r : Vals [x, y] us) : ∃ u w', us = [u, w'] ∧ RelV x u ∧ RelV y w' := by
  cases r with
  | cons r1 r2 =>
    cases r2 with
    | cons r3 r4 => cases r4; exact ⟨_, _, rfl, r1, r3⟩
theorem call_min2 (hc : X.calm = true) : CallR X (.builtin "min") (fun xs H Q => ∃ i j, xs = [.int i, .int j] ∧ Q (.int (if j < i then j else i)) H) := by
  intro pins s σ H xs us Q I r h
  obtain ⟨i, j, rfl, q⟩ := h
  obtain ⟨u, w', rfl, ⟨t, rfl⟩, ⟨t', rfl⟩⟩ := vals2 r
  refine min_two_ints (I.ok.hd hc) fun h' tk k => ⟨_, H, I.kept k, ?_, q⟩
  by_cases hj : j < i
  · rw [if_pos hj, if_pos hj]; exact ⟨_, rfl⟩
  · rw [if_neg hj, if_neg hj]; exact ⟨_, rfl⟩
/-- len of a str, a bytes, a list, a tuple -/
def LenV (K : PySem.W.Frag) (x : V) (H : Hp) (n : Nat) : Prop :=
  match x with
  | .str y => y.length ≤ sizeLine ∧ n = y.length
  | .byt y => y.size ≤ sizeLine ∧ n = y.size
  | .ref p => (∃ xs, SqL K H p xs ∧ n = xs.length) ∨ ∃ xs, SqT K H p xs ∧ n = xs.length
  | _ => False
end
end L2

namespace L2
open PySem PySem.Spec PyProof.Rows

/-! ### an instance, its attributes a map -/
structure ObjM (h : Heap) (x dx C : Addr) (mA : Str → Option Value) : Prop where
  obj : h.get? x = some (PySem.W.instObj C dx)
  ns : h.Ns1 dx mA
  ne : dx ≠ x

theorem lookIn_ns {h : Heap} {dx : Addr} {mA : Str → Option Value} (n : h.Ns1 dx mA) : ∃ od, h.get? dx = some od ∧ ∀ name, PySem.W.lookIn name od = some (mA name) := by
  obtain ⟨o, es, ep, ho, hd, hk, _, hm⟩ := n
  refine ⟨o, ho, fun name => ?_⟩
  have e := hm name
  unfold nsFind findBy at e
  rw [← Array.find?_toList] at e
  unfold PySem.W.lookIn
  rw [hd]
  dsimp only
  split
  · rename_i y q
    rw [q] at e
    exact congrArg some e
  · rename_i q
    rw [q] at e
    have a : es.toList.any (·.refKey) = false := by
      rw [List.any_eq_false]
      intro y hy
      obtain ⟨z, t, hkey⟩ := hk y (Array.mem_toList_iff.mp hy)
      simp [DictEntry.refKey, hkey]
    have a' : ¬ es.toList.any (·.refKey) = true := by rw [a]; exact Bool.false_ne_true
    rw [if_neg a']
    exact congrArg some e

theorem ObjM.look {h : Heap} {x dx C : Addr} {mA : Str → Option Value} (I : ObjM h x dx C mA) : ∃ od, PySem.W.InstAt h x (PySem.W.instObj C dx) C (some od) ∧ ∀ name, PySem.W.lookIn name od = some (mA name) :=
  let ⟨od, ho, hl⟩ := lookIn_ns I.ns
  ⟨od, ⟨I.obj, rfl, rfl, ho⟩, hl⟩

section
variable {prog : Program} {w : World} {A : Around} {E : Value → Shared → Prop} {s : Shared} {K : PySem.W.Frag} {x dx C f : Addr} {mA : Str → Option Value} {name : Str} {v : Value}

theorem get_map {expr : Bool} {Q : Value → Shared → Prop} (X : K.In s.heap) (I : ObjM s.heap x dx C mA) (hg : PySem.W.plainGet K C name = true) (hh : PySem.W.hasDictIn K C = true)
    (ha : PySem.W.findIn K (.ref C) name = some none) (hv : mA name = some v) (hv' : PySem.W.handedIn v = true) (h : Q v { s with toks := s.toks + 1 }) :
    wpAny (model prog w) A (getAttr (.ref x) name expr) Q E s := by
  obtain ⟨od, J, hl⟩ := I.look
  exact PySem.W.get_value X J (PySem.W.plainGet_of hg).1 (PySem.W.findObj_own hh ha rfl (by rw [hl, hv])) hv' h

theorem get_meth {pl : Sem Bool} {Q : Value × List Value → Shared → Prop} (X : K.In s.heap) (I : ObjM s.heap x dx C mA) (hg : PySem.W.plainGet K C name = true)
    (hf : PySem.W.findIn K (.ref C) name = some (some (.ref f))) (ht : PySem.W.isFn K (.ref f) = true) (hv : mA name = none) (h : Q (.ref f, [.ref x]) s) :
    wpAny (model prog w) A (getMethod (.ref x) name pl) Q E s := by
  obtain ⟨od, J, hl⟩ := I.look
  exact PySem.W.method_fn X J (PySem.W.plainGet_of hg).1 (PySem.W.plainGet_of hg).2 hf (beq_iff_eq.mp ht) (by show (PySem.W.lookIn name od).map (·.isSome) = some false; rw [hl, hv]; rfl) h

theorem set_map {ns : List Str} {Q : Unit → Shared → Prop} (X : K.In s.heap) (I : ObjM s.heap x dx C mA)
    (hs : PySem.W.findIn K (.ref C) "__setattr__" = some (some (.builtin "object.__setattr__"))) (hp : PySem.W.plainOver K C = true) (ht : PySem.W.takerIn K C name = some none) (hh : PySem.W.hasDictIn K C = true)
    (hw : PySem.Within mA ns) (hsz : ns.length ≤ sizeLine)
    (h : ∀ h', ObjM h' x dx C (fun y => if y = name then some v else mA y) → Heap.SameBut dx s.heap h' → Q () { s with heap := h', toks := s.toks + 2 }) :
    wpAny (model prog w) A (setAttr (.ref x) name v) Q E s := by
  obtain ⟨od, J, hl⟩ := I.look
  refine PySem.W.set_plain X J hs (PySem.W.osa_open (s := { s with toks := s.toks + 1 }) (r := none) X J hp ht fun b => ?_)
  obtain ⟨cd, hc, hd'⟩ := PySem.W.any_some hh
  have hx : s.heap.get? x = some ⟨.ref C, some dx, .plain, #[]⟩ := I.obj
  refine wpAny_bind (wpAny_pure (wpAny_bind (wpAny_bind (wpAny_loadPart hx (wpAny_bind (PySem.W.Looks.here (s := { s with toks := s.toks + 1 }) (PySem.W.looks_clsIn X hc) ?_))))))
  rw [hd']
  refine wpAny_pure (a := some dx) (wpAny_bind (wpAny_pure (wpAny_bind ?_)))
  refine wpAny_nsSet1 (s := { s with toks := s.toks + 1 }) I.ns fun h' hn2 hs2 => ?_
  obtain ⟨oD, esD, epD, hoD, hdD, hcD⟩ := hn2.count (PySem.Within.cons name v hw)
  refine wpAny_bind (wpAny_lookBehind hoD (by rw [hdD]; exact pastItsLine_dict (Nat.le_trans hcD (by rw [List.length_cons]; omega))) ?_)
  exact wpAny_pure (h _ ⟨(hs2.2 _ (Ne.symm I.ne)).trans I.obj, hn2, I.ne⟩ hs2)

/-- C(..): the dict at the heap's end, the instance behind it; then its __init__ -/
theorem make_map {R : Result → Shared → Prop} {vs : List Value} {kw : List (Str × Value)} (X : K.In s.heap) (hm : PySem.W.makesIn K C = true)
    (hi : PySem.W.findIn K (.ref C) "__init__" = some (some (.ref f))) (hf : PySem.W.typeIn K (.ref f) = some (.type "function"))
    (h : codeAny (model prog w) (A.under (.builtin "type.__call__" ⟨.ref C :: vs, kw⟩)) (.call (.ref f) ⟨.ref (s.heap.objs.size + 1) :: vs, kw⟩) (PySem.W.InitBack (s.heap.objs.size + 1) R)
      { s with heap := (s.heap.push PySem.W.emptyDict).push (PySem.W.instObj C s.heap.objs.size) }) :
    codeAny (model prog w) A (.call (.ref C) ⟨vs, kw⟩) R s := by
  obtain ⟨hh, g, d, t, os⟩ := s
  exact PySem.W.make_core (PySem.W.makes_of X hm) (PySem.W.looks_findIn X hi) (fun self => PySem.W.bind_fn X self hf) (.inl rfl) h
end

/-! ### the attributes as a list of pairs -/
def putF (f : Str) (v : V) : List (Str × V) → List (Str × V)
  | [] => [(f, v)]
  | (g, x) :: r => if g = f then (g, v) :: r else (g, x) :: putF f v r
theorem lookup_putF (f g : Str) (v : V) : ∀ fs : List (Str × V), (putF f v fs).lookup g = if g = f then some v else fs.lookup g
  | [] => by
    show List.lookup g [(f, v)] = _
    by_cases h : g = f
    · have hb : (g == f) = true := beq_iff_eq.mpr h
      simp only [List.lookup, hb, if_pos h]
    · have hb : (g == f) = false := beq_eq_false_iff_ne.mpr h
      simp only [List.lookup, hb, if_neg h]
  | (k, x) :: r => by
    have ih := lookup_putF f g v r
    rw [show putF f v ((k, x) :: r) = (if k = f then (k, v) :: r else (k, x) :: putF f v r) from rfl]
    by_cases hk : k = f
    · rw [if_pos hk]
      by_cases h : g = k
      · have hb : (g == k) = true := beq_iff_eq.mpr h
        simp only [List.lookup, hb, if_pos (h.trans hk)]
      · have hb : (g == k) = false := beq_eq_false_iff_ne.mpr h
        simp only [List.lookup, hb, if_neg (fun e : g = f => h (e.trans hk.symm))]
    · rw [if_neg hk]
      by_cases h : g = k
      · have hb : (g == k) = true := beq_iff_eq.mpr h
        simp only [List.lookup, hb, if_neg (fun e : g = f => hk (h.symm.trans e))]
      · have hb : (g == k) = false := beq_eq_false_iff_ne.mpr h
        simp only [List.lookup, hb]
        exact ih
theorem keys_putF (f : Str) (v : V) : ∀ fs : List (Str × V), f ∈ (putF f v fs).map (·.1) ∧ ∀ g, g ∈ fs.map (·.1) → g ∈ (putF f v fs).map (·.1)
  | [] => ⟨by simp [putF], fun g h => by simp at h⟩
  | (k, x) :: r => by
    obtain ⟨i1, i2⟩ := keys_putF f v r
    rw [show putF f v ((k, x) :: r) = (if k = f then (k, v) :: r else (k, x) :: putF f v r) from rfl]
    by_cases hk : k = f
    · rw [if_pos hk]
      subst hk
      exact ⟨by simp, fun g h => by simpa using h⟩
    · rw [if_neg hk]
      refine ⟨?_, fun g h => ?_⟩
      · rw [List.map_cons]
        exact List.mem_cons_of_mem _ i1
      · rw [List.map_cons] at h ⊢
        rcases List.mem_cons.mp h with e | e
        · exact List.mem_cons.mpr (.inl e)
        · exact List.mem_cons_of_mem _ (i2 g e)
theorem length_putF (f : Str) (v : V) : ∀ fs : List (Str × V), (putF f v fs).length ≤ fs.length + 1
  | [] => by simp [putF]
  | (k, x) :: r => by
    have ih := length_putF f v r
    rw [show putF f v ((k, x) :: r) = (if k = f then (k, v) :: r else (k, x) :: putF f v r) from rfl]
    by_cases hk : k = f
    · rw [if_pos hk, List.length_cons, List.length_cons]; omega
    · rw [if_neg hk, List.length_cons, List.length_cons]; omega

theorem RelO.some_of {v : V} {o : Option Value} (r : RelO (some v) o) : ∃ u, o = some u ∧ RelV v u := by
  cases o with
  | none => exact (show False from r).elim
  | some u => exact ⟨u, rfl, r⟩
theorem RelO.none_of {o : Option Value} (r : RelO none o) : o = none := by
  cases o with
  | none => rfl
  | some u => exact (show False from r).elim
theorem handed_of {v : V} {u : Value} (r : RelV v u) : PySem.W.handedIn u = true := by
  cases v with
  | non => cases (show u = Value.none from r); rfl
  | bl b => cases (show u = Value.bool b from r); rfl
  | int i => obtain ⟨t, e⟩ := (show ∃ t, u = Value.int i t from r); cases e; rfl
  | str x => obtain ⟨t, e⟩ := (show ∃ t, u = Value.str x t from r); cases e; rfl
  | byt b => obtain ⟨t, e⟩ := (show ∃ t, u = Value.bytes b t from r); cases e; rfl
  | flt b => obtain ⟨t, e⟩ := (show ∃ t, u = Value.float b t from r); cases e; rfl
  | ref a => cases (show u = Value.ref a from r); rfl
  | ty n => cases (show u = Value.type n from r); rfl

section
variable {P : Program} {w : World} {H H' : Hp} {h h' : Heap} {a C dx : Addr} {fs fs' : List (Str × V)}
theorem ins_get (hok : HOk P w H h) (e : H a = some (.ins C dx fs)) : ∃ mA, ObjM h a dx C mA ∧ (∀ f, RelO (fs.lookup f) (mA f)) ∧ PySem.Within mA (fs.map (·.1)) ∧ fs.length ≤ 1000 ∧ H dx = some (.own a) := by
  obtain ⟨d, z, ne, ob, mA, n, r, q⟩ := (show ObjOk P w H h a (.ins C dx fs) from hok a _ e)
  exact ⟨mA, ⟨ob, n, ne⟩, r, q, z, d⟩
end

/-! ### what of the text a class must have -/
structure Cls (K : PySem.W.Frag) (C : Addr) : Prop where
  pg : PySem.W.plainGet K C Str.empty = true
  hd : PySem.W.hasDictIn K C = true
  po : PySem.W.plainOver K C = true
  sa : PySem.W.findIn K (.ref C) "__setattr__" = some (some (.builtin "object.__setattr__"))
theorem Cls.get {K : PySem.W.Frag} {C : Addr} (c : Cls K C) (f : Str) : PySem.W.plainGet K C f = true := c.pg
/-- no class of it has the name -/
def NoAttr (K : PySem.W.Frag) (C : Addr) (f : Str) : Prop := PySem.W.findIn K (.ref C) f = some none
theorem NoAttr.taker {K : PySem.W.Frag} {C : Addr} {f : Str} (n : NoAttr K C f) : PySem.W.takerIn K C f = some none := by
  unfold PySem.W.takerIn
  rw [show PySem.W.findIn K (.ref C) f = some none from n]
  rfl
/-- a constant of the class -/
structure Con (K : PySem.W.Frag) (C : Addr) (f : Str) (v : V) (u : Value) : Prop where
  at_ : PySem.W.findIn K (.ref C) f = some (some u)
  rel : RelV v u
  get : PySem.W.specialIn K u "__get__" = some none
  cp : PySem.W.copiedNames.contains f = false
/-- a method: a plain def of the class or of one above it -/
structure Meth (K : PySem.W.Frag) (C : Addr) (m : Str) (f : Addr) : Prop where
  at_ : PySem.W.findIn K (.ref C) m = some (some (.ref f))
  fn : PySem.W.isFn K (.ref f) = true
  kp : PySem.W.keepIn K (.ref f) = true

section
variable {X : Cx} {pins : List (Addr × Obj)} {σ : St} {H : Hp} {s : Shared} {a C dx : Addr} {fs : List (Str × V)} {f : Str} {v : V} {A : Around} {E : Value → Shared → Prop}

theorem getattr_ok {b : Bool} {Q : Value → Shared → Prop} (I : Inv X pins σ H s) (e : H a = some (.ins C dx fs)) (c : Cls X.K C) (n : NoAttr X.K C f) (l : fs.lookup f = some v)
    (h : ∀ u s', Inv X pins σ H s' → RelV v u → Q u s') : wpAny (model X.prog X.w) A (getAttr (.ref a) f b) Q E s := by
  obtain ⟨mA, O, r, _, _, _⟩ := ins_get I.hok e
  obtain ⟨u, hu, ru⟩ := RelO.some_of (v := v) (o := mA f) (by rw [← l]; exact r f)
  exact get_map I.kIn O (c.get f) c.hd n hu (handed_of ru) (h u _ (I.tok _) ru)

theorem getmeth_ok {m : Str} {g : Addr} {pl : Sem Bool} {Q : Value × List Value → Shared → Prop} (I : Inv X pins σ H s) (e : H a = some (.ins C dx fs)) (c : Cls X.K C) (k : Meth X.K C m g) (l : fs.lookup m = none)
    (h : Q (.ref g, [.ref a]) s) : wpAny (model X.prog X.w) A (getMethod (.ref a) m pl) Q E s := by
  obtain ⟨mA, O, r, _, _, _⟩ := ins_get I.hok e
  have hn : mA m = none := RelO.none_of (by rw [← l]; exact r m)
  exact get_meth I.kIn O (c.get m) k.at_ k.fn hn h

theorem setattr_ok {y : V} {u : Value} {Q : Unit → Shared → Prop} (I : Inv X pins σ H s) (e : H a = some (.ins C dx fs)) (c : Cls X.K C) (n : NoAttr X.K C f) (hl : fs.length < 1000) (ry : RelV y u)
    (h : ∀ s', Inv X pins σ (upd H a (.ins C dx (putF f y fs))) s' → Q () s') : wpAny (model X.prog X.w) A (setAttr (.ref a) f u) Q E s := by
  obtain ⟨mA, O, r, wi, _, ho⟩ := ins_get I.hok e
  have hz : (fs.map (·.1)).length ≤ sizeLine := by rw [List.length_map, sizeLine_eq]; omega
  refine set_map I.kIn O c.sa c.po n.taker c.hd wi hz fun h' O' sb => h _ ?_
  have hd : ∃ o, h'.get? dx = some o := let ⟨o, _, _, e', _⟩ := O'.ns; ⟨o, e'⟩
  refine I.write (x := a) (e := dx) (by rw [e]; exact True.intro) (.inr ho) (fun b q hb z => (sb.2 b hb).trans z) hd ?_
  refine ⟨by rw [upd_ne O.ne]; exact ho, ?_, O.ne, O'.obj, _, O'.ns, fun g => ?_, fun g hg => ?_⟩
  · have := length_putF f y fs; omega
  · show RelO ((putF f y fs).lookup g) (if g = f then some u else mA g)
    rw [lookup_putF]
    by_cases q : g = f
    · rw [if_pos q, if_pos q]; exact ry
    · rw [if_neg q, if_neg q]; exact r g
  · by_cases q : g = f
    · rw [q]; exact (keys_putF f y fs).1
    · refine (keys_putF f y fs).2 g (wi g fun z => hg ?_)
      show (if g = f then some u else mA g) = none
      rw [if_neg q]; exact z

/-- a new instance, tracked, without attributes -/
theorem Inv.made (I : Inv X pins σ H s) : Inv X pins σ (upd (upd H s.heap.objs.size (.own (s.heap.objs.size + 1))) (s.heap.objs.size + 1) (.ins C s.heap.objs.size []))
    { s with heap := (s.heap.push PySem.W.emptyDict).push (PySem.W.instObj C s.heap.objs.size) } := by
  have e1 : (s.heap.push PySem.W.emptyDict).get? s.heap.objs.size = some PySem.W.emptyDict := Heap.get?_push_size s.heap rfl
  have e2 : ((s.heap.push PySem.W.emptyDict).push (PySem.W.instObj C s.heap.objs.size)).get? (s.heap.objs.size + 1) = some (PySem.W.instObj C s.heap.objs.size) := by
    have := Heap.get?_push_size (s.heap.push PySem.W.emptyDict) (o := PySem.W.instObj C s.heap.objs.size) rfl
    rwa [Heap.size_push] at this
  have e3 : (s.heap.push PySem.W.emptyDict).Ns s.heap.objs.size (fun _ => none) := ⟨PySem.W.emptyDict, #[], _, e1, rfl, (fun e he => absurd he (by simp)), fun _ => rfl⟩
  have I1 := I.laid (a := s.heap.objs.size) (o := .own (s.heap.objs.size + 1)) (h' := s.heap.push PySem.W.emptyDict) (t' := s.toks) (fun b u q => Heap.get?_push_of_some _ q) (Nat.le_refl _) ⟨_, e1⟩
  refine I1.laid (a := s.heap.objs.size + 1) (o := .ins C s.heap.objs.size []) (t' := s.toks) (fun b u q => Heap.get?_push_of_some _ q) (Nat.le_of_eq (Heap.size_push _ _)) ?_
  have ne : s.heap.objs.size ≠ s.heap.objs.size + 1 := Nat.ne_of_lt (Nat.lt_succ_self _)
  refine ⟨by rw [upd_ne ne, upd_same], Nat.zero_le _, ne, e2, fun _ => none, (Heap.Ns1.of_empty e3).at fun o q => Heap.get?_push_of_some _ q, fun _ => True.intro, fun y hy => absurd rfl hy⟩

/-- e.f where nothing but the object is asked: through attributeBase (super) and the last hold -/
theorem attr_of {prog : Program} {w : World} {env : Env} {e : Expr} {f : Str} {pos : Pos} {s : Shared} {Q : Value → Shared → Prop} (hb : attributeBase e f env (eval e env) = eval e env)
    (h : wpAny (model prog w) A (eval e env) (fun o s₁ => wpAny (model prog w) A (getAttr o f true) Q E s₁) E s) : wpAny (model prog w) A (eval (.Attribute e f pos) env) Q E s :=
  Attribute_any_ h (by rw [arm_eval_Attribute, hb])
end

/-! ### readings and rules -/
/-- e.f, an attribute of the instance -/
def tFld (K : PySem.W.Frag) (ta : TE) (f : Str) : TE := fun σ H Q => ta σ H fun x H1 => ∃ a C dx fs v, x = .ref a ∧ H1 a = some (.ins C dx fs) ∧ Cls K C ∧ NoAttr K C f ∧ fs.lookup f = some v ∧ Q v H1
/-- e.f, a constant of the class -/
def tCon (K : PySem.W.Frag) (ta : TE) (f : Str) : TE := fun σ H Q => ta σ H fun x H1 => ∃ a C dx fs v u, x = .ref a ∧ H1 a = some (.ins C dx fs) ∧ Cls K C ∧ Con K C f v u ∧ fs.lookup f = none ∧ Q v H1
/-- e.f = value -/
def sFld (K : PySem.W.Frag) (ta tv : TE) (f : Str) : TS := fun D σ H => tv σ H fun y H1 => ta σ H1 fun x H2 => ∃ a C dx fs, x = .ref a ∧ H2 a = some (.ins C dx fs) ∧ Cls K C ∧ NoAttr K C f ∧ fs.length < 1000 ∧
  D.nx σ (upd H2 a (.ins C dx (putF f y fs)))
/-- an augmented operator on two values -/
def InOp (X : Cx) (op : Operator) (rd : V → V → Hp → VK → Prop) : Prop :=
  ∀ (pins : List (Addr × Obj)) (s : Shared) (σ : St) (H : Hp) (x y : V) (u v : Value) (Q : VK), Inv X pins σ H s → RelV x u → RelV y v → rd x y H Q → wpAny (model X.prog X.w) X.A (inplaceOp op u v) (EP X pins σ Q) X.xe s
/-- e.f op= value -/
def sFldAug (K : PySem.W.Frag) (ta tv : TE) (rd : V → V → Hp → VK → Prop) (f : Str) : TS := fun D σ H => ta σ H fun x H1 => ∃ a C dx fs v, x = .ref a ∧ H1 a = some (.ins C dx fs) ∧ Cls K C ∧ NoAttr K C f ∧ fs.lookup f = some v ∧
  tv σ H1 fun y H2 => rd v y H2 fun z H3 => ∃ dx' fs', H3 a = some (.ins C dx' fs') ∧ fs'.length < 1000 ∧ D.nx σ (upd H3 a (.ins C dx' (putF f z fs')))

section
variable {X : Cx} {o e value : Expr} {f : Str} {pos pos' tpos : Pos} {ta tv : TE}
theorem pe_fld (he : PE X e ta) (hb : attributeBase e f X.env (eval e X.env) = eval e X.env) : PE X (.Attribute e f pos) (tFld X.K ta f) := by
  intro pins s σ H Q I h
  refine attr_of hb (thn (he pins s σ H _ I h) fun u s1 ⟨x, H1, I1, rx, a, C, dx, fs, v, ex, ea, c, n, l, q⟩ => ?_)
  subst ex
  obtain rfl : u = Value.ref a := rx
  exact getattr_ok I1 ea c n l fun u' s2 I2 ru => ⟨v, H1, I2, ru, q⟩
theorem ps_fld (ha : PE X o ta) (hv : PE X value tv) (hs : swapsWith value (some (.Attribute o f pos')) pos.line X.env = pure false) : PS X (.Assign [.Attribute o f pos'] value pos) (sFld X.K ta tv f) := by
  intro pins s σ H D I h
  refine plainObj_wpAny_Assign_Attribute (thn (hv pins s σ H _ I h) fun u s1 ⟨y, H1, I1, ry, q⟩ => thn (ha pins s1 σ H1 _ I1 q) fun ov s2 ⟨x, H2, I2, rx, a, C, dx, fs, ex, ea, c, n, l, q2⟩ => ?_) hs
  subst ex
  obtain rfl : ov = Value.ref a := rx
  exact setattr_ok I2 ea c n l ry fun s3 I3 => ⟨σ, _, I3, q2⟩
theorem ps_fldaug {op : Operator} {rd : V → V → Hp → VK → Prop} (ha : PE X o ta) (hv : PE X value tv) (hop : InOp X op rd) : PS X (.AugAssign (.Attribute o f tpos) op value pos) (sFldAug X.K ta tv rd f) := by
  intro pins s σ H D I h
  refine wpAny_AugAssign_AttributeAny (thn (ha pins s σ H _ I h) fun ov s1 ⟨x, H1, I1, rx, a, C, dx, fs, v, ex, ea, c, n, l, q⟩ => ?_)
  subst ex
  obtain rfl : ov = Value.ref a := rx
  refine getattr_ok I1 ea c n l fun u s2 I2 ru => thn (hv pins s2 σ H1 _ I2 q) fun w3 s3 ⟨y, H2, I3, ry, q3⟩ => thn (hop pins s3 σ H2 v y u w3 _ I3 ru ry q3) fun w4 s4 ⟨z, H3, I4, rz, dx', fs', ea', l', q4⟩ => ?_
  exact setattr_ok I4 ea' c n l' rz fun s5 I5 => ⟨σ, _, I5, q4⟩
def rAdd : V → V → Hp → VK → Prop := fun x y H Q => ∃ i j, x = .int i ∧ y = .int j ∧ Q (.int (i + j)) H
def rSub : V → V → Hp → VK → Prop := fun x y H Q => ∃ i j, x = .int i ∧ y = .int j ∧ Q (.int (i - j)) H
end

/-! ### isinstance -/
section
variable {X : Cx} {pins : List (Addr × Obj)} {σ : St} {H : Hp} {s : Shared} {A : Around} {E : Value → Shared → Prop} {Q : Value → Shared → Prop} {c : Value} {b : Bool}
/-- the type of a value, as the fragment's deciders take it; for an instance its class -/
inductive TyOf (K : PySem.W.Frag) (H : Hp) : V → Value → Prop where
  | non : TyOf K H .non (.type "NoneType")
  | bl (x : Bool) : TyOf K H (.bl x) (.type "bool")
  | int (i : Int) : TyOf K H (.int i) (.type "int")
  | str (x : Str) : TyOf K H (.str x) (.type "str")
  | flt (x : UInt64) : TyOf K H (.flt x) (.type "float")
  | lst {a : Addr} {xs : List V} (e : H a = some (.lst xs)) : TyOf K H (.ref a) (.type "list")
  | frz {a : Addr} {o : Obj} {xs : List V} (e : H a = some (.frz o (.lst xs))) : TyOf K H (.ref a) (.type "list")
  | tup {a : Addr} {xs : List V} (e : H a = some (.tup xs)) : TyOf K H (.ref a) (.type "tuple")
  | dK {a : Addr} {kvs : List (Key × V)} (e : H a = some (.dK kvs)) : TyOf K H (.ref a) (.type "dict")
  | dT {a : Addr} {kvs : List (List Key × V)} (e : H a = some (.dT kvs)) : TyOf K H (.ref a) (.type "dict")
  | ins {a C dx : Addr} {fs : List (Str × V)} (e : H a = some (.ins C dx fs)) (cl : Cls K C) (ha : PySem.W.findIn K (.ref C) "__class__" = some (some (.builtin "object.__class__")))
      (hn : PySem.W.specialIn K (.builtin "object.__class__") "__get__" = some (some (.builtin "getset_descriptor.__get__"))) (htk : PySem.W.takesIn K (.builtin "object.__class__") = some true)
      (hm : PySem.W.mroIn K C (.type "object") = some true) : TyOf K H (.ref a) (.ref C)
/-- isinstance(x, c) for one class c, a built-in or an own one: kitOne's answer -/
theorem isinst_ok {x : V} {u t : Value} (I : Inv X pins σ H s) (rx : RelV x u) (ty : TyOf X.K H x t) (e : PySem.W.kitOne X.K t c = some b) (h : ∀ tk, Q (.bool b) { s with toks := tk }) :
    wpAny (model X.prog X.w) A (call (.builtin "isinstance") [u, c]) Q E s := by
  cases ty with
  | non => cases (show u = Value.none from rx); exact PySem.W.kia_one PySem.W.kitx_none I.kIn True.intro e (fun z => nomatch z) h
  | bl y => cases (show u = Value.bool y from rx); exact PySem.W.kia_one PySem.W.kitx_bool I.kIn True.intro e (fun z => nomatch z) h
  | int i => obtain ⟨t, q⟩ := (show ∃ t, u = Value.int i t from rx); cases q; exact PySem.W.kia_one PySem.W.kitx_int I.kIn True.intro e (fun z => nomatch z) h
  | str y => obtain ⟨t, q⟩ := (show ∃ t, u = Value.str y t from rx); cases q; exact PySem.W.kia_one PySem.W.kitx_str I.kIn True.intro e (fun z => nomatch z) h
  | flt y => obtain ⟨t, q⟩ := (show ∃ t, u = Value.float y t from rx); cases q; exact PySem.W.kia_one PySem.W.kitx_float I.kIn True.intro e (fun z => nomatch z) h
  | @lst a xs ea =>
    cases (show u = Value.ref a from rx)
    obtain ⟨_, _, n, _, h1⟩ := (show ObjOk X.prog X.w H s.heap a (.lst xs) from I.hok a _ ea)
    exact PySem.W.kia_one PySem.W.kitx_list I.kIn ⟨_, h1, rfl⟩ e (fun z => nomatch z) h
  | @frz a ob xs ea =>
    cases (show u = Value.ref a from rx)
    obtain ⟨_, _, _, n, _, h1⟩ := (show ObjOk X.prog X.w H s.heap a (.frz ob (.lst xs)) from I.hok a _ ea)
    exact PySem.W.kia_one PySem.W.kitx_list I.kIn ⟨_, h1, rfl⟩ e (fun z => nomatch z) h
  | @tup a xs ea =>
    cases (show u = Value.ref a from rx)
    obtain ⟨_, _, _, p⟩ := (show ObjOk X.prog X.w H s.heap a (.tup xs) from I.hok a _ ea)
    obtain ⟨o, h1, h2, _⟩ := p
    exact PySem.W.kia_one PySem.W.kitx_tuple I.kIn ⟨o, h1, h2⟩ e (fun z => nomatch z) h
  | @dK a kvs ea =>
    cases (show u = Value.ref a from rx)
    obtain ⟨_, _, vs, _, p⟩ := (show ObjOk X.prog X.w H s.heap a (.dK kvs) from I.hok a _ ea)
    obtain ⟨o, es, ep, h1, h2, _⟩ := p
    exact PySem.W.kia_one PySem.W.kitx_dict I.kIn ⟨o, h1, h2.1⟩ e (fun z => nomatch z) h
  | @dT a kvs ea =>
    cases (show u = Value.ref a from rx)
    obtain ⟨_, _, xs, _, o, es, ep, h1, h2, _⟩ := (show ObjOk X.prog X.w H s.heap a (.dT kvs) from I.hok a _ ea)
    exact PySem.W.kia_one PySem.W.kitx_dict I.kIn ⟨o, h1, h2.1⟩ e (fun z => nomatch z) h
  | @ins a C dx fs ea cl ha hn htk hm =>
    cases (show u = Value.ref a from rx)
    obtain ⟨mA, O, _⟩ := ins_get I.hok ea
    obtain ⟨od, J, _⟩ := O.look
    exact PySem.W.kia_one (PySem.W.kitx_own (cl.get _) cl.hd ha hn htk hm) I.kIn J e (fun z => nomatch z) h
end
end L2

namespace L2
open PySem PySem.Spec PyProof.Rows

/-! ### room -/
structure Room (k : Nat) (A : Around) : Prop where
  hd : A.handled = none
  dp : A.depth + 3 * k + 5 < recursionLimit
  un : A.units + 16 * k + 200 < cLine
  gd : A.guards = some [] := by rfl
theorem Room.mono {j k : Nat} {A : Around} (r : Room k A) (h : j ≤ k) : Room j A := ⟨r.hd, by have := r.dp; omega, by have := r.un; omega, r.gd⟩
theorem Room.deeper {k : Nat} {A : Around} (r : Room (k + 1) A) (env : Env) : Room k (A.deeper env) :=
  ⟨r.hd, by have := r.dp; show A.depth + 1 + 3 * k + 5 < _; omega, by have := r.un; show A.units + 3 + 16 * k + 200 < _; omega, r.gd⟩
theorem make_depth {A : Around} {C : Addr} {us : List Value} {kw : List (Str × Value)} : (A.under (.builtin "type.__call__" ⟨.ref C :: us, kw⟩)).depth = A.depth + 1 := by
  first | rfl | simp [Around.under, Code.weight, Code.isCreation, Code.isGuard, Code.isCaller, Code.frames, Code.isFrame, guardIds]
theorem make_units {A : Around} {C : Addr} {us : List Value} {kw : List (Str × Value)} : (A.under (.builtin "type.__call__" ⟨.ref C :: us, kw⟩)).units = A.units + 1 := by
  first | rfl | simp [Around.under, Code.cUnits, Code.frames, Code.isFrame]
theorem Room.make {k : Nat} {A : Around} (r : Room (k + 1) A) (C : Addr) (us : List Value) (kw : List (Str × Value)) : Room k (A.under (.builtin "type.__call__" ⟨.ref C :: us, kw⟩)) :=
  ⟨r.hd, by have := r.dp; rw [make_depth]; omega, by have := r.un; rw [make_units]; omega, by have := r.gd; first | exact this | simp [Around.under, Code.weight, Code.isCreation, Code.isGuard, Code.isCaller, Code.frames, Code.isFrame, guardIds, this]⟩
theorem Room.depth {k : Nat} {A : Around} (r : Room k A) : A.depth < recursionLimit := by have := r.dp; omega
theorem Room.units {k : Nat} {A : Around} (r : Room k A) : A.units + 64 < cLine := by have := r.un; omega
/-! ### argument lists and displays -/
def tNil : TA := fun _ H Q => Q [] H
def tCons (ta : TE) (tr : TA) : TA := fun σ H Q => ta σ H fun x H1 => tr σ H1 fun xs H2 => Q (x :: xs) H2
section
variable {X : Cx} {e : Expr} {es : List Expr} {te : TE} {t : TA} {pos : Pos}
theorem pa_nil : PA X [] tNil := fun _ _ _ _ H Q I h => Calls.spliced_nil ⟨[], H, I, .nil, h⟩
theorem pa_cons (ha : PE X e te) (hr : PA X es t) (hs : starEach (e :: es) X.env = (false, eval e X.env) :: starEach es X.env := by rfl) : PA X (e :: es) (tCons te t) := by
  intro pos pins s σ H Q I h
  rw [hs]
  show wpAny _ _ (spliced ((false, eval e X.env) :: backTo pos (starEach es X.env))) _ _ s
  refine Calls.spliced_cons (thn (ha pins s σ H _ I h) fun u s1 ⟨x, H1, I1, r1, q1⟩ => ?_)
  exact thn (hr pos pins s1 σ H1 _ I1 q1) fun us s2 ⟨xs, H2, I2, r2, q2⟩ => ⟨x :: xs, H2, I2, .cons r1 r2, q2⟩

/-- a tuple, a list of written items -/
def tTup (t : TA) : TE := fun σ H Q => t σ H fun xs H1 => xs.length ≤ sizeLine ∧ ∀ p, H1 p = none → Q (.ref p) (upd H1 p (.tup xs))
def tLst (t : TA) : TE := fun σ H Q => t σ H fun xs H1 => xs.length ≤ sizeLine ∧ ∀ p, H1 p = none → Q (.ref p) (upd H1 p (.lst xs))
theorem pe_tup {x1} (h : PA X es t) : PE X (.Tuple es x1 pos) (tTup t) := by
  intro pins s σ H Q I hq
  refine wpAny_Tuple_spliced (thn (h pos pins s σ H _ I hq) fun us s1 ⟨xs, H1, I1, r, z, q⟩ => ⟨by rw [← r.length]; exact z, ?_⟩)
  have hf : H1 s1.heap.objs.size = none := I1.hok.fresh (Nat.le_refl _)
  refine ⟨.ref s1.heap.objs.size, upd H1 s1.heap.objs.size (.tup xs), I1.laid (t' := s1.toks) (fun b u e => Heap.get?_push_of_some _ e) (Nat.le_refl _) ?_, rfl, q _ hf⟩
  exact ⟨z, us, r, ⟨_, Heap.get?_push_size _ rfl, rfl, _, rfl⟩⟩
theorem pe_lst (h : PA X es t) : PE X (.List es pos) (tLst t) := by
  intro pins s σ H Q I hq
  refine wpAny_List_spliced (thn (h pos pins s σ H _ I hq) fun us s1 ⟨xs, H1, I1, r, z, q⟩ => ⟨by rw [← r.length]; exact z, ?_⟩)
  have hf : H1 s1.heap.objs.size = none := I1.hok.fresh (Nat.le_refl _)
  refine ⟨.ref s1.heap.objs.size, upd H1 s1.heap.objs.size (.lst xs), I1.laid (t' := s1.toks) (fun b u e => Heap.get?_push_of_some _ e) (Nat.le_refl _) ?_, rfl, q _ hf⟩
  exact ⟨z, us, 0, r, Heap.get?_push_size _ rfl⟩
end

/-! ### what a def promises -/
/-- a def's promise: the bound arguments in the parameters' order, the heap, the wanted end, the wanted exception -/
abbrev Sp := List V → Hp → VK → XK → Prop
/-- how an exception lies behind a call (file 08 gives it): the callers' frames, abstract heap and state ahead of the call, the wish, the exception, the state -/
abbrev CXT := List Env → Hp → Shared → XK → Value → Shared → Prop

/-- the state at a call -/
structure Env0 (P : Program) (w : World) (K : PySem.W.Frag) (mg : Str → Option Value) (base : Heap) (A : Around) (outer : List Env) (s : Shared) (H : Hp) : Prop where
  frames : A.frames = some outer
  mod : Mod K mg base
  bs : ∀ b o, base.get? b = some o → s.heap.get? b = some o ∧ H b = none
  bsz : base.objs.size ≤ s.heap.objs.size
  funs : s.heap.FunFrames base outer
  frf : ∀ b ∈ frs outer, H b = none
  hok : HOk P w H s.heap
  bare : AllBare s.gens
/-- a call's end -/
def CE (outer : List Env) (P : Program) (w : World) (H : Hp) (s : Shared) (Q : VK) (u : Value) (s' : Shared) : Prop :=
  ∃ v H', s'.os = s.os ∧ AllBare s'.gens ∧ Un (frs outer) [] H H' s.heap s'.heap ∧ HOk P w H' s'.heap ∧ RelV v u ∧ Q v H'
def CR (CX : CXT) (outer : List Env) (P : Program) (w : World) (H : Hp) (s : Shared) (Q : VK) (E : XK) (r : Result) (s' : Shared) : Prop :=
  match r with
  | .ok (.ret u) => CE outer P w H s Q u s'
  | .ok _ => False
  | .error e => CX outer H s E e s'
structure FnOk (P : Program) (w : World) (K : PySem.W.Frag) (mg : Str → Option Value) (base : Heap) (CX : CXT) (k : Nat) (f : Addr) (fd : FuncData) (ps : List Str) (sp : Sp) : Prop where
  len : ∀ vs H Q E, sp vs H Q E → vs.length = ps.length
  run : ∀ (A : Around) (outer : List Env) (s : Shared) (H : Hp) (args : Args) (us : List Value) (vs : List V) (Q : VK) (E : XK), Room k A → Env0 P w K mg base A outer s H → BindsTo s fd args (ps.zip us) → Vals vs us → sp vs H Q E →
    codeAny (model P w) A (.call (.ref f) args) (CR CX outer P w H s Q E) s
theorem FnOk.mono {P : Program} {w : World} {K : PySem.W.Frag} {mg : Str → Option Value} {base : Heap} {CX : CXT} {j k : Nat} {f : Addr} {fd : FuncData} {ps : List Str} {sp : Sp} (F : FnOk P w K mg base CX j f fd ps sp) (h : j ≤ k) :
    FnOk P w K mg base CX k f fd ps sp := ⟨F.len, fun A outer s H args us vs Q E hr => F.run A outer s H args us vs Q E (hr.mono h)⟩
theorem Env0.make {P : Program} {w : World} {K : PySem.W.Frag} {mg : Str → Option Value} {base : Heap} {A : Around} {outer : List Env} {s : Shared} {H : Hp} (e : Env0 P w K mg base A outer s H) (C : Addr) (us : List Value) (kw : List (Str × Value)) :
    Env0 P w K mg base (A.under (.builtin "type.__call__" ⟨.ref C :: us, kw⟩)) outer s H := ⟨by first | exact e.frames | (simpa [Around.under, Code.envs, Code.isFrame, pushEnvs] using e.frames), e.mod, e.bs, e.bsz, e.funs, e.frf, e.hok, e.bare⟩
section
variable {X : Cx} {pins : List (Addr × Obj)} {σ : St} {H : Hp} {s s' : Shared}
/-- from a body: what a callee wants -/
theorem Inv.env0 (I : Inv X pins σ H s) : Env0 X.prog X.w X.K X.mg X.base X.A X.stack s H :=
  ⟨I.ok.frames, I.ok.mod, I.bs, Nat.le_trans I.ok.bsz I.sz, I.stack, I.stkFree, I.hok, I.bare⟩
/-- behind a call -/
theorem Inv.after {Q : VK} {u : Value} (I : Inv X pins σ H s) (h : CE X.stack X.prog X.w H s Q u s') : EP X pins σ Q u s' := by
  obtain ⟨v, H', os, bare, un, hok, r, q⟩ := h
  obtain ⟨hh, g, d, t, os'⟩ := s'
  obtain rfl : os' = s.os := os
  exact ⟨v, H', I.call (h' := hh) (g' := g) (d' := d) (t' := t) (ch := []) un hok bare (fun b z => absurd z (by simp)), r, q⟩
end

/-! ### calls -/
/-- f(..): the written arguments, then the defaults dvs; E: what is wanted of an exception -/
def tCall (sp : Sp) (dvs : List V) (E : XK) (t : TA) : TE := fun σ H Q => t σ H fun vs H1 => sp (vs ++ dvs) H1 Q E
/-- o.m(..) of an instance of the class at C -/
def tMeth (C : Addr) (m : Str) (sp : Sp) (dvs : List V) (E : XK) (ta : TE) (t : TA) : TE := fun σ H Q => ta σ H fun x H1 => ∃ a dx fs, x = .ref a ∧ H1 a = some (.ins C dx fs) ∧ fs.lookup m = none ∧
  t σ H1 fun vs H2 => sp (x :: (vs ++ dvs)) H2 Q E
/-- C(..): a new instance and its dict, then __init__ -/
def tMake (C : Addr) (sp : Sp) (dvs : List V) (E : XK) (t : TA) : TE := fun σ H Q => t σ H fun vs H1 => ∀ x dx, H1 x = none → H1 dx = none → dx ≠ x →
  sp (.ref x :: (vs ++ dvs)) (upd (upd H1 dx (.own x)) x (.ins C dx [])) (fun v H2 => v = .non ∧ Q (.ref x) H2) E

/-- how the parameters are bound: us the positional arguments, kw the keywords' values by name, ds the defaults that fill up -/
def Binds (K : PySem.W.Frag) (fd : FuncData) (ps : List Str) (ds : List Value) : Prop :=
  ∀ (s : Shared) (us : List Value), K.In s.heap → (us ++ ds).length = ps.length → BindsTo s fd ⟨us, []⟩ (ps.zip (us ++ ds))
/-- every parameter is given -/
theorem Binds.all {K : PySem.W.Frag} {fd : FuncData} {ps : List Str} (h : ∀ us : List Value, us.length = ps.length → bindArgs fd ⟨us, []⟩ = pure (ps.zip us)) : Binds K fd ps [] := fun s us _ hl => by
  rw [List.append_nil] at hl ⊢
  exact .of_eq (h us hl)

/-- an exception of a callee reaches what this body wants of exceptions -/
def Passes (CX : CXT) (X : Cx) (E : XK) : Prop := ∀ (pins : List (Addr × Obj)) (σ : St) (H : Hp) (s : Shared) (e : Value) (s' : Shared), Inv X pins σ H s → CX X.stack H s E e s' → X.xe e s'

section
variable {X : Cx} {CX : CXT} {k : Nat} {f C : Addr} {fd : FuncData} {ps : List Str} {sp : Sp} {dvs : List V} {ds : List Value} {E : XK} {x m : Str} {p pos apos : Pos} {e o : Expr} {es : List Expr} {ta : TE} {t : TA}

/-- the callee runs -/
theorem run_fn {pins : List (Addr × Obj)} {σ : St} {H : Hp} {s : Shared} {Q : VK} {us : List Value} {vs : List V} (F : FnOk X.prog X.w X.K X.mg X.base CX k f fd ps sp) (hr : Room k X.A) (hb : Binds X.K fd ps ds) (hd : Vals dvs ds) (hx : Passes CX X E)
    (I : Inv X pins σ H s) (r : Vals vs us) (h : sp (vs ++ dvs) H Q E) : wpAny (model X.prog X.w) X.A (call (.ref f) us) (EP X pins σ Q) X.xe s := by
  have r2 : Vals (vs ++ dvs) (us ++ ds) := r.append hd
  have hl : (us ++ ds).length = ps.length := by rw [← r2.length]; exact F.len _ _ _ _ h
  refine wpAny_call (codeAny_mono (F.run X.A X.stack s H ⟨us, []⟩ (us ++ ds) (vs ++ dvs) Q E hr I.env0 (hb s us I.kIn hl) r2 h) fun r s' hq => ?_)
  cases r with
  | error e => exact hx pins σ H s e s' I hq
  | ok fl =>
    cases fl with
    | ret u => exact I.after hq
    | next => exact False.elim hq
    | brk => exact False.elim hq
    | cont => exact False.elim hq

theorem pe_call (F : FnOk X.prog X.w X.K X.mg X.base CX k f fd ps sp) (hr : Room k X.A) (hg : Gl X x) (hm : X.mg x = some (.ref f)) (hk : PySem.W.keepIn X.K (.ref f) = true) (hb : Binds X.K fd ps ds) (hd : Vals dvs ds) (hx : Passes CX X E)
    (ha : PA X (e :: es) t) (hdb : (x == ("__debug__" : Str)) = false := by decide) (he : starEach (e :: es) X.env = (false, eval e X.env) :: starEach es X.env := by rfl) (hpl : (backTo pos (starEach es X.env)).any (·.1) = false := by rfl) :
    PE X (.Call (.Name x p) (e :: es) [] pos) (tCall sp dvs E t) := by
  intro pins s σ H Q I h
  refine wpAny_Call_Name_kw (ld_glob I hg hm ?_ hdb)
  refine PySem.W.callWith_K (h₀ := X.base) I.ok.mod.kin hk (thn (ha pos pins s σ H _ I h) fun us s1 ⟨vs, H1, I1, r, q⟩ => ⟨I1.kIn, ?_⟩) he hpl
  exact run_fn F hr hb hd hx I1 r q
/-- o.m(e, ..) -/
theorem pe_meth {pl : Sem Bool} (he : PE X o ta) (c : Cls X.K C) (hm : Meth X.K C m f) (F : FnOk X.prog X.w X.K X.mg X.base CX k f fd ps sp) (hr : Room k X.A) (hb : Binds X.K fd ps ds) (hd : Vals dvs ds) (hx : Passes CX X E) (ha : PA X (e :: es) t)
    (hst : starEach (e :: es) X.env = (false, eval e X.env) :: starEach es X.env := by rfl) (hpl : (backTo pos (starEach es X.env)).any (·.1) = false := by rfl)
    (ht : eval (.Call (.Attribute o m apos) (e :: es) [] pos) X.env = (do
      let ov ← eval o X.env
      standAt apos.atName
      let (f, first) ← holding [ov] (getMethod ov m pl)
      callWith pos f first (backTo pos (starEach (e :: es) X.env)) (backToKw pos (keywordEach [] X.env))) := by rfl) :
    PE X (.Call (.Attribute o m apos) (e :: es) [] pos) (tMeth C m sp dvs E ta t) := by
  intro pins s σ H Q I h
  refine PySem.W.methodCall_KW (pl := pl) (thn (he pins s σ H _ I h) fun u s1 ⟨x, H1, I1, rx, a, dx, fs, ex, ea, l, q⟩ => ?_) ht
  subst ex
  obtain rfl : u = Value.ref a := rx
  refine getmeth_ok I1 ea c hm l ?_
  refine PySem.W.callWith_K (first := [.ref a]) (h₀ := X.base) I.ok.mod.kin hm.kp (thn (ha pos pins s1 σ H1 _ I1 q) fun us s2 ⟨vs, H2, I2, r, q2⟩ => ⟨I2.kIn, ?_⟩) hst hpl
  exact run_fn (us := .ref a :: us) (vs := .ref a :: vs) F hr hb hd hx I2 (.cons rfl r) q2
/-- o.m() -/
theorem pe_meth0 {pl : Sem Bool} (he : PE X o ta) (c : Cls X.K C) (hm : Meth X.K C m f) (F : FnOk X.prog X.w X.K X.mg X.base CX k f fd ps sp) (hr : Room k X.A) (hb : Binds X.K fd ps ds) (hd : Vals dvs ds) (hx : Passes CX X E)
    (ht : eval (.Call (.Attribute o m apos) [] [] pos) X.env = (do
      let ov ← eval o X.env
      standAt apos.atName
      let (f, first) ← holding [ov] (getMethod ov m pl)
      callWith pos f first (backTo pos (starEach [] X.env)) (backToKw pos (keywordEach [] X.env))) := by rfl) :
    PE X (.Call (.Attribute o m apos) [] [] pos) (tMeth C m sp dvs E ta tNil) := by
  intro pins s σ H Q I h
  refine PySem.W.methodCall_KW (pl := pl) (thn (he pins s σ H _ I h) fun u s1 ⟨x, H1, I1, rx, a, dx, fs, ex, ea, l, q⟩ => ?_) ht
  subst ex
  obtain rfl : u = Value.ref a := rx
  refine getmeth_ok I1 ea c hm l ?_
  exact PySem.W.callWith_K0 (first := [.ref a]) I1.kIn hm.kp (run_fn (us := [.ref a]) (vs := [.ref a]) F hr hb hd hx I1 (.cons rfl .nil) q)

/-- what a class must have to be made -/
structure Mk (K : PySem.W.Frag) (C f : Addr) : Prop where
  makes : PySem.W.makesIn K C = true
  init : PySem.W.findIn K (.ref C) "__init__" = some (some (.ref f))
  fn : PySem.W.isFn K (.ref f) = true
  kp : PySem.W.keepIn K (.ref C) = true

theorem run_make {pins : List (Addr × Obj)} {σ : St} {H : Hp} {s : Shared} {Q : VK} {us : List Value} {vs : List V} (M : Mk X.K C f) (F : FnOk X.prog X.w X.K X.mg X.base CX k f fd ps sp) (hr : Room (k + 1) X.A) (hb : Binds X.K fd ps ds) (hd : Vals dvs ds)
    (hx : Passes CX X E) (I : Inv X pins σ H s) (r : Vals vs us)
    (h : ∀ x dx, H x = none → H dx = none → dx ≠ x → sp (.ref x :: (vs ++ dvs)) (upd (upd H dx (.own x)) x (.ins C dx [])) (fun v H2 => v = .non ∧ Q (.ref x) H2) E) :
    wpAny (model X.prog X.w) X.A (call (.ref C) us) (EP X pins σ Q) X.xe s := by
  have hq := h (s.heap.objs.size + 1) s.heap.objs.size (I.hok.fresh (Nat.le_succ _)) (I.hok.fresh (Nat.le_refl _)) (Nat.ne_of_lt (Nat.lt_succ_self _))
  have I2 := Inv.made (C := C) I
  have r2 : Vals (V.ref (s.heap.objs.size + 1) :: (vs ++ dvs)) (Value.ref (s.heap.objs.size + 1) :: (us ++ ds)) := .cons rfl (r.append hd)
  have hl : (Value.ref (s.heap.objs.size + 1) :: us ++ ds).length = ps.length := by
    have e := r2.length
    rw [F.len _ _ _ _ hq] at e
    exact e.symm
  refine wpAny_call (make_map (f := f) I.kIn M.makes M.init (beq_iff_eq.mp M.fn) (codeAny_mono (F.run _ X.stack _ _ ⟨Value.ref (s.heap.objs.size + 1) :: us, []⟩ (Value.ref (s.heap.objs.size + 1) :: (us ++ ds)) _ _ E (hr.make C us [])
    (I2.env0.make C us []) (hb _ (Value.ref (s.heap.objs.size + 1) :: us) I2.kIn hl) r2 hq) fun r s' hq' => ?_))
  cases r with
  | error e => exact hx pins σ _ _ e s' I2 hq'
  | ok fl =>
    cases fl with
    | ret u =>
      obtain ⟨v, H', I3, rv, ev, q3⟩ := I2.after hq'
      subst ev
      exact ⟨rv, ⟨V.ref (s.heap.objs.size + 1), H', I3, rfl, q3⟩⟩
    | next => exact False.elim hq'
    | brk => exact False.elim hq'
    | cont => exact False.elim hq'
theorem pe_make (M : Mk X.K C f) (F : FnOk X.prog X.w X.K X.mg X.base CX k f fd ps sp) (hr : Room (k + 1) X.A) (hg : Gl X x) (hm : X.mg x = some (.ref C)) (hb : Binds X.K fd ps ds) (hd : Vals dvs ds) (hx : Passes CX X E)
    (ha : PA X (e :: es) t) (hdb : (x == ("__debug__" : Str)) = false := by decide) (he : starEach (e :: es) X.env = (false, eval e X.env) :: starEach es X.env := by rfl) (hpl : (backTo pos (starEach es X.env)).any (·.1) = false := by rfl) :
    PE X (.Call (.Name x p) (e :: es) [] pos) (tMake C sp dvs E t) := by
  intro pins s σ H Q I h
  refine wpAny_Call_Name_kw (ld_glob I hg hm ?_ hdb)
  refine PySem.W.callWith_K (h₀ := X.base) I.ok.mod.kin M.kp (thn (ha pos pins s σ H _ I h) fun us s1 ⟨vs, H1, I1, r, q⟩ => ⟨I1.kIn, ?_⟩) he hpl
  exact run_make M F hr hb hd hx I1 r q
end

/-! ### keywords -/
/-- the values of the keywords, from the left -/
def PK (X : Cx) (kws : List Keyword) (t : TA) : Prop :=
  ∀ (pos : Pos) (pins : List (Addr × Obj)) (s : Shared) (σ : St) (H : Hp) (Q : List V → Hp → Prop), Inv X pins σ H s → t σ H Q → wpAny (model X.prog X.w) X.A (evalAll ((backToKw pos (keywordEach kws X.env)).map (·.2))) (AP X pins σ Q) X.xe s
section
variable {X : Cx} {CX : CXT} {k : Nat} {f C : Addr} {fd : FuncData} {ps ks : List Str} {sp : Sp} {E : XK} {x m : Str} {p pos apos kpos : Pos} {e o : Expr} {es : List Expr} {kws : List Keyword} {te ta : TE} {t tk : TA} {nm : Option Str}
/-- how a call with keywords binds: g puts the positional values us and the keywords' values ws (names ks) in the parameters' order, defaults among them -/
structure KBinds (K : PySem.W.Frag) (fd : FuncData) (ps ks : List Str) (g : List Value → List Value → List Value) (gV : List V → List V → List V) : Prop where
  to : ∀ (s : Shared) (us ws : List Value), K.In s.heap → (g us ws).length = ps.length → BindsTo s fd ⟨us, ks.zip ws⟩ (ps.zip (g us ws))
  rel : ∀ {vs : List V} {us : List Value} {zs : List V} {ws : List Value}, Vals vs us → Vals zs ws → Vals (gV vs zs) (g us ws)
def tCallK (sp : Sp) (gV : List V → List V → List V) (E : XK) (t tk : TA) : TE := fun σ H Q => t σ H fun vs H1 => tk σ H1 fun zs H2 => sp (gV vs zs) H2 Q E
variable {g : List Value → List Value → List Value} {gV : List V → List V → List V}
end

/-! ### a def's body keeps its promise -/
/-- names: the parameters first -/
structure FnScope (N P : List Str) (sc : Scope) : Prop where
  kind : sc.kind = .function
  co : sc.isCoroutine = false
  gen : sc.isGenerator = false
  nd : N.Nodup
  pre : N.take P.length = P
  par : ∀ x ∈ P, sc.names.lookup x = some .local ∨ sc.names.lookup x = some .cell
  nofree : ∀ y ∈ sc.names, y.2 ≠ .free

theorem bindL_out {kindOf : Str → Option NameKind} {x : Str} : ∀ {binds : List (Str × Value)} {m : Str → Option Value}, (∀ v, (x, v) ∉ binds) → bindL kindOf binds m x = m x
  | [], _, _ => rfl
  | (n, v) :: r, m, h => by
    unfold bindL
    rw [bindL_out fun w hw => h w (List.mem_cons_of_mem _ hw)]
    split
    · have : x ≠ n := by rintro rfl; exact h v List.mem_cons_self
      simp [this]
    · rfl
theorem bindC_out {kindOf : Str → Option NameKind} {x : Str} : ∀ {binds : List (Str × Value)} {m : Str → Option Value}, (∀ v, (x, v) ∉ binds) → bindC kindOf binds m x = m x
  | [], _, _ => rfl
  | (n, v) :: r, m, h => by
    unfold bindC
    rw [bindC_out fun w hw => h w (List.mem_cons_of_mem _ hw)]
    split
    · rfl
    · have : x ≠ n := by rintro rfl; exact h v List.mem_cons_self
      simp [this]
theorem bindL_get {kindOf : Str → Option NameKind} {x : Str} {v : Value} : ∀ {P : List Str} {vs : List Value} {i : Nat} {m : Str → Option Value}, P.Nodup → P[i]? = some x → vs[i]? = some v → kindOf x = some .local →
    bindL kindOf (P.zip vs) m x = some v
  | [], _, _, _, _, h, _, _ => by simp at h
  | _ :: _, [], _, _, _, _, h, _ => by simp at h
  | p :: P, w :: vs, 0, m, nd, h1, h2, hk => by
    simp at h1 h2; subst h1; subst h2
    show bindL kindOf ((p, w) :: P.zip vs) m p = _
    unfold bindL
    rw [bindL_out fun v hv => (List.nodup_cons.mp nd).1 (List.of_mem_zip hv).1, if_pos hk]
    simp
  | p :: P, w :: vs, i + 1, m, nd, h1, h2, hk => by
    show bindL kindOf ((p, w) :: P.zip vs) m x = _
    unfold bindL
    exact bindL_get (i := i) (List.nodup_cons.mp nd).2 (by simpa using h1) (by simpa using h2) hk
theorem bindC_get {kindOf : Str → Option NameKind} {x : Str} {v : Value} : ∀ {P : List Str} {vs : List Value} {i : Nat} {m : Str → Option Value}, P.Nodup → P[i]? = some x → vs[i]? = some v → kindOf x ≠ some .local →
    bindC kindOf (P.zip vs) m x = some v
  | [], _, _, _, _, h, _, _ => by simp at h
  | _ :: _, [], _, _, _, _, h, _ => by simp at h
  | p :: P, w :: vs, 0, m, nd, h1, h2, hk => by
    simp at h1 h2; subst h1; subst h2
    show bindC kindOf ((p, w) :: P.zip vs) m p = _
    unfold bindC
    rw [bindC_out fun v hv => (List.nodup_cons.mp nd).1 (List.of_mem_zip hv).1, if_neg hk]
    simp
  | p :: P, w :: vs, i + 1, m, nd, h1, h2, hk => by
    show bindC kindOf ((p, w) :: P.zip vs) m x = _
    unfold bindC
    exact bindC_get (i := i) (List.nodup_cons.mp nd).2 (by simpa using h1) (by simpa using h2) hk

/-- the names' values at the entry -/
def start (N : List Str) (vs : List V) : St := vs.map some ++ List.replicate (N.length - vs.length) none

/-- the context of a def's body, at its entry; an exception leaves the frame, then lies as CX says -/
def cxOf (CX : CXT) (P : Program) (w : World) (K : PySem.W.Frag) (mg : Str → Option Value) (base : Heap) (N : List Str) (qual : Str) (scope : Scope) (f : Addr) (cd : Value) (A : Around) (outer : List Env) (s : Shared) (H : Hp) (E : XK) : Cx where
  prog := P
  w := w
  K := K
  mg := mg
  base := base
  A := A.deeper (envOfC qual scope s.heap.objs.size f cd)
  N := N
  s₀ := s
  H₀ := H
  env := envOfC qual scope s.heap.objs.size f cd
  outer := outer
  stack := envOfC qual scope s.heap.objs.size f cd :: outer
  ex := []
  calm := true
  fn := fun _ => true
  pn := []
  xe := fun e s' => wpAny (model P w) (A.deeper (envOfC qual scope s.heap.objs.size f cd)) (leaving (envOfC qual scope s.heap.objs.size f cd) e) (fun _ s'' => CX outer H s E e s'') (fun e' s'' => CX outer H s E e' s'') s'

theorem cell_has {sc : Scope} {n : Nat} {x : Str} (h : sc.names.lookup x = some .cell) : ∃ c, (cellsFrom n sc.names []).lookup x = some c := by
  have q := PySem.W.cellsFrom_some sc.names n [] (.inl h)
  exact Option.isSome_iff_exists.mp q

theorem inv_start {CX : CXT} {P : Program} {w : World} {K : PySem.W.Frag} {mg : Str → Option Value} {base : Heap} {N ps : List Str} {qual : Str} {scope : Scope} {f : Addr} {cd : Value} {A : Around} {outer : List Env} {s s1 : Shared} {H : Hp} {E : XK} {us : List Value} {vs : List V}
    (S : FnScope N ps scope) (hd : A.handled = none) (e0 : Env0 P w K mg base A outer s H) (hl : vs.length = ps.length) (r : Vals vs us)
    (x : InCallC s s.heap.objs.size (bindL (envOfC qual scope s.heap.objs.size f cd).kindOf (ps.zip us) fun _ => none) (cellsFrom (s.heap.objs.size + 1) scope.names []) (bindC (envOfC qual scope s.heap.objs.size f cd).kindOf (ps.zip us) fun _ => none) s1) :
    Inv (cxOf CX P w K mg base N qual scope f cd A outer s H E) [] (start N vs) H s1 := by
  have hpl : ps.length ≤ N.length := by have := congrArg List.length S.pre; rw [List.length_take] at this; omega
  obtain ⟨h1, tk, rfl, hk⟩ := x.done
  have noA : ∀ b : Addr, b ∉ (cxOf CX P w K mg base N qual scope f cd A outer s H E).ex := fun b z => absurd (show b ∈ ([] : List Addr) from z) (by simp)
  refine ⟨⟨e0.mod, S.kind, rfl, rfl, Nat.le_refl _, fun y z c h1 h2 => ?_, fun y hy => ?_, fun y c _ h => ?_, fun _ => hd, Around.frames_deeper e0.frames, .inr ⟨rfl, rfl⟩, fun b z => absurd z (noA b), e0.bs, e0.bsz, fun b _ _ => noA b, fun b z => absurd z (noA b), e0.funs, e0.frf⟩,
    rfl, e0.bare, Un.kept hk, ⟨_, x.toInCall.ns, fun i y v h1 h2 h3 => ?_⟩, fun y c h => ⟨_, x.cell y c h⟩, e0.hok.fresh (Nat.le_refl _), fun y c h => ?_, fun p hp => absurd (show p ∈ ([] : List (Addr × Obj)) from hp) (by simp), e0.hok.kept hk, ?_⟩
  · exact name_of_addr x.apart (PySem.mem_of_lookup h1) (PySem.mem_of_lookup h2)
  · have hy : scope.names.lookup y = some .cell ∨ scope.names.lookup y = some .free := hy
    rcases hy with hy | hy
    · exact cell_has hy
    · exact absurd rfl (S.nofree _ (PySem.mem_of_lookup hy))
  · exact Nat.le_of_lt (x.above y c (PySem.mem_of_lookup h))
  · have hi : i < vs.length := by
      unfold start at h2
      by_cases hi : i < vs.length
      · exact hi
      · rw [List.getElem?_append_right (by simpa using hi)] at h2
        rw [List.getElem?_replicate] at h2
        split at h2 <;> cases h2
    have ha : vs[i]? = some v := by
      unfold start at h2
      rw [List.getElem?_append_left (by simpa using hi), List.getElem?_map] at h2
      cases e : vs[i]? with
      | none => rw [e] at h2; cases h2
      | some a => rw [e] at h2; cases h2; rfl
    obtain ⟨u, hu, rv⟩ := r.get ha
    have hp : ps[i]? = some y := by
      rw [← S.pre, List.getElem?_take_of_lt (by omega)]; exact h1
    have ndP : ps.Nodup := by rw [← S.pre]; exact S.nd.sublist (List.take_sublist _ _)
    refine ⟨u, rv, ?_⟩
    rcases S.par y (List.mem_of_getElem? hp) with k | k
    · exact .inl ⟨k, bindL_get ndP hp hu k⟩
    · obtain ⟨c, e⟩ := cell_has (n := s.heap.objs.size + 1) k
      refine .inr ⟨.inl k, c, e, ?_⟩
      have q := x.cell y c e
      rw [bindC_get ndP hp hu (by show scope.names.lookup y ≠ _; rw [k]; decide)] at q
      exact q
  · exact e0.hok.fresh (Nat.le_of_lt (x.above y c (PySem.mem_of_lookup h)))
  · unfold start
    show _ = N.length
    rw [List.length_append, List.length_map, List.length_replicate]
    omega

/-- THE RULE: a def (or a method) of the text, by its body. The body's reading t is chosen for each entry; it is run at the parameters' values -/
theorem fn_of {CX : CXT} {P : Program} {w : World} {K : PySem.W.Frag} {mg : Str → Option Value} {base : Heap} {k : Nat} {f : Addr} {name qual : Str} {params : Arguments} {body : List Stmt} {scope : Scope} {dV kV doc pm cdv ct oc : Value} {an od : Option Addr}
    {osl : Array (Option Value)} {N ps : List Str} {sp : Sp} (lk : K.lookup f = some ⟨oc, od, .func (PySem.W.fnOf name qual params body scope dV kV doc pm an cdv ct), osl⟩) (hcd : PySem.W.codeIn K cdv qual = true) (S : FnScope N ps scope)
    (len : ∀ vs H Q E, sp vs H Q E → vs.length = ps.length)
    (hbody : ∀ (A : Around) (outer : List Env) (s : Shared) (H : Hp) (vs : List V) (Q : VK) (E : XK), Room k (A.deeper (envOfC qual scope s.heap.objs.size f cdv)) → sp vs H Q E →
      ∃ t, PSs (cxOf CX P w K mg base N qual scope f cdv A outer s H E) body t ∧ t { nx := fun _ H' => Q .non H', rt := Q } (start N vs) H) :
    FnOk P w K mg base CX (k + 1) f (PySem.W.fnOf name qual params body scope dV kV doc pm an cdv ct) ps sp := by
  refine ⟨len, fun A outer s H args us vs Q E hr e0 hb r hsp => ?_⟩
  have hl := len _ _ _ _ hsp
  have KX : K.In s.heap := e0.mod.kin.keeps fun b o e => (e0.bs b o e).1
  have lim : s.heap.NoLimit := e0.mod.nolimit.keeps fun b o e => (e0.bs b o e).1
  have hkind : ∀ y ∈ ps.zip us, scope.names.lookup y.1 = some .local ∨ (scope.names.lookup y.1 = some .cell ∧ ((cellsFrom (s.heap.objs.size + 1) scope.names []).lookup y.1).isSome = true) := fun ⟨n, v⟩ hy => by
    rcases S.par n (List.of_mem_zip hy).1 with q | q
    · exact .inl q
    · exact .inr ⟨q, PySem.W.cellsFrom_some _ _ _ (.inl q)⟩
  refine codeAny_call_function hr.depth (KX _ _ lk) rfl S.co S.gen rfl (PySem.W.codeRec_of KX hcd) (hb _ _ _ _ ?_)
  refine wpAny_newFunctionEnv_cells S.kind hkind fun env he s1 x => ?_
  subst he
  refine ⟨lim.keeps x.toInCall.keep, codeAny_func ?_⟩
  obtain ⟨t, ht, hq⟩ := hbody A outer s H vs Q E (hr.deeper _) hsp
  have I : Inv (cxOf CX P w K mg base N qual scope f cdv A outer s H E) [] (start N vs) H s1 := inv_start S hr.hd e0 hl r x
  refine wpAny_mono (ht [] s1 (start N vs) H _ I hq) (fun fl s' hs => ?_) fun e s' hs => hs
  have fin : ∀ {σ' : St} {H' : Hp} {v : V} {u : Value}, Inv (cxOf CX P w K mg base N qual scope f cdv A outer s H E) [] σ' H' s' → RelV v u → Q v H' → CE outer P w H s Q u s' :=
    fun {σ' H' v u} J rv q => ⟨v, H', J.os, J.bare, J.base, J.hok, rv, q⟩
  cases fl with
  | ret u =>
    obtain ⟨v, σ', H', J, rv, q⟩ := hs
    exact fin J rv q
  | next =>
    obtain ⟨σ', H', J, q⟩ := hs
    exact fin (v := V.non) (u := Value.none) J rfl q
  | brk =>
    obtain ⟨_, _, _, q⟩ := hs
    exact False.elim q
  | cont =>
    obtain ⟨_, _, _, q⟩ := hs
    exact False.elim q
end L2

namespace L2
open PySem PySem.Spec PyProof.Rows
section
variable {X : Cx} {x : Str} {p pos : Pos} {e : Expr} {es : List Expr} {t : TA} {id T : String} {r : List V → Hp → VK → Prop}

def tCB (r : List V → Hp → VK → Prop) (t : TA) : TE := fun σ H Q => t σ H fun vs H1 => r vs H1 Q
/-- f(e, ..), f a built-in function -/
theorem pe_callB (hc : CallR X (.builtin id) r) (hg : Gl X x) (hm : X.mg x = none) (hv : bootBuiltins x = some (.builtin id)) (ha : PA X (e :: es) t) (hn : x ≠ "__name__" := by decide) (hdb : (x == ("__debug__" : Str)) = false := by decide)
    (he : starEach (e :: es) X.env = (false, eval e X.env) :: starEach es X.env := by rfl) (hpl : (backTo pos (starEach es X.env)).any (·.1) = false := by rfl) : PE X (.Call (.Name x p) (e :: es) [] pos) (tCB r t) := by
  intro pins s σ H Q I h
  refine wpAny_Call_Name_kw (ld_blt I hg hm hv ?_ hn hdb)
  exact PyProof.Rows.callWith_builtin1 (thn (ha pos pins s σ H _ I h) fun us s1 ⟨vs, H1, I1, r1, q1⟩ => hc pins s1 σ H1 vs us Q I1 r1 q1) he hpl
/-- T(e, ..), T a built-in type -/
theorem pe_callTy (hc : CallR X (.type T) r) (hg : Gl X x) (hm : X.mg x = none) (hv : bootBuiltins x = some (.type T)) (ha : PA X (e :: es) t) (hn : x ≠ "__name__" := by decide) (hdb : (x == ("__debug__" : Str)) = false := by decide)
    (he : starEach (e :: es) X.env = (false, eval e X.env) :: starEach es X.env := by rfl) (hpl : (backTo pos (starEach es X.env)).any (·.1) = false := by rfl) : PE X (.Call (.Name x p) (e :: es) [] pos) (tCB r t) := by
  intro pins s σ H Q I h
  refine wpAny_Call_Name_kw (ld_blt I hg hm hv ?_ hn hdb)
  exact PyProof.Rows.callWith_type1 (thn (ha pos pins s σ H _ I h) fun us s1 ⟨vs, H1, I1, r1, q1⟩ => hc pins s1 σ H1 vs us Q I1 r1 q1) he hpl
end
end L2

namespace HT
open PySem PyProof.Rows

/-- t < u of tuples of ints -/
def lexLt : List Int → List Int → Bool
  | [], [] => false
  | [], _ :: _ => true
  | _ :: _, [] => false
  | x :: xs, y :: ys => if x = y then lexLt xs ys else decide (x < y)
section
open PySem.SeqAt
open PySem.AutoSeq1 (wpAny_loadPart')
open PySem.MeetsSeq PySem.MeetsSeq2 PySem.MeetsSeq3

end

section
variable {prog : Program} {w : World} {A : Around} {E : Value → Shared → Prop} {s : Shared}

/-! ### t[a:b], not the whole -/
/-- a slice's bound as a place among n (d where it is left out) -/
def sIx (n d : Nat) : Option Int → Nat
  | none => d
  | some v => if v < 0 then (v + (n : Int)).toNat else min v.toNat n
end
end HT

namespace L2
open PySem PySem.Spec PyProof.Rows

/-! ### the parts of a slice -/
abbrev TO := St → Hp → (Option Int → Hp → Prop) → Prop
/-- a slice's part (left out, or an int) -/
def PO (X : Cx) (e : Option Expr) (t : TO) : Prop :=
  ∀ (pins : List (Addr × Obj)) (s : Shared) (σ : St) (H : Hp) (Q : Option Int → Hp → Prop), Inv X pins σ H s → t σ H Q →
    wpAny (model X.prog X.w) X.A (evalPart e X.env) (fun u s' => ∃ o H', Inv X pins σ H' s' ∧ IsPart u o ∧ Q o H') X.xe s
def tNoPart : TO := fun _ H Q => Q none H
def tPart (t : TE) : TO := fun σ H Q => t σ H fun x H1 => ∃ i, x = .int i ∧ Q (some i) H1

section
variable {X : Cx} {e : Expr} {te : TE} {lo hi : Option Expr} {tl th : TO} {pos p2 : Pos}

/-- what a slice of a value is, by values: the slice object stands at sl -/
def SlR (X : Cx) (r : V → Option Int → Option Int → Hp → VK → Prop) : Prop :=
  ∀ (pins : List (Addr × Obj)) (s : Shared) (σ : St) (H : Hp) (x : V) (v vl vu : Value) (lo hi : Option Int) (sl : Addr) (Q : VK), Inv X pins σ H s → RelV x v → s.heap.IsSliceOf sl vl vu .none → IsPart vl lo → IsPart vu hi → r x lo hi H Q →
    ∃ T id, typeLookup (.type T) "__getitem__" = pure (some (.builtin id)) ∧ s.TypeIs v T ∧ wpAny (model X.prog X.w) X.A (getItem v (.ref sl)) (EP X pins σ Q) X.xe s
def tSl (r : V → Option Int → Option Int → Hp → VK → Prop) (te : TE) (tl th : TO) : TE := fun σ H Q => te σ H fun x H1 => tl σ H1 fun l H2 => th σ H2 fun u H3 => r x l u H3 Q
/-- the items of xs[lo:hi] -/
def cutV (xs : List V) (lo hi : Option Int) : List V := (xs.drop (HT.sIx xs.length 0 lo)).take (HT.sIx xs.length xs.length hi - HT.sIx xs.length 0 lo)
/-- t[lo:hi], not the whole of it (the whole would be t itself) -/
def rSlT (K : PySem.W.Frag) : V → Option Int → Option Int → Hp → VK → Prop := fun x lo hi H Q => ∃ a xs, x = .ref a ∧ SqT K H a xs ∧
  ¬ (HT.sIx xs.length 0 lo = 0 ∧ HT.sIx xs.length xs.length hi = xs.length) ∧ ∀ p, H p = none → Q (.ref p) (upd H p (.tup (cutV xs lo hi)))
/-! ### t < u, t + u -/
def rLtT (K : PySem.W.Frag) : R2 := fun x y H Q => ∃ a b ns ms, x = .ref a ∧ y = .ref b ∧ SqT K H a (ns.map V.int) ∧ SqT K H b (ms.map V.int) ∧ Q (.bl (HT.lexLt ns ms)) H
/-- t + u, t not empty: u empty gives t itself -/
def rCatT (K : PySem.W.Frag) : R2 := fun x y H Q => ∃ a b xs ys, x = .ref a ∧ y = .ref b ∧ SqT K H a xs ∧ SqT K H b ys ∧ xs ≠ [] ∧ xs.length + ys.length ≤ sizeLine ∧
  (ys = [] → Q (.ref a) H) ∧ (ys ≠ [] → ∀ p, H p = none → Q (.ref p) (upd H p (.tup (xs ++ ys))))
end
end L2

namespace L2
open PySem PySem.Spec PyProof.Rows

/-! ### places -/
/-- the place that an index of any sign means -/
def ixN (n : Nat) (i : Int) : Option Nat := if 0 ≤ i then (if i < n then some i.toNat else none) else if -(n : Int) ≤ i then some (i + n).toNat else none
def atI {α : Type} (xs : List α) (i : Int) : Option α := (ixN xs.length i).bind fun j => xs[j]?
theorem ixN_seq {n : Nat} {i : Int} {j : Nat} (h : ixN n i = some j) : seqIndex? i n = some j ∧ j < n ∧ -(n : Int) ≤ i ∧ i < n := by
  unfold ixN at h
  by_cases h0 : 0 ≤ i
  · rw [if_pos h0] at h
    by_cases h1 : i < n
    · rw [if_pos h1] at h
      have e : i.toNat = j := Option.some.inj h
      exact ⟨by rw [seqIndex_of h0 h1, e], by omega, by omega, h1⟩
    · rw [if_neg h1] at h; cases h
  · rw [if_neg h0] at h
    by_cases h1 : -(n : Int) ≤ i
    · rw [if_pos h1] at h
      have e : (i + n).toNat = j := Option.some.inj h
      exact ⟨by rw [seqIndex_neg (by omega) h1, e], by omega, h1, by omega⟩
    · rw [if_neg h1] at h; cases h
theorem atI_get {α : Type} {xs : List α} {i : Int} {v : α} (h : atI xs i = some v) : ∃ j, seqIndex? i xs.length = some j ∧ xs[j]? = some v ∧ j < xs.length ∧ -(xs.length : Int) ≤ i ∧ i < xs.length := by
  unfold atI at h
  cases e : ixN xs.length i with
  | none => rw [e] at h; cases h
  | some j =>
    rw [e] at h
    obtain ⟨h1, h2, h3, h4⟩ := ixN_seq e
    exact ⟨j, h1, h, h2, h3, h4⟩
theorem atI_nat {α : Type} {xs : List α} {j : Nat} {v : α} (h : xs[j]? = some v) : atI xs (j : Int) = some v := by
  have hj : j < xs.length := (List.getElem?_eq_some_iff.mp h).1
  have e : ixN xs.length (j : Int) = some j := by
    unfold ixN
    rw [if_pos (by omega), if_pos (by omega)]; simp
  unfold atI; rw [e]; exact h
/-! ### what may be subscripted -/
/-- what stands as an index of a plain subscript -/
def PlainIx (b : Expr) : Prop := ∀ o i, subscripted b false o i = operate [o, i] (getItem o i)
/-- a subscript by values -/
def IxR (X : Cx) (r : R2) : Prop :=
  ∀ (value slice : Expr) (pins : List (Addr × Obj)) (s : Shared) (σ : St) (H : Hp) (x y : V) (v u : Value) (Q : VK), Inv X pins σ H s → RelV x v → RelV y u → r x y H Q →
    subscripted slice false v u = operate [v, u] (getItem v u) → wpAny (model X.prog X.w) X.A (subscriptTail value slice v u) (EP X pins σ Q) X.xe s
/-- a call of a builtin's method by values: the receiver, the arguments -/
def MtR (X : Cx) (id : String) (r : V → List V → Hp → VK → Prop) : Prop :=
  ∀ (pins : List (Addr × Obj)) (s : Shared) (σ : St) (H : Hp) (x : V) (xs : List V) (v : Value) (us : List Value) (Q : VK), Inv X pins σ H s → RelV x v → Vals xs us → r x xs H Q →
    wpAny (model X.prog X.w) X.A (call (.builtin id) (v :: us)) (EP X pins σ Q) X.xe s
section
variable {X : Cx} {a b : Expr} {ta tb : TE} {pos : Pos}
/-- a[b] -/
theorem pe_ix {r : R2} (hr : IxR X r) (ha : PE X a ta) (hb : PE X b tb) (hs : PlainIx b) : PE X (.Subscript a b pos) (tOp r ta tb) := by
  intro pins s σ H Q I h
  exact Subscript_ (binT ha hb I h fun v u s2 x y H2 I2 rx ry q => hr a b pins s2 σ H2 x y v u Q I2 rx ry q (hs _ _))

def rIxL (K : PySem.W.Frag) : R2 := fun x y H Q => ∃ p xs i v, x = .ref p ∧ y = .int i ∧ SqL K H p xs ∧ atI xs i = some v ∧ Q v H
def rIxT (K : PySem.W.Frag) : R2 := fun x y H Q => ∃ p xs i v, x = .ref p ∧ y = .int i ∧ SqT K H p xs ∧ atI xs i = some v ∧ Q v H
def rIxS : R2 := fun x y H Q => ∃ z i c, x = .str z ∧ y = .int i ∧ z.length ≤ sizeLine ∧ atI z.cps.toList i = some c ∧ Q (.str ⟨#[c]⟩) H
theorem ix_list : IxR X (rIxL X.K) := by
  intro value slice pins s σ H x y v u Q I rx ry h hs
  obtain ⟨p, xs, i, z, rfl, rfl, hq, he, q⟩ := h
  cases rx
  obtain ⟨t, rfl⟩ := ry
  obtain ⟨its, r, pl, hz⟩ := I.list hq
  obtain ⟨j, h1, h2, h3, h4, h5⟩ := atI_get he
  obtain ⟨w, ew, rw'⟩ := r.get h2
  have hl := r.length
  have hn := line63
  have fin : EP X pins σ Q w s := ⟨z, H, I, rw', q⟩
  by_cases h0 : 0 ≤ i
  · have hj : i.toNat = j := by
      rw [seqIndex_of h0 h5] at h1
      exact Option.some.inj h1
    exact item_listR pl.isList h0 (by omega) (by rw [hj]; simpa using ew) fin hs
  · have hj : (i + (its.toArray.size : Int)).toNat = j := by
      rw [seqIndex_neg (by omega) h4] at h1
      rw [List.size_toArray, ← hl]
      exact Option.some.inj h1
    exact subscriptTail_builtinR (x := w) pl.isList.typeIs slot_list_getitem.lookup
      (wpAny_getItem_list_neg (Q := fun r s' => r = w ∧ EP X pins σ Q r s') pl.isList (by omega) (by rw [List.size_toArray] <;> omega) (by omega) (by rw [hj]; simpa using ew) ⟨rfl, fin⟩) hs
/-- list, tuple or str -/
def rIx (K : PySem.W.Frag) : R2 := fun x y H Q => rIxL K x y H Q ∨ rIxT K x y H Q ∨ rIxS x y H Q
/-! ### xs[i] = v, any sign -/
/-- the list's object behind a store -/
theorem mapSeq_set (its : List Value) (n j : Nat) (u : Value) : Obj.mapSeq (·.setIfInBounds j u) { cls := .type "list", data := .seq its.toArray n } = { cls := .type "list", data := .seq (its.set j u).toArray n } := by
  simp [Obj.mapSeq]
theorem Inv.lst {pins : List (Addr × Obj)} {σ : St} {H : Hp} {s : Shared} {p : Addr} {xs : List V} (I : Inv X pins σ H s) (h : H p = some (.lst xs)) :
    ∃ (its : List Value) (n : Nat), Vals xs its ∧ s.heap.get? p = some { cls := .type "list", data := .seq its.toArray n } ∧ xs.length ≤ sizeLine := by
  obtain ⟨z, its, n, r, e⟩ := I.hok p _ h
  exact ⟨its, n, r, e, z⟩
/-- the list at p is written by an update of its object -/
theorem Inv.lstUpd {pins : List (Addr × Obj)} {σ : St} {H : Hp} {s : Shared} {p : Addr} {xs ys : List V} {its its' : List Value} {n n' : Nat} {f : Obj → Obj} (I : Inv X pins σ H s) (h : H p = some (.lst xs))
    (ho : s.heap.get? p = some { cls := .type "list", data := .seq its.toArray n }) (hf : f { cls := .type "list", data := .seq its.toArray n } = { cls := .type "list", data := .seq its'.toArray n' }) (r : Vals ys its') (hz : ys.length ≤ sizeLine) (t : Nat) :
    Inv X pins σ (upd H p (.lst ys)) { s with heap := s.heap.update p f, toks := t } := by
  have e : (s.heap.update p f).get? p = some { cls := .type "list", data := .seq its'.toArray n' } := by
    rw [Heap.get?_update_self f ho (by rw [hf] <;> rfl), hf]
  refine I.write (x := p) (e := p) (by rw [h]; trivial) (.inl rfl) (fun b u hb q => (Heap.get?_update_other _ _ (Ne.symm hb)).trans q) ⟨_, e⟩ ?_
  exact ⟨hz, its', n', r, e⟩
def rSetL : V → V → V → Hp → (Hp → Prop) → Prop := fun o i v H Q => ∃ p xs k j, o = .ref p ∧ i = .int k ∧ H p = some (.lst xs) ∧ ixN xs.length k = some j ∧ Q (upd H p (.lst (xs.set j v)))
theorem set_list : PSet X rSetL := by
  intro pins s σ H o i v ov iv u Q I ro ri rv h
  obtain ⟨p, xs, k, j, rfl, rfl, hp, hj, q⟩ := h
  cases ro
  obtain ⟨t, rfl⟩ := ri
  obtain ⟨its, n, r, ho, hz⟩ := I.lst hp
  obtain ⟨h1, h2, h3, h4⟩ := ixN_seq hj
  have hl := r.length
  have hn := line63
  have I' : Inv X pins σ (upd H p (.lst (xs.set j v))) { s with heap := s.heap.update p (Obj.mapSeq (·.setIfInBounds j u)) } :=
    I.lstUpd hp ho (mapSeq_set its n j u) (r.set rv j) (by rw [List.length_set]; exact hz) s.toks
  by_cases h0 : 0 ≤ k
  · have hk : k.toNat = j := by
      rw [seqIndex_of h0 h4] at h1
      exact Option.some.inj h1
    exact PySem.W.ki_setAt ho h0 (by omega) (by rw [List.size_toArray, ← hl]; exact h4) (by rw [hk]; exact ⟨_, I', q⟩)
  · have hk : (k + (its.toArray.size : Int)).toNat = j := by
      rw [seqIndex_neg (by omega) h3] at h1
      rw [List.size_toArray, ← hl]
      exact Option.some.inj h1
    exact PySem.W.ki_setBack ho (by omega) (by rw [List.size_toArray, ← hl]; exact h3) (by omega) (by rw [hk]; exact ⟨_, I', q⟩)

/-! ### slices -/
/-- xs[lo:hi] of a list: a new list -/
def rSlL (K : PySem.W.Frag) : V → Option Int → Option Int → Hp → VK → Prop := fun x lo hi H Q => ∃ a xs, x = .ref a ∧ SqL K H a xs ∧ ∀ p, H p = none → Q (.ref p) (upd H p (.lst (cutV xs lo hi)))
/-! ### in, not in: flat items -/
def flatV : V → Bool
  | .non => true
  | .bl _ => true
  | .int _ => true
  | .str _ => true
  | _ => false
/-- == of flat values -/
def eqV : V → V → Bool
  | .non, .non => true
  | .bl a, .bl b => a == b
  | .bl a, .int b => (if a then 1 else 0) == b
  | .int a, .bl b => a == (if b then 1 else 0)
  | .int a, .int b => a == b
  | .str a, .str b => a == b
  | _, _ => false
/-- the items' answers, read off the values (a value's own answer does not lean on its token) -/
def eqU (x : V) (u : Value) : Bool := match u with
  | .none => eqV .non x
  | .bool b => eqV (.bl b) x
  | .int i _ => eqV (.int i) x
  | .str z _ => eqV (.str z) x
  | _ => false
def inV (x : V) (xs : List V) : Bool := xs.any fun y => eqV y x
/-- x in a list or tuple of flat items -/
def rIn (K : PySem.W.Frag) (neg : Bool) : R2 := fun x y H Q => ∃ p xs, y = .ref p ∧ (SqL K H p xs ∨ SqT K H p xs) ∧ flatV x = true ∧ xs.all flatV = true ∧ Q (.bl (if neg then !inV x xs else inV x xs)) H
/-! ### len, list(x), tuple(x) of any list or tuple that is read -/
theorem call_len_seq : CallR X (.builtin "len") (fun xs H Q => ∃ p ys, xs = [.ref p] ∧ (SqL X.K H p ys ∨ SqT X.K H p ys) ∧ Q (.int ys.length) H) := by
  intro pins s σ H xs us Q I r h
  obtain ⟨p, ys, rfl, hq, q⟩ := h
  obtain ⟨u, rfl, rx⟩ := vals1 r
  cases rx
  have hn := line63
  rcases hq with hq | hq
  · obtain ⟨its, r', pl, hz⟩ := I.list hq
    have hlen := r'.length
    exact Calls.call_len_list pl.isList (by simp only [List.size_toArray] <;> omega) ⟨.int ys.length, H, I.tok _, ⟨s.toks + 1, by rw [List.size_toArray, hlen]⟩, q⟩
  · obtain ⟨its, r', pl, hz⟩ := I.tuple hq
    have hlen := r'.length
    exact len_tuple pl (by simp only [List.size_toArray] <;> omega) ⟨.int ys.length, H, I.tok _, ⟨s.toks + 1, by rw [List.size_toArray, hlen]⟩, q⟩
theorem call_list_of : CallR X (.type "list") (fun xs H Q => ∃ p ys, xs = [.ref p] ∧ (SqL X.K H p ys ∨ SqT X.K H p ys) ∧ ∀ l, H l = none → Q (.ref l) (upd H l (.lst ys))) := by
  intro pins s σ H xs us Q I r h
  obtain ⟨p, ys, rfl, hq, q⟩ := h
  obtain ⟨u, rfl, rx⟩ := vals1 r
  cases rx
  have fin : ∀ (its : List Value), Vals ys its → ys.length ≤ sizeLine → ∀ (h' : Heap) (c' : Nat), (∀ b o', s.heap.get? b = some o' → h'.get? b = some o') →
      h'.get? s.heap.objs.size = some { cls := .type "list", dict := none, data := .seq its.toArray c', slots := #[] } → EP X pins σ Q (.ref s.heap.objs.size) { s with heap := h' } := fun its r' hz h' c' kp e =>
    ⟨.ref s.heap.objs.size, _, I.laid (t' := s.toks) kp (Nat.le_refl _) (show ObjOk X.prog X.w _ h' _ (.lst ys) from ⟨hz, its, c', r', e⟩), rfl, q _ (I.hok.fresh (Nat.le_refl _))⟩
  rcases hq with hq | hq
  · obtain ⟨its, r', pl, hz⟩ := I.list hq
    have hlen := r'.length
    obtain ⟨o, ho, hc, n, hd⟩ := pl.isList
    exact call_list_seq p (.inl rfl) ho hc hd (fun h' c' kp e => fin its r' hz h' c' kp e) (by simp only [List.size_toArray] <;> omega)
  · obtain ⟨its, r', pl, hz⟩ := I.tuple hq
    have hlen := r'.length
    obtain ⟨o, ho, hc, n, hd⟩ := pl
    exact call_list_seq p (.inr rfl) ho hc hd (fun h' c' kp e => fin its r' hz h' c' kp e) (by simp only [List.size_toArray] <;> omega)
/-! ### the call of a builtin's method: o.m(..) -/
/-- the value is of that builtin type -/
def tyV (K : PySem.W.Frag) (T : String) (x : V) (H : Hp) : Prop := match x with
  | .str _ => T = "str"
  | .int _ => T = "int"
  | .ref p => (T = "list" ∧ ∃ xs, SqL K H p xs) ∨ (T = "tuple" ∧ ∃ o, K.lookup p = some o ∧ o.cls = .type "tuple" ∧ o.dict = none) ∨
      (T = "dict" ∧ ((∃ kvs, H p = some (.dK kvs)) ∨ ∃ kvs, H p = some (.dT kvs))) ∨ (T = "set" ∧ ∃ S n, H p = some (.set S n))
  | _ => False
theorem tyV_is {pins : List (Addr × Obj)} {σ : St} {H : Hp} {s : Shared} {T : String} {x : V} {v : Value} (I : Inv X pins σ H s) (r : RelV x v) (ty : tyV X.K T x H) :
    s.TypeIs v T ∧ ∀ a, v = .ref a → ∃ ob, s.heap.get? a = some ob ∧ ob.dict = none := by
  cases x with
  | str z =>
    obtain ⟨t, rfl⟩ := r
    cases (show T = "str" from ty)
    exact ⟨typeIs_str s z t, fun _ e => nomatch e⟩
  | int i =>
    obtain ⟨t, rfl⟩ := r
    cases (show T = "int" from ty)
    exact ⟨typeIs_int s i t, fun _ e => nomatch e⟩
  | ref p =>
    cases r
    rcases ty with ⟨rfl, xs, hq⟩ | ⟨rfl, o, hk, hc, hd⟩ | ⟨rfl, hk⟩ | ⟨rfl, S, n, hk⟩
    · obtain ⟨its, _, pl, _⟩ := I.list hq
      refine ⟨pl.isList.typeIs, fun a e => ?_⟩
      cases e
      obtain ⟨o, n, e, c, hd, _⟩ := pl
      exact ⟨o, e, hd⟩
    · refine ⟨⟨o, I.kIn p o hk, hc⟩, fun a e => ?_⟩
      cases e
      exact ⟨o, I.kIn _ o hk, hd⟩
    · have z : ∃ o, s.heap.get? p = some o ∧ o.ExactDict := by
        rcases hk with ⟨kvs, hk⟩ | ⟨kvs, hk⟩
        · obtain ⟨_, _, _, _, o, _, _, e, ex, _⟩ := I.hok p _ hk
          exact ⟨o, e, ex⟩
        · obtain ⟨_, _, _, _, o, _, _, e, ex, _⟩ := I.hok p _ hk
          exact ⟨o, e, ex⟩
      obtain ⟨o, e, ex⟩ := z
      refine ⟨⟨o, e, ex.1⟩, fun a e2 => ?_⟩
      cases e2
      exact ⟨o, e, ex.2.1⟩
    · obtain ⟨o, _, _, _, e, ex, _⟩ := I.hok p _ hk
      refine ⟨⟨o, e, ex.1⟩, fun a e2 => ?_⟩
      cases e2
      exact ⟨o, e, ex.2.1⟩
  | _ => exact False.elim ty
def tBM0 (K : PySem.W.Frag) (T : String) (r : V → List V → Hp → VK → Prop) (to : TE) : TE := fun σ H Q => to σ H fun x H1 => tyV K T x H1 ∧ r x [] H1 Q
def tBM (K : PySem.W.Frag) (T : String) (r : V → List V → Hp → VK → Prop) (to : TE) (t : TA) : TE := fun σ H Q => to σ H fun x H1 => tyV K T x H1 ∧ t σ H1 fun xs H2 => r x xs H2 Q
variable {o e : Expr} {es : List Expr} {to : TE} {t : TA} {name : Str} {apos cpos : Pos} {T id : String} {r : V → List V → Hp → VK → Prop}
theorem pe_bm (pa : PlainAttrs T) (slot : Slot T name id) (hty : typeOf (.builtin id) = pure (.type "method_descriptor")) (hm : MtR X id r) (ho : PE X o to) (ha : PA X (e :: es) t)
    (hbase : attributeBase o name X.env (eval o X.env) = eval o X.env := by rfl)
    (hfew : ((backTo cpos (starEach (e :: es) X.env)).all (fun x => !x.1) && (backToKw cpos (keywordEach [] X.env)).all (fun x => x.1.isSome)
      && decide ((e :: es).length + ([] : List Keyword).length + (if ([] : List Keyword).isEmpty then 0 else 1) < 30)) = true := by rfl)
    (hline : (apos.endLine == cpos.line) = true := by rfl) (hs : starEach (e :: es) X.env = (false, eval e X.env) :: starEach es X.env := by rfl) (hplain : (backTo cpos (starEach es X.env)).any (·.1) = false := by rfl) :
    PE X (.Call (.Attribute o name apos) (e :: es) [] cpos) (tBM X.K T r to t) := by
  intro pins s σ H Q I h
  refine wpAny_Call_method_late hbase hfew hline rfl (thn (ho pins s σ H _ I h) fun v s1 ⟨x, H1, I1, r1, ty, q1⟩ => ?_)
  obtain ⟨h1, h2⟩ := tyV_is I1 r1 ty
  refine ⟨T, id, pa, slot, hty, h1, h2, ?_⟩
  have hA := ha cpos pins s1 σ H1 _ I1 q1
  rw [hs] at hA ⊢
  refine Calls.callWith_builtin (by show (false || (backTo cpos (starEach es X.env)).any (·.1)) = false; rw [hplain] <;> rfl) (Calls.evalArgs_plain ?_)
  exact thn hA fun us s2 ⟨vs, H2, I2, r2, q2⟩ => hm pins s2 σ H2 x vs v us Q I2 r1 r2 q2
/- xs.append(e), list.index on a module's tuple .. are MtR facts of 06m -/
end
end L2

namespace L2
open PySem PySem.Spec PyProof.Rows

def MtM (X : Cx) (id : String) (r : V → List V → Hp → VK → Prop) : Prop :=
  ∀ (pins : List (Addr × Obj)) (s : Shared) (σ : St) (H : Hp) (x : V) (xs : List V) (v : Value) (us : List Value) (Q : VK), Inv X pins σ H s → RelV x v → Vals xs us → r x xs H Q →
    wpAny (model X.prog X.w) X.A (call (.builtin id) (v :: us)) (EP X pins σ Q) X.xe s

/-! ### lists of values -/
theorem Vals.one : ∀ {x : V} {us : List Value}, Vals [x] us → ∃ u, us = [u] ∧ RelV x u
  | _, _, .cons r .nil => ⟨_, rfl, r⟩
theorem Vals.rep {xs : List V} {us : List Value} (h : Vals xs us) : ∀ k : Nat, Vals (List.replicate k xs).flatten (List.replicate k us).flatten
  | 0 => .nil
  | k + 1 => by
    rw [List.replicate_succ, List.replicate_succ, List.flatten_cons, List.flatten_cons]
    exact Vals.append h (Vals.rep h k)
theorem foldl_rep (its : List Value) : ∀ (k : Nat) (acc : List Value),
    List.foldl (fun x1 x2 => x1 ++ x2) acc.toArray (List.replicate k its.toArray) = (acc ++ (List.replicate k its).flatten).toArray
  | 0, acc => by simp
  | k + 1, acc => by
    have e : acc.toArray ++ its.toArray = (acc ++ its).toArray := by simp
    have e2 : (acc ++ its) ++ (List.replicate k its).flatten = acc ++ (List.replicate (k + 1) its).flatten := by
      rw [List.replicate_succ, List.flatten_cons, List.append_assoc]
    rw [← e2, ← foldl_rep its k (acc ++ its), ← e, List.replicate_succ, List.foldl_cons]

section
variable {X : Cx} {pins : List (Addr × Obj)} {σ : St} {H : Hp} {s : Shared} {l b : Addr} {xs ys zs : List V}

/-! ### the two steps: a tracked list is rewritten, a new list is laid -/
theorem Inv.lset {its its' : List Value} {n : Nat} {f : Array Value → Array Value} {t' : Nat} (I : Inv X pins σ H s) (hH : H l = some (.lst xs))
    (e : s.heap.get? l = some { cls := .type "list", data := .seq its.toArray n }) (hf : f its.toArray = its'.toArray) (hv : Vals ys its') (hz : ys.length ≤ sizeLine) :
    Inv X pins σ (upd H l (.lst ys)) { s with heap := s.heap.update l (Obj.mapSeq f), toks := t' } := by
  have q := PySem.IsL.update e f
  rw [hf] at q
  refine I.write (x := l) (e := l) (by rw [hH]; exact trivial) (.inl rfl) (fun b' u hb hu => (Heap.get?_update_other s.heap (Obj.mapSeq f) (Ne.symm hb)).trans hu) ⟨_, q⟩ ?_
  exact ⟨hz, its', _, hv, q⟩
theorem Inv.lnew {its : List Value} {t' : Nat} (I : Inv X pins σ H s) (hv : Vals ys its) (hz : ys.length ≤ sizeLine) :
    Inv X pins σ (upd H s.heap.objs.size (.lst ys)) { s with heap := s.heap.push { cls := .type "list", data := .seq its.toArray }, toks := t' } :=
  I.laid (fun _ _ q => Heap.get?_push_of_some _ q) (Nat.le_refl _) ⟨hz, its, 0, hv, Heap.get?_push_size _ rfl⟩
theorem Inv.fresh (I : Inv X pins σ H s) : H s.heap.objs.size = none := I.hok.fresh (Nat.le_refl _)
theorem Inv.lstM (I : Inv X pins σ H s) (hH : H l = some (.lst xs)) : xs.length ≤ sizeLine ∧ ∃ (its : List Value) (n : Nat), Vals xs its ∧ xs.length = its.length ∧ s.heap.get? l = some { cls := .type "list", data := .seq its.toArray n } := by
  obtain ⟨z, its, n, r, e⟩ := I.hok l _ hH
  exact ⟨z, its, n, r, r.length, e⟩

theorem notLongL {n : Nat} (h : n ≤ sizeLine) : Builtin.List.listTooLong n = false := by
  unfold Builtin.List.listTooLong
  exact decide_eq_false (by omega)
end

section
variable {X : Cx}

/-! ### methods -/
def rAppend : V → List V → Hp → VK → Prop := fun x vs H Q => ∃ l xs y, x = .ref l ∧ vs = [y] ∧ H l = some (.lst xs) ∧ xs.length < sizeLine ∧ Q .non (upd H l (.lst (xs ++ [y])))
theorem mt_append : MtM X "list.append" rAppend := by
  intro pins s σ H x vs v us Q I rx rv h
  obtain ⟨l, xs, y, rfl, rfl, hH, hz, q⟩ := h
  cases rx
  obtain ⟨u, rfl, ru⟩ := rv.one
  obtain ⟨z, its, n, r, hl, e⟩ := I.lstM hH
  refine call_meets F.slot_list_append ⟨_, e, rfl⟩ F.entry_list_append (F.args_list_append_2 _ _) (PySem.list_append l its.toArray n u (by rw [List.size_toArray]; omega)) ⟨e, ?_⟩
  refine ⟨.non, _, I.lset (its' := its ++ [u]) hH e (by simp) (r.append (.cons ru .nil)) ?_, rfl, q⟩
  rw [List.length_append, List.length_singleton]
  omega

def rExtend : V → List V → Hp → VK → Prop := fun x vs H Q => ∃ l b xs zs, x = .ref l ∧ vs = [.ref b] ∧ H l = some (.lst xs) ∧ H b = some (.lst zs) ∧ xs.length + zs.length ≤ sizeLine ∧ Q .non (upd H l (.lst (xs ++ zs)))
def rPop : V → List V → Hp → VK → Prop := fun x vs H Q => ∃ l xs y, x = .ref l ∧ vs = [] ∧ H l = some (.lst xs) ∧ xs[xs.length - 1]? = some y ∧ Q y (upd H l (.lst xs.dropLast))
def rPopAt : V → List V → Hp → VK → Prop := fun x vs H Q => ∃ l xs i k y, x = .ref l ∧ vs = [.int i] ∧ H l = some (.lst xs) ∧ -(2 ^ 63) ≤ i ∧ i < 2 ^ 63 ∧ seqIndex? i xs.length = some k ∧ xs[k]? = some y ∧ Q y (upd H l (.lst (xs.eraseIdx k)))
def rReverse : V → List V → Hp → VK → Prop := fun x vs H Q => ∃ l xs, x = .ref l ∧ vs = [] ∧ H l = some (.lst xs) ∧ Q .non (upd H l (.lst xs.reverse))
def rClear : V → List V → Hp → VK → Prop := fun x vs H Q => ∃ l xs, x = .ref l ∧ vs = [] ∧ H l = some (.lst xs) ∧ Q .non (upd H l (.lst []))
/-! ### list + list, list += list, list * int -/
def rCat : R2 := fun x y H Q => ∃ l b xs zs, x = .ref l ∧ y = .ref b ∧ H l = some (.lst xs) ∧ H b = some (.lst zs) ∧ xs.length + zs.length ≤ sizeLine ∧ ∀ p, H p = none → Q (.ref p) (upd H p (.lst (xs ++ zs)))
/-- a list times an int (a negative one is nothing) -/
def rRep : R2 := fun x y H Q => ∃ l k xs, x = .ref l ∧ y = .int k ∧ H l = some (.lst xs) ∧ -(2 ^ 63) ≤ k ∧ k < 2 ^ 63 ∧ xs.length * k.toNat ≤ sizeLine ∧
  ∀ p, H p = none → Q (.ref p) (upd H p (.lst (List.replicate k.toNat xs).flatten))
theorem len_rep {α : Type} (xs : List α) (k : Nat) : (List.replicate k xs).flatten.length = k * xs.length := by
  induction k with
  | zero => simp
  | succ k ih => rw [List.replicate_succ, List.flatten_cons, List.length_append, ih, Nat.succ_mul, Nat.add_comm]
theorem op_rep : OpR X (binaryOp .Mult) rRep := by
  intro pins s σ H x y v u Q I rx ry h
  obtain ⟨l, k, xs, rfl, rfl, hH, h1, h2, hz, q⟩ := h
  cases rx
  obtain ⟨t, rfl⟩ := ry
  obtain ⟨z, its, n, r, hl, e⟩ := I.lstM hH
  have hlen : its.toArray.size * k.toNat ≤ sizeLine := by rw [List.size_toArray, ← hl]; exact hz
  have hcap : ¬ its.toArray.size * k.toNat > (2 ^ 63 - 1) / 8 := by
    have : (sizeLine : Nat) ≤ (2 ^ 63 - 1) / 8 := by decide
    omega
  have hfit : ¬ (!Builtin.List.listFitsIndex k) = true := by
    rw [fitsIndex_both h1 h2]
    exact Bool.false_ne_true
  have hlong : ¬ Builtin.List.listTooLong (its.toArray.size * k.toNat) = true := by
    rw [notLongL hlen]
    exact Bool.false_ne_true
  have hnew : List.foldl (fun x1 x2 => x1 ++ x2) #[] (List.replicate (if its.toArray.isEmpty = true then 0 else k.toNat) its.toArray) = (List.replicate k.toNat its).flatten.toArray := by
    have f0 : ∀ m : Nat, List.foldl (fun x1 x2 => x1 ++ x2) #[] (List.replicate m its.toArray) = (List.replicate m its).flatten.toArray := fun m => by
      have := foldl_rep its m []
      rw [List.nil_append] at this
      exact this
    rw [f0]
    cases its with
    | nil => simp
    | cons a r' => rw [if_neg (by simp)]
  refine wpAny_binaryOp_repeat_ref (T := "list") (U := "int") (by decide) ⟨_, e, rfl⟩ (fun s' => typeIs_int s' k t) noFill_list_mul F.fills_int_mul F.slot_int_rmul repeat_list F.slot_int_index.lookup
    (call_meets F.slot_int_rmul (typeIs_int s k t) F.entry_int_rmul (F.args_int_rmul_2 _ _) (int___rmul___int_list k t l its.toArray n)
      ⟨e, rfl, ⟨_, e, rfl⟩, call_meets F.slot_list_mul ⟨_, e, rfl⟩ F.entry_list_mul (F.args_list_mul_2 _ _) (AutoListH.list___mul___list_int_3 l its.toArray n k t hfit hcap hlong) ⟨e, ?_⟩⟩)
  rw [hnew]
  exact ⟨.ref _, _, I.lnew (t' := s.toks) (r.rep k.toNat) (by rw [len_rep, Nat.mul_comm]; exact hz), rfl, q _ I.fresh⟩

/-! ### del xs[i] -/
end

/-! ### xs[a:b] = ys -/
section
variable {prog : Program} {w : World} {A : Around} {E : Value → Shared → Prop} {s : Shared}
end

section
variable {X : Cx}
end
end L2

namespace Att
open PySem PySem.W PySem.Calls PyProof.Rows

/-! ### the script -/
theorem ints_of_wellAll {P : Params} {h : Heap} : ∀ (ns : List Int) (vs : List Value), WellAll P h vs (ns.map WData.int) → IntsAre vs ns := by
  intro ns
  induction ns with
  | nil =>
    intro vs w
    rw [List.map_nil] at w
    cases w
    exact .nil
  | cons n ns ih =>
    intro vs w
    rw [List.map_cons] at w
    cases w with
    | cons a b =>
      cases a
      exact .cons _ _ (ih _ b)

theorem script_of {l : OpenLaw} {n : Nat} (hn : l.most = some n) {P : Params} {h : Heap} {args : List WData} {vals : List Value}
    (hpre : l.row.toRowW.claim.pre args = true) (hwl : WellAll P h vals args) :
    ∃ a vs ns, vals = [Value.ref a] ∧ args = [WData.list (ns.map WData.int)] ∧ h.get? a = some { cls := .type "list", data := .seq vs.toArray } ∧ IntsAre vs ns ∧ ns.length ≤ n := by
  have hsh : WShape.hasAll [] args [.list .int] = true := (pre_splitW hpre).1
  have hc : l.pre.holds [] { args := args } = true := (pre_splitW hpre).2
  obtain ⟨d, r, rfl, h1, h2⟩ := hasAllW_cons hsh
  obtain rfl := hasAllW_nil h2
  obtain ⟨xs, rfl, h3⟩ := hasW_list h1
  obtain ⟨ns, rfl⟩ := items_int h3
  have hlen : ns.length ≤ n := by
    unfold OpenLaw.pre at hc
    have h4 : (WTm.not (.lt (.lit (.int (n : Int))) (.len (.arg 0)))).holds [] { args := [.list (ns.map .int)] } = true := by
      have h4 := (holds_andW hc).1
      rw [hn] at h4
      exact h4
    have h5 := condW_of h4 (w_not (w_lt w_lit (w_len_list (w_arg rfl))))
    rw [List.length_map] at h5
    refine Nat.le_of_not_lt fun q => ?_
    have q' : (n : Int) < ((ns.length : Nat) : Int) := by omega
    first
      | (rw [decide_eq_true q'] at h5; exact absurd h5 (by decide))
      | (simp at h5; omega)
  cases hwl with
  | cons w1 w2 =>
    cases w2
    cases w1 with
    | list ho hall => exact ⟨_, _, ns, rfl, rfl, ho, ints_of_wellAll ns _ hall, hlen⟩

theorem post_true (l : OpenLaw) (args : List WData) : l.row.toRowW.claim.post args (.bool true) args = true :=
  postW_of (r := l.row.toRowW) (X := (true == true))
    (show WShape.has [] (.bool true) .bool = true by first | rfl | decide | simp [WShape.has, WShape.arms, WShape.armsAll])
    (show (WTm.eq .res (.lit (.bool true))).value [] { args := args, res := some (.bool true), after := args } = some (.bool (true == true)) from w_eq_bool (w_res rfl) w_lit) rfl

/-! ### the attachment: holds_open's last premise (the goal 'hc' behind k_head) from a wpAny of the law's body -/
/-- the same from a codeAny of the CALL (for a layer whose function contracts speak of calls) -/
theorem attach_call {l : OpenLaw} {n : Nat} {q : Program} {loose : List Str} {XP : (Str → Option Value) → Heap → Prop} {YP : World → Heap → Prop} {d : DefRec}
    (hn : l.most = some n) (hdf : d.params.defaults = [])
    (call : ∀ (w : World) (s₀ s₁ : Shared) (mg mb : Str → Option Value) (fa : Addr) (o : Obj) (pm cd doc : Value) (a : Addr) (vs : List Value) (ns : List Int),
      Ground q loose [] XP w s₀ mg mb s₁.heap → YP w s₁.heap →
      s₁.heap.get? fa = some o → o.data = .func (docDef d.name d.params d.body d.scope pm cd doc) → s₁.heap.CodeRec cd d.name → mg d.name = some (.ref fa) →
      s₁.heap.get? a = some { cls := .type "list", data := .seq vs.toArray } → IntsAre vs ns → ns.length ≤ n → s₁.gens = #[] →
      codeAny (model l.prog w) callerA (.call (.ref fa) ⟨[.ref a], []⟩) (fun r s' => r = .ok (.ret (.bool true)) ∧ OldK s₁.heap s'.heap ∧ s'.os = s₁.os ∧ AllBare s'.gens) s₁) :
    WalkO q loose XP YP l.row.toRowW d [] (fun f vs => PySem.call f vs) := by
  intro w s₀ s₁ mg mb G Y fa o pm cd doc dV kV ho hd hcd hD hmg hg args vals as hpre hlay hrd hwl hlo
  obtain rfl : dV = .none := Dflts.none hD hdf
  obtain rfl : kV = .none := Dflts.noKw hD
  obtain ⟨a, vs, ns, rfl, rfl, hobj, hints, hlen⟩ := script_of hn hpre hwl
  refine enter_call (codeAny_mono (call w s₀ s₁ mg mb fa o pm cd doc a vs ns G Y ho (fd_plain hd) hcd hmg hobj hints hlen hg) fun r s' hq => ?_)
  obtain ⟨rfl, h2, h3, h4⟩ := hq
  exact ⟨.inl ⟨.bool true, .bool true, [], rfl, fun _ => rfl, .bool true, post_true l _, fun _ => ⟨List.Pairwise.nil, fun _ hm => (nomatch hm)⟩⟩, h2, h3, h4⟩

/-! ### rules over ANY heap (no ledger) from facts about the written part K: the library's own take a ledger (News) for what they write -/
section
variable {prog : Program} {w : World} {A : Around} {E : Value → Shared → Prop} {s : Shared} {K : Frag}

/-! the whole heap as the ledger: makes every rule that writes through a ledger a rule over any heap -/
def noObjs (h : Heap) : Heap := { h with objs := #[] }
def ledger (h : Heap) (L d : Addr) : List (Addr × Obj) := (List.range h.objs.size).filterMap fun a => if a = L ∨ a = d then none else (h.get? a).map fun o => (a, o)
end
end Att

namespace L2
open PySem PySem.Spec PyProof.Rows

theorem vals_ints : ∀ {vs : List Value} {ns : List Int}, IntsAre vs ns → Vals (ns.map V.int) vs
  | _, _, .nil => .nil
  | _, _, .cons n t h => .cons ⟨t, rfl⟩ (vals_ints h)

/-- nothing is tracked but the script, known to the object (or it is an object of the module) -/
def Only (H : Hp) : Prop := ∀ b, H b = none ∨ ∃ o xs, H b = some (.frz o (.lst xs))

/-- THE HEAD: the law's promise, at the heap behind the top. F, the promise of the law's def, may use that base is part of the heap (so K.In base, base.Ns mainGlobals mg stand in Mod) -/
theorem law_call {P : Program} {w : World} {K : PySem.W.Frag} {mg mb : Str → Option Value} {CX : CXT} {k : Nat} {fa a : Addr} {fd : FuncData} {x : Str} {sp : Sp} {s₁ : Shared} {vs : List Value} {ns : List Int}
    (KX : K.In s₁.heap) (hns : s₁.heap.Ns mainGlobals mg) (hb : s₁.heap.Ns builtinsNs mb) (hbb : ∀ x : Str, x ≠ "__name__" → mb x = bootBuiltins x) (hlim : s₁.heap.NoLimit) (hg : s₁.gens = #[])
    (ha : s₁.heap.get? a = some { cls := .type "list", data := .seq vs.toArray }) (hi : IntsAre vs ns) (hl : ns.length ≤ sizeLine) (hr : Room k callerA)
    (F : ∀ base : Heap, K.In base → base.Ns mainGlobals mg → FnOk P w K mg base CX k fa fd [x] sp) (hbind : ∀ (s : Shared) (u : Value), BindsTo s fd ⟨[u], []⟩ [(x, u)])
    (hsp : ∀ H : Hp, Only H → SqL K H a (ns.map V.int) → sp [.ref a] H (fun v _ => v = .bl true) fun _ _ _ => False)
    (hCX : ∀ H e s', CX [] H s₁ (fun _ _ _ => False) e s' → False) :
    codeAny (model P w) callerA (.call (.ref fa) ⟨[.ref a], []⟩) (fun r s' => r = .ok (.ret (.bool true)) ∧ OldK s₁.heap s'.heap ∧ s'.os = s₁.os ∧ AllBare s'.gens) s₁ := by
  have rv := vals_ints hi
  have lenV := hi.length
  -- from an abstract heap in which nothing but the script may be tracked
  have core : ∀ H : Hp, Only H → SqL K H a (ns.map V.int) → HOk P w H s₁.heap → (∀ b, H b ≠ none → b = a) → (H a ≠ none → K.lookup a = none) →
      codeAny (model P w) callerA (.call (.ref fa) ⟨[.ref a], []⟩) (fun r s' => r = .ok (.ret (.bool true)) ∧ OldK s₁.heap s'.heap ∧ s'.os = s₁.os ∧ AllBare s'.gens) s₁ := by
    intro H hO hS hok hA hK
    have base_of : ∀ {b : Addr} {o : Obj}, s₁.heap.get? b = some o → H b = none → (hidT s₁.heap H).get? b = some o := fun e n => hidT_get e n
    have noA : ∀ {b : Addr} {o : Obj} {es : Array DictEntry} {ep : Nat}, s₁.heap.get? b = some o → o.data = .dict es ep → H b = none := fun {b o es ep} e d => by
      cases q : H b with
      | none => rfl
      | some u =>
        have e' : b = a := hA b (by rw [q]; simp)
        subst e'
        rw [ha] at e; cases e
        have d' : Data.seq vs.toArray _ = Data.dict es ep := d
        cases d'
    have nsK : ∀ {b : Addr} {m : Str → Option Value}, s₁.heap.Ns b m → (hidT s₁.heap H).Ns b m := fun {b m} ⟨o, es, ep, e, d, r⟩ => ⟨o, es, ep, base_of e (noA e d), d, r⟩
    have hKb : K.In (hidT s₁.heap H) := fun b o e => base_of (KX b o e) (by
      cases q : H b with
      | none => rfl
      | some u =>
        have e' : b = a := hA b (by rw [q]; simp)
        subst e'
        rw [hK (by rw [q]; simp)] at e; cases e)
    have hM : Mod K mg (hidT s₁.heap H) := ⟨hKb, nsK hns, ⟨mb, nsK hb, hbb⟩, let ⟨mc, h1, h2⟩ := hlim; ⟨mc, nsK h1, h2⟩⟩
    have e0 : Env0 P w K mg (hidT s₁.heap H) callerA [] s₁ H := ⟨rfl, hM, fun b o e => of_hidT e, Nat.le_of_eq (hidT_size _ _), trivial, fun b hb => absurd (show b ∈ ([] : List Addr) from hb) (by simp), hok, .of_eq hg⟩
    refine codeAny_mono ((F _ hKb (nsK hns)).run callerA [] s₁ H ⟨[.ref a], []⟩ [.ref a] [.ref a] _ _ hr e0 (hbind s₁ (.ref a)) (.cons rfl .nil) (hsp H hO hS)) fun r s' h => ?_
    cases r with
    | error e => exact (hCX H e s' h).elim
    | ok fl =>
      cases fl with
      | next => exact False.elim h
      | brk => exact False.elim h
      | cont => exact False.elim h
      | ret u =>
        obtain ⟨v, H', os, bare, un, hok', r', q⟩ := h
        have q' : v = .bl true := q
        subst q'
        obtain rfl : u = Value.bool true := r'
        refine ⟨rfl, OldK.of_keep fun b o e => ?_, os, bare⟩
        cases q : H b with
        | none => exact un.keep b o e q (by intro z; exact absurd (show b ∈ ([] : List Addr) from z) (by simp)) (by simp)
        | some u =>
          rcases hO b with z | ⟨ob, xs, z⟩
          · rw [q] at z; cases z
          · have z2 := un.frzs b ob _ z
            obtain ⟨e1, _⟩ := hok b _ z
            obtain ⟨e2, _⟩ := hok' b _ z2
            rw [e] at e1; cases e1
            exact e2
  cases hk : K.lookup a with
  | some o =>
    -- the script is one of the module's own objects
    have e := KX a o hk
    rw [ha] at e
    cases e
    refine core (fun _ => none) (fun _ => .inl rfl) (.inr ⟨_, vs.toArray, _, hk, rfl, rfl, rfl, by rw [List.size_toArray, lenV]; exact hl, by simpa using rv⟩) (fun b u z => by have z' : (none : Option HO) = some u := z; cases z') (fun b z => absurd rfl z) fun z => absurd rfl z
  | none =>
    refine core (fun b => if b = a then some (.frz { cls := .type "list", data := .seq vs.toArray } (.lst (ns.map V.int))) else none) (fun b => ?_) (.inl (.inr ⟨{ cls := .type "list", data := .seq vs.toArray }, if_pos rfl⟩)) (fun b u z => ?_) (fun b z => ?_) fun _ => hk
    · by_cases hb : b = a
      · exact .inr ⟨_, _, if_pos hb⟩
      · exact .inl (if_neg hb)
    · by_cases hb : b = a
      · have z' := (if_pos hb).symm.trans z
        cases z'
        subst hb
        exact ⟨ha, by rw [List.length_map]; exact hl, vs, _, rv, ha⟩
      · have z' := (if_neg hb).symm.trans z
        cases z'
    · by_cases hb : b = a
      · exact hb
      · exact absurd (if_neg hb) z
end L2

namespace L2
open PySem PySem.Spec PyProof.Rows

abbrev KOf {K : PySem.W.Frag} {h : Heap} (_ : K.In h) : PySem.W.Frag := K

/-- the goal that k_head leaves (case hc), from the law's promise. F gives the function object fd (K's own) once, then the promise over every base -/
theorem walk_of {l : PySem.W.OpenLaw} {n k : Nat} {q : Program} {loose : List Str} {XP : (Str → Option Value) → Heap → Prop} {YP : World → Heap → Prop} {d : DefRec} {K : Params → PySem.W.Frag} {CX : World → CXT} {sp : World → Sp} {x : Str}
    (hn : l.most = some n) (hn2 : n ≤ sizeLine) (hdf : d.params.defaults = []) (hr : Room k callerA)
    (hY : ∀ (w : World) (h : Heap), YP w h → (K w.params).In h)
    (F : ∀ (w : World) (mg : Str → Option Value) (fa : Addr) (h : Heap), (K w.params).In h → h.Ns mainGlobals mg → mg d.name = some (.ref fa) →
      ∃ fd : FuncData, (∀ (s : Shared) (u : Value), BindsTo s fd ⟨[u], []⟩ [(x, u)]) ∧
        ∀ base : Heap, (K w.params).In base → base.Ns mainGlobals mg → FnOk l.prog w (K w.params) mg base (CX w) k fa fd [x] (sp w))
    (hsp : ∀ (w : World) (H : Hp) (a : Addr) (ns : List Int), ns.length ≤ n → Only H → SqL (K w.params) H a (ns.map V.int) → sp w [.ref a] H (fun v _ => v = .bl true) fun _ _ _ => False)
    (hCX : ∀ (w : World) (H : Hp) (s : Shared) (e : Value) (s' : Shared), CX w [] H s (fun _ _ _ => False) e s' → False) :
    PySem.W.WalkO q loose XP YP l.row.toRowW d [] (fun f vs => PySem.call f vs) := by
  refine Att.attach_call hn hdf fun w s₀ s₁ mg mb fa o pm cd doc a vs ns G Y ho hd hcd hmg hobj hints hlen hg => ?_
  have KX := hY w _ Y
  obtain ⟨fd, hb, hF⟩ := F w mg fa _ KX G.T.g hmg
  exact law_call KX G.T.g G.T.b G.T.builtins G.T.nolimit hg hobj hints (Nat.le_trans hlen hn2) hr hF hb (fun H hO hS => hsp w H a ns hlen hO hS) fun H e s' => hCX w H s₁ e s'
end L2

/- THE LAST THEOREM (shape; LID, My.* are yours):
   My.Adr: a structure of the addresses that your layer names (classes, functions); My.Txt K t: a structure (Prop) of the equations over K;
   My.txt_mk : {K} {implicit addresses ..} (e1 : nsIn K mainGlobals "law" = some (some (.ref f))) (e2 : K.lookup f = some ⟨oc, od, .func (fnOf "law" "law" params body scope dV kV doc pm an cdv ct), sl⟩) (e3 : codeIn K cdv "law" = true) .. : ∃ t, My.Txt K t

set_option maxRecDepth 100000 in
set_option maxHeartbeats 0 in
theorem PySem.Challenge.cw_LID_holds : PySem.Challenge.rw_LID.Holds := by
  w_on; o_law; k_head; (case hw => w_witness2)
  k_fill
  refine L2.walk_of (l := PySem.Challenge.rw_LID) (n := 63) (k := 40) (x := "script") (CX := fun w => ..) (sp := fun _ => My.sp_law) rfl (by decide) rfl ⟨rfl, by decide, by decide⟩ (fun w h Y => PySem.W.kIn_of Y) ?F ?S ?C
  case F =>
    intro w mg fa h KX G hmg
    have T : ∃ t, My.Txt (L2.KOf KX) t := by
      dsimp only [L2.KOf]                          -- K must stand as «<heap const> w.params» for k_is
      refine' My.txt_mk ?e1 ?e2 ?e3 ..
      (case e1 => PySem.W.k_is)                    -- in the order: a name -> its address -> its object -> its parts
      (case e2 => PySem.W.k_is)
      ..
    obtain ⟨t, T⟩ := T
    have e0 := hmg.symm.trans (PySem.W.mg_of KX G T.law)
    cases e0                                       -- fa is the law's own address
    exact ⟨_, fun s u => .of_eq rfl, fun base kb nb => My.law_fn T kb nb⟩     -- if «.of_eq rfl» comes too early: refine' ⟨_, ?b, fun base kb nb => My.law_fn T kb nb⟩; exact fun s u => .of_eq rfl
  case S => exact fun w H a ns hl hO hS => ..
  case C => exact ..
(the tactic k_is has no namespace: write k_is) -/

/-! SHORT WORDS over the layer: a def of the text, its body, what a loop and a test want. -/
namespace L2
open PySem PySem.Spec PyProof.Rows

/-! ### the text by places -/
/-- the j-th statement of a class's body -/
def inClass (s : Stmt) (j : Nat) : Stmt := match s with
  | .ClassDef _ _ _ body _ _ _ _ _ _ _ => body.getD j (.Pass ⟨0, 0, 0, 0⟩)
  | _ => .Pass ⟨0, 0, 0, 0⟩
def defArgs (s : Stmt) : Arguments := match s with
  | .FunctionDef _ a _ _ _ _ _ _ _ _ => a
  | _ => { posonlyargs := [], args := [], vararg := none, kwonlyargs := [], kw_defaults := [], kwarg := none, defaults := [] }
def defBody (s : Stmt) : List Stmt := match s with
  | .FunctionDef _ _ b _ _ _ _ _ _ _ => b
  | _ => []
def defScope (s : Stmt) : Scope := match s with
  | .FunctionDef _ _ _ _ _ _ sc _ _ _ => sc
  | _ => { kind := .function, names := [], isGenerator := false, isCoroutine := false }

/-! ### no exception leaves a def -/
abbrev CX0 : CXT := fun _ _ _ _ _ _ => False
abbrev E0 : XK := fun _ _ _ => False
theorem pass0 {X : Cx} : Passes CX0 X E0 := fun _ _ _ _ _ _ _ h => h.elim

/-! ### a def (or method) of the text as it stands behind the top -/
structure Fun (K : PySem.W.Frag) (x qual : Str) (st : Stmt) (f : Addr) (fd : FuncData) : Prop where
  ex : ∃ (oc : Value) (od : Option Addr) (kV doc pm : Value) (an : Option Addr) (cdv ct : Value) (osl : Array (Option Value)),
    fd = PySem.W.fnOf x qual (defArgs st) (defBody st) (defScope st) .none kV doc pm an cdv ct ∧ K.lookup f = some ⟨oc, od, .func fd, osl⟩ ∧ PySem.W.codeIn K cdv qual = true
  kp : PySem.W.keepIn K (.ref f) = true
section
variable {P : Program} {w : World} {K : PySem.W.Frag} {mg : Str → Option Value} {base : Heap}
/-- THE RULE for a def: its body as a term of rules, and the reading of that term -/
theorem Fun.ok {x qual : Str} {st : Stmt} {f : Addr} {fd : FuncData} {N ps : List Str} {k : Nat} {sp : Sp} (F : Fun K x qual st f fd) (S : FnScope N ps (defScope st)) (len : ∀ vs H Q E, sp vs H Q E → vs.length = ps.length)
    (hbody : ∀ (cdv : Value) (A : Around) (outer : List Env) (s : Shared) (H : Hp) (vs : List V) (Q : VK) (E : XK), Room k (A.deeper (envOfC qual (defScope st) s.heap.objs.size f cdv)) → sp vs H Q E →
      ∃ t, PSs (cxOf CX0 P w K mg base N qual (defScope st) f cdv A outer s H E).nox (defBody st) t ∧ t { nx := fun _ H' => Q .non H', rt := Q } (start N vs) H) : FnOk P w K mg base CX0 (k + 1) f fd ps sp := by
  obtain ⟨oc, od, kV, doc, pm, an, cdv, ct, osl, rfl, lk, hcd⟩ := F.ex
  refine fn_of lk hcd S len fun A outer s H vs Q E hr hsp => ?_
  obtain ⟨t, h, q⟩ := hbody cdv A outer s H vs Q E hr hsp
  exact ⟨t, h.nox, q⟩
/-- how its arguments bind (no defaults): h is «fun _ _ _ _ _ _ us hl => match us, hl with | [_, _], _ => rfl», one _ a parameter -/
theorem Fun.binds {x qual : Str} {st : Stmt} {f : Addr} {fd : FuncData} {ps : List Str} (F : Fun K x qual st f fd)
    (h : ∀ (kV doc pm : Value) (an : Option Addr) (cdv ct : Value) (us : List Value), us.length = ps.length → bindArgs (PySem.W.fnOf x qual (defArgs st) (defBody st) (defScope st) .none kV doc pm an cdv ct) ⟨us, []⟩ = pure (ps.zip us)) : Binds K fd ps [] := by
  obtain ⟨oc, od, kV, doc, pm, an, cdv, ct, osl, rfl, lk, hcd⟩ := F.ex
  exact .all (h kV doc pm an cdv ct)
theorem fun_mk {x qual : Str} {st : Stmt} {f : Addr} {oc : Value} {od an : Option Addr} {osl : Array (Option Value)} {kV doc pm cdv ct : Value} (l : K.lookup f = some ⟨oc, od, .func (PySem.W.fnOf x qual (defArgs st) (defBody st) (defScope st) .none kV doc pm an cdv ct), osl⟩)
    (c : PySem.W.codeIn K cdv qual = true) (k : PySem.W.keepIn K (.ref f) = true) : Fun K x qual st f (PySem.W.fnOf x qual (defArgs st) (defBody st) (defScope st) .none kV doc pm an cdv ct) := ⟨⟨oc, od, kV, doc, pm, an, cdv, ct, osl, rfl, l, c⟩, k⟩
end
theorem hu_of {A : Around} {k : Nat} (hr : Room k A) : A.units + 1 < cLine := Nat.lt_of_le_of_lt (Nat.add_le_add_left (by decide : 1 ≤ 64) _) hr.units
/-! ### expressions in short: the name that stands in the i-th slot -/
section
variable {X : Cx}
theorem pv (i : Nat) {x : Str} {pos : Pos} (hN : X.N[i]? = some x := by rfl) (hv : Vis X.env.scope x := by first | exact Or.inl rfl | exact Or.inr (Or.inl rfl) | exact Or.inr (Or.inr rfl)) (hd : (x == ("__debug__" : Str)) = false := by decide)
    (hcd : (x == ("__classdict__" : Str)) = false := by decide) : PE X (.Name x pos) (tVar i) := pe_var hN hv hd hcd
end

/-! ### tests -/
theorem iteT {A B : Prop} (h : A) : if true = true then A else B := by
  rw [if_pos rfl]
  exact h
theorem ite2 {c A B : Prop} [Decidable c] (h1 : c → A) (h2 : ¬ c → B) : if c then A else B := by
  by_cases h : c
  · rw [if_pos h]
    exact h1 h
  · rw [if_neg h]
    exact h2 h
/-! ### heaps -/
/-- all that was tracked is as it was -/
def Same (H H' : Hp) : Prop := ∀ b o, H b = some o → H' b = some o
theorem Same.refl (H : Hp) : Same H H := fun _ _ h => h
theorem Same.trans {H H1 H2 : Hp} (a : Same H H1) (b : Same H1 H2) : Same H H2 := fun c o h => b c o (a c o h)
theorem Same.free {H H' : Hp} (e : Same H H') {l : Addr} (h : H' l = Option.none) : H l = Option.none := by
  cases q : H l with
  | none => rfl
  | some o =>
    rw [e l o q] at h
    cases h
theorem Same.seq {K : PySem.W.Frag} {H H' : Hp} {a : Addr} {xs : List V} (e : Same H H') (h : SqL K H a xs) : SqL K H' a xs := by
  rcases h with (h | ⟨o, h⟩) | h
  · exact .inl (.inl (e _ _ h))
  · exact .inl (.inr ⟨o, e _ _ h⟩)
  · exact .inr h

end L2

namespace GF
/-- the symbol doubled -/
def dbl (r w x : Nat) : Nat := if 2 ^ w ≤ 2 * x then (2 * x) ^^^ r else 2 * x
structure Rule (r w : Nat) : Prop where
  lo : 2 ^ w ≤ r
  hi : r < 2 ^ (w + 1)
variable {r w : Nat}
/-- the product -/
def tm (r w a b : Nat) : Nat := if b = 0 then 0 else (if b % 2 = 1 then a else 0) ^^^ tm r w (dbl r w a) (b / 2)
termination_by b
decreasing_by omega
/-- the symbol that a row of binary digits is worth -/
abbrev ev (r w x : Nat) : Nat := tm r w 1 x
end GF

namespace GF
variable {r w : Nat}
/-! the law's long product -/
/-- what the first loop keeps -/
structure Sum1 (r w a b i f : Nat) : Prop where
  lt : f < 2 ^ (2 * w - 1)
  ev : ev r w f = tm r w a (b % 2 ^ i)
/-- what the second loop keeps: i turns are done -/
structure Sum2 (r w p i f : Nat) : Prop where
  lt : f < 2 ^ (2 * w - 1 - i)
  ev : ev r w f = p
end GF

namespace GF
/-- 1 doubled n times -/
def it (r w : Nat) : Nat → Nat
  | 0 => 1
  | n + 1 => dbl r w (it r w n)
structure Good (r w : Nat) : Prop where
  rule : Rule r w
  w4 : 4 ≤ w
  w8 : w ≤ 8
  odd : r % 2 = 1
  lo16 : 16 ≤ r
  hi511 : r ≤ 511
  back : it r w (2 ^ w - 1) = 1
  first : ∀ n, 1 ≤ n → n < 2 ^ w - 1 → it r w n ≠ 1
/-- the first time from n on at which x, doubled again and again, is 1 -/
def firstBack (r w : Nat) : Nat → Nat → Nat → Option Nat
  | 0, _, _ => none
  | fuel + 1, x, n => if x = 1 then some n else firstBack r w fuel (dbl r w x) (n + 1)
def rules : List Nat := [19, 25, 37, 41, 47, 55, 59, 61, 67, 91, 97, 103, 109, 115, 131, 137, 143, 145, 157, 167, 171, 185, 191, 193,
  203, 211, 213, 229, 239, 241, 247, 253, 285, 299, 301, 333, 351, 355, 357, 361, 369, 391, 397, 425, 451, 463, 487, 501]
def chk (r : Nat) : Bool := decide (16 ≤ r) && decide (r ≤ 511) && decide (r % 2 = 1) && decide (4 ≤ r.log2) && decide (r.log2 ≤ 8) && decide (2 ^ r.log2 ≤ r) && decide (r < 2 ^ (r.log2 + 1)) &&
  decide (firstBack r r.log2 600 2 1 = some (2 ^ r.log2 - 1))
/-- the rule by a cell -/
def ruleOf (c : Int) : Nat := rules.getD (c % 48).toNat 19
/-! how the width is found -/
end GF

namespace GF
/-- the symbols that come up, as a row of binary digits -/
def mask (r w : Nat) : Nat → Nat → Nat → Nat
  | 0, _, acc => acc
  | fuel + 1, x, acc => mask r w fuel (dbl r w x) (acc ||| 2 ^ x)
/-- a rule by which every symbol but 0 comes up -/
structure Full (r w : Nat) : Prop extends Good r w where
  all : ∀ x, 0 < x → x < 2 ^ w → ∃ n, it r w n = x
variable {r w : Nat}
/-! ### powers -/
def pw (r w x : Nat) : Nat → Nat
  | 0 => 1
  | n + 1 => tm r w (pw r w x n) x
/-! ### rows of products -/
def prod (r w : Nat) (row : List Nat) : Nat := row.foldl (fun f x => tm r w f x) 1
end GF
namespace GF
variable {r w : Nat}
end GF

namespace GF
/-- the block of a row of symbols, lowest first -/
def join (w : Nat) : List Nat → Nat
  | [] => 0
  | x :: xs => join w xs * 2 ^ w + x
/-- the symbols of a block -/
def syms (w : Nat) : Nat → Nat → List Nat
  | 0, _ => []
  | n + 1, b => b % 2 ^ w :: syms w n (b / 2 ^ w)
end GF

namespace GF
/-- the sum of blocks, each times its factor -/
def sumB (r w n : Nat) (ps : List (Nat × Nat)) : Nat := ps.foldl (fun t p => t ^^^ join w ((syms w n p.2).map (tm r w p.1))) 0
/-- symbol k of that sum -/
def dg (r w : Nat) (ps : List (Nat × Nat)) (k : Nat) : Nat := ps.foldl (fun t p => t ^^^ tm r w (p.2 / (2 ^ w) ^ k % 2 ^ w) p.1) 0
end GF

set_option linter.all false
set_option maxRecDepth 100000
namespace L2
open PySem PySem.Spec PyProof.Rows
section
variable {X : Cx}
/-- isinstance of one built-in class -/
theorem call_isi : CallR X (.builtin "isinstance") (fun xs H Q => ∃ x c t b, xs = [x, .ty c] ∧ TyOf X.K H x t ∧ PySem.W.kitOne X.K t (.type c) = some b ∧ Q (.bl b) H) := by
  intro pins s σ H xs us Q I r h
  obtain ⟨x, c, t, b, rfl, ty, e, q⟩ := h
  obtain ⟨u, w', rfl, ru, rw'⟩ := vals2 r
  cases (show w' = Value.type c from rw')
  exact isinst_ok I ru ty e fun tk => ⟨.bl b, H, I.tok tk, rfl, q⟩
end
theorem kit_same (K : PySem.W.Frag) (c : String) : PySem.W.kitOne K (.type c) (.type c) = some true := by
  unfold PySem.W.kitOne
  rw [if_pos (by exact beq_self_eq_true _)]
theorem kit_of {K : PySem.W.Frag} {t c : String} {b : Bool} (h0 : (Value.type t == Value.type c) = false) (h1 : PySem.W.kitMeta c = true) (h2 : (PySem.fastBuiltinMro t).map (fun l => l.contains (Value.type c)) = some b) : PySem.W.kitOne K (.type t) (.type c) = some b := by
  unfold PySem.W.kitOne
  rw [if_neg (by rw [h0]; exact Bool.false_ne_true)]
  show (if PySem.W.kitMeta c = true then PySem.W.subIn K (.type t) (.type c) else none) = some b
  rw [if_pos h1]
  exact h2
theorem kit_int_bool (K : PySem.W.Frag) : PySem.W.kitOne K (.type "int") (.type "bool") = some false := kit_of (by decide +kernel) (by decide +kernel) (by decide +kernel)
/-! ### bits of whole numbers from 0 on -/
/-! ### small facts about readings -/
end L2

set_option linter.all false
set_option maxRecDepth 100000
namespace L2
open PySem PySem.Spec PyProof.Rows
/-! ### reversed(xs) of a list that the body leaves as it is -/
def Itv (K : PySem.W.Frag) (a : Addr) (xs : List V) : It :=
  ⟨fun i H => SqL K H a xs ∧ i < xs.length, fun i H x H' => H' = H ∧ xs[xs.length - 1 - i]? = some x, fun i _ => i = xs.length⟩
section
variable {X : Cx} {tg : Expr}
def iRev (K : PySem.W.Frag) (ta : TA) : TI := fun σ H R => ta σ H fun vs H1 => ∃ l xs, vs = [.ref l] ∧ SqL K H1 l xs ∧ R (Itv K l xs) H1
end
end L2

set_option linter.all false
set_option maxRecDepth 100000
set_option maxHeartbeats 1000000
namespace L2
open PySem PySem.Spec PyProof.Rows
/-! ### comprehensions -/
theorem closure_go {env : Env} : ∀ (names : List (Str × NameKind)) (acc : List (Str × Addr)), (∀ n, (n, NameKind.free) ∈ names → ∃ c, env.cells.lookup n = some c) → (∀ n c, acc.lookup n = some c → env.cells.lookup n = some c) →
    ∃ cl : List (Str × Addr), (forIn names acc (fun x r => match x with
        | (name, kind) => if (kind == NameKind.free) = true then do
            let c ← cellOf env name
            pure (ForInStep.yield ((name, c) :: r))
          else pure (ForInStep.yield r)) : Sem (List (Str × Addr))) = pure cl ∧ (∀ n c, cl.lookup n = some c → env.cells.lookup n = some c) ∧
      ∀ n, ((n, NameKind.free) ∈ names ∨ (acc.lookup n).isSome = true) → (cl.lookup n).isSome = true
  | [], acc, _, h => ⟨acc, rfl, h, fun n q => q.elim (fun z => by simp at z) id⟩
  | (n, k) :: r, acc, hf, h => by
    rw [List.forIn_cons]
    by_cases hk : k = .free
    · subst hk
      obtain ⟨c, hc⟩ := hf n List.mem_cons_self
      have e : cellOf env n = pure c := by unfold cellOf; rw [hc]
      obtain ⟨cl, h1, h2, h3⟩ := closure_go r ((n, c) :: acc) (fun m hm => hf m (List.mem_cons_of_mem _ hm)) (fun m d hm => by
        rw [List.lookup_cons] at hm
        cases q : (m == n) with
        | true => rw [q] at hm; cases hm; rw [eq_of_beq q]; exact hc
        | false => rw [q] at hm; exact h m d hm)
      refine ⟨cl, ?_, h2, fun m hm => h3 m ?_⟩
      · show ((if (NameKind.free == NameKind.free) = true then _ else _) >>= _) = _
        rw [if_pos (by decide), e]
        exact h1
      · rcases hm with hm | hm
        · rcases List.mem_cons.mp hm with z | z
          · cases z
            exact .inr (by rw [List.lookup_cons, beq_self_eq_true]; rfl)
          · exact .inl z
        · refine .inr ?_
          rw [List.lookup_cons]
          cases q : (m == n) with
          | true => rfl
          | false => exact hm
    · have hb : (k == NameKind.free) = false := by simpa using hk
      obtain ⟨cl, h1, h2, h3⟩ := closure_go r acc (fun m hm => hf m (List.mem_cons_of_mem _ hm)) h
      refine ⟨cl, ?_, h2, fun m hm => h3 m ?_⟩
      · show ((if (k == NameKind.free) = true then _ else _) >>= _) = _
        rw [if_neg (by rw [hb]; exact Bool.false_ne_true)]
        exact h1
      · rcases hm with hm | hm
        · rcases List.mem_cons.mp hm with z | z
          · cases z
            exact absurd rfl hk
          · exact .inl z
        · exact .inr hm
theorem closure_of {env : Env} {scope : Scope} (hf : ∀ n, (n, NameKind.free) ∈ scope.names → ∃ c, env.cells.lookup n = some c) :
    ∃ cl : List (Str × Addr), closureFor scope env = pure cl ∧ (∀ n c, cl.lookup n = some c → env.cells.lookup n = some c) ∧ ∀ n, (n, NameKind.free) ∈ scope.names → (cl.lookup n).isSome = true := by
  obtain ⟨cl, h1, h2, h3⟩ := closure_go scope.names [] hf (fun n c h => by simp at h)
  refine ⟨cl, ?_, h2, fun n h => h3 n (.inl h)⟩
  unfold closureFor
  have : (forIn scope.names ([] : List (Str × Addr)) (fun x r => match x with
        | (name, kind) => if (kind == NameKind.free) = true then do
            let c ← cellOf env name
            pure (ForInStep.yield ((name, c) :: r))
          else pure (ForInStep.yield r)) : Sem (List (Str × Addr))) = pure cl := h1
  first
    | exact this
    | (rw [show ∀ x : Sem (List (Str × Addr)), (x >>= fun cs => pure cs) = x from fun x => by simp]; exact this)
    | (simp only [bind_pure]; exact this)
theorem lookup_relabel {env : Env} : ∀ (names : List (Str × NameKind)) (x : Str),
    (names.map fun (n, k) => if (k == NameKind.free && env.scope.kind == .function && env.kindOf n == some .cell) = true then (n, NameKind.cell) else (n, k)).lookup x =
      (names.lookup x).map fun k => if (k == NameKind.free && env.scope.kind == .function && env.kindOf x == some .cell) = true then NameKind.cell else k
  | [], x => rfl
  | (n, k) :: r, x => by
    have ih := lookup_relabel (env := env) r x
    show List.lookup x ((if (k == NameKind.free && env.scope.kind == .function && env.kindOf n == some .cell) = true then (n, NameKind.cell) else (n, k)) :: _) = _
    cases q : (x == n) with
    | true =>
      have e := eq_of_beq q
      subst e
      by_cases hc : (k == NameKind.free && env.scope.kind == .function && env.kindOf x == some .cell) = true
      · rw [if_pos hc]
        simp only [List.lookup_cons, q, Option.map_some, if_pos hc]
      · rw [if_neg hc]
        simp only [List.lookup_cons, q, Option.map_some, if_neg hc]
    | false =>
      by_cases hc : (k == NameKind.free && env.scope.kind == .function && env.kindOf n == some .cell) = true
      · rw [if_pos hc]
        simp only [List.lookup_cons, q]
        exact ih
      · rw [if_neg hc]
        simp only [List.lookup_cons, q]
        exact ih
/-- a comprehension's names: cap, the def's that it reads, by their places; own, its own -/
def compOk (N : List Str) (osc sc : Scope) (cap : List Nat) (own : List Str) : Bool :=
  (sc.kind == .function) && sc.names.all (fun y => (y.2 != .cell) && ((y.2 != .local) || (sc.names.lookup y.1 == some .local)) && ((y.2 != .free) || ((sc.names.lookup y.1 == some .free) && ((osc.names.lookup y.1 == some .cell) || (osc.names.lookup y.1 == some .free))))) &&
    cap.all (fun i => match N[i]? with | some x => sc.names.lookup x == some .free | none => false) && own.all (fun x => sc.names.lookup x == some .local) && decide ((cap.map (fun i => N.getD i Str.empty) ++ own).Nodup)
structure CompOk (N : List Str) (osc sc : Scope) (cap : List Nat) (own : List Str) : Prop where
  kind : sc.kind = .function
  nocell : ∀ y ∈ sc.names, y.2 ≠ .cell
  locs : ∀ y ∈ sc.names, y.2 = .local → sc.names.lookup y.1 = some .local
  free1 : ∀ y ∈ sc.names, y.2 = .free → sc.names.lookup y.1 = some .free
  frees : ∀ y ∈ sc.names, y.2 = .free → osc.names.lookup y.1 = some .cell ∨ osc.names.lookup y.1 = some .free
  capf : ∀ i ∈ cap, ∃ x, N[i]? = some x ∧ sc.names.lookup x = some .free
  owns : ∀ x ∈ own, sc.names.lookup x = some .local
  nd : (cap.map (fun i => N.getD i Str.empty) ++ own).Nodup
theorem CompOk.of {N : List Str} {osc sc : Scope} {cap : List Nat} {own : List Str} (h : compOk N osc sc cap own = true) : CompOk N osc sc cap own := by
  unfold compOk at h
  simp only [Bool.and_eq_true] at h
  obtain ⟨⟨⟨⟨h1, h2⟩, h3⟩, h4⟩, h5⟩ := h
  have all := List.all_eq_true.mp h2
  refine ⟨eq_of_beq h1, fun y hy => ?_, fun y hy e => ?_, fun y hy e => ?_, fun y hy e => ?_, fun i hi => ?_, fun x hx => ?_, of_decide_eq_true h5⟩
  · have q := all y hy
    simp only [Bool.and_eq_true] at q
    intro e
    rw [e] at q
    exact absurd q.1.1 (by decide)
  · have q := all y hy
    simp only [Bool.and_eq_true, Bool.or_eq_true] at q
    rcases q.1.2 with z | z
    · rw [e] at z; exact absurd z (by decide)
    · exact eq_of_beq z
  · have q := all y hy
    simp only [Bool.and_eq_true, Bool.or_eq_true] at q
    rcases q.2 with z | z
    · rw [e] at z; exact absurd z (by decide)
    · exact eq_of_beq z.1
  · have q := all y hy
    simp only [Bool.and_eq_true, Bool.or_eq_true] at q
    rcases q.2 with z | z
    · rw [e] at z; exact absurd z (by decide)
    · exact z.2.imp eq_of_beq eq_of_beq
  · have q := List.all_eq_true.mp h3 i hi
    cases e : N[i]? with
    | none => rw [e] at q; cases q
    | some x => rw [e] at q; exact ⟨x, rfl, eq_of_beq q⟩
  · exact eq_of_beq (List.all_eq_true.mp h4 x hx)
abbrev compN (N : List Str) (cap : List Nat) (own : List Str) : List Str := cap.map (fun i => N.getD i Str.empty) ++ own
abbrev compSt (σ : St) (cap : List Nat) (own : List Str) : St := cap.map (fun i => (σ[i]?).join) ++ own.map fun _ => none
/-- the context of a comprehension's block -/
def compCx (X : Cx) (sc : Scope) (cl : List (Str × Addr)) (C : Addr) (cap : List Nat) (own : List Str) (s₀ : Shared) (H₀ : Hp) (ex : List Addr) : Cx :=
  { X with N := compN X.N cap own, s₀ := s₀, H₀ := H₀, env := compEnvC sc cl C X.env, outer := X.stack, stack := X.stack, ex := ex, fn := fun _ => false, pn := [], xe := fun _ _ => False }
section
variable {X : Cx} {pins : List (Addr × Obj)} {σ : St} {H : Hp} {s : Shared} {sc : Scope} {cl : List (Str × Addr)} {cap : List Nat} {own : List Str}
theorem kind_relabel (S : CompOk X.N X.env.scope sc cap own) {x : Str} {C : Addr} (h : (compEnvC sc cl C X.env).kindOf x = some .cell ∨ (compEnvC sc cl C X.env).kindOf x = some .free) : (x, NameKind.free) ∈ sc.names := by
  have e : (compEnvC sc cl C X.env).kindOf x = (sc.names.lookup x).map fun k => if (k == NameKind.free && X.env.scope.kind == .function && X.env.kindOf x == some .cell) = true then NameKind.cell else k := lookup_relabel sc.names x
  rw [e] at h
  cases q : sc.names.lookup x with
  | none => rw [q] at h; rcases h with z | z <;> cases z
  | some k =>
    have hm := PySem.mem_of_lookup q
    have hk : k = .free := by
      rw [q] at h
      simp only [Option.map_some, Option.some.injEq] at h
      by_cases c : (k == NameKind.free && X.env.scope.kind == .function && X.env.kindOf x == some .cell) = true
      · simp only [Bool.and_eq_true] at c
        exact eq_of_beq c.1.1
      · rw [if_neg c] at h
        rcases h with z | z
        · exact absurd z (S.nocell _ hm)
        · exact z
    rw [hk] at hm
    exact hm
theorem kind_free (S : CompOk X.N X.env.scope sc cap own) {x : Str} {C : Addr} (h : sc.names.lookup x = some .free) : (compEnvC sc cl C X.env).kindOf x = some .cell ∨ (compEnvC sc cl C X.env).kindOf x = some .free := by
  have e : (compEnvC sc cl C X.env).kindOf x = (sc.names.lookup x).map fun k => if (k == NameKind.free && X.env.scope.kind == .function && X.env.kindOf x == some .cell) = true then NameKind.cell else k := lookup_relabel sc.names x
  rw [e, h]
  simp only [Option.map_some, Option.some.injEq]
  split
  · exact .inl rfl
  · exact .inr rfl
/-- the block begins -/
theorem Inv.block {h' : Heap} {fp : List Addr} {t' : Nat} (I : Inv X pins σ H s) (S : CompOk X.N X.env.scope sc cap own) (hc1 : ∀ n c, cl.lookup n = some c → X.env.cells.lookup n = some c) (hc2 : ∀ n, (n, NameKind.free) ∈ sc.names → (cl.lookup n).isSome = true)
    (hf : ∀ b ∈ fp, FpOk X pins H b) (hlt : ∀ b ∈ fp, b < s.heap.objs.size) {m : Str → Option Value} (hn : h'.Ns s.heap.objs.size m) (k : ∀ b u, s.heap.get? b = some u → h'.get? b = some u) :
    Inv (compCx X sc cl s.heap.objs.size cap own s H fp) [] (compSt σ cap own) H { s with heap := h', toks := t' } := by
  refine ⟨⟨I.mod, S.kind, I.ok.glob, I.ok.blt, Nat.le_refl _, fun x y c a b => I.ok.inj x y c (hc1 x c a) (hc1 y c b), fun x hx => ?_, fun x c z => absurd z (by show ¬ (false = true); decide), I.ok.hd, I.ok.frames, .inl rfl, fun b hb => ⟨Nat.ne_of_lt (hlt b hb), fun x c e => (hf b hb).2.2.2.2.1 x c (hc1 x c e)⟩, I.bs, Nat.le_trans I.ok.bsz I.sz, fun b o e hb => ?_, fun b hb z => ?_, I.stack, I.stkFree⟩,
    rfl, I.bare, Un.kept k, ⟨m, hn, fun i x v e1 e2 e3 => ?_⟩, fun x c e => ?_, I.hok.fresh (Nat.le_refl _), fun x c e => I.freeC x c (hc1 x c e), fun p hp => absurd hp (by show p ∉ ([] ++ [] : List (Addr × Obj)); simp), I.hok.kept k, ?_⟩
  · have hm := kind_relabel S hx
    exact Option.isSome_iff_exists.mp (hc2 x hm)
  · rcases (hf b hb).2.2.2.1 with z | z
    · exact I.ok.noex b o e z
    · exact absurd (Nat.lt_of_lt_of_le (Heap.lt_size (I.ok.bs b o e).1) z) (Nat.lt_irrefl _)
  · rcases List.mem_cons.mp (I.stkSub b z) with q | q
    · exact (hf b hb).2.1 q
    · exact (hf b hb).2.2.1 q
  · by_cases hi : i < cap.length
    · have e1' : (compN X.N cap own)[i]? = some x := e1
      have e2' : (compSt σ cap own)[i]? = some (some v) := e2
      rw [compN, List.getElem?_append_left (by simpa using hi), List.getElem?_map, List.getElem?_eq_getElem hi] at e1'
      rw [compSt, List.getElem?_append_left (by simpa using hi), List.getElem?_map, List.getElem?_eq_getElem hi] at e2'
      simp only [Option.map_some, Option.some.injEq] at e1' e2'
      obtain ⟨y, hy, hl⟩ := S.capf _ (List.getElem_mem hi)
      have exy : x = y := by
        rw [← e1', List.getD_eq_getElem?_getD, hy]; rfl
      subst exy
      have ev : σ[cap[i]]? = some (some v) := by
        cases q : σ[cap[i]]? with
        | none => rw [q] at e2'; cases e2'
        | some o => rw [q] at e2'; exact congrArg some e2'
      obtain ⟨m0, hn0, hl0⟩ := I.loc
      have hm := PySem.mem_of_lookup hl
      have hko := S.frees _ hm rfl
      obtain ⟨u, ru, lk⟩ := hl0 _ x v hy ev (hko.elim (fun z => .inr (.inl z)) fun z => .inr (.inr z))
      refine ⟨u, ru, .inr ⟨kind_free S hl, ?_⟩⟩
      obtain ⟨c, hc⟩ := Option.isSome_iff_exists.mp (hc2 x hm)
      refine ⟨c, hc, ?_⟩
      rcases lk with ⟨z, _⟩ | ⟨_, c', hc', q⟩
      · have z' : X.env.scope.names.lookup x = some .local := z
        rcases hko with w | w <;> (rw [z'] at w; cases w)
      · have := hc1 x c hc
        rw [hc'] at this
        cases this
        obtain ⟨o, ho, hd⟩ := q
        exact ⟨o, k _ o ho, hd⟩
    · have e2' : (compSt σ cap own)[i]? = some (some v) := e2
      rw [compSt, List.getElem?_append_right (by simpa using hi), List.getElem?_map] at e2'
      cases q : own[i - (cap.map fun i => (σ[i]?).join).length]? with
      | none => rw [q] at e2'; cases e2'
      | some o => rw [q] at e2'; cases e2'
  · obtain ⟨v, o, ho, hd⟩ := I.cell x c (hc1 x c e)
    exact ⟨v, o, k c o ho, hd⟩
  · show (compSt σ cap own).length = (compN X.N cap own).length
    simp [compSt, compN]
/-- the tests of a comprehension -/
def PTs (X : Cx) (ifs : List Expr) (t : TT) : Prop :=
  ∀ (pins : List (Addr × Obj)) (s : Shared) (σ : St) (H : Hp) (Q : Bool → Hp → Prop), Inv X pins σ H s → t σ H Q →
    wpAny (model X.prog X.w) X.A (forIn ifs true fun c r => if r = true then do let ok ← isTrue c X.env (eval c X.env); pure (ForInStep.yield ok) else pure (ForInStep.yield r)) (TP X pins σ Q) X.xe s
def tTrue : TT := fun _ H Q => Q true H
theorem pts_nil : PTs X [] tTrue := fun _ _ _ H _ I h => wpAny_tests_nil ⟨H, I, h⟩
end
theorem comp_loop {prog : Program} {w : World} {A : Around} {R : Result → Shared → Prop} {s : Shared} {elt target iter : Expr} {ifs : List Expr} {scope : Scope} {pos : Pos} {it acc : Value} {env : Env} (I : Nat → Shared → Prop)
    (turn : ∀ n s, I n s → wpAny (model prog w) A (pyNext it) (fun r s₁ => match r with
      | none => R (.ok .next) s₁
      | some v => wpAny (model prog w) A (letOwnedTupleGo target it v) (fun _ s₁ => wpAny (model prog w) A (assign target env v) (fun _ s₂ =>
          wpAny (model prog w) A (forIn ifs true fun c r => if r = true then do let ok ← isTrue c env (eval c env); pure (ForInStep.yield ok) else pure (ForInStep.yield r)) (fun ok s₃ =>
            if ok = true then wpAny (model prog w) A (eval elt env) (fun x s₄ =>
              wpAny (model prog w) A (call (.builtin "list.append") [acc, x]) (fun _ s₅ => ∃ m, m < n ∧ I m s₅) (fun _ _ => False) s₄) (fun _ _ => False) s₃
            else ∃ m, m < n ∧ I m s₃) (fun _ _ => False) s₂) (fun _ _ => False) s₁) (fun _ _ => False) s₁) (fun _ _ => False) s)
    (n : Nat) (h : I n s) :
    codeAny (model prog w) A (.compLoop (.ListComp elt [⟨target, iter, ifs, 0⟩] scope pos) 0 it acc env) R s := by
  refine codeAny_loop rfl I (fun n s hI => ?_) n h
  show wpAny _ A ((compTurn (.ListComp elt [⟨target, iter, ifs, 0⟩] scope pos) 0 it acc env).onRaise (fun x => do noteFrame x env; theTreesLotGoes x)) _ _ s
  refine wpAny_noted ?_
  rw [compTurn_list]
  refine wpAny_noRaise ?_
  refine wpAny_bind (wpAny_standAt (wpAny_bind (wpAny_mono (turn n s hI) (fun r s₁ h₁ => ?_) fun _ _ h' => h')))
  cases r with
  | none => exact wpAny_pure h₁
  | some v =>
    refine wpAny_bind (wpAny_mono h₁ (fun _ s₁ h₁ => ?_) fun _ _ h' => h')
    refine wpAny_bind (wpAny_mono h₁ (fun _ s₂ h₂ => wpAny_bind (wpAny_mono h₂ (fun ok s₃ h₃ => ?_) fun _ _ h' => h')) fun _ _ h' => h')
    cases ok with
    | false => exact wpAny_pure ⟨rfl, h₃⟩
    | true =>
      exact wpAny_bind (wpAny_bind (wpAny_mono h₃ (fun x s₄ h₄ => wpAny_bind (wpAny_mono h₄ (fun _ s₅ h₅ => wpAny_pure (wpAny_pure ⟨rfl, h₅⟩)) fun _ _ h' => h')) fun _ _ h' => h'))
/-- what a comprehension reads as: W by the turn, a measure, the list so far -/
def tCompQ (J : It) (g : TG) (tt : TT) (te : TE) (σ0 : St) (H1 : Hp) (D : Addr) (Q : Hp → Prop) : Prop :=
  ∃ W : Nat → Nat → List V → St → Hp → Prop, (∃ m, W 0 m [] σ0 (upd H1 D (.lst []))) ∧ ∀ i m ys σ H, W i m ys σ H → H D = some (.lst ys) ∧
    ((J.stop i H ∧ Q H) ∨ (J.go i H ∧ ∀ x H', J.yld i H x H' → g x σ H' fun σ2 H2 => tt σ2 H2 fun b H3 =>
      if b = true then te σ2 H3 fun v H4 => H4 D = some (.lst ys) ∧ ys.length < sizeLine ∧ ∃ m', m' < m ∧ W (i + 1) m' (ys ++ [v]) σ2 (upd H4 D (.lst (ys ++ [v])))
      else ∃ m', m' < m ∧ W (i + 1) m' ys σ2 H3))
def tComp (cap : List Nat) (own : List Str) (wi : TI) (g : TG) (tt : TT) (te : TE) : TE := fun σ H Q => wi σ H fun J H1 => ∀ D, H1 D = none → tCompQ J g tt te (compSt σ cap own) H1 D (fun H' => Q (.ref D) H')
section
variable {X : Cx} {sc : Scope} {cap : List Nat} {own : List Str} {tg iter elt : Expr} {ifs : List Expr} {pos : Pos} {wi : TI} {g : TG} {tt : TT} {te : TE}
theorem comp_core {use : Option (Value → Sem Unit)} {ppos : Pos} {pins : List (Addr × Obj)} {s : Shared} {σ : St} {H : Hp} {Q : V → Hp → Prop} {R : Value → Shared → Prop} (hc : X.calm = true) (S : CompOk X.N X.env.scope sc cap own) (hi : PI X tg iter wi)
    (hg : ∀ cl C s₀ H₀ ex, PG (compCx X sc cl C cap own s₀ H₀ ex) tg g) (ht : ∀ cl C s₀ H₀ ex, PTs (compCx X sc cl C cap own s₀ H₀ ex) ifs tt) (he : ∀ cl C s₀ H₀ ex, PE (compCx X sc cl C cap own s₀ H₀ ex) elt te)
    (hs : ∀ x, foldedSetIterable iter X.env x = pure x) (I : Inv X pins σ H s) (h : tComp cap own wi g tt te σ H Q)
    (fin : ∀ (D C : Addr) (H' : Hp) (s' : Shared) (m : Str → Option Value), Inv X pins σ H' s' → s'.heap.Ns C m → FpOk X pins H' C → Q (.ref D) H' → compPost (model X.prog X.w) X.A X.xe use R (.ref D) C (.ok .next) s') :
    wpAny (model X.prog X.w) X.A (comprehension (.ListComp elt [⟨tg, iter, ifs, 0⟩] sc pos) sc X.env ppos (newList []) false (eval iter X.env) use) R X.xe s := by
  obtain ⟨cl, hclos, hc1, hc2⟩ := closure_of (env := X.env) (scope := sc) fun n hn => X.env.cells.lookup n |> fun _ => I.ok.has n (S.frees _ hn rfl)
  refine wpAny_comprehension_free (use := use) rfl hs hclos S.kind S.locs (thn (hi pins s σ H _ I h) fun v s1 h1 => thn h1 fun itv s2 h2 => ?_)
  obtain ⟨it, fp, tn, J, H2, rfl, I2, T, st2, f2, q⟩ := h2
  refine wpAny_newObj_type ?_
  obtain ⟨D, hD⟩ : ∃ D, D = s2.heap.objs.size := ⟨_, rfl⟩
  have hfr : H2 D = none := by rw [hD]; exact I2.hok.fresh (Nat.le_refl _)
  have I3 : Inv X pins σ (upd H2 D (.lst [])) { s2 with heap := s2.heap.push { cls := .type "list", dict := none, data := .seq ([] : List Value).toArray } } := by
    rw [hD]
    exact I2.laid (t' := s2.toks) (fun b u e => Heap.get?_push_of_some _ e) (Nat.le_refl _) ⟨Nat.zero_le _, [], _, .nil, Heap.get?_push_size _ rfl⟩
  have fpne : ∀ b ∈ fp, b ≠ D := fun b hb z => by
    obtain ⟨o, ho, _⟩ := T.obj _ _ st2 b hb
    exact absurd (Heap.lt_size ho) (by rw [z, hD]; exact Nat.lt_irrefl _)
  have f3 : ∀ b ∈ fp, FpOk X pins (upd H2 D (.lst [])) b := fun b hb => ⟨by rw [upd_ne (fpne b hb)]; exact (f2 b hb).1, (f2 b hb).2⟩
  have st3 : tn 0 (s2.heap.push { cls := .type "list", dict := none, data := .seq ([] : List Value).toArray }) := T.keep _ _ _ st2 fun b _ o e => Heap.get?_push_of_some _ e
  rw [← hD]
  obtain ⟨W, ⟨m0, w0⟩, turn⟩ := q D hfr
  generalize hs3 : ({ s2 with heap := s2.heap.push { cls := .type "list", dict := none, data := .seq ([] : List Value).toArray } } : Shared) = s3 at I3 ⊢
  have st3' : tn 0 s3.heap := by rw [← hs3]; exact st3
  refine wpAny_newFunctionEnv S.nocell (by intro y hy; simp at hy) (fun h1 hns hsb => ?_) S.kind
  have hk : ∀ b u, s3.heap.get? b = some u → h1.get? b = some u := fun b u e => hsb.extBut b u (Nat.ne_of_lt (Heap.lt_size e)) (Heap.get?_push_of_some _ e)
  have fplt : ∀ b ∈ fp, b < s3.heap.objs.size := fun b hb => by
    obtain ⟨o, ho, _⟩ := T.obj _ _ st3' b hb
    exact Heap.lt_size ho
  have I4 := I3.block (t' := s3.toks + ([] : List (Str × Value)).length) S hc1 hc2 f3 fplt hns hk
  have fC : ∀ H', H' s3.heap.objs.size = none → FpOk X pins H' s3.heap.objs.size := fun H' hn => I3.fpOk (Nat.le_refl _) hn
  obtain ⟨C, hC⟩ : ∃ C, C = s3.heap.objs.size := ⟨_, rfl⟩
  rw [← hC] at I4 fC
  rw [← hC]
  obtain ⟨Xc, hXc⟩ : ∃ Xc, Xc = compCx X sc cl C cap own s3 (upd H2 D (.lst [])) fp := ⟨_, rfl⟩
  rw [← hXc] at I4
  have gX : PG Xc tg g := hXc ▸ hg cl C s3 _ fp
  have tX : PTs Xc ifs tt := hXc ▸ ht cl C s3 _ fp
  have eX : PE Xc elt te := hXc ▸ he cl C s3 _ fp
  have x1 : Xc.prog = X.prog := by rw [hXc]; rfl
  have x2 : Xc.w = X.w := by rw [hXc]; rfl
  have x3 : Xc.K = X.K := by rw [hXc]; rfl
  have x4 : Xc.calm = true := by rw [hXc]; exact hc
  have x5 : Xc.A = X.A := by rw [hXc]; rfl
  have x6 : Xc.env = compEnvC sc cl C X.env := by rw [hXc]; rfl
  have x7 : Xc.xe = fun _ _ => False := by rw [hXc]; rfl
  have stat : ∀ {H' : Hp}, (∀ b ∈ fp, H' b = none) → ∀ b ∈ fp, FpOk Xc [] H' b := fun hn b hb => by
    rw [hXc]
    refine ⟨hn b hb, ?_, ?_, .inl hb, fun x c e => (f3 b hb).2.2.2.2.1 x c (hc1 x c e), fun p hp => absurd hp (by show p ∉ ([] ++ [] : List (Addr × Obj)); simp)⟩
    · show b ≠ C
      rw [hC]
      exact Nat.ne_of_lt (fplt b hb)
    · intro z
      rcases List.mem_cons.mp (I3.stkSub b z) with q | q
      · exact (f3 b hb).2.1 q
      · exact (f3 b hb).2.2.1 q
  have st4 : tn 0 h1 := T.keep _ _ _ st3' fun b _ o e => hk b o e
  have loop : ∀ s4 : Shared, s4 = { s3 with heap := h1, toks := s3.toks + ([] : List (Str × Value)).length } →
      codeAny (model X.prog X.w) X.A (.compLoop (.ListComp elt [⟨tg, iter, ifs, 0⟩] sc pos) 0 (.ref it) (.ref D) (compEnvC sc cl C X.env)) (compPost (model X.prog X.w) X.A X.xe use R (.ref D) C) s4 := by
    rintro s4 rfl
    refine comp_loop (fun n s' => ∃ i σ' H' ys, Inv Xc [] σ' H' s' ∧ tn i s'.heap ∧ (∀ b ∈ fp, H' b = none) ∧ H' D = some (.lst ys) ∧ W i n ys σ' H') ?_ m0 ⟨0, _, _, [], I4, st4, fun b hb => (f3 b hb).1, upd_same, w0⟩
    rintro n s5 ⟨i, σ5, H5, ys, I5, st5, fr5, hD5, w5⟩
    obtain ⟨_, cases5⟩ := turn i n ys σ5 H5 w5
    rcases cases5 with ⟨stop, qq⟩ | ⟨go, step⟩
    · have td := T.done Xc x1 x2 x3 x4 i [] s5 σ5 H5 (fun _ _ => False) I5 (stat fr5) st5 stop
      rw [x5] at td
      refine thn td fun r s6 ⟨hr, I6⟩ => ?_
      subst hr
      show compPost _ _ _ _ _ _ _ (.ok .next) s6
      obtain ⟨m6, hn6, _⟩ := id I6.loc
      rw [x6] at hn6
      have u6 := I6.base
      have ok6 := I6.hok
      have fr6 : H5 C = none := by have := I6.free; rw [x6] at this; exact this
      have os6 : s6.os = s3.os := by have := I6.os; rw [hXc] at this; exact this
      rw [hXc] at u6 ok6
      have IX : Inv X pins σ H5 s6 := I3.call' (s' := s6) os6 u6 ok6 I6.bare fun b hb => ⟨(f3 b hb).2.2.2.1, (f3 b hb).2.1, (f3 b hb).2.2.2.2.1, (f3 b hb).2.2.2.2.2⟩
      exact fin D C H5 s6 m6 IX hn6 (fC H5 fr6) qq
    · have ti := T.item Xc x1 x2 x3 x4 i [] s5 σ5 H5 (fun _ _ => False) I5 (stat fr5) st5 go
      rw [x5] at ti
      refine thn ti fun r s6 ⟨u, hr, h6⟩ => ?_
      subst hr
      refine thn h6 fun _ s7 ⟨x, H7, I7, r7, y7, st7, fr7⟩ => ?_
      have I7' := I7.pinned (stat fr7) (T.obj _ _ st7)
      have a7 := gX _ s7 σ5 H7 x u _ I7' r7 (step x H7 y7)
      rw [x1, x2, x5, x6, x7] at a7
      refine thn a7 fun _ s8 ⟨σ8, H8, I8, q8⟩ => ?_
      have a8 := tX _ s8 σ8 H8 _ I8 q8
      rw [x1, x2, x5, x6, x7] at a8
      have again : ∀ {σ9 : St} {H9 : Hp} {s9 : Shared} {zs : List V} {m' : Nat}, Inv Xc ([] ++ pinsAt fp s7.heap) σ9 H9 s9 → H9 D = some (.lst zs) → m' < n → W (i + 1) m' zs σ9 H9 →
          ∃ m, m < n ∧ ∃ i σ' H' ys, Inv Xc [] σ' H' s9 ∧ tn i s9.heap ∧ (∀ b ∈ fp, H' b = none) ∧ H' D = some (.lst ys) ∧ W i m ys σ' H' := fun {σ9 H9 s9 zs m'} I9 hz hm w9 => by
        refine ⟨m', hm, i + 1, σ9, H9, zs, I9.unpinned, T.keep _ _ _ st7 fun b hb o e => (I9.pin (b, o) (List.mem_append_right _ (List.mem_append_right _ (mem_pinsAt hb e)))).1, fun b hb => ?_, hz, w9⟩
        obtain ⟨o, e, d⟩ := T.obj _ _ st7 b hb
        exact (I9.pin (b, o) (List.mem_append_right _ (List.mem_append_right _ (mem_pinsAt hb e)))).2.1
      refine thn a8 fun ok s9 ⟨H9, I9, q9⟩ => ?_
      cases ok with
      | false =>
        rw [if_neg Bool.false_ne_true] at q9 ⊢
        obtain ⟨m', hm, w9⟩ := q9
        exact again I9 (turn _ _ _ _ _ w9).1 hm w9
      | true =>
        rw [if_pos rfl] at q9 ⊢
        have a9 := eX _ s9 σ8 H9 _ I9 q9
        rw [x1, x2, x5, x6, x7] at a9
        refine thn a9 fun v s10 ⟨y, H10, I10, r10, hD10, hlen, m', hm, w10⟩ => ?_
        have a10 := mt_append (X := Xc) ([] ++ pinsAt fp s7.heap) s10 σ8 H10 (.ref D) [y] (.ref D) [v] (fun _ H11 => H11 = upd H10 D (.lst (ys ++ [y]))) I10 rfl (.cons r10 .nil) ⟨D, ys, y, rfl, rfl, hD10, hlen, rfl⟩
        rw [x1, x2, x5, x7] at a10
        refine thn a10 fun _ s11 ⟨_, H11, I11, _, e11⟩ => ?_
        subst e11
        exact again I11 upd_same hm w10
  exact codeAny_compStart_list (loop _ rfl) (T.self _ 0 _ _ _ st4 (loop _ rfl))
theorem pe_comp (S : CompOk X.N X.env.scope sc cap own) (hc : X.calm = true) (hi : PI X tg iter wi)
    (hg : ∀ cl C s₀ H₀ ex, PG (compCx X sc cl C cap own s₀ H₀ ex) tg g) (ht : ∀ cl C s₀ H₀ ex, PTs (compCx X sc cl C cap own s₀ H₀ ex) ifs tt) (he : ∀ cl C s₀ H₀ ex, PE (compCx X sc cl C cap own s₀ H₀ ex) elt te)
    (hs : ∀ x, foldedSetIterable iter X.env x = pure x := by intro _; rfl) : PE X (.ListComp elt [⟨tg, iter, ifs, 0⟩] sc pos) (tComp cap own wi g tt te) := by
  intro pins s σ H Q I h
  rw [eval_ListComp]
  refine comp_core (use := none) hc S hi hg ht he hs I h fun D C H' s' m I' hn hf q => ?_
  refine ⟨m, hn, fun h' sb => ?_⟩
  obtain ⟨f0, f1, f2, f3, f4, f5⟩ := hf
  exact ⟨.ref D, H', I'.turned (t' := s'.toks) (fun b o hb e => (sb.2 b hb).trans e) f0 f1 f3 f4 f5, rfl, q⟩
/-- x = [..] on one row -/
theorem ps_setC {i : Nat} {x : Str} {pos' spos : Pos} (hN : X.N.Nodup) (hi' : X.N[i]? = some x) (hx : Loc X.env.scope x) (S : CompOk X.N X.env.scope sc cap own) (hc : X.calm = true) (hi : PI X tg iter wi)
    (hg : ∀ cl C s₀ H₀ ex, PG (compCx X sc cl C cap own s₀ H₀ ex) tg g) (ht : ∀ cl C s₀ H₀ ex, PTs (compCx X sc cl C cap own s₀ H₀ ex) ifs tt) (he : ∀ cl C s₀ H₀ ex, PE (compCx X sc cl C cap own s₀ H₀ ex) elt te)
    (hsw : swapsWith (.ListComp elt [⟨tg, iter, ifs, 0⟩] sc pos) (some (.Name x pos')) spos.line X.env = pure true := by rfl) (hs : ∀ x, foldedSetIterable iter X.env x = pure x := by intro _; rfl)
    (hf : X.fn x = true ∨ X.env.scope.names.lookup x = some .local := by first | exact .inl rfl | exact .inr rfl | assumption) :
    PS X (.Assign [.Name x pos'] (.ListComp elt [⟨tg, iter, ifs, 0⟩] sc pos) spos) (fun D σ H => tComp cap own wi g tt te σ H fun v H1 => D.nx (σ.set i (some v)) H1) := by
  intro pins s σ H D I h
  rw [exec_Assign_Name_used _ _ _ _ hsw]
  refine wpAny_bind (wpAny_standAt (wpAny_bind ?_))
  show wpAny _ X.A (do let _ ← comprehension (.ListComp elt [⟨tg, iter, ifs, 0⟩] sc pos) sc X.env _ (newList []) false (eval iter X.env) (some (assign (.Name x pos') X.env))) _ _ s
  refine wpAny_bind (thn (comp_core (use := some (assign (.Name x pos') X.env)) (R := fun _ s' => SP X pins D .next s') hc S hi hg ht he hs I h fun A C H' s' m I' hn hfp q => ?_) (fun _ s' hq => wpAny_pure (wpAny_pure hq)))
  obtain ⟨f0, f1, f2, f3, f4, f5⟩ := hfp
  refine wpAny_assign_Name (store_ok2 I' hN hi' hx (v := .ref A) rfl (fun s'' I'' ⟨a, sa, ha⟩ => ?_) hf)
  have hCa : C ≠ a := by
    rcases ha with z | z
    · rw [z]; exact f1
    · exact fun w => f4 x a z w.symm
  refine ⟨m, hn.sameBut sa hCa, fun h' sb => ?_⟩
  exact ⟨_, H', I''.turned (t' := s''.toks) (fun b o hb e => (sb.2 b hb).trans e) f0 f1 f3 f4 f5, q⟩
end
end L2

set_option linter.all false
set_option maxRecDepth 100000
set_option maxHeartbeats 1000000
namespace L2
open PySem PySem.Spec PyProof.Rows
section
variable {X : Cx} {pins : List (Addr × Obj)} {σ : St} {H : Hp} {s : Shared} {h' : Heap}
end
/-! ### zip of two lists that the body leaves as they are -/
def Itz (K : PySem.W.Frag) (l1 l2 : Addr) (xs ys : List V) : It :=
  ⟨fun i H => SqL K H l1 xs ∧ SqL K H l2 ys ∧ i < xs.length ∧ i < ys.length, fun i H x H' => ∃ T u v, H T = none ∧ x = .ref T ∧ xs[i]? = some u ∧ ys[i]? = some v ∧ H' = upd H T (.tup [u, v]),
    fun i H => SqL K H l1 xs ∧ SqL K H l2 ys ∧ (xs.length ≤ i ∨ ys.length ≤ i)⟩
structure Five (z TI TO i1 i2 : Addr) : Prop where
  TIz : TI ≠ z
  TOz : TO ≠ z
  i1z : i1 ≠ z
  i2z : i2 ≠ z
  TITO : TI ≠ TO
  TIi1 : TI ≠ i1
  TIi2 : TI ≠ i2
  TOi1 : TO ≠ i1
  TOi2 : TO ≠ i2
  i12 : i1 ≠ i2
section
variable {X : Cx}
def iZip (K : PySem.W.Frag) (ta : TA) : TI := fun σ H R => ta σ H fun vs H1 => ∃ l1 l2 xs ys, vs = [.ref l1, .ref l2] ∧ SqL K H1 l1 xs ∧ SqL K H1 l2 ys ∧ R (Itz K l1 l2 xs ys) H1
end
end L2

set_option linter.all false
set_option maxRecDepth 100000
set_option maxHeartbeats 1000000
namespace L2
open PySem PySem.Spec PyProof.Rows
/-! ### data, seen through the heap; == of it -/
inductive Dt where
  | non | bl (b : Bool) | int (i : Int) | str (x : Str) | lst (l : List Dt) | tup (l : List Dt)
mutual
def eqD : Dt → Dt → Bool
  | .non, .non => true
  | .bl a, .bl b => a == b
  | .bl a, .int b => (if a then 1 else 0) == b
  | .int a, .bl b => a == (if b then 1 else 0)
  | .int a, .int b => a == b
  | .str a, .str b => a == b
  | .lst a, .lst b => eqDs a b
  | .tup a, .tup b => eqDs a b
  | _, _ => false
def eqDs : List Dt → List Dt → Bool
  | [], [] => true
  | a :: as, b :: bs => eqD a b && eqDs as bs
  | [], _ :: _ => false
  | _ :: _, [] => false
end
mutual
def depD : Dt → Nat
  | .lst a => depDs a + 1
  | .tup a => depDs a + 1
  | _ => 0
def depDs : List Dt → Nat
  | [] => 0
  | a :: as => max (depD a) (depDs as)
end
mutual
def Sees (K : PySem.W.Frag) (H : Hp) : V → Dt → Prop
  | v, .non => v = .non
  | v, .bl b => v = .bl b
  | v, .int i => v = .int i
  | v, .str x => v = .str x
  | v, .lst ds => ∃ a xs, v = .ref a ∧ SqL K H a xs ∧ SeesL K H xs ds
  | v, .tup ds => ∃ a xs, v = .ref a ∧ SqT K H a xs ∧ SeesL K H xs ds
def SeesL (K : PySem.W.Frag) (H : Hp) : List V → List Dt → Prop
  | xs, [] => xs = []
  | xs, d :: ds => ∃ v vs, xs = v :: vs ∧ Sees K H v d ∧ SeesL K H vs ds
end
section
variable {X : Cx} {pins : List (Addr × Obj)} {σ : St} {H : Hp} {s : Shared}
def flatD : Dt → Bool
  | .lst _ => false
  | .tup _ => false
  | _ => true
/-- the items' answers -/
def eJ (ds ds' : List Dt) (j : Nat) : Bool := eqD (ds.getD j .non) (ds'.getD j .non)
end
section
variable {X : Cx}
def sameK : Dt → Dt → Bool
  | .lst _, .tup _ => false
  | .tup _, .lst _ => false
  | _, _ => true
/-- == of lists or tuples, as data -/
def rEqD (K : PySem.W.Frag) (neg : Bool) : R2 := fun x y H Q => ∃ d d', Sees K H x d ∧ Sees K H y d' ∧ flatD d = false ∧ sameK d d' = true ∧ (∃ p, y = .ref p) ∧ depD d ≤ 60 ∧ Q (.bl (if neg then !eqD d d' else eqD d d')) H
end
end L2

set_option linter.all false
set_option maxRecDepth 100000
set_option maxHeartbeats 1000000
namespace L2
open PySem PySem.Spec PyProof.Rows
theorem Same.up {H H' : Hp} {D : Addr} {o : HO} (s : Same H H') (n : H D = none) : Same H (upd H' D o) := fun b u e => by rw [upd_ne (ne_of_none e n)]; exact s b u e
end L2
namespace L2
open PySem PySem.Spec PyProof.Rows
end L2
namespace L2
open PySem PySem.Spec PyProof.Rows
/-! ### the same, the written part named (for a comprehension's block) -/
section
variable {X : Cx} {K : PySem.W.Frag}
theorem ix_listK (hK : X.K = K) : IxR X (rIxL K) := by subst hK; exact ix_list
end
end L2

set_option linter.all false
set_option maxRecDepth 100000
namespace L2
open PySem PySem.Spec PyProof.Rows
/-- all but what stands at a is kept -/
def But (a : Addr) (H H' : Hp) : Prop := ∀ b o, b ≠ a → H b = some o → H' b = some o
end L2
namespace L2
open PySem PySem.Spec PyProof.Rows
def isInts : List Expr → Option (List Int)
  | [] => some []
  | .Constant (.int i) _ _ :: r => (isInts r).map (i :: ·)
  | _ => none
theorem p0 {j : Int} (h : (0 : Int) < j) : (0 : Int) < j := h
end L2
namespace L2
open PySem PySem.Spec PyProof.Rows
def CDivB (_ j : Int) : Prop := 0 < j ∧ j ≤ 340282366920938463463374607431768211456
end L2

set_option Elab.async false
set_option linter.all false
set_option maxRecDepth 100000
namespace L2
open PySem PySem.Spec PyProof.Rows

/-! ### an exception's object, and how it passes a frame -/
/-- its class, its own dict, the head of its traceback (whose flight is fl) -/
def XObj (h : Heap) (x C : Addr) (od tb : Option Addr) (fl : Value) : Prop :=
  ∃ oe vs, h.get? x = some oe ∧ oe.cls = .ref C ∧ oe.dict = od ∧ oe.data = .fields vs ∧
    match tb with
    | none => vs[1]? = some Value.none
    | some T => vs[1]? = some (.ref T) ∧ T ≠ x ∧ ∃ oT ts, h.get? T = some oT ∧ oT.data = .fields ts ∧ ts[3]? = some fl
/-- all is kept but what stands in Xs; of the frames in S up to slots -/
def Moved (S Xs : List Addr) (h h' : Heap) : Prop :=
  ∀ b o, h.get? b = some o → b ∉ Xs → (b ∉ S → h'.get? b = some o) ∧ ∃ sl, h'.get? b = some { o with slots := sl }

end L2

set_option Elab.async false
set_option linter.all false
set_option maxRecDepth 100000
namespace L2
open PySem PySem.Spec PyProof.Rows

/-! ### a call that an exception left -/
/-- how an exception lies behind a call: a new object of a class, with or without a dict of its own; E says the rest -/
def CXe (P : Program) (w : World) : CXT := fun outer H s E e s' => ∃ (x C T : Addr) (od : Option Addr) (H' : Hp), e = .ref x ∧ s'.os = s.os ∧ AllBare s'.gens ∧ Un (frs outer) [] H H' s.heap s'.heap ∧ HOk P w H' s'.heap ∧
  XObj s'.heap x C od (some T) .none ∧ s.heap.get? x = none ∧ s.heap.get? T = none ∧ H' x = none ∧ H' T = none ∧ E (.ref C) od H'

/-- an exception that rises in a body: what the body wants of exceptions comes of E -/
def Rises (X : Cx) (E : XK) : Prop := ∀ (pins : List (Addr × Obj)) (σ : St) (H : Hp) (s : Shared) (x C : Addr) (od tb : Option Addr), Inv X pins σ H s → XObj s.heap x C od tb .none → X.s₀.heap.get? x = none → (∀ T, tb = some T → X.s₀.heap.get? T = none ∧ H T = none) →
  H x = none → E (.ref C) od H → X.xe (.ref x) s

section
variable {P : Program} {w : World} {K : PySem.W.Frag} {mg : Str → Option Value} {base : Heap} {N : List Str} {qual : Str} {scope : Scope} {f : Addr} {cd : Value} {A : Around} {outer : List Env} {s : Shared} {H : Hp} {E E' : XK}
end
section
variable {P : Program} {w : World} {K : PySem.W.Frag} {mg : Str → Option Value} {base : Heap}
end

/-! ### own exception classes: straight under one own class without __init__, which is straight under ValueError -/
def keysB (es : List DictEntry) : Bool := es.all fun e => match e.key with | .str _ _ => true | _ => false
def nsB (K : PySem.W.Frag) (a : Addr) (f : Array DictEntry → Bool) : Bool := match K.lookup a with
  | some ⟨_, _, .dict es _, _⟩ => keysB es.toList && f es
  | _ => false
abbrev bmV : List Value := [.type "ValueError", .type "Exception", .type "BaseException", .type "object"]
def noInit (es : Array DictEntry) : Bool := (nsFind es "__init__").isNone
/-- C: an own exception class without __init__ under Pk, which is one under ValueError -/
def xcIn (K : PySem.W.Frag) (C Pk : Addr) : Bool :=
  match K.lookup C, K.lookup Pk with
  | some ⟨.type "type", _, .cls cd, sl⟩, some ⟨_, _, .cls cp, _⟩ =>
    (match cd.mro with
    | [.ref C', .ref P', .type "ValueError", .type "Exception", .type "BaseException", .type "object"] => C' == C && P' == Pk
    | _ => false) &&
    (match sl.toList with
    | [_, _, _, _, some (.builtin id), _] => id == "ValueError.__new__"
    | _ => false) && !cd.hasDel && nsB K cd.ns noInit && nsB K cp.ns noInit
  | _, _ => false
/-! ### raise C(..) of such a class -/
section
variable {X : Cx} {E : XK} {c : Str} {C Pk : Addr} {p cpos pos : Pos} {e : Expr} {es : List Expr} {t : TA}
def tRaise (C : Addr) (E : XK) (t : TA) : TS := fun _ σ H => t σ H fun vs H1 => vs.length ≤ sizeLine ∧ E (.ref C) none H1
end
end L2

set_option Elab.async false
set_option linter.all false
set_option maxRecDepth 100000
namespace L2
open PySem PySem.Spec PyProof.Rows

/-! ### states around an exception -/
section
variable {X : Cx} {pins : List (Addr × Obj)} {σ : St} {H : Hp} {s : Shared} {h' : Heap}
/-- within an except suite -/
abbrev Cx.within (X : Cx) (e : Value) : Cx := { X with A := X.A.mark (some e), calm := false, xe := fun _ _ => False }
/-- a caught exception, as it is tracked -/
def XAtF (fl : Bool) (x C : Addr) (od : Option Addr) : Heap → Prop := fun h => ∃ oe vs, h.get? x = some oe ∧ oe.cls = .ref C ∧ oe.dict = od ∧ oe.data = .fields vs ∧ 1 < vs.size ∧ (fl = true → vs[1]? = some Value.none)
abbrev XAt (x C : Addr) (od : Option Addr) : Heap → Prop := XAtF false x C od
/-- an exception that has left a call of this body: nothing was stored -/
def XP (X : Cx) (pins : List (Addr × Obj)) (EX : St → XK) (e : Value) (s' : Shared) : Prop :=
  ∃ (x C T : Addr) (od : Option Addr) (σ : St) (H' : Hp), e = .ref x ∧ Inv X pins σ H' s' ∧ XObj s'.heap x C od (some T) .none ∧ X.s₀.heap.get? x = none ∧ X.s₀.heap.get? T = none ∧ H' x = none ∧ H' T = none ∧
    (∀ p ∈ X.pn ++ pins, p.1 ≠ x ∧ p.1 ≠ T) ∧ EX σ (.ref C) od H'
end

/-! ### expressions that may raise -/
abbrev TEX := St → Hp → VK → XK → Prop
def PEX (X : Cx) (e : Expr) (t : TEX) : Prop := ∀ (pins : List (Addr × Obj)) (s : Shared) (σ : St) (H : Hp) (Q : VK) (EX : St → XK), Inv X pins σ H s → t σ H Q (EX σ) → wpAny (model X.prog X.w) X.A (eval e X.env) (EP X pins σ Q) (XP X pins EX) s
section
variable {X : Cx} {k : Nat} {f C : Addr} {fd : FuncData} {ps : List Str} {sp : Sp} {dvs : List V} {ds : List Value} {x m : Str} {p pos apos : Pos} {e o : Expr} {es : List Expr} {te : TE} {ta : TE} {t : TA}
def tCallX (sp : Sp) (dvs : List V) (t : TA) : TEX := fun σ H Q E => t σ H fun vs H1 => sp (vs ++ dvs) H1 Q E
def tMethX (C : Addr) (m : Str) (sp : Sp) (dvs : List V) (ta : TE) (t : TA) : TEX := fun σ H Q E => ta σ H fun x H1 => ∃ a dx fs, x = .ref a ∧ H1 a = some (.ins C dx fs) ∧ fs.lookup m = none ∧
  t σ H1 fun vs H2 => sp (x :: (vs ++ dvs)) H2 Q E
def tMakeX (C : Addr) (sp : Sp) (dvs : List V) (t : TA) : TEX := fun σ H Q E => t σ H fun vs H1 => ∀ x dx, H1 x = none → H1 dx = none → dx ≠ x →
  sp (.ref x :: (vs ++ dvs)) (upd (upd H1 dx (.own x)) x (.ins C dx [])) (fun v H2 => v = .non ∧ Q (.ref x) H2) E
end

/-! ### statements that may raise, in a try -/
abbrev TSX := Ends → (St → XK) → St → Hp → Prop
def PSX (X : Cx) (st : List Stmt) (t : TSX) : Prop := ∀ (pins : List (Addr × Obj)) (s : Shared) (σ : St) (H : Hp) (D : Ends) (EX : St → XK), Inv X pins σ H s → t D EX σ H → wpAny (model X.prog X.w) X.A (execs st X.env) (SP X pins D) (XP X pins EX) s
section
variable {X : Cx} {e : Expr} {te : TEX} {t : TS} {u : TSX} {st : Stmt} {rest : List Stmt} {pos : Pos}
def tsxSeq (t : TSX) (u : TSX) : TSX := fun D EX σ H => t { D with nx := u D EX } EX σ H
end
end L2

set_option Elab.async false
set_option linter.all false
set_option maxRecDepth 100000
namespace L2
open PySem PySem.Spec PyProof.Rows

/-! ### an exception in the hands of its catcher -/
structure Loose (X : Cx) (pins : List (Addr × Obj)) (H : Hp) (s : Shared) (x C T : Addr) (od : Option Addr) (fl : Value) : Prop where
  obj : XObj s.heap x C od (some T) fl
  f1 : X.s₀.heap.get? x = none
  f2 : X.s₀.heap.get? T = none
  h1 : H x = none
  h2 : H T = none
  p : ∀ p ∈ X.pn ++ pins, p.1 ≠ x ∧ p.1 ≠ T
section
variable {X : Cx} {pins : List (Addr × Obj)} {σ : St} {H : Hp} {s : Shared} {x C T : Addr} {od : Option Addr} {fl : Value}
end

/-! ### except clauses -/
abbrev TH := Ends → Addr → Option Addr → St → Hp → Prop
def PH (X : Cx) (hs : List ExceptHandler) (t : TH) : Prop := ∀ (pins : List (Addr × Obj)) (s : Shared) (σ : St) (H : Hp) (D : Ends) (x C T : Addr) (od : Option Addr), Inv X pins σ H s → Loose X pins H s x C T od .none → t D C od σ H →
  wpAny (model X.prog X.w) X.A (handleBy (.ref x) X.env hs) (SP X pins D) X.xe s
def forget (i : Nat) (D : Ends) : Ends := { nx := fun σ H => D.nx (σ.set i none) H, rt := D.rt, bk := fun σ H => D.bk (σ.set i none) H, ct := fun σ H => D.ct (σ.set i none) H }
/-- except C' as n: .. -/
def tHand (K : PySem.W.Frag) (C' : Addr) (i : Nat) (ts : TS) (rest : TH) : TH := fun D C od σ H => ∃ b, PySem.W.exmOne K (.ref C) (.ref C') = some b ∧
  if b = true then ∀ x, H x = none → ts (forget i D) (σ.set i (some (.ref x))) (upd H x (.ext (XAt x C od))) else rest D C od σ H
/-- except C': .. -/
def tHand0 (K : PySem.W.Frag) (C' : Addr) (ts : TS) (rest : TH) : TH := fun D C od σ H => ∃ b, PySem.W.exmOne K (.ref C) (.ref C') = some b ∧
  if b = true then ts D σ H else rest D C od σ H
section
variable {X : Cx} {c n : Str} {C' : Addr} {i : Nat} {p pos : Pos} {b₀ : Stmt} {suite : List Stmt} {hs : List ExceptHandler} {ts : TS} {th : TH}
/-- try: .. except ..: .. -/
def tTry (tb : TSX) (th : TH) : TS := fun D σ H => tb D (fun σ' C od H' => ∃ c, C = .ref c ∧ th D c od σ' H') σ H
end
end L2

set_option Elab.async false
set_option linter.all false
set_option maxRecDepth 100000
namespace L2
open PySem PySem.Spec PyProof.Rows

/-! ### reading from an exception of an own class -/
def quietB (es : Array DictEntry) : Bool := quietNames.all fun n => (nsFind es n).isNone
/-- C: an own exception class under Pk, which is a quiet one under ValueError -/
def xqIn (K : PySem.W.Frag) (C Pk : Addr) : Bool :=
  match K.lookup C, K.lookup Pk with
  | some ⟨.type "type", _, .cls cd, sl⟩, some ⟨_, _, .cls cp, _⟩ =>
    (match cd.mro with
    | [.ref C', .ref P', .type "ValueError", .type "Exception", .type "BaseException", .type "object"] => C' == C && P' == Pk
    | _ => false) &&
    (match sl.toList with
    | [_, _, _, _, some (.builtin id), _] => id == "ValueError.__new__"
    | _ => false) && !cd.hasDel && nsB K cp.ns quietB
  | _, _ => false
structure XIn (K : PySem.W.Frag) (C Pk : Addr) : Prop where
  cls : xqIn K C Pk = true
  ga : PySem.W.findIn K (.ref C) "__getattribute__" = some (some (.builtin "BaseException.__getattribute__"))
  gt : PySem.W.findIn K (.ref C) "__getattr__" = some none
  ca : PySem.W.findIn K (.ref C) "__class__" = some (some (.builtin "object.__class__"))
  hn : PySem.W.specialIn K (.builtin "object.__class__") "__get__" = some (some (.builtin "getset_descriptor.__get__"))
  tk : PySem.W.takesIn K (.builtin "object.__class__") = some true
  mo : PySem.W.mroIn K C (.type "object") = some true
  kc : PySem.W.kitCls K (.ref C) (.ref C) = some true
section
variable {prog : Program} {w : World} {A : Around} {E : Value → Shared → Prop} {s : Shared} {K : PySem.W.Frag} {x C Pk : Addr} {ox : Obj} {od : Option Obj} {name : Str} {tk : Tok} {fill expr : Bool} {r : Builtin.ObjectAttr.Found} {Q : Value → Shared → Prop}
/-- isinstance's needs -/
def XAtD (x C : Addr) (o : Option Addr) (h : Heap) : Prop := XAt x C o h ∧ ∀ dx, o = some dx → ∃ ob, h.get? dx = some ob
end
section
variable {X : Cx}
/-- an exception that was caught, and what is known of its dict -/
def IsX (H : Hp) (x C : Addr) (od : Option Addr) : Prop := H x = some (.ext (XAt x C od)) ∧ ∀ dx, od = some dx → ∃ o, H dx = some o
end
end L2

set_option Elab.async false
set_option linter.all false
set_option maxRecDepth 100000
namespace L2
open PySem PySem.Spec PyProof.Rows

/-! ### f"..": texts and whole numbers -/
abbrev TJ := St → Hp → (Hp → Prop) → Prop
/-- the parts of an f-string, of at most n signs -/
def PJ (X : Cx) (es : List Expr) (n : Nat) (t : TJ) : Prop := ∀ (pins : List (Addr × Obj)) (s : Shared) (σ : St) (H : Hp) (out : Str) (m : Nat) (Q : Hp → Prop), Inv X pins σ H s → out.length + n ≤ m → m ≤ sizeLine → t σ H Q →
  Joins (model X.prog X.w) X.A X.xe (evalEach es X.env) out (fun o s' => o.length ≤ m ∧ ∃ H', Inv X pins σ H' s' ∧ Q H') s
section
variable {X : Cx} {e v₁ v₂ : Expr} {es : List Expr} {n : Nat} {te : TE} {t : TJ} {pos : Pos}
end
end L2

set_option Elab.async false
set_option linter.all false
set_option maxRecDepth 100000
namespace L2
open PySem PySem.Spec PyProof.Rows

/-! ### an exception of an own class with an __init__ -/
section
variable {prog : Program} {w : World} {A : Around} {E : Value → Shared → Prop} {s : Shared} {K : PySem.W.Frag} {C Pk f : Addr} {rest : List Value}
end
end L2

set_option Elab.async false
set_option linter.all false
set_option maxRecDepth 100000
namespace L2
open PySem PySem.Spec PyProof.Rows

/-! ### attributes of an exception -/
structure XSet (K : PySem.W.Frag) (C : Addr) : Prop where
  sa : PySem.W.findIn K (.ref C) "__setattr__" = some (some (.builtin "object.__setattr__"))
  hd : PySem.W.hasDictIn K C = true
section
variable {prog : Program} {w : World} {A : Around} {E : Value → Shared → Prop} {s : Shared} {K : PySem.W.Frag} {x C Pk : Addr} {ox : Obj} {od : Option Obj} {name : Str} {v : Value} {Q : Unit → Shared → Prop}
end
end L2

set_option Elab.async false
set_option linter.all false
set_option maxRecDepth 100000
namespace L2
open PySem PySem.Spec PyProof.Rows

/-! ### the dict of an exception, as it is tracked -/
def XDict (dx : Addr) (fs : List (Str × V)) (h : Heap) : Prop := ∃ mA, h.Ns1 dx mA ∧ (∀ f, RelO (fs.lookup f) (mA f)) ∧ PySem.Within mA (fs.map (·.1))
section
variable {fl : Bool} {X : Cx} {pins : List (Addr × Obj)} {σ : St} {H : Hp} {s : Shared} {x C Pk : Addr} {f : Str} {A : Around} {E : Value → Shared → Prop}
end
/-! ### readings -/
section
variable {X : Cx} {o e value : Expr} {f : Str} {pos pos' : Pos} {ta tv : TE}
/-- e.f of a caught exception -/
def tFldX (K : PySem.W.Frag) (ta : TE) (f : Str) : TE := fun σ H Q => ta σ H fun x H1 => ∃ fl a C Pk dx fs v, x = .ref a ∧ H1 a = some (.ext (XAtF fl a C (some dx))) ∧ H1 dx = some (.ext (XDict dx fs)) ∧ XIn K C Pk ∧ XSet K C ∧ NoAttr K C f ∧ fs.lookup f = some v ∧ Q v H1
/-- self.f = value in an exception's __init__: the first one makes the dict -/
def sFldX1 (K : PySem.W.Frag) (ta tv : TE) (f : Str) : TS := fun D σ H => tv σ H fun y H1 => ta σ H1 fun x H2 => ∃ fl a C Pk, x = .ref a ∧ H2 a = some (.ext (XAtF fl a C none)) ∧ XIn K C Pk ∧ XSet K C ∧ NoAttr K C f ∧
  ∀ dx, H2 dx = none → dx ≠ a → D.nx σ (upd (upd H2 dx (.ext (XDict dx [(f, y)]))) a (.ext (XAtF fl a C (some dx))))
def sFldX2 (K : PySem.W.Frag) (ta tv : TE) (f : Str) : TS := fun D σ H => tv σ H fun y H1 => ta σ H1 fun x H2 => ∃ fl a C Pk dx fs, x = .ref a ∧ H2 a = some (.ext (XAtF fl a C (some dx))) ∧ H2 dx = some (.ext (XDict dx fs)) ∧ fs.length < 1000 ∧ XIn K C Pk ∧ XSet K C ∧ NoAttr K C f ∧
  D.nx σ (upd H2 dx (.ext (XDict dx (putF f y fs))))
end
end L2

set_option Elab.async false
set_option linter.all false
set_option maxRecDepth 100000
namespace L2
open PySem PySem.Spec PyProof.Rows

/-! ### P.__init__(self, ..) of the own class above -/
structure XUp (K : PySem.W.Frag) (Pk : Addr) : Prop where
  sp : PySem.W.specialIn K (.ref Pk) "__getattribute__" = some (some (.builtin "type.__getattribute__"))
  rd : PySem.W.readsIn K Pk (.type "type") = true
  fc : PySem.W.findCls K (.ref Pk) (.type "type") "__init__" = some (.val (.builtin "ValueError.__init__"))
section
variable {prog : Program} {w : World} {A : Around} {E : Value → Shared → Prop} {s : Shared} {K : PySem.W.Frag} {x C Pk : Addr} {oe : Obj} {vs : Array Value} {us : List Value} {Q : Value → Shared → Prop}
end
section
variable {X : Cx} {P c : Str} {p pos apos : Pos} {e : Expr} {es : List Expr} {t : TA} {Pk : Addr}
def tBinit (K : PySem.W.Frag) (Pk : Addr) (t : TA) : TE := fun σ H Q => t σ H fun vs H1 => ∃ fl a C od r, vs = .ref a :: r ∧ r.length ≤ 1000 ∧ H1 a = some (.ext (XAtF fl a C od)) ∧ XIn K C Pk ∧ Q .non H1
end
end L2

set_option Elab.async false
set_option linter.all false
set_option maxRecDepth 100000
namespace L2
open PySem PySem.Spec PyProof.Rows

/-! ### raise of an object of an own class -/
end L2

set_option Elab.async false
set_option linter.all false
set_option maxRecDepth 100000
namespace L2
open PySem PySem.Spec PyProof.Rows

def drop (H : Hp) (x : Addr) : Hp := fun b => if b = x then none else H b
section
variable {X : Cx} {pins : List (Addr × Obj)} {σ : St} {H : Hp} {s : Shared} {x : Addr} {φ : Heap → Prop}
end
structure XMk (K : PySem.W.Frag) (C f : Addr) : Prop where
  init : PySem.W.findIn K (.ref C) "__init__" = some (some (.ref f))
  fn : PySem.W.typeIn K (.ref f) = some (.type "function")
  kp : PySem.W.keepIn K (.ref C) = true
section
variable {X : Cx} {E : XK} {c : Str} {C Pk f : Addr} {fd : FuncData} {ps : List Str} {sp : Sp} {k : Nat} {p cpos pos : Pos} {e : Expr} {es : List Expr} {t : TA}
def tRaiseI (C : Addr) (sp : Sp) (E : XK) (t : TA) : TS := fun _ σ H => t σ H fun vs H1 => vs.length ≤ 1000 ∧ ∀ x, H1 x = none →
  sp (.ref x :: vs) (upd H1 x (.ext (XAtF true x C none))) (fun v H2 => v = .non ∧ ∃ od, H2 x = some (.ext (XAtF true x C od)) ∧ E (.ref C) od (drop H2 x)) E0
end
end L2

set_option linter.all false
set_option maxRecDepth 100000
set_option maxHeartbeats 1000000
namespace L2
open PySem PySem.Spec PyProof.Rows
/-! ### lists of lists, each of them a list of its own -/
/-- ps are unlike lists, with these contents -/
structure RowsAt (H : Hp) (ps : List Addr) (n : Nat) (row : Nat → List V) : Prop where
  len : ps.length = n
  nd : ps.Nodup
  on : ∀ j p, ps[j]? = some p → H p = some (.lst (row j))
section
variable {H H' : Hp} {ps : List Addr} {n : Nat} {row : Nat → List V} {p : Addr}
end
abbrev rowsD (n : Nat) (f : Nat → List Int) : Dt := .lst ((List.range n).map fun j => Dt.lst ((f j).map Dt.int))
end L2

set_option linter.all false
set_option maxRecDepth 100000
set_option maxHeartbeats 1000000
namespace L2
open PySem PySem.Spec PyProof.Rows
variable {X : Cx}
/-- a range's object -/
def RngAt (r : Addr) (lo hi : Int) (h : Heap) : Prop := ∃ t u v, IsRange h r lo hi 1 t u v
section
variable {K : PySem.W.Frag}
end
end L2

set_option linter.all false
set_option maxRecDepth 100000
set_option maxHeartbeats 1000000
namespace L2
open PySem PySem.Spec PyProof.Rows
variable {X : Cx}
def rInsert : V → List V → Hp → VK → Prop := fun x vs H Q => ∃ (l : Addr) (xs : List V) (i : Int) (y : V), x = .ref l ∧ vs = [.int i, y] ∧ H l = some (.lst xs) ∧ 0 ≤ i ∧ i ≤ xs.length ∧ xs.length < 1000 ∧ Q .non (upd H l (.lst (xs.take i.toNat ++ y :: xs.drop i.toNat)))
def rIndexI : V → List V → Hp → VK → Prop := fun x vs H Q => ∃ (l : Addr) (ns : List Int) (i : Int) (j : Nat), x = .ref l ∧ vs = [.int i] ∧ H l = some (.lst (ns.map V.int)) ∧ ns[j]? = some i ∧ (∀ m, m < j → ns[m]? ≠ some i) ∧ ns.length < 1000 ∧ Q (.int j) H
end L2

set_option linter.all false
set_option maxRecDepth 100000
set_option maxHeartbeats 1000000
namespace L2
open PySem PySem.Spec PyProof.Rows
/-! ### lists of pairs as tables -/
section
variable {κ : Type} [DecidableEq κ]
def valV (kvs : List (κ × V)) (k : κ) : Option V := (kvs.find? fun kv => decide (kv.1 = k)).map (·.2)
/-- in its place, or at the end -/
def putK (kvs : List (κ × V)) (k : κ) (v : V) : List (κ × V) :=
  if (kvs.any fun kv => decide (kv.1 = k)) = true then kvs.map (fun kv => if kv.1 = k then (kv.1, v) else kv) else kvs ++ [(k, v)]
def dropK (kvs : List (κ × V)) (k : κ) : List (κ × V) := kvs.filter fun kv => decide (kv.1 ≠ k)

theorem valV_pos {p : κ × V} {r : List (κ × V)} {k : κ} (e : p.1 = k) : valV (p :: r) k = some p.2 := by simp [valV, List.find?_cons, e]
theorem valV_neg {p : κ × V} {r : List (κ × V)} {k : κ} (e : ¬ p.1 = k) : valV (p :: r) k = valV r k := by simp [valV, List.find?_cons, e]
theorem valV_any (k : κ) : ∀ kvs : List (κ × V), (kvs.any fun kv => decide (kv.1 = k)) = (valV kvs k).isSome
  | [] => rfl
  | p :: r => by
    rw [List.any_cons]
    by_cases e : p.1 = k
    · simp only [valV_pos e, decide_eq_true e, Bool.true_or, Option.isSome_some]
    · rw [valV_neg e, decide_eq_false e, Bool.false_or]; exact valV_any k r
theorem valV_map (k j : κ) (y : V) : ∀ kvs : List (κ × V), valV (kvs.map fun kv => if kv.1 = k then (kv.1, y) else kv) j = (valV kvs j).map fun x => if j = k then y else x
  | [] => rfl
  | p :: r => by
    have ih := valV_map k j y r
    rw [List.map_cons]
    by_cases h : p.1 = k
    · rw [if_pos h]
      by_cases e : p.1 = j
      · rw [valV_pos (p := (p.1, y)) e, valV_pos e, Option.map_some, if_pos (e.symm.trans h)]
      · rw [valV_neg (p := (p.1, y)) e, valV_neg e, ih]
    · rw [if_neg h]
      by_cases e : p.1 = j
      · rw [valV_pos (p := p) e, valV_pos e, Option.map_some, if_neg (fun z => h (e.trans z))]
      · rw [valV_neg (p := p) e, valV_neg e, ih]
theorem valV_snoc (k j : κ) (y : V) : ∀ kvs : List (κ × V), valV kvs k = none → valV (kvs ++ [(k, y)]) j = if j = k then some y else valV kvs j
  | [], _ => by
    by_cases e : k = j
    · rw [if_pos e.symm]; exact valV_pos (p := (k, y)) e
    · rw [if_neg (fun z => e z.symm)]; exact valV_neg (p := (k, y)) e
  | p :: r, hn => by
    rw [List.cons_append]
    have hk : ¬ p.1 = k := fun z => by rw [valV_pos z] at hn; cases hn
    rw [valV_neg hk] at hn
    have ih := valV_snoc k j y r hn
    by_cases e : p.1 = j
    · rw [valV_pos e, valV_pos e, if_neg (fun z => hk (e.trans z))]
    · rw [valV_neg e, valV_neg e, ih]
theorem valV_put (kvs : List (κ × V)) (k j : κ) (y : V) : valV (putK kvs k y) j = if j = k then some y else valV kvs j := by
  unfold putK
  by_cases a : (kvs.any fun kv => decide (kv.1 = k)) = true
  · rw [if_pos a, valV_map]
    rw [valV_any] at a
    by_cases e : j = k
    · obtain ⟨x, hx⟩ := Option.isSome_iff_exists.mp a
      rw [if_pos e, e, hx, Option.map_some, if_pos rfl]
    · rw [if_neg e]
      cases valV kvs j with
      | none => rfl
      | some x => rw [Option.map_some, if_neg e]
  · rw [if_neg a]
    refine valV_snoc k j y kvs ?_
    rw [valV_any] at a
    cases q : valV kvs k with
    | none => rfl
    | some x => rw [q] at a; exact (a rfl).elim
theorem length_putK (kvs : List (κ × V)) (k : κ) (v : V) : (putK kvs k v).length ≤ kvs.length + 1 := by
  unfold putK
  split
  · rw [List.length_map]; omega
  · rw [List.length_append, List.length_cons, List.length_nil]; omega
theorem RelO.isSome_eq {o : Option V} {u : Option Value} (r : RelO o u) : o.isSome = u.isSome := by
  cases o with
  | none => cases u with
    | none => rfl
    | some _ => exact (show False from r).elim
  | some _ => cases u with
    | none => exact (show False from r).elim
    | some _ => rfl
theorem RelO.getD {o : Option V} {u : Option Value} {d : V} {d' : Value} (r : RelO o u) (rd : RelV d d') : RelV (o.getD d) (u.getD d') := by
  cases o with
  | none => cases u with
    | none => exact rd
    | some _ => exact (show False from r).elim
  | some _ => cases u with
    | none => exact (show False from r).elim
    | some _ => exact r

/-- raw tables of the same keys -/
theorem KV.val {kvs : List (κ × V)} {vs : List (κ × Value)} (r : KV kvs vs) (k : κ) : RelO (valV kvs k) (valueAt vs k) := by
  unfold KV at r
  induction r with
  | nil => exact True.intro
  | @cons p q ps qs h t ih =>
    obtain ⟨h1, h2⟩ := h
    by_cases e : p.1 = k
    · have e' : q.1 = k := h1.symm.trans e
      have b : valueAt (q :: qs) k = some q.2 := by simp [valueAt, List.find?_cons, e']
      rw [valV_pos e, b]; exact h2
    · have e' : ¬ q.1 = k := fun z => e (h1.trans z)
      have b : valueAt (q :: qs) k = valueAt qs k := by simp [valueAt, List.find?_cons, e']
      rw [valV_neg e, b]; exact ih
theorem KV.any {kvs : List (κ × V)} {vs : List (κ × Value)} (r : KV kvs vs) (k : κ) : (kvs.any fun kv => decide (kv.1 = k)) = vs.any fun kv => decide (kv.1 = k) := by
  unfold KV at r
  induction r with
  | nil => rfl
  | cons h t ih => rw [List.any_cons, List.any_cons, ih, h.1]
theorem KV.repl {kvs : List (κ × V)} {vs : List (κ × Value)} (r : KV kvs vs) (k : κ) {y : V} {u : Value} (ry : RelV y u) :
    KV (kvs.map fun kv => if kv.1 = k then (kv.1, y) else kv) (vs.map fun kv => if kv.1 = k then (kv.1, u) else kv) := by
  unfold KV at r ⊢
  induction r with
  | nil => exact .nil
  | @cons p q ps qs h t ih =>
    rw [List.map_cons, List.map_cons]
    refine .cons ?_ ih
    obtain ⟨h1, h2⟩ := h
    by_cases e : p.1 = k
    · rw [if_pos e, if_pos (h1.symm.trans e)]; exact ⟨h1, ry⟩
    · rw [if_neg e, if_neg (fun z => e (h1.trans z))]; exact ⟨h1, h2⟩
theorem KV.put {kvs : List (κ × V)} {vs : List (κ × Value)} (r : KV kvs vs) (k : κ) {y : V} {u : Value} (ry : RelV y u) : KV (putK kvs k y) (stored vs k u) := by
  unfold putK stored
  rw [r.any k]
  by_cases e : (vs.any fun kv => decide (kv.1 = k)) = true
  · rw [if_pos e, if_pos e]; exact r.repl k ry
  · rw [if_neg e, if_neg e]; exact Paired.snoc r ⟨rfl, ry⟩
theorem KV.length {kvs : List (κ × V)} {vs : List (κ × Value)} (r : KV kvs vs) : kvs.length = vs.length := Paired.length r
end


/-! ### a tracked dict, its keys ints and texts or tuples of these -/
theorem kV_is {P : Program} {w : World} {k : Key} {u : Value} (r : RelV (kV k) u) : (mixKind P w).is k u = true := by
  cases k with
  | inl i => obtain ⟨t, e⟩ := (show ∃ t, u = Value.int i t from r); subst e; exact mixKind_int P w i t
  | inr x => obtain ⟨t, e⟩ := (show ∃ t, u = Value.str x t from r); subst e; exact mixKind_str P w x t
theorem items_are {P : Program} {w : World} : ∀ {ks : List Key} {us : List Value}, Vals (ks.map kV) us → ItemsAre (mixKind P w) ks us
  | [], _, r => by rw [List.map_nil] at r; cases r; exact .nil
  | k :: ks, _, r => by
    rw [List.map_cons] at r
    cases r with
    | cons h t => exact .cons (kV_is h) (items_are t)

/-- raw entries of a dict with tuple keys -/
abbrev KT (H : Hp) : List (List Key × V) → List (List Key × Addr × Value) → Prop := Paired fun p q => p.1 = q.1 ∧ H q.2.1 = some (.tup (p.1.map kV)) ∧ RelV p.2 q.2.2
theorem KT.val {H : Hp} {kvs : List (List Key × V)} {xs : List (List Key × Addr × Value)} (r : KT H kvs xs) (k : List Key) : RelO (valV kvs k) ((atKey xs k).map (·.2)) := by
  induction r with
  | nil => exact True.intro
  | @cons p q ps qs h t ih =>
    obtain ⟨h1, _, h2⟩ := h
    by_cases e : p.1 = k
    · have e' : q.1 = k := h1.symm.trans e
      have b : atKey (q :: qs) k = some q.2 := by simp [atKey, List.find?_cons, e']
      rw [valV_pos e, b]; exact h2
    · have e' : ¬ q.1 = k := fun z => e (h1.trans z)
      have b : atKey (q :: qs) k = atKey qs k := by simp [atKey, List.find?_cons, e']
      rw [valV_neg e, b]; exact ih
theorem KT.repl {H : Hp} {kvs : List (List Key × V)} {xs : List (List Key × Addr × Value)} (r : KT H kvs xs) (k : List Key) {y : V} {u : Value} (ry : RelV y u) :
    KT H (kvs.map fun kv => if kv.1 = k then (kv.1, y) else kv) (xs.map (putAt k u)) := by
  induction r with
  | nil => exact .nil
  | @cons p q ps qs h t ih =>
    rw [List.map_cons, List.map_cons]
    refine .cons ?_ ih
    obtain ⟨h1, h2, h3⟩ := h
    unfold putAt
    by_cases e : p.1 = k
    · rw [if_pos e, if_pos (h1.symm.trans e)]; exact ⟨h1, h2, ry⟩
    · rw [if_neg e, if_neg (fun z => e (h1.trans z))]; exact ⟨h1, h2, h3⟩
theorem KT.put {H : Hp} {kvs : List (List Key × V)} {xs : List (List Key × Addr × Value)} (r : KT H kvs xs) (k : List Key) {b : Addr} {y : V} {u : Value} (hb : H b = some (.tup (k.map kV))) (ry : RelV y u) :
    KT H (putK kvs k y) (storedH xs k b u) := by
  have e : (kvs.any fun kv => decide (kv.1 = k)) = (atKey xs k).isSome := by
    rw [valV_any, (r.val k).isSome_eq, Option.isSome_map]
  unfold putK storedH
  rw [e]
  by_cases q : (atKey xs k).isSome = true
  · rw [if_pos q, if_pos q]; exact r.repl k ry
  · rw [if_neg q, if_neg q]; exact Paired.snoc r ⟨rfl, hb, ry⟩
theorem KT.keeps {H H' : Hp} {kvs : List (List Key × V)} {xs : List (List Key × Addr × Value)} (r : KT H kvs xs) (ht : ∀ b ys, H b = some (.tup ys) → H' b = some (.tup ys)) : KT H' kvs xs :=
  Paired.mapP r fun _ _ z => ⟨z.1, ht _ _ z.2.1, z.2.2⟩

section
variable {P : Program} {w : World} {H : Hp} {h : Heap} {a : Addr}
theorem rd_of {u : HO} (ok : HOk P w H h) (e : Rd H a u) : ObjOk P w H h a u := e.ok ok
theorem dk_rd {kvs : List (Key × V)} (ok : HOk P w H h) (e : Rd H a (.dK kvs)) : kvs.length ≤ sizeLine ∧ (a == sysModules) = false ∧ ∃ vs, KV kvs vs ∧ h.DictOf (mixKind P w) a vs :=
  show ObjOk P w H h a (.dK kvs) from rd_of ok e
theorem dk_of {kvs : List (Key × V)} (ok : HOk P w H h) (e : H a = some (.dK kvs)) : kvs.length ≤ sizeLine ∧ (a == sysModules) = false ∧ ∃ vs, KV kvs vs ∧ h.DictOf (mixKind P w) a vs := dk_rd ok (.inl e)
/-- a tracked tuple of ints and texts is a key -/
theorem key_of {ks : List Key} (ok : HOk P w H h) (e : H a = some (.tup (ks.map kV))) : (tupleKind (mixKind P w)).is h ks a := by
  obtain ⟨_, its, r, o, h1, h2, n, h3⟩ := (show ObjOk P w H h a (.tup (ks.map kV)) from ok a _ e)
  exact ⟨o, its.toArray, n, h1, h2, h3, by simpa using items_are r⟩
theorem dt_rd {kvs : List (List Key × V)} (ok : HOk P w H h) (e : Rd H a (.dT kvs)) : kvs.length ≤ sizeLine ∧ (a == sysModules) = false ∧
    ∃ xs, KT H kvs xs ∧ h.DictOfH (tupleKind (mixKind P w)) a xs := by
  obtain ⟨z, y, xs, r, o, es, ep, h1, h2, h3, h4, h5⟩ := (show ObjOk P w H h a (.dT kvs) from rd_of ok e)
  refine ⟨z, y, xs, r, o, es, ep, h1, h2, h3, h4, fun x hx => ?_, h5⟩
  have all : ∀ {l : List (List Key × V)} {m : List (List Key × Addr × Value)}, KT H l m → ∀ x ∈ m, (tupleKind (mixKind P w)).is h x.1 x.2.1 := by
    intro l m q
    induction q with
    | nil => intro x hx; exact nomatch hx
    | @cons p q ps qs hq t ih =>
      intro x hx
      rcases List.mem_cons.mp hx with e | hx
      · subst e
        exact key_of ok (by rw [← hq.1]; exact hq.2.1)
      · exact ih x hx
  exact all r x hx
theorem dt_of {kvs : List (List Key × V)} (ok : HOk P w H h) (e : H a = some (.dT kvs)) : kvs.length ≤ sizeLine ∧ (a == sysModules) = false ∧
    ∃ xs, KT H kvs xs ∧ h.DictOfH (tupleKind (mixKind P w)) a xs := dt_rd ok (.inl e)
end

/-- what the dict at a holds at the key y -/
def DGet (H : Hp) (a : Addr) (y : V) (r : Option V) : Prop :=
  (∃ kvs k, Rd H a (.dK kvs) ∧ y = kV k ∧ r = valV kvs k) ∨ ∃ kvs k b, Rd H a (.dT kvs) ∧ y = .ref b ∧ H b = some (.tup (k.map kV)) ∧ r = valV kvs k
/-- the heap behind a[y] = v -/
def DPut (H : Hp) (a : Addr) (y v : V) (H' : Hp) : Prop :=
  (∃ kvs k, H a = some (.dK kvs) ∧ y = kV k ∧ kvs.length < sizeLine ∧ H' = upd H a (.dK (putK kvs k v))) ∨
  ∃ kvs k b, H a = some (.dT kvs) ∧ y = .ref b ∧ H b = some (.tup (k.map kV)) ∧ kvs.length < sizeLine ∧ H' = upd H a (.dT (putK kvs k v))
theorem DGet.t {H : Hp} {a b : Addr} {kvs : List (List Key × V)} {k : List Key} (e : H a = some (.dT kvs)) (eb : H b = some (.tup (k.map kV))) : DGet H a (.ref b) (valV kvs k) := .inr ⟨kvs, k, b, .inl e, rfl, eb, rfl⟩
theorem DPut.t {H : Hp} {a b : Addr} {kvs : List (List Key × V)} {k : List Key} {v : V} (e : H a = some (.dT kvs)) (eb : H b = some (.tup (k.map kV))) (hl : kvs.length < sizeLine) :
    DPut H a (.ref b) v (upd H a (.dT (putK kvs k v))) := .inr ⟨kvs, k, b, e, rfl, eb, hl, rfl⟩


section
variable {X : Cx} {pins : List (Addr × Obj)} {σ : St} {H : Hp} {s : Shared} {a : Addr} {y v : V} {u r : Value} {o : Option V} {A : Around} {E : Value → Shared → Prop}

theorem Inv.big (I : Inv X pins σ H s) : sysModules < s.heap.objs.size := by
  have h : mainGlobals < s.heap.objs.size := (I.mod.glob.keeps I.bk).lt
  exact Nat.lt_trans (by decide) h

/-- a dict's object is replaced -/
theorem d_write {h' : Heap} {t' : Nat} {ob : HO} (I : Inv X pins σ H s) (mu : Mut (H a)) (hs : Heap.SameBut a s.heap h') (he : ∃ q, h'.get? a = some q) (new : ObjOk X.prog X.w (upd H a ob) h' a ob) :
    Inv X pins σ (upd H a ob) { s with heap := h', toks := t' } :=
  I.write (x := a) (e := a) mu (.inl rfl) (fun b q hb z => (hs.2 b hb).trans z) he new
theorem dk_new {P : Program} {w : World} {H' : Hp} {h' : Heap} {kvs : List (Key × V)} {vs : List (Key × Value)} (z : kvs.length ≤ sizeLine) (hd : (a == sysModules) = false) (rel : KV kvs vs) (dd : h'.DictOf (mixKind P w) a vs) :
    ObjOk P w H' h' a (.dK kvs) := ⟨z, hd, vs, rel, dd⟩
/-- d[y] = v -/
theorem d_setItem {H' : Hp} {Q : Unit → Shared → Prop} (hu : A.units + 1 < cLine) (I : Inv X pins σ H s) (g : DPut H a y v H') (ry : RelV y u) (rv : RelV v r) (h : ∀ s', Inv X pins σ H' s' → Q () s') :
    wpAny (model X.prog X.w) A (setItem (.ref a) u r) Q E s := by
  rcases g with ⟨kvs, k, e, ey, l, eH⟩ | ⟨kvs, k, b, e, ey, eb, l, eH⟩
  · subst ey eH
    obtain ⟨z, hd, vs, rel, dd⟩ := dk_of I.hok e
    have hz : vs.length ≤ sizeLine := by rw [← rel.length]; exact z
    have hl : (putK kvs k v).length ≤ sizeLine := by have := length_putK kvs k v; omega
    refine wpAny_setItem_pairs (hsz := hz) (kV_is ry) dd fun h' dd' hs => h _ ?_
    have he : ∃ q, h'.get? a = some q := let ⟨q, _, _, hq, _⟩ := dd'; ⟨q, hq⟩
    exact d_write I (by rw [e]; exact True.intro) hs he (dk_new hl hd (rel.put k rv) dd')
  · subst ey eH
    cases (show u = Value.ref b from ry)
    obtain ⟨z, hd, xs, rel, dd⟩ := dt_of I.hok e
    have hz : xs.length ≤ sizeLine := by rw [← Paired.length rel]; exact z
    have hl : (putK kvs k v).length ≤ sizeLine := by have := length_putK kvs k v; omega
    refine wpAny_setItem_heap (hsz := hz) (tupleKind_room_in1 hu) (key_of I.hok eb) dd fun h' dd' hs => h _ ?_
    obtain ⟨q, es, ep, hq, h2, h3, h4, _, h5⟩ := dd'
    refine d_write I (by rw [e]; exact True.intro) hs ⟨q, hq⟩ ⟨hl, hd, _, (rel.put k eb rv).keeps fun c ys ec => ?_, q, es, ep, hq, h2, h3, h4, h5⟩
    rw [upd_ne (ne_of ec e (fun z => nomatch z))]
    exact ec
end

section
variable {X : Cx} {pins : List (Addr × Obj)} {σ : St} {H : Hp} {s : Shared} {a : Addr} {kvs : List (Key × V)} {k : Key} {u : Value} {A : Around} {E : Value → Shared → Prop}
end


/-! ### readings and rules -/
/-- the element of a subscription, not a slice -/
def NoSl (i : Expr) : Prop := ∀ ov iv, subscripted i false ov iv = operate [ov, iv] (getItem ov iv)
/-- d[y] -/
def tDGet (td ty : TE) : TE := fun σ H Q => td σ H fun x H1 => ty σ H1 fun y H2 => ∃ a v, x = .ref a ∧ DGet H2 a y (some v) ∧ Q v H2
/-- y in d, y not in d -/
def tDIn (ty td : TE) : TE := fun σ H Q => ty σ H fun y H1 => td σ H1 fun x H2 => ∃ a o, x = .ref a ∧ DGet H2 a y o ∧ Q (.bl o.isSome) H2
def tDNotIn (ty td : TE) : TE := fun σ H Q => ty σ H fun y H1 => td σ H1 fun x H2 => ∃ a o, x = .ref a ∧ DGet H2 a y o ∧ Q (.bl (!o.isSome)) H2
/-- d[y] = v -/
def sDPut (td ty tv : TE) : TS := fun D σ H => tv σ H fun v H1 => td σ H1 fun x H2 => ty σ H2 fun y H3 => ∃ a H4, x = .ref a ∧ DPut H3 a y v H4 ∧ D.nx σ H4
/-- d[y] op= v -/
def sDAug (td ty tv : TE) (rd : V → V → Hp → VK → Prop) : TS := fun D σ H => td σ H fun x H1 => ty σ H1 fun y H2 => ∃ a v, x = .ref a ∧ DGet H2 a y (some v) ∧
  tv σ H2 fun y2 H3 => rd v y2 H3 fun z H4 => ∃ H5, DPut H4 a y z H5 ∧ D.nx σ H5
/-- del d[y] -/
def sDDel (td ty : TE) : TS := fun D σ H => td σ H fun x H1 => ty σ H1 fun y H2 => ∃ a kvs k, x = .ref a ∧ H2 a = some (.dK kvs) ∧ y = kV k ∧ (valV kvs k).isSome = true ∧ D.nx σ (upd H2 a (.dK (dropK kvs k)))

section
variable {X : Cx} {o i e value : Expr} {pos pos' tpos : Pos} {td ty tv : TE}
theorem ps_dput (hu : X.A.units + 1 < cLine) (ho : PE X o td) (hi : PE X i ty) (hv : PE X value tv) (hs : swapsWith value (some (.Subscript o i pos')) pos.line X.env = pure false) :
    PS X (.Assign [.Subscript o i pos'] value pos) (sDPut td ty tv) := by
  intro pins s σ H D I h
  refine wpAny_Assign_Subscript (thn (hv pins s σ H _ I h) fun r s1 ⟨v, H1, I1, rv, q1⟩ => thn (ho pins s1 σ H1 _ I1 q1) fun u s2 ⟨x, H2, I2, rx, q2⟩ => thn (hi pins s2 σ H2 _ I2 q2) fun iv s3 ⟨y, H3, I3, ry, a, H4, ex, g, q3⟩ => ?_) hs
  subst ex
  obtain rfl : u = Value.ref a := rx
  exact d_setItem hu I3 g ry rv fun s4 I4 => ⟨σ, H4, I4, q3⟩
end


/-! ### displays -/
theorem dt_empty {P : Program} {w : World} {H : Hp} (h : Heap) (hb : sysModules < h.objs.size) : ObjOk P w H (h.push { cls := .type "dict", data := .dict #[] }) h.objs.size (.dT []) :=
  ⟨Nat.zero_le _, beq_eq_false_iff_ne.mpr (Ne.symm (Nat.ne_of_lt hb)), [], .nil, _, #[], 0, Heap.get?_push_size _ rfl, ⟨rfl, rfl, rfl⟩, rfl, rfl, List.nodup_nil⟩
/-- {}, to be a dict of the kind that is wanted -/
def tDNewK : TE := fun _ H Q => ∀ p, H p = none → Q (.ref p) (upd H p (.dK []))
def tDNewT : TE := fun _ H Q => ∀ p, H p = none → Q (.ref p) (upd H p (.dT []))
section
variable {X : Cx} {pos : Pos}
theorem pe_dnewT : PE X (.Dict [] [] pos) tDNewT := fun pins s σ H Q I h =>
  wpAny_Dict_empty ⟨.ref s.heap.objs.size, _, I.laid (a := s.heap.objs.size) (o := .dT []) (t' := s.toks) (fun _ _ q => Heap.get?_push_of_some _ q) (Nat.le_refl _) (dt_empty s.heap I.big), rfl, h _ (I.hok.fresh (Nat.le_refl _))⟩
end

/-- the pairs of a display, from the left -/
def tPairs : List (TE × TE) → St → Hp → (List (V × V) → Hp → Prop) → Prop
  | [], _, H, Q => Q [] H
  | (tk, tv) :: r, σ, H, Q => tk σ H fun x H1 => tv σ H1 fun y H2 => tPairs r σ H2 fun ps H3 => Q ((x, y) :: ps) H3
abbrev VV : List (V × V) → List (Value × Value) → Prop := Paired fun p q => RelV p.1 q.1 ∧ RelV p.2 q.2
def PPs (X : Cx) (pos : Pos) (keys : List (Option Expr)) (values : List Expr) (trs : List (TE × TE)) : Prop :=
  ∀ (pins : List (Addr × Obj)) (s : Shared) (σ : St) (H : Hp) (Q : List (V × V) → Hp → Prop), Inv X pins σ H s → tPairs trs σ H Q →
    wpAny (model X.prog X.w) X.A (evalPairs (pairTrees keys values X.env pos)) (fun vs s' => ∃ ps H', Inv X pins σ H' s' ∧ VV ps vs ∧ Q ps H') X.xe s
def mergeK (kvs more : List (Key × V)) : List (Key × V) := more.foldl (fun acc kv => putK acc kv.1 kv.2) kvs
/-- {k: v, ..} with keys ints and texts; the new dict stands empty while the pairs are made -/
def tDisp (trs : List (TE × TE)) : TE := fun σ H Q => ∀ p, H p = none → tPairs trs σ (upd H p (.dK [])) fun ps H2 => H2 p = some (.dK []) ∧ ∃ kvs : List (Key × V), ps = kvs.map (fun kv => (kV kv.1, kv.2)) ∧ kvs.length ≤ 15 ∧ Q (.ref p) (upd H2 p (.dK (mergeK [] kvs)))
/-! ### methods -/
/-- a method call o.m(e) of a built-in, with one argument: what must be seen of the text -/
structure M1 (X : Cx) (o : Expr) (m : Str) (apos : Pos) (e : Expr) (cpos : Pos) : Prop where
  base : attributeBase o m X.env (eval o X.env) = eval o X.env
  few : ((backTo cpos (starEach [e] X.env)).all (fun x => !x.1) && (backToKw cpos (keywordEach [] X.env)).all (fun x => x.1.isSome)
    && decide (([e] : List Expr).length + ([] : List Keyword).length + (if ([] : List Keyword).isEmpty then 0 else 1) < 30)) = true
  line : (apos.endLine == cpos.line) = true
  trees : backTo cpos (starEach [e] X.env) = [(false, eval e X.env)]
structure M2 (X : Cx) (o : Expr) (m : Str) (apos : Pos) (e f : Expr) (cpos : Pos) : Prop where
  base : attributeBase o m X.env (eval o X.env) = eval o X.env
  few : ((backTo cpos (starEach [e, f] X.env)).all (fun x => !x.1) && (backToKw cpos (keywordEach [] X.env)).all (fun x => x.1.isSome)
    && decide (([e, f] : List Expr).length + ([] : List Keyword).length + (if ([] : List Keyword).isEmpty then 0 else 1) < 30)) = true
  line : (apos.endLine == cpos.line) = true
  trees : backTo cpos (starEach [e, f] X.env) = [(false, eval e X.env), (false, eval f X.env)]

/-- a is a dict, whatever its keys -/
def IsD (H : Hp) (a : Addr) : Prop := (∃ kvs, Rd H a (.dK kvs)) ∨ ∃ kvs, Rd H a (.dT kvs)
theorem isD_at {X : Cx} {pins : List (Addr × Obj)} {σ : St} {H : Hp} {s : Shared} {a : Addr} (I : Inv X pins σ H s) (d : IsD H a) :
    s.TypeIs (.ref a) "dict" ∧ (∀ b, Value.ref a = .ref b → ∃ ob, s.heap.get? b = some ob ∧ ob.dict = none) ∧ (a == sysModules) = false := by
  rcases d with ⟨kvs, e⟩ | ⟨kvs, e⟩
  · obtain ⟨_, hd, vs, _, dd⟩ := dk_rd I.hok e
    refine ⟨dd.typeIs, fun b q => ?_, hd⟩
    cases q
    obtain ⟨ob, _, _, h1, h2, _⟩ := dd
    exact ⟨ob, h1, h2.2.1⟩
  · obtain ⟨_, hd, xs, _, dd⟩ := dt_rd I.hok e
    refine ⟨dd.typeIs, fun b q => ?_, hd⟩
    cases q
    obtain ⟨ob, _, _, h1, h2, _⟩ := dd
    exact ⟨ob, h1, h2.2.1⟩

section
variable {X : Cx} {pins : List (Addr × Obj)} {σ : St} {H : Hp} {s : Shared} {a : Addr} {y d : V} {u r : Value} {o : Option V} {A : Around} {E : Value → Shared → Prop}
/-- d.get(y, x) -/
theorem d_get2 {Q : Value → Shared → Prop} (hu : A.units + 1 < cLine) (I : Inv X pins σ H s) (g : DGet H a y o) (ry : RelV y u) (rd : RelV d r) (h : ∀ w' s', Inv X pins σ H s' → RelV (o.getD d) w' → Q w' s') :
    wpAny (model X.prog X.w) A (call (.builtin "dict.get") [.ref a, u, r]) Q E s := by
  rcases g with ⟨kvs, k, e, ey, l⟩ | ⟨kvs, k, b, e, ey, eb, l⟩
  · subst ey
    obtain ⟨z, hd, vs, rel, dd⟩ := dk_rd I.hok e
    refine call_meetsIn PySem.F.slot_dict_get dd.typeIs PySem.F.entry_dict_get (PySem.F.args_dict_get_3 _ _ _) (meets_dict_get_default (mixKind X.prog X.w) a (kV_is ry) hd r) ⟨_, dd.mapOf, h _ _ (I.tok _) ?_⟩
    rw [l]
    exact (rel.val k).getD rd
  · subst ey
    cases (show u = Value.ref b from ry)
    obtain ⟨z, hd, xs, rel, dd⟩ := dt_rd I.hok e
    refine call_meetsIn PySem.F.slot_dict_get dd.typeIs PySem.F.entry_dict_get (PySem.F.args_dict_get_3 _ _ _) (meetsH_dict_get_default (tupleKind (mixKind X.prog X.w)) a b hd r) ⟨tupleKind_room_in1 hu, k, xs, key_of I.hok eb, dd, h _ _ (I.tok _) ?_⟩
    rw [l]
    exact (rel.val k).getD rd
end

def tDGet1 (td ty : TE) : TE := fun σ H Q => td σ H fun x H1 => ∃ a, x = .ref a ∧ IsD H1 a ∧ ty σ H1 fun y H2 => ∃ o, DGet H2 a y o ∧ Q (o.getD .non) H2
def tDGet2 (td ty tx : TE) : TE := fun σ H Q => td σ H fun x H1 => ∃ a, x = .ref a ∧ IsD H1 a ∧ ty σ H1 fun y H2 => tx σ H2 fun z H3 => ∃ o, DGet H3 a y o ∧ Q (o.getD z) H3
/-- d.pop(k): there; d.pop(k, x): there or not -/
def tDPop1 (td ty : TE) : TE := fun σ H Q => td σ H fun x H1 => ∃ a, x = .ref a ∧ IsD H1 a ∧ ty σ H1 fun y H2 => ∃ kvs k v, H2 a = some (.dK kvs) ∧ y = kV k ∧ valV kvs k = some v ∧ Q v (upd H2 a (.dK (dropK kvs k)))
def tDPop2 (td ty tx : TE) : TE := fun σ H Q => td σ H fun x H1 => ∃ a, x = .ref a ∧ IsD H1 a ∧ ty σ H1 fun y H2 => tx σ H2 fun z H3 => ∃ kvs k, H3 a = some (.dK kvs) ∧ y = kV k ∧
  (∀ v, valV kvs k = some v → Q v (upd H3 a (.dK (dropK kvs k)))) ∧ (valV kvs k = none → Q z H3)
section
variable {X : Cx} {o e f : Expr} {apos cpos : Pos} {td ty tx : TE}
theorem pe_dget2 (hu : X.A.units + 1 < cLine) (ho : PE X o td) (he : PE X e ty) (hf : PE X f tx) (m : M2 X o "get" apos e f cpos) : PE X (.Call (.Attribute o "get" apos) [e, f] [] cpos) (tDGet2 td ty tx) := by
  intro pins s σ H Q I h
  refine wpAny_Call_method m.base m.few m.line PySem.F.plainAttrs_dict PySem.F.slot_dict_get PySem.F.type_dict_get (thn (ho pins s σ H _ I h) fun u s1 ⟨x, H1, I1, rx, a, ex, d, q1⟩ => ?_)
  subst ex
  obtain rfl : u = Value.ref a := rx
  obtain ⟨t1, t2, _⟩ := isD_at I1 d
  refine ⟨t1, t2, ?_⟩
  rw [m.trees]
  refine Calls.callWith_builtin rfl (Calls.evalArgs_plain (Calls.spliced_cons (thn (he pins s1 σ H1 _ I1 q1) fun iv s2 ⟨y, H2, I2, ry, q2⟩ =>
    Calls.spliced_cons (thn (hf pins s2 σ H2 _ I2 q2) fun fv s3 ⟨z, H3, I3, rz, ov, g, q3⟩ => Calls.spliced_nil ?_))))
  exact d_get2 hu I3 g ry rz fun w' s4 I4 rw' => ⟨_, H3, I4, rw', q3⟩
end

/-! ### dict(d): a copy -/
section
variable {X : Cx} {pins : List (Addr × Obj)} {σ : St} {H : Hp} {s : Shared} {a : Addr} {kvs : List (Key × V)} {A : Around} {E : Value → Shared → Prop}
end


section
variable {X : Cx} {pins : List (Addr × Obj)} {σ : St} {H : Hp} {s : Shared} {a : Addr} {y : V} {u : Value} {A : Around} {E : Value → Shared → Prop}
end
section
variable {X : Cx}
end
/-! ### a dict's pairs: keys that differ -/
section
variable {κ : Type} [DecidableEq κ]
end
end L2

set_option linter.all false
set_option maxRecDepth 100000
set_option maxHeartbeats 1000000
namespace L2
open PySem PySem.Spec PyProof.Rows
section
variable {X : Cx} {pins : List (Addr × Obj)} {σ : St} {H : Hp} {s : Shared}
def Itd (d : Addr) (o : Obj) (kvs : List (Key × V)) : It where
  go i H := H d = some (.frz o (.dK kvs)) ∧ i < kvs.length
  yld i H x H' := H' = H ∧ ∃ k v, kvs[i]? = some (k, v) ∧ x = kV k
  stop i H := H d = some (.frz o (.dK kvs)) ∧ kvs.length ≤ i
def iDict (td : TE) : TI := fun σ H R => td σ H fun x H1 => ∃ a kvs, x = .ref a ∧ H1 a = some (.dK kvs) ∧ ∀ o, R (Itd a o kvs) (upd H1 a (.frz o (.dK kvs)))
end
end L2

set_option linter.all false
set_option maxRecDepth 100000
set_option maxHeartbeats 1000000
namespace L2
open PySem PySem.Spec PyProof.Rows
/-! ### classes under classes -/
/-- a function of an own class, read from the class -/
structure UCls (K : PySem.W.Frag) (Pk : Addr) (m : Str) (f : Addr) : Prop where
  sp : PySem.W.specialIn K (.ref Pk) "__getattribute__" = some (some (.builtin "type.__getattribute__"))
  rd : PySem.W.readsIn K Pk (.type "type") = true
  fc : PySem.W.findCls K (.ref Pk) (.type "type") m = some (.val (.ref f))
  kp : PySem.W.keepIn K (.ref f) = true
/-- what isinstance asks of an instance's class -/
structure TyIn (K : PySem.W.Frag) (C : Addr) : Prop where
  ha : PySem.W.findIn K (.ref C) "__class__" = some (some (.builtin "object.__class__"))
  hn : PySem.W.specialIn K (.builtin "object.__class__") "__get__" = some (some (.builtin "getset_descriptor.__get__"))
  htk : PySem.W.takesIn K (.builtin "object.__class__") = some true
  hm : PySem.W.mroIn K C (.type "object") = some true
theorem TyIn.of {K : PySem.W.Frag} {C a dx : Addr} {H : Hp} {fs : List (Str × V)} (t : TyIn K C) (c : Cls K C) (e : H a = some (.ins C dx fs)) : TyOf K H (.ref a) (.ref C) := .ins e c t.ha t.hn t.htk t.hm
section
variable {X : Cx} {CX : CXT} {k : Nat} {f Pk : Addr} {fd : FuncData} {ps : List Str} {sp : Sp} {dvs : List V} {ds : List Value} {E : XK} {c m : Str} {p pos apos : Pos} {e : Expr} {es : List Expr} {t : TA}
theorem call_isiC : CallR X (.builtin "isinstance") (fun xs H Q => ∃ x Cp t b, xs = [x, .ref Cp] ∧ TyOf X.K H x t ∧ PySem.W.kitOne X.K t (.ref Cp) = some b ∧ Q (.bl b) H) := by
  intro pins s σ H xs us Q I r h
  obtain ⟨x, c, t, b, rfl, ty, e, q⟩ := h
  obtain ⟨u, w', rfl, ru, rw'⟩ := vals2 r
  cases (show w' = Value.ref c from rw')
  exact isinst_ok I ru ty e fun tk => ⟨.bl b, H, I.tok tk, rfl, q⟩
end
end L2

set_option linter.all false
set_option maxRecDepth 100000
set_option maxHeartbeats 1000000
namespace L2
open PySem PySem.Spec PyProof.Rows
/-! ### enumerate of a list that the body leaves as it is -/
def Ite (K : PySem.W.Frag) (l : Addr) (xs : List V) : It :=
  ⟨fun i H => SqL K H l xs ∧ i < xs.length, fun i H x H' => ∃ T u, H T = none ∧ x = .ref T ∧ xs[i]? = some u ∧ H' = upd H T (.tup [.int (i : Nat), u]), fun i H => SqL K H l xs ∧ xs.length ≤ i⟩
section
variable {X : Cx}
def iEnum (K : PySem.W.Frag) (ta : TA) : TI := fun σ H R => ta σ H fun vs H1 => ∃ l xs, vs = [.ref l] ∧ SqL K H1 l xs ∧ R (Ite K l xs) H1
end
end L2

set_option linter.all false
set_option maxRecDepth 100000
set_option maxHeartbeats 1000000
namespace L2
open PySem PySem.Spec PyProof.Rows
end L2

set_option Elab.async false
set_option linter.all false
set_option maxRecDepth 100000
namespace L2
open PySem PySem.Spec PyProof.Rows

/-! ### a list that is unpacked: a, b, .. = list -/
section
variable {X : Cx} {pos : Pos}
def gTupL (K : PySem.W.Frag) (n : Nat) (t : TGs) : TG := fun v σ H Q => ∃ a xs, v = .ref a ∧ SqL K H a xs ∧ xs.length = n ∧ t xs σ H Q
end
/-! ### f"{..}" of a list of whole numbers -/
section
variable {X : Cx} {e : Expr} {es : List Expr} {n : Nat} {te : TE} {t : TJ} {pos : Pos}
end
end L2

set_option Elab.async false
set_option linter.all false
set_option maxRecDepth 100000
namespace L2
open PySem PySem.Spec PyProof.Rows
/-! ### any, all, max of a list -/
section
variable {X : Cx}
end
end L2

set_option Elab.async false
set_option linter.all false
set_option maxRecDepth 100000
namespace L2
open PySem PySem.Spec PyProof.Rows
/-! ### comprehensions with an if -/
end L2

set_option Elab.async false
set_option linter.all false
set_option maxRecDepth 100000
set_option maxHeartbeats 1000000
namespace L2
open PySem PySem.Spec PyProof.Rows
variable {X : Cx}
/-- the flat value that a value stands for -/
def backV : Value → V
  | .bool b => .bl b
  | .int i _ => .int i
  | .str x _ => .str x
  | .bytes b _ => .byt b
  | .float b _ => .flt b
  | .ref a => .ref a
  | .type n => .ty n
  | _ => .non
/-- xs.count(y), all of it flat -/
def rCount : V → List V → Hp → VK → Prop := fun x vs H Q => ∃ (l : Addr) (xs : List V) (y : V), x = .ref l ∧ vs = [y] ∧ H l = some (.lst xs) ∧ flatV y = true ∧ (∀ z ∈ xs, flatV z = true) ∧ Q (.int ((xs.countP fun z => eqV z y : Nat) : Int)) H
end L2

set_option Elab.async false
set_option linter.all false
set_option maxRecDepth 100000
set_option maxHeartbeats 1000000
namespace L2
open PySem PySem.Spec PyProof.Rows
/-- all but the object at D stays -/
def SameBut (D : Addr) (H H' : Hp) : Prop := ∀ y o, y ≠ D → H y = some o → H' y = some o
/-- a comprehension over range(n) by an invariant of what has been gathered -/
theorem comp_invR {n k : Nat} {te : TE} {cs : St} {H1 : Hp} {D : Addr} {Q : Hp → Prop} (Z : Nat → List V → Hp → Prop) (hD : H1 D = none) (hk : k = cs.length) (hn : n ≤ sizeLine)
    (h0 : ∀ H, Same H1 H → Z 0 [] H)
    (he : ∀ i ys H (R : V → Hp → Prop), i < n → Same H1 H → H D = some (.lst ys) → Z i ys H → (∀ v H4, Same H H4 → (∀ H5, SameBut D H4 H5 → Z (i + 1) (ys ++ [v]) H5) → R v H4) → te (cs ++ [some (.int (i : Nat))]) H R)
    (hQ : ∀ ys H, Same H1 H → H D = some (.lst ys) → Z n ys H → Q H) : tCompQ (Itr 0 n) (gName k) tTrue te (cs ++ [none]) H1 D Q := by
  refine ⟨fun i m ys σ H => m = n - i ∧ i ≤ n ∧ Same H1 H ∧ Z i ys H ∧ ys.length = i ∧ H D = some (.lst ys) ∧ ∃ o, σ = cs ++ [o],
    ⟨n, rfl, Nat.zero_le _, (Same.refl _).up hD, h0 _ ((Same.refl _).up hD), rfl, upd_same, none, rfl⟩, ?_⟩
  rintro i m ys σ H ⟨rfl, hi, sm, hz, hl, hd, o, rfl⟩
  refine ⟨hd, ?_⟩
  by_cases hlt : i < n
  · refine .inr ⟨hlt, fun x H' y => ?_⟩
    obtain ⟨rfl, rfl⟩ : x = .int (0 + (i : Nat)) ∧ H' = H := ⟨y.2, y.1⟩
    have e0 : (0 : Int) + (i : Nat) = (i : Nat) := by omega
    have e : (cs ++ [o]).set k (some (.int (0 + (i : Nat)))) = cs ++ [some (.int (i : Nat))] := by
      rw [hk, List.set_append_right _ _ (Nat.le_refl _), Nat.sub_self, e0]
      rfl
    unfold gName
    rw [e]
    unfold tTrue
    refine iteT ?_
    refine he i ys H' _ hlt sm hd hz fun v H4 s4 z4 => ⟨s4 _ _ hd, ?_, n - (i + 1), by omega, rfl, hlt, (sm.trans s4).up hD, z4 _ (fun y o ny e => by rw [upd_ne ny]; exact e), by rw [List.length_append, hl]; rfl, upd_same, _, rfl⟩
    rw [hl]
    omega
  · have e : i = n := by omega
    subst e
    exact .inl ⟨Nat.le_refl _, hQ ys H sm hd hz⟩
end L2

namespace GF
end GF

set_option Elab.async false
set_option linter.all false
set_option maxRecDepth 100000
set_option maxHeartbeats 1000000
namespace L2
open PySem PySem.Spec PyProof.Rows
/-- a comprehension over a list by an invariant of what has been gathered -/
theorem comp_invL {K : PySem.W.Frag} {a : Addr} {xs : List V} {k : Nat} {te : TE} {cs : St} {H1 : Hp} {D : Addr} {Q : Hp → Prop} (Z : Nat → List V → Hp → Prop) (hs : SqL K H1 a xs) (hD : H1 D = none) (hk : k = cs.length) (hn : xs.length ≤ sizeLine)
    (h0 : ∀ H, Same H1 H → Z 0 [] H)
    (he : ∀ i x ys H (R : V → Hp → Prop), xs[i]? = some x → Same H1 H → H D = some (.lst ys) → Z i ys H → (∀ v H4, Same H H4 → (∀ H5, SameBut D H4 H5 → Z (i + 1) (ys ++ [v]) H5) → R v H4) → te (cs ++ [some x]) H R)
    (hQ : ∀ ys H, Same H1 H → H D = some (.lst ys) → Z xs.length ys H → Q H) : tCompQ (Itl K a) (gName k) tTrue te (cs ++ [none]) H1 D Q := by
  refine ⟨fun i m ys σ H => m = xs.length - i ∧ i ≤ xs.length ∧ Same H1 H ∧ Z i ys H ∧ ys.length = i ∧ H D = some (.lst ys) ∧ ∃ o, σ = cs ++ [o],
    ⟨xs.length, rfl, Nat.zero_le _, (Same.refl _).up hD, h0 _ ((Same.refl _).up hD), rfl, upd_same, none, rfl⟩, ?_⟩
  rintro i m ys σ H ⟨rfl, hi, sm, hz, hl, hd, o, rfl⟩
  refine ⟨hd, ?_⟩
  have hq := sm.seq hs
  by_cases hlt : i < xs.length
  · refine .inr ⟨⟨xs, xs[i], hq, List.getElem?_eq_getElem hlt⟩, fun x H' y => ?_⟩
    obtain ⟨rfl, y⟩ := y
    have ex := y xs hq
    have e : (cs ++ [o]).set k (some x) = cs ++ [some x] := by
      rw [hk, List.set_append_right _ _ (Nat.le_refl _), Nat.sub_self]
      rfl
    unfold gName
    rw [e]
    unfold tTrue
    refine iteT ?_
    refine he i x ys H' _ ex sm hd hz fun v H4 s4 z4 => ⟨s4 _ _ hd, ?_, xs.length - (i + 1), by omega, rfl, hlt, (sm.trans s4).up hD, z4 _ (fun y o ny e => by rw [upd_ne ny]; exact e), by rw [List.length_append, hl]; rfl, upd_same, _, rfl⟩
    rw [hl]
    omega
  · have e : i = xs.length := by omega
    subst e
    exact .inl ⟨⟨xs, hq, Nat.le_refl _⟩, hQ ys H sm hd hz⟩
end L2

namespace My
open PySem L2 PyProof.Rows
set_option maxRecDepth 100000
set_option maxHeartbeats 1000000
def top (i : Nat) : Stmt := PySem.Challenge.pw_spareplank_k32_laid_and_looked_at.main.body.getD i (.Pass ⟨0, 0, 0, 0⟩)
abbrev s_Plank_init : Stmt := inClass (top 8) 0
abbrev s_Plank_there : Stmt := inClass (top 8) 1
abbrev s_Plank_look_at : Stmt := inClass (top 8) 4
abbrev s_Plank_lay_at : Stmt := inClass (top 8) 5
abbrev s_LostPlank_init : Stmt := inClass (top 9) 0
abbrev s_check_bounds : Stmt := top 15
abbrev s_Rack_init : Stmt := inClass (top 16) 0
abbrev s_Rack_peek : Stmt := inClass (top 16) 7
abbrev s_Rack_there : Stmt := inClass (top 16) 11
abbrev s_Rack_look : Stmt := inClass (top 16) 15
abbrev s_Rack_lay : Stmt := inClass (top 16) 16
abbrev s_Rack_need_write : Stmt := inClass (top 16) 20
abbrev s_Rack_spend : Stmt := inClass (top 16) 21
abbrev s_Rack_check_plank : Stmt := inClass (top 16) 23
abbrev s_Rack_check_stripe : Stmt := inClass (top 16) 24
abbrev s_Rack_check_both : Stmt := inClass (top 16) 25
abbrev s_cell_at : Stmt := top 18
abbrev s_mixed : Stmt := top 19
abbrev s_block : Stmt := top 20
abbrev s_same : Stmt := top 21
abbrev s_sizes : Stmt := top 22
abbrev s_sized : Stmt := top 23
abbrev s_all : Stmt := top 24
abbrev s_law : Stmt := top 25
theorem sc_Plank_init : FnScope ["self", "held"] ["self", "held"] (defScope s_Plank_init) := ⟨rfl, rfl, rfl, by decide +kernel, rfl, by decide +kernel, by decide +kernel⟩
theorem sc_Plank_there : FnScope ["self", "at"] ["self", "at"] (defScope s_Plank_there) := ⟨rfl, rfl, rfl, by decide +kernel, rfl, by decide +kernel, by decide +kernel⟩
theorem sc_Plank_look_at : FnScope ["self", "at"] ["self", "at"] (defScope s_Plank_look_at) := ⟨rfl, rfl, rfl, by decide +kernel, rfl, by decide +kernel, by decide +kernel⟩
theorem sc_Plank_lay_at : FnScope ["self", "at", "block"] ["self", "at", "block"] (defScope s_Plank_lay_at) := ⟨rfl, rfl, rfl, by decide +kernel, rfl, by decide +kernel, by decide +kernel⟩
theorem sc_check_bounds : FnScope ["planks", "stripes", "slots"] ["planks", "stripes", "slots"] (defScope s_check_bounds) := ⟨rfl, rfl, rfl, by decide +kernel, rfl, by decide +kernel, by decide +kernel⟩
theorem sc_Rack_init : FnScope ["self", "planks", "stripes", "slots"] ["self", "planks", "stripes", "slots"] (defScope s_Rack_init) := ⟨rfl, rfl, rfl, by decide +kernel, rfl, by decide +kernel, by decide +kernel⟩
theorem sc_Rack_peek : FnScope ["self", "plank", "stripe"] ["self", "plank", "stripe"] (defScope s_Rack_peek) := ⟨rfl, rfl, rfl, by decide +kernel, rfl, by decide +kernel, by decide +kernel⟩
theorem sc_Rack_look : FnScope ["self", "plank", "stripe"] ["self", "plank", "stripe"] (defScope s_Rack_look) := ⟨rfl, rfl, rfl, by decide +kernel, rfl, by decide +kernel, by decide +kernel⟩
theorem sc_Rack_lay : FnScope ["self", "plank", "stripe", "block"] ["self", "plank", "stripe", "block"] (defScope s_Rack_lay) := ⟨rfl, rfl, rfl, by decide +kernel, rfl, by decide +kernel, by decide +kernel⟩
theorem sc_Rack_need_write : FnScope ["self"] ["self"] (defScope s_Rack_need_write) := ⟨rfl, rfl, rfl, by decide +kernel, rfl, by decide +kernel, by decide +kernel⟩
theorem sc_Rack_spend : FnScope ["self", "event"] ["self", "event"] (defScope s_Rack_spend) := ⟨rfl, rfl, rfl, by decide +kernel, rfl, by decide +kernel, by decide +kernel⟩
theorem sc_Rack_check_plank : FnScope ["self", "plank"] ["self", "plank"] (defScope s_Rack_check_plank) := ⟨rfl, rfl, rfl, by decide +kernel, rfl, by decide +kernel, by decide +kernel⟩
theorem sc_Rack_check_stripe : FnScope ["self", "stripe"] ["self", "stripe"] (defScope s_Rack_check_stripe) := ⟨rfl, rfl, rfl, by decide +kernel, rfl, by decide +kernel, by decide +kernel⟩
theorem sc_Rack_check_both : FnScope ["self", "plank", "stripe"] ["self", "plank", "stripe"] (defScope s_Rack_check_both) := ⟨rfl, rfl, rfl, by decide +kernel, rfl, by decide +kernel, by decide +kernel⟩
theorem sc_cell_at : FnScope ["_law_script", "_law_k"] ["_law_script", "_law_k"] (defScope s_cell_at) := ⟨rfl, rfl, rfl, by decide +kernel, rfl, by decide +kernel, by decide +kernel⟩
theorem sc_mixed : FnScope ["_law_cell", "_law_k", "_law_number"] ["_law_cell", "_law_k"] (defScope s_mixed) := ⟨rfl, rfl, rfl, by decide +kernel, rfl, by decide +kernel, by decide +kernel⟩
theorem sc_block : FnScope ["_law_number"] ["_law_number"] (defScope s_block) := ⟨rfl, rfl, rfl, by decide +kernel, rfl, by decide +kernel, by decide +kernel⟩
theorem sc_same : FnScope ["_law_found", "_law_due"] ["_law_found", "_law_due"] (defScope s_same) := ⟨rfl, rfl, rfl, by decide +kernel, rfl, by decide +kernel, by decide +kernel⟩
theorem sc_sizes : FnScope ["_law_script", "_law_k", "_law_planks", "_law_stripes"] ["_law_script", "_law_k"] (defScope s_sizes) := ⟨rfl, rfl, rfl, by decide +kernel, rfl, by decide +kernel, by decide +kernel⟩
theorem sc_sized : FnScope ["_law_rack", "_law_sizes_here"] ["_law_rack", "_law_sizes_here"] (defScope s_sized) := ⟨rfl, rfl, rfl, by decide +kernel, rfl, by decide +kernel, by decide +kernel⟩
theorem sc_all : FnScope ["_law_rack", "_law_sizes_here", "_law_known", "_law_plank", "_law_stripe", "_law_due"] ["_law_rack", "_law_sizes_here", "_law_known"] (defScope s_all) := ⟨rfl, rfl, rfl, by decide +kernel, rfl, by decide +kernel, by decide +kernel⟩
theorem sc_law : FnScope ["_law_script", "_law_sizes_here", "_law_racks", "_law_known", "_law_k", "_law_number", "_law_which", "_law_way", "_law_plank", "_law_stripe", "_law_due", "_law_block_here"] ["_law_script"] (defScope s_law) := ⟨rfl, rfl, rfl, by decide +kernel, rfl, by decide +kernel, by decide +kernel⟩
structure Adr where
  C_Plank : Addr
  C_LostPlank : Addr
  C_Rack : Addr
  f_Plank_init : Addr
  d_Plank_init : FuncData
  f_Plank_there : Addr
  d_Plank_there : FuncData
  f_Plank_look_at : Addr
  d_Plank_look_at : FuncData
  f_Plank_lay_at : Addr
  d_Plank_lay_at : FuncData
  f_LostPlank_init : Addr
  d_LostPlank_init : FuncData
  f_check_bounds : Addr
  d_check_bounds : FuncData
  f_Rack_init : Addr
  d_Rack_init : FuncData
  f_Rack_peek : Addr
  d_Rack_peek : FuncData
  f_Rack_there : Addr
  d_Rack_there : FuncData
  f_Rack_look : Addr
  d_Rack_look : FuncData
  f_Rack_lay : Addr
  d_Rack_lay : FuncData
  f_Rack_need_write : Addr
  d_Rack_need_write : FuncData
  f_Rack_spend : Addr
  d_Rack_spend : FuncData
  f_Rack_check_plank : Addr
  d_Rack_check_plank : FuncData
  f_Rack_check_stripe : Addr
  d_Rack_check_stripe : FuncData
  f_Rack_check_both : Addr
  d_Rack_check_both : FuncData
  f_cell_at : Addr
  d_cell_at : FuncData
  f_mixed : Addr
  d_mixed : FuncData
  f_block : Addr
  d_block : FuncData
  f_same : Addr
  d_same : FuncData
  f_sizes : Addr
  d_sizes : FuncData
  f_sized : Addr
  d_sized : FuncData
  f_all : Addr
  d_all : FuncData
  f_law : Addr
  d_law : FuncData
  t_MOST_SLOTS : Tok
  t_MOST_STRIPES : Tok
  t_MOST_PLANKS : Tok
  t_LEAST_PLANKS : Tok
structure Txt (K : PySem.W.Frag) (mg : Str → Option Value) (a : Adr) : Prop where
  cl_Plank : Cls K a.C_Plank
  m_Plank : mg "Plank" = some (.ref a.C_Plank)
  no_Plank_held : NoAttr K a.C_Plank "held"
  mk_Plank : Mk K a.C_Plank a.f_Plank_init
  cl_LostPlank : Cls K a.C_LostPlank
  m_LostPlank : mg "LostPlank" = some (.ref a.C_LostPlank)
  no_LostPlank_held : NoAttr K a.C_LostPlank "held"
  mk_LostPlank : Mk K a.C_LostPlank a.f_LostPlank_init
  cl_Rack : Cls K a.C_Rack
  m_Rack : mg "Rack" = some (.ref a.C_Rack)
  no_Rack_planks : NoAttr K a.C_Rack "planks"
  no_Rack_stripes : NoAttr K a.C_Rack "stripes"
  no_Rack_slots : NoAttr K a.C_Rack "slots"
  no_Rack_shelf : NoAttr K a.C_Rack "shelf"
  no_Rack_slate : NoAttr K a.C_Rack "slate"
  no_Rack_left : NoAttr K a.C_Rack "left"
  no_Rack_gone : NoAttr K a.C_Rack "gone"
  no_Rack_done : NoAttr K a.C_Rack "done"
  mk_Rack : Mk K a.C_Rack a.f_Rack_init
  F_Plank_init : Fun K "__init__" "Plank.__init__" s_Plank_init a.f_Plank_init a.d_Plank_init
  b_Plank_init : Binds K a.d_Plank_init ["self", "held"] []
  k_Plank_init : PySem.W.keepIn K (.ref a.f_Plank_init) = true
  me_Plank_init : Meth K a.C_Plank "__init__" a.f_Plank_init
  F_Plank_there : Fun K "there" "Plank.there" s_Plank_there a.f_Plank_there a.d_Plank_there
  b_Plank_there : Binds K a.d_Plank_there ["self", "at"] []
  k_Plank_there : PySem.W.keepIn K (.ref a.f_Plank_there) = true
  me_Plank_there : Meth K a.C_Plank "there" a.f_Plank_there
  F_Plank_look_at : Fun K "look_at" "Plank.look_at" s_Plank_look_at a.f_Plank_look_at a.d_Plank_look_at
  b_Plank_look_at : Binds K a.d_Plank_look_at ["self", "at"] []
  k_Plank_look_at : PySem.W.keepIn K (.ref a.f_Plank_look_at) = true
  me_Plank_look_at : Meth K a.C_Plank "look_at" a.f_Plank_look_at
  F_Plank_lay_at : Fun K "lay_at" "Plank.lay_at" s_Plank_lay_at a.f_Plank_lay_at a.d_Plank_lay_at
  b_Plank_lay_at : Binds K a.d_Plank_lay_at ["self", "at", "block"] []
  k_Plank_lay_at : PySem.W.keepIn K (.ref a.f_Plank_lay_at) = true
  me_Plank_lay_at : Meth K a.C_Plank "lay_at" a.f_Plank_lay_at
  F_LostPlank_init : Fun K "__init__" "LostPlank.__init__" s_LostPlank_init a.f_LostPlank_init a.d_LostPlank_init
  b_LostPlank_init : Binds K a.d_LostPlank_init ["self", "many"] []
  k_LostPlank_init : PySem.W.keepIn K (.ref a.f_LostPlank_init) = true
  me_LostPlank_init : Meth K a.C_LostPlank "__init__" a.f_LostPlank_init
  F_check_bounds : Fun K "check_bounds" "check_bounds" s_check_bounds a.f_check_bounds a.d_check_bounds
  b_check_bounds : Binds K a.d_check_bounds ["planks", "stripes", "slots"] []
  k_check_bounds : PySem.W.keepIn K (.ref a.f_check_bounds) = true
  m_check_bounds : mg "check_bounds" = some (.ref a.f_check_bounds)
  F_Rack_init : Fun K "__init__" "Rack.__init__" s_Rack_init a.f_Rack_init a.d_Rack_init
  b_Rack_init : Binds K a.d_Rack_init ["self", "planks", "stripes", "slots"] []
  k_Rack_init : PySem.W.keepIn K (.ref a.f_Rack_init) = true
  me_Rack_init : Meth K a.C_Rack "__init__" a.f_Rack_init
  F_Rack_peek : Fun K "peek" "Rack.peek" s_Rack_peek a.f_Rack_peek a.d_Rack_peek
  b_Rack_peek : Binds K a.d_Rack_peek ["self", "plank", "stripe"] []
  k_Rack_peek : PySem.W.keepIn K (.ref a.f_Rack_peek) = true
  me_Rack_peek : Meth K a.C_Rack "peek" a.f_Rack_peek
  F_Rack_there : Fun K "there" "Rack.there" s_Rack_there a.f_Rack_there a.d_Rack_there
  b_Rack_there : Binds K a.d_Rack_there ["self", "plank", "stripe"] []
  k_Rack_there : PySem.W.keepIn K (.ref a.f_Rack_there) = true
  me_Rack_there : Meth K a.C_Rack "there" a.f_Rack_there
  F_Rack_look : Fun K "look" "Rack.look" s_Rack_look a.f_Rack_look a.d_Rack_look
  b_Rack_look : Binds K a.d_Rack_look ["self", "plank", "stripe"] []
  k_Rack_look : PySem.W.keepIn K (.ref a.f_Rack_look) = true
  me_Rack_look : Meth K a.C_Rack "look" a.f_Rack_look
  F_Rack_lay : Fun K "lay" "Rack.lay" s_Rack_lay a.f_Rack_lay a.d_Rack_lay
  b_Rack_lay : Binds K a.d_Rack_lay ["self", "plank", "stripe", "block"] []
  k_Rack_lay : PySem.W.keepIn K (.ref a.f_Rack_lay) = true
  me_Rack_lay : Meth K a.C_Rack "lay" a.f_Rack_lay
  F_Rack_need_write : Fun K "need_write" "Rack.need_write" s_Rack_need_write a.f_Rack_need_write a.d_Rack_need_write
  b_Rack_need_write : Binds K a.d_Rack_need_write ["self"] []
  k_Rack_need_write : PySem.W.keepIn K (.ref a.f_Rack_need_write) = true
  me_Rack_need_write : Meth K a.C_Rack "need_write" a.f_Rack_need_write
  F_Rack_spend : Fun K "spend" "Rack.spend" s_Rack_spend a.f_Rack_spend a.d_Rack_spend
  b_Rack_spend : Binds K a.d_Rack_spend ["self", "event"] []
  k_Rack_spend : PySem.W.keepIn K (.ref a.f_Rack_spend) = true
  me_Rack_spend : Meth K a.C_Rack "spend" a.f_Rack_spend
  F_Rack_check_plank : Fun K "check_plank" "Rack.check_plank" s_Rack_check_plank a.f_Rack_check_plank a.d_Rack_check_plank
  b_Rack_check_plank : Binds K a.d_Rack_check_plank ["self", "plank"] []
  k_Rack_check_plank : PySem.W.keepIn K (.ref a.f_Rack_check_plank) = true
  me_Rack_check_plank : Meth K a.C_Rack "check_plank" a.f_Rack_check_plank
  F_Rack_check_stripe : Fun K "check_stripe" "Rack.check_stripe" s_Rack_check_stripe a.f_Rack_check_stripe a.d_Rack_check_stripe
  b_Rack_check_stripe : Binds K a.d_Rack_check_stripe ["self", "stripe"] []
  k_Rack_check_stripe : PySem.W.keepIn K (.ref a.f_Rack_check_stripe) = true
  me_Rack_check_stripe : Meth K a.C_Rack "check_stripe" a.f_Rack_check_stripe
  F_Rack_check_both : Fun K "check_both" "Rack.check_both" s_Rack_check_both a.f_Rack_check_both a.d_Rack_check_both
  b_Rack_check_both : Binds K a.d_Rack_check_both ["self", "plank", "stripe"] []
  k_Rack_check_both : PySem.W.keepIn K (.ref a.f_Rack_check_both) = true
  me_Rack_check_both : Meth K a.C_Rack "check_both" a.f_Rack_check_both
  F_cell_at : Fun K "_law_cell_at" "_law_cell_at" s_cell_at a.f_cell_at a.d_cell_at
  b_cell_at : Binds K a.d_cell_at ["_law_script", "_law_k"] []
  k_cell_at : PySem.W.keepIn K (.ref a.f_cell_at) = true
  m_cell_at : mg "_law_cell_at" = some (.ref a.f_cell_at)
  F_mixed : Fun K "_law_mixed" "_law_mixed" s_mixed a.f_mixed a.d_mixed
  b_mixed : Binds K a.d_mixed ["_law_cell", "_law_k"] []
  k_mixed : PySem.W.keepIn K (.ref a.f_mixed) = true
  m_mixed : mg "_law_mixed" = some (.ref a.f_mixed)
  F_block : Fun K "_law_block" "_law_block" s_block a.f_block a.d_block
  b_block : Binds K a.d_block ["_law_number"] []
  k_block : PySem.W.keepIn K (.ref a.f_block) = true
  m_block : mg "_law_block" = some (.ref a.f_block)
  F_same : Fun K "_law_same" "_law_same" s_same a.f_same a.d_same
  b_same : Binds K a.d_same ["_law_found", "_law_due"] []
  k_same : PySem.W.keepIn K (.ref a.f_same) = true
  m_same : mg "_law_same" = some (.ref a.f_same)
  F_sizes : Fun K "_law_sizes" "_law_sizes" s_sizes a.f_sizes a.d_sizes
  b_sizes : Binds K a.d_sizes ["_law_script", "_law_k"] []
  k_sizes : PySem.W.keepIn K (.ref a.f_sizes) = true
  m_sizes : mg "_law_sizes" = some (.ref a.f_sizes)
  F_sized : Fun K "_law_sized" "_law_sized" s_sized a.f_sized a.d_sized
  b_sized : Binds K a.d_sized ["_law_rack", "_law_sizes_here"] []
  k_sized : PySem.W.keepIn K (.ref a.f_sized) = true
  m_sized : mg "_law_sized" = some (.ref a.f_sized)
  F_all : Fun K "_law_all" "_law_all" s_all a.f_all a.d_all
  b_all : Binds K a.d_all ["_law_rack", "_law_sizes_here", "_law_known"] []
  k_all : PySem.W.keepIn K (.ref a.f_all) = true
  m_all : mg "_law_all" = some (.ref a.f_all)
  F_law : Fun K "law" "law" s_law a.f_law a.d_law
  b_law : Binds K a.d_law ["_law_script"] []
  k_law : PySem.W.keepIn K (.ref a.f_law) = true
  m_law : mg "law" = some (.ref a.f_law)
  ty_Plank : TyIn K a.C_Plank
  kn_Plank_LostPlank : PySem.W.kitOne K (.ref a.C_Plank) (.ref a.C_LostPlank) = some false
  n_list : mg "list" = none
  n_range : mg "range" = none
  n_isinstance : mg "isinstance" = none
  n_len : mg "len" = none
  n_int : mg "int" = none
  n_bool : mg "bool" = none
  n_min : mg "min" = none
  v_LEAST_PLANKS : mg "LEAST_PLANKS" = some (.int 2 a.t_LEAST_PLANKS)
  v_MOST_PLANKS : mg "MOST_PLANKS" = some (.int 8 a.t_MOST_PLANKS)
  v_MOST_STRIPES : mg "MOST_STRIPES" = some (.int 32 a.t_MOST_STRIPES)
  v_MOST_SLOTS : mg "MOST_SLOTS" = some (.int 8 a.t_MOST_SLOTS)
theorem txt_mk {K : PySem.W.Frag} {h : Heap} {mg : Str → Option Value} {C_Plank C_LostPlank C_Rack f_Plank_init f_Plank_there f_Plank_look_at f_Plank_lay_at f_LostPlank_init f_check_bounds f_Rack_init f_Rack_peek f_Rack_there f_Rack_look f_Rack_lay f_Rack_need_write f_Rack_spend f_Rack_check_plank f_Rack_check_stripe f_Rack_check_both f_cell_at f_mixed f_block f_same f_sizes f_sized f_all f_law : Addr} (X : K.In h) (G : h.Ns mainGlobals mg)
    {t_LEAST_PLANKS t_MOST_PLANKS t_MOST_STRIPES t_MOST_SLOTS : Tok} {od_Plank_init an_Plank_init : Option Addr} {sl_Plank_init : Array (Option Value)} {oc_Plank_init kV_Plank_init dc_Plank_init pm_Plank_init cd_Plank_init ct_Plank_init : Value}
    {od_Plank_there an_Plank_there : Option Addr} {sl_Plank_there : Array (Option Value)} {oc_Plank_there kV_Plank_there dc_Plank_there pm_Plank_there cd_Plank_there ct_Plank_there : Value}
    {od_Plank_look_at an_Plank_look_at : Option Addr} {sl_Plank_look_at : Array (Option Value)} {oc_Plank_look_at kV_Plank_look_at dc_Plank_look_at pm_Plank_look_at cd_Plank_look_at ct_Plank_look_at : Value}
    {od_Plank_lay_at an_Plank_lay_at : Option Addr} {sl_Plank_lay_at : Array (Option Value)} {oc_Plank_lay_at kV_Plank_lay_at dc_Plank_lay_at pm_Plank_lay_at cd_Plank_lay_at ct_Plank_lay_at : Value}
    {od_LostPlank_init an_LostPlank_init : Option Addr} {sl_LostPlank_init : Array (Option Value)} {oc_LostPlank_init kV_LostPlank_init dc_LostPlank_init pm_LostPlank_init cd_LostPlank_init ct_LostPlank_init : Value}
    {od_check_bounds an_check_bounds : Option Addr} {sl_check_bounds : Array (Option Value)} {oc_check_bounds kV_check_bounds dc_check_bounds pm_check_bounds cd_check_bounds ct_check_bounds : Value}
    {od_Rack_init an_Rack_init : Option Addr} {sl_Rack_init : Array (Option Value)} {oc_Rack_init kV_Rack_init dc_Rack_init pm_Rack_init cd_Rack_init ct_Rack_init : Value}
    {od_Rack_peek an_Rack_peek : Option Addr} {sl_Rack_peek : Array (Option Value)} {oc_Rack_peek kV_Rack_peek dc_Rack_peek pm_Rack_peek cd_Rack_peek ct_Rack_peek : Value}
    {od_Rack_there an_Rack_there : Option Addr} {sl_Rack_there : Array (Option Value)} {oc_Rack_there kV_Rack_there dc_Rack_there pm_Rack_there cd_Rack_there ct_Rack_there : Value}
    {od_Rack_look an_Rack_look : Option Addr} {sl_Rack_look : Array (Option Value)} {oc_Rack_look kV_Rack_look dc_Rack_look pm_Rack_look cd_Rack_look ct_Rack_look : Value}
    {od_Rack_lay an_Rack_lay : Option Addr} {sl_Rack_lay : Array (Option Value)} {oc_Rack_lay kV_Rack_lay dc_Rack_lay pm_Rack_lay cd_Rack_lay ct_Rack_lay : Value}
    {od_Rack_need_write an_Rack_need_write : Option Addr} {sl_Rack_need_write : Array (Option Value)} {oc_Rack_need_write kV_Rack_need_write dc_Rack_need_write pm_Rack_need_write cd_Rack_need_write ct_Rack_need_write : Value}
    {od_Rack_spend an_Rack_spend : Option Addr} {sl_Rack_spend : Array (Option Value)} {oc_Rack_spend kV_Rack_spend dc_Rack_spend pm_Rack_spend cd_Rack_spend ct_Rack_spend : Value}
    {od_Rack_check_plank an_Rack_check_plank : Option Addr} {sl_Rack_check_plank : Array (Option Value)} {oc_Rack_check_plank kV_Rack_check_plank dc_Rack_check_plank pm_Rack_check_plank cd_Rack_check_plank ct_Rack_check_plank : Value}
    {od_Rack_check_stripe an_Rack_check_stripe : Option Addr} {sl_Rack_check_stripe : Array (Option Value)} {oc_Rack_check_stripe kV_Rack_check_stripe dc_Rack_check_stripe pm_Rack_check_stripe cd_Rack_check_stripe ct_Rack_check_stripe : Value}
    {od_Rack_check_both an_Rack_check_both : Option Addr} {sl_Rack_check_both : Array (Option Value)} {oc_Rack_check_both kV_Rack_check_both dc_Rack_check_both pm_Rack_check_both cd_Rack_check_both ct_Rack_check_both : Value}
    {od_cell_at an_cell_at : Option Addr} {sl_cell_at : Array (Option Value)} {oc_cell_at kV_cell_at dc_cell_at pm_cell_at cd_cell_at ct_cell_at : Value}
    {od_mixed an_mixed : Option Addr} {sl_mixed : Array (Option Value)} {oc_mixed kV_mixed dc_mixed pm_mixed cd_mixed ct_mixed : Value}
    {od_block an_block : Option Addr} {sl_block : Array (Option Value)} {oc_block kV_block dc_block pm_block cd_block ct_block : Value}
    {od_same an_same : Option Addr} {sl_same : Array (Option Value)} {oc_same kV_same dc_same pm_same cd_same ct_same : Value}
    {od_sizes an_sizes : Option Addr} {sl_sizes : Array (Option Value)} {oc_sizes kV_sizes dc_sizes pm_sizes cd_sizes ct_sizes : Value}
    {od_sized an_sized : Option Addr} {sl_sized : Array (Option Value)} {oc_sized kV_sized dc_sized pm_sized cd_sized ct_sized : Value}
    {od_all an_all : Option Addr} {sl_all : Array (Option Value)} {oc_all kV_all dc_all pm_all cd_all ct_all : Value}
    {od_law an_law : Option Addr} {sl_law : Array (Option Value)} {oc_law kV_law dc_law pm_law cd_law ct_law : Value}
    (a_Plank : PySem.W.nsIn K mainGlobals "Plank" = some (some (.ref C_Plank)))
    (pg_Plank : PySem.W.plainGet K C_Plank Str.empty = true)
    (hd_Plank : PySem.W.hasDictIn K C_Plank = true)
    (po_Plank : PySem.W.plainOver K C_Plank = true)
    (sa_Plank : PySem.W.findIn K (.ref C_Plank) "__setattr__" = some (some (.builtin "object.__setattr__")))
    (no_Plank_held : PySem.W.findIn K (.ref C_Plank) "held" = some none)
    (mk_Plank : PySem.W.makesIn K C_Plank = true)
    (kc_Plank : PySem.W.keepIn K (.ref C_Plank) = true)
    (a_LostPlank : PySem.W.nsIn K mainGlobals "LostPlank" = some (some (.ref C_LostPlank)))
    (pg_LostPlank : PySem.W.plainGet K C_LostPlank Str.empty = true)
    (hd_LostPlank : PySem.W.hasDictIn K C_LostPlank = true)
    (po_LostPlank : PySem.W.plainOver K C_LostPlank = true)
    (sa_LostPlank : PySem.W.findIn K (.ref C_LostPlank) "__setattr__" = some (some (.builtin "object.__setattr__")))
    (no_LostPlank_held : PySem.W.findIn K (.ref C_LostPlank) "held" = some none)
    (mk_LostPlank : PySem.W.makesIn K C_LostPlank = true)
    (kc_LostPlank : PySem.W.keepIn K (.ref C_LostPlank) = true)
    (a_Rack : PySem.W.nsIn K mainGlobals "Rack" = some (some (.ref C_Rack)))
    (pg_Rack : PySem.W.plainGet K C_Rack Str.empty = true)
    (hd_Rack : PySem.W.hasDictIn K C_Rack = true)
    (po_Rack : PySem.W.plainOver K C_Rack = true)
    (sa_Rack : PySem.W.findIn K (.ref C_Rack) "__setattr__" = some (some (.builtin "object.__setattr__")))
    (no_Rack_planks : PySem.W.findIn K (.ref C_Rack) "planks" = some none)
    (no_Rack_stripes : PySem.W.findIn K (.ref C_Rack) "stripes" = some none)
    (no_Rack_slots : PySem.W.findIn K (.ref C_Rack) "slots" = some none)
    (no_Rack_shelf : PySem.W.findIn K (.ref C_Rack) "shelf" = some none)
    (no_Rack_slate : PySem.W.findIn K (.ref C_Rack) "slate" = some none)
    (no_Rack_left : PySem.W.findIn K (.ref C_Rack) "left" = some none)
    (no_Rack_gone : PySem.W.findIn K (.ref C_Rack) "gone" = some none)
    (no_Rack_done : PySem.W.findIn K (.ref C_Rack) "done" = some none)
    (mk_Rack : PySem.W.makesIn K C_Rack = true)
    (kc_Rack : PySem.W.keepIn K (.ref C_Rack) = true)
    (a_Plank_init : PySem.W.findIn K (.ref C_Plank) "__init__" = some (some (.ref f_Plank_init)))
    (i_Plank_init : PySem.W.isFn K (.ref f_Plank_init) = true)
    (l_Plank_init : K.lookup f_Plank_init = some ⟨oc_Plank_init, od_Plank_init, .func (PySem.W.fnOf "__init__" "Plank.__init__" (defArgs s_Plank_init) (defBody s_Plank_init) (defScope s_Plank_init) .none kV_Plank_init dc_Plank_init pm_Plank_init an_Plank_init cd_Plank_init ct_Plank_init), sl_Plank_init⟩)
    (c_Plank_init : PySem.W.codeIn K cd_Plank_init "Plank.__init__" = true)
    (k_Plank_init : PySem.W.keepIn K (.ref f_Plank_init) = true)
    (a_Plank_there : PySem.W.findIn K (.ref C_Plank) "there" = some (some (.ref f_Plank_there)))
    (i_Plank_there : PySem.W.isFn K (.ref f_Plank_there) = true)
    (l_Plank_there : K.lookup f_Plank_there = some ⟨oc_Plank_there, od_Plank_there, .func (PySem.W.fnOf "there" "Plank.there" (defArgs s_Plank_there) (defBody s_Plank_there) (defScope s_Plank_there) .none kV_Plank_there dc_Plank_there pm_Plank_there an_Plank_there cd_Plank_there ct_Plank_there), sl_Plank_there⟩)
    (c_Plank_there : PySem.W.codeIn K cd_Plank_there "Plank.there" = true)
    (k_Plank_there : PySem.W.keepIn K (.ref f_Plank_there) = true)
    (a_Plank_look_at : PySem.W.findIn K (.ref C_Plank) "look_at" = some (some (.ref f_Plank_look_at)))
    (i_Plank_look_at : PySem.W.isFn K (.ref f_Plank_look_at) = true)
    (l_Plank_look_at : K.lookup f_Plank_look_at = some ⟨oc_Plank_look_at, od_Plank_look_at, .func (PySem.W.fnOf "look_at" "Plank.look_at" (defArgs s_Plank_look_at) (defBody s_Plank_look_at) (defScope s_Plank_look_at) .none kV_Plank_look_at dc_Plank_look_at pm_Plank_look_at an_Plank_look_at cd_Plank_look_at ct_Plank_look_at), sl_Plank_look_at⟩)
    (c_Plank_look_at : PySem.W.codeIn K cd_Plank_look_at "Plank.look_at" = true)
    (k_Plank_look_at : PySem.W.keepIn K (.ref f_Plank_look_at) = true)
    (a_Plank_lay_at : PySem.W.findIn K (.ref C_Plank) "lay_at" = some (some (.ref f_Plank_lay_at)))
    (i_Plank_lay_at : PySem.W.isFn K (.ref f_Plank_lay_at) = true)
    (l_Plank_lay_at : K.lookup f_Plank_lay_at = some ⟨oc_Plank_lay_at, od_Plank_lay_at, .func (PySem.W.fnOf "lay_at" "Plank.lay_at" (defArgs s_Plank_lay_at) (defBody s_Plank_lay_at) (defScope s_Plank_lay_at) .none kV_Plank_lay_at dc_Plank_lay_at pm_Plank_lay_at an_Plank_lay_at cd_Plank_lay_at ct_Plank_lay_at), sl_Plank_lay_at⟩)
    (c_Plank_lay_at : PySem.W.codeIn K cd_Plank_lay_at "Plank.lay_at" = true)
    (k_Plank_lay_at : PySem.W.keepIn K (.ref f_Plank_lay_at) = true)
    (a_LostPlank_init : PySem.W.findIn K (.ref C_LostPlank) "__init__" = some (some (.ref f_LostPlank_init)))
    (i_LostPlank_init : PySem.W.isFn K (.ref f_LostPlank_init) = true)
    (l_LostPlank_init : K.lookup f_LostPlank_init = some ⟨oc_LostPlank_init, od_LostPlank_init, .func (PySem.W.fnOf "__init__" "LostPlank.__init__" (defArgs s_LostPlank_init) (defBody s_LostPlank_init) (defScope s_LostPlank_init) .none kV_LostPlank_init dc_LostPlank_init pm_LostPlank_init an_LostPlank_init cd_LostPlank_init ct_LostPlank_init), sl_LostPlank_init⟩)
    (c_LostPlank_init : PySem.W.codeIn K cd_LostPlank_init "LostPlank.__init__" = true)
    (k_LostPlank_init : PySem.W.keepIn K (.ref f_LostPlank_init) = true)
    (a_check_bounds : PySem.W.nsIn K mainGlobals "check_bounds" = some (some (.ref f_check_bounds)))
    (l_check_bounds : K.lookup f_check_bounds = some ⟨oc_check_bounds, od_check_bounds, .func (PySem.W.fnOf "check_bounds" "check_bounds" (defArgs s_check_bounds) (defBody s_check_bounds) (defScope s_check_bounds) .none kV_check_bounds dc_check_bounds pm_check_bounds an_check_bounds cd_check_bounds ct_check_bounds), sl_check_bounds⟩)
    (c_check_bounds : PySem.W.codeIn K cd_check_bounds "check_bounds" = true)
    (k_check_bounds : PySem.W.keepIn K (.ref f_check_bounds) = true)
    (a_Rack_init : PySem.W.findIn K (.ref C_Rack) "__init__" = some (some (.ref f_Rack_init)))
    (i_Rack_init : PySem.W.isFn K (.ref f_Rack_init) = true)
    (l_Rack_init : K.lookup f_Rack_init = some ⟨oc_Rack_init, od_Rack_init, .func (PySem.W.fnOf "__init__" "Rack.__init__" (defArgs s_Rack_init) (defBody s_Rack_init) (defScope s_Rack_init) .none kV_Rack_init dc_Rack_init pm_Rack_init an_Rack_init cd_Rack_init ct_Rack_init), sl_Rack_init⟩)
    (c_Rack_init : PySem.W.codeIn K cd_Rack_init "Rack.__init__" = true)
    (k_Rack_init : PySem.W.keepIn K (.ref f_Rack_init) = true)
    (a_Rack_peek : PySem.W.findIn K (.ref C_Rack) "peek" = some (some (.ref f_Rack_peek)))
    (i_Rack_peek : PySem.W.isFn K (.ref f_Rack_peek) = true)
    (l_Rack_peek : K.lookup f_Rack_peek = some ⟨oc_Rack_peek, od_Rack_peek, .func (PySem.W.fnOf "peek" "Rack.peek" (defArgs s_Rack_peek) (defBody s_Rack_peek) (defScope s_Rack_peek) .none kV_Rack_peek dc_Rack_peek pm_Rack_peek an_Rack_peek cd_Rack_peek ct_Rack_peek), sl_Rack_peek⟩)
    (c_Rack_peek : PySem.W.codeIn K cd_Rack_peek "Rack.peek" = true)
    (k_Rack_peek : PySem.W.keepIn K (.ref f_Rack_peek) = true)
    (a_Rack_there : PySem.W.findIn K (.ref C_Rack) "there" = some (some (.ref f_Rack_there)))
    (i_Rack_there : PySem.W.isFn K (.ref f_Rack_there) = true)
    (l_Rack_there : K.lookup f_Rack_there = some ⟨oc_Rack_there, od_Rack_there, .func (PySem.W.fnOf "there" "Rack.there" (defArgs s_Rack_there) (defBody s_Rack_there) (defScope s_Rack_there) .none kV_Rack_there dc_Rack_there pm_Rack_there an_Rack_there cd_Rack_there ct_Rack_there), sl_Rack_there⟩)
    (c_Rack_there : PySem.W.codeIn K cd_Rack_there "Rack.there" = true)
    (k_Rack_there : PySem.W.keepIn K (.ref f_Rack_there) = true)
    (a_Rack_look : PySem.W.findIn K (.ref C_Rack) "look" = some (some (.ref f_Rack_look)))
    (i_Rack_look : PySem.W.isFn K (.ref f_Rack_look) = true)
    (l_Rack_look : K.lookup f_Rack_look = some ⟨oc_Rack_look, od_Rack_look, .func (PySem.W.fnOf "look" "Rack.look" (defArgs s_Rack_look) (defBody s_Rack_look) (defScope s_Rack_look) .none kV_Rack_look dc_Rack_look pm_Rack_look an_Rack_look cd_Rack_look ct_Rack_look), sl_Rack_look⟩)
    (c_Rack_look : PySem.W.codeIn K cd_Rack_look "Rack.look" = true)
    (k_Rack_look : PySem.W.keepIn K (.ref f_Rack_look) = true)
    (a_Rack_lay : PySem.W.findIn K (.ref C_Rack) "lay" = some (some (.ref f_Rack_lay)))
    (i_Rack_lay : PySem.W.isFn K (.ref f_Rack_lay) = true)
    (l_Rack_lay : K.lookup f_Rack_lay = some ⟨oc_Rack_lay, od_Rack_lay, .func (PySem.W.fnOf "lay" "Rack.lay" (defArgs s_Rack_lay) (defBody s_Rack_lay) (defScope s_Rack_lay) .none kV_Rack_lay dc_Rack_lay pm_Rack_lay an_Rack_lay cd_Rack_lay ct_Rack_lay), sl_Rack_lay⟩)
    (c_Rack_lay : PySem.W.codeIn K cd_Rack_lay "Rack.lay" = true)
    (k_Rack_lay : PySem.W.keepIn K (.ref f_Rack_lay) = true)
    (a_Rack_need_write : PySem.W.findIn K (.ref C_Rack) "need_write" = some (some (.ref f_Rack_need_write)))
    (i_Rack_need_write : PySem.W.isFn K (.ref f_Rack_need_write) = true)
    (l_Rack_need_write : K.lookup f_Rack_need_write = some ⟨oc_Rack_need_write, od_Rack_need_write, .func (PySem.W.fnOf "need_write" "Rack.need_write" (defArgs s_Rack_need_write) (defBody s_Rack_need_write) (defScope s_Rack_need_write) .none kV_Rack_need_write dc_Rack_need_write pm_Rack_need_write an_Rack_need_write cd_Rack_need_write ct_Rack_need_write), sl_Rack_need_write⟩)
    (c_Rack_need_write : PySem.W.codeIn K cd_Rack_need_write "Rack.need_write" = true)
    (k_Rack_need_write : PySem.W.keepIn K (.ref f_Rack_need_write) = true)
    (a_Rack_spend : PySem.W.findIn K (.ref C_Rack) "spend" = some (some (.ref f_Rack_spend)))
    (i_Rack_spend : PySem.W.isFn K (.ref f_Rack_spend) = true)
    (l_Rack_spend : K.lookup f_Rack_spend = some ⟨oc_Rack_spend, od_Rack_spend, .func (PySem.W.fnOf "spend" "Rack.spend" (defArgs s_Rack_spend) (defBody s_Rack_spend) (defScope s_Rack_spend) .none kV_Rack_spend dc_Rack_spend pm_Rack_spend an_Rack_spend cd_Rack_spend ct_Rack_spend), sl_Rack_spend⟩)
    (c_Rack_spend : PySem.W.codeIn K cd_Rack_spend "Rack.spend" = true)
    (k_Rack_spend : PySem.W.keepIn K (.ref f_Rack_spend) = true)
    (a_Rack_check_plank : PySem.W.findIn K (.ref C_Rack) "check_plank" = some (some (.ref f_Rack_check_plank)))
    (i_Rack_check_plank : PySem.W.isFn K (.ref f_Rack_check_plank) = true)
    (l_Rack_check_plank : K.lookup f_Rack_check_plank = some ⟨oc_Rack_check_plank, od_Rack_check_plank, .func (PySem.W.fnOf "check_plank" "Rack.check_plank" (defArgs s_Rack_check_plank) (defBody s_Rack_check_plank) (defScope s_Rack_check_plank) .none kV_Rack_check_plank dc_Rack_check_plank pm_Rack_check_plank an_Rack_check_plank cd_Rack_check_plank ct_Rack_check_plank), sl_Rack_check_plank⟩)
    (c_Rack_check_plank : PySem.W.codeIn K cd_Rack_check_plank "Rack.check_plank" = true)
    (k_Rack_check_plank : PySem.W.keepIn K (.ref f_Rack_check_plank) = true)
    (a_Rack_check_stripe : PySem.W.findIn K (.ref C_Rack) "check_stripe" = some (some (.ref f_Rack_check_stripe)))
    (i_Rack_check_stripe : PySem.W.isFn K (.ref f_Rack_check_stripe) = true)
    (l_Rack_check_stripe : K.lookup f_Rack_check_stripe = some ⟨oc_Rack_check_stripe, od_Rack_check_stripe, .func (PySem.W.fnOf "check_stripe" "Rack.check_stripe" (defArgs s_Rack_check_stripe) (defBody s_Rack_check_stripe) (defScope s_Rack_check_stripe) .none kV_Rack_check_stripe dc_Rack_check_stripe pm_Rack_check_stripe an_Rack_check_stripe cd_Rack_check_stripe ct_Rack_check_stripe), sl_Rack_check_stripe⟩)
    (c_Rack_check_stripe : PySem.W.codeIn K cd_Rack_check_stripe "Rack.check_stripe" = true)
    (k_Rack_check_stripe : PySem.W.keepIn K (.ref f_Rack_check_stripe) = true)
    (a_Rack_check_both : PySem.W.findIn K (.ref C_Rack) "check_both" = some (some (.ref f_Rack_check_both)))
    (i_Rack_check_both : PySem.W.isFn K (.ref f_Rack_check_both) = true)
    (l_Rack_check_both : K.lookup f_Rack_check_both = some ⟨oc_Rack_check_both, od_Rack_check_both, .func (PySem.W.fnOf "check_both" "Rack.check_both" (defArgs s_Rack_check_both) (defBody s_Rack_check_both) (defScope s_Rack_check_both) .none kV_Rack_check_both dc_Rack_check_both pm_Rack_check_both an_Rack_check_both cd_Rack_check_both ct_Rack_check_both), sl_Rack_check_both⟩)
    (c_Rack_check_both : PySem.W.codeIn K cd_Rack_check_both "Rack.check_both" = true)
    (k_Rack_check_both : PySem.W.keepIn K (.ref f_Rack_check_both) = true)
    (a_cell_at : PySem.W.nsIn K mainGlobals "_law_cell_at" = some (some (.ref f_cell_at)))
    (l_cell_at : K.lookup f_cell_at = some ⟨oc_cell_at, od_cell_at, .func (PySem.W.fnOf "_law_cell_at" "_law_cell_at" (defArgs s_cell_at) (defBody s_cell_at) (defScope s_cell_at) .none kV_cell_at dc_cell_at pm_cell_at an_cell_at cd_cell_at ct_cell_at), sl_cell_at⟩)
    (c_cell_at : PySem.W.codeIn K cd_cell_at "_law_cell_at" = true)
    (k_cell_at : PySem.W.keepIn K (.ref f_cell_at) = true)
    (a_mixed : PySem.W.nsIn K mainGlobals "_law_mixed" = some (some (.ref f_mixed)))
    (l_mixed : K.lookup f_mixed = some ⟨oc_mixed, od_mixed, .func (PySem.W.fnOf "_law_mixed" "_law_mixed" (defArgs s_mixed) (defBody s_mixed) (defScope s_mixed) .none kV_mixed dc_mixed pm_mixed an_mixed cd_mixed ct_mixed), sl_mixed⟩)
    (c_mixed : PySem.W.codeIn K cd_mixed "_law_mixed" = true)
    (k_mixed : PySem.W.keepIn K (.ref f_mixed) = true)
    (a_block : PySem.W.nsIn K mainGlobals "_law_block" = some (some (.ref f_block)))
    (l_block : K.lookup f_block = some ⟨oc_block, od_block, .func (PySem.W.fnOf "_law_block" "_law_block" (defArgs s_block) (defBody s_block) (defScope s_block) .none kV_block dc_block pm_block an_block cd_block ct_block), sl_block⟩)
    (c_block : PySem.W.codeIn K cd_block "_law_block" = true)
    (k_block : PySem.W.keepIn K (.ref f_block) = true)
    (a_same : PySem.W.nsIn K mainGlobals "_law_same" = some (some (.ref f_same)))
    (l_same : K.lookup f_same = some ⟨oc_same, od_same, .func (PySem.W.fnOf "_law_same" "_law_same" (defArgs s_same) (defBody s_same) (defScope s_same) .none kV_same dc_same pm_same an_same cd_same ct_same), sl_same⟩)
    (c_same : PySem.W.codeIn K cd_same "_law_same" = true)
    (k_same : PySem.W.keepIn K (.ref f_same) = true)
    (a_sizes : PySem.W.nsIn K mainGlobals "_law_sizes" = some (some (.ref f_sizes)))
    (l_sizes : K.lookup f_sizes = some ⟨oc_sizes, od_sizes, .func (PySem.W.fnOf "_law_sizes" "_law_sizes" (defArgs s_sizes) (defBody s_sizes) (defScope s_sizes) .none kV_sizes dc_sizes pm_sizes an_sizes cd_sizes ct_sizes), sl_sizes⟩)
    (c_sizes : PySem.W.codeIn K cd_sizes "_law_sizes" = true)
    (k_sizes : PySem.W.keepIn K (.ref f_sizes) = true)
    (a_sized : PySem.W.nsIn K mainGlobals "_law_sized" = some (some (.ref f_sized)))
    (l_sized : K.lookup f_sized = some ⟨oc_sized, od_sized, .func (PySem.W.fnOf "_law_sized" "_law_sized" (defArgs s_sized) (defBody s_sized) (defScope s_sized) .none kV_sized dc_sized pm_sized an_sized cd_sized ct_sized), sl_sized⟩)
    (c_sized : PySem.W.codeIn K cd_sized "_law_sized" = true)
    (k_sized : PySem.W.keepIn K (.ref f_sized) = true)
    (a_all : PySem.W.nsIn K mainGlobals "_law_all" = some (some (.ref f_all)))
    (l_all : K.lookup f_all = some ⟨oc_all, od_all, .func (PySem.W.fnOf "_law_all" "_law_all" (defArgs s_all) (defBody s_all) (defScope s_all) .none kV_all dc_all pm_all an_all cd_all ct_all), sl_all⟩)
    (c_all : PySem.W.codeIn K cd_all "_law_all" = true)
    (k_all : PySem.W.keepIn K (.ref f_all) = true)
    (a_law : PySem.W.nsIn K mainGlobals "law" = some (some (.ref f_law)))
    (l_law : K.lookup f_law = some ⟨oc_law, od_law, .func (PySem.W.fnOf "law" "law" (defArgs s_law) (defBody s_law) (defScope s_law) .none kV_law dc_law pm_law an_law cd_law ct_law), sl_law⟩)
    (c_law : PySem.W.codeIn K cd_law "law" = true)
    (k_law : PySem.W.keepIn K (.ref f_law) = true)
    (tya_Plank : PySem.W.findIn K (.ref C_Plank) "__class__" = some (some (.builtin "object.__class__")))
    (tyn_Plank : PySem.W.specialIn K (.builtin "object.__class__") "__get__" = some (some (.builtin "getset_descriptor.__get__")))
    (tyt_Plank : PySem.W.takesIn K (.builtin "object.__class__") = some true)
    (tym_Plank : PySem.W.mroIn K C_Plank (.type "object") = some true)
    (kn_Plank_LostPlank : PySem.W.kitOne K (.ref C_Plank) (.ref C_LostPlank) = some false)
    (z_list : PySem.W.nsIn K mainGlobals "list" = some none)
    (z_range : PySem.W.nsIn K mainGlobals "range" = some none)
    (z_isinstance : PySem.W.nsIn K mainGlobals "isinstance" = some none)
    (z_len : PySem.W.nsIn K mainGlobals "len" = some none)
    (z_int : PySem.W.nsIn K mainGlobals "int" = some none)
    (z_bool : PySem.W.nsIn K mainGlobals "bool" = some none)
    (z_min : PySem.W.nsIn K mainGlobals "min" = some none)
    (v_LEAST_PLANKS : PySem.W.nsIn K mainGlobals "LEAST_PLANKS" = some (some (.int 2 t_LEAST_PLANKS)))
    (v_MOST_PLANKS : PySem.W.nsIn K mainGlobals "MOST_PLANKS" = some (some (.int 8 t_MOST_PLANKS)))
    (v_MOST_STRIPES : PySem.W.nsIn K mainGlobals "MOST_STRIPES" = some (some (.int 32 t_MOST_STRIPES)))
    (v_MOST_SLOTS : PySem.W.nsIn K mainGlobals "MOST_SLOTS" = some (some (.int 8 t_MOST_SLOTS))) :
    ∃ a : Adr, Txt K mg a ∧ (∀ (s : Shared) (v : Value), BindsTo s a.d_law ⟨[v], []⟩ [("_law_script", v)]) := by
  have F_Plank_init := fun_mk (st := s_Plank_init) l_Plank_init c_Plank_init k_Plank_init
  have F_Plank_there := fun_mk (st := s_Plank_there) l_Plank_there c_Plank_there k_Plank_there
  have F_Plank_look_at := fun_mk (st := s_Plank_look_at) l_Plank_look_at c_Plank_look_at k_Plank_look_at
  have F_Plank_lay_at := fun_mk (st := s_Plank_lay_at) l_Plank_lay_at c_Plank_lay_at k_Plank_lay_at
  have F_LostPlank_init := fun_mk (st := s_LostPlank_init) l_LostPlank_init c_LostPlank_init k_LostPlank_init
  have F_check_bounds := fun_mk (st := s_check_bounds) l_check_bounds c_check_bounds k_check_bounds
  have F_Rack_init := fun_mk (st := s_Rack_init) l_Rack_init c_Rack_init k_Rack_init
  have F_Rack_peek := fun_mk (st := s_Rack_peek) l_Rack_peek c_Rack_peek k_Rack_peek
  have F_Rack_there := fun_mk (st := s_Rack_there) l_Rack_there c_Rack_there k_Rack_there
  have F_Rack_look := fun_mk (st := s_Rack_look) l_Rack_look c_Rack_look k_Rack_look
  have F_Rack_lay := fun_mk (st := s_Rack_lay) l_Rack_lay c_Rack_lay k_Rack_lay
  have F_Rack_need_write := fun_mk (st := s_Rack_need_write) l_Rack_need_write c_Rack_need_write k_Rack_need_write
  have F_Rack_spend := fun_mk (st := s_Rack_spend) l_Rack_spend c_Rack_spend k_Rack_spend
  have F_Rack_check_plank := fun_mk (st := s_Rack_check_plank) l_Rack_check_plank c_Rack_check_plank k_Rack_check_plank
  have F_Rack_check_stripe := fun_mk (st := s_Rack_check_stripe) l_Rack_check_stripe c_Rack_check_stripe k_Rack_check_stripe
  have F_Rack_check_both := fun_mk (st := s_Rack_check_both) l_Rack_check_both c_Rack_check_both k_Rack_check_both
  have F_cell_at := fun_mk (st := s_cell_at) l_cell_at c_cell_at k_cell_at
  have F_mixed := fun_mk (st := s_mixed) l_mixed c_mixed k_mixed
  have F_block := fun_mk (st := s_block) l_block c_block k_block
  have F_same := fun_mk (st := s_same) l_same c_same k_same
  have F_sizes := fun_mk (st := s_sizes) l_sizes c_sizes k_sizes
  have F_sized := fun_mk (st := s_sized) l_sized c_sized k_sized
  have F_all := fun_mk (st := s_all) l_all c_all k_all
  have F_law := fun_mk (st := s_law) l_law c_law k_law
  refine ⟨⟨C_Plank, C_LostPlank, C_Rack, f_Plank_init, PySem.W.fnOf "__init__" "Plank.__init__" (defArgs s_Plank_init) (defBody s_Plank_init) (defScope s_Plank_init) .none kV_Plank_init dc_Plank_init pm_Plank_init an_Plank_init cd_Plank_init ct_Plank_init, f_Plank_there, PySem.W.fnOf "there" "Plank.there" (defArgs s_Plank_there) (defBody s_Plank_there) (defScope s_Plank_there) .none kV_Plank_there dc_Plank_there pm_Plank_there an_Plank_there cd_Plank_there ct_Plank_there, f_Plank_look_at, PySem.W.fnOf "look_at" "Plank.look_at" (defArgs s_Plank_look_at) (defBody s_Plank_look_at) (defScope s_Plank_look_at) .none kV_Plank_look_at dc_Plank_look_at pm_Plank_look_at an_Plank_look_at cd_Plank_look_at ct_Plank_look_at, f_Plank_lay_at, PySem.W.fnOf "lay_at" "Plank.lay_at" (defArgs s_Plank_lay_at) (defBody s_Plank_lay_at) (defScope s_Plank_lay_at) .none kV_Plank_lay_at dc_Plank_lay_at pm_Plank_lay_at an_Plank_lay_at cd_Plank_lay_at ct_Plank_lay_at, f_LostPlank_init, PySem.W.fnOf "__init__" "LostPlank.__init__" (defArgs s_LostPlank_init) (defBody s_LostPlank_init) (defScope s_LostPlank_init) .none kV_LostPlank_init dc_LostPlank_init pm_LostPlank_init an_LostPlank_init cd_LostPlank_init ct_LostPlank_init, f_check_bounds, PySem.W.fnOf "check_bounds" "check_bounds" (defArgs s_check_bounds) (defBody s_check_bounds) (defScope s_check_bounds) .none kV_check_bounds dc_check_bounds pm_check_bounds an_check_bounds cd_check_bounds ct_check_bounds, f_Rack_init, PySem.W.fnOf "__init__" "Rack.__init__" (defArgs s_Rack_init) (defBody s_Rack_init) (defScope s_Rack_init) .none kV_Rack_init dc_Rack_init pm_Rack_init an_Rack_init cd_Rack_init ct_Rack_init, f_Rack_peek, PySem.W.fnOf "peek" "Rack.peek" (defArgs s_Rack_peek) (defBody s_Rack_peek) (defScope s_Rack_peek) .none kV_Rack_peek dc_Rack_peek pm_Rack_peek an_Rack_peek cd_Rack_peek ct_Rack_peek, f_Rack_there, PySem.W.fnOf "there" "Rack.there" (defArgs s_Rack_there) (defBody s_Rack_there) (defScope s_Rack_there) .none kV_Rack_there dc_Rack_there pm_Rack_there an_Rack_there cd_Rack_there ct_Rack_there, f_Rack_look, PySem.W.fnOf "look" "Rack.look" (defArgs s_Rack_look) (defBody s_Rack_look) (defScope s_Rack_look) .none kV_Rack_look dc_Rack_look pm_Rack_look an_Rack_look cd_Rack_look ct_Rack_look, f_Rack_lay, PySem.W.fnOf "lay" "Rack.lay" (defArgs s_Rack_lay) (defBody s_Rack_lay) (defScope s_Rack_lay) .none kV_Rack_lay dc_Rack_lay pm_Rack_lay an_Rack_lay cd_Rack_lay ct_Rack_lay, f_Rack_need_write, PySem.W.fnOf "need_write" "Rack.need_write" (defArgs s_Rack_need_write) (defBody s_Rack_need_write) (defScope s_Rack_need_write) .none kV_Rack_need_write dc_Rack_need_write pm_Rack_need_write an_Rack_need_write cd_Rack_need_write ct_Rack_need_write, f_Rack_spend, PySem.W.fnOf "spend" "Rack.spend" (defArgs s_Rack_spend) (defBody s_Rack_spend) (defScope s_Rack_spend) .none kV_Rack_spend dc_Rack_spend pm_Rack_spend an_Rack_spend cd_Rack_spend ct_Rack_spend, f_Rack_check_plank, PySem.W.fnOf "check_plank" "Rack.check_plank" (defArgs s_Rack_check_plank) (defBody s_Rack_check_plank) (defScope s_Rack_check_plank) .none kV_Rack_check_plank dc_Rack_check_plank pm_Rack_check_plank an_Rack_check_plank cd_Rack_check_plank ct_Rack_check_plank, f_Rack_check_stripe, PySem.W.fnOf "check_stripe" "Rack.check_stripe" (defArgs s_Rack_check_stripe) (defBody s_Rack_check_stripe) (defScope s_Rack_check_stripe) .none kV_Rack_check_stripe dc_Rack_check_stripe pm_Rack_check_stripe an_Rack_check_stripe cd_Rack_check_stripe ct_Rack_check_stripe, f_Rack_check_both, PySem.W.fnOf "check_both" "Rack.check_both" (defArgs s_Rack_check_both) (defBody s_Rack_check_both) (defScope s_Rack_check_both) .none kV_Rack_check_both dc_Rack_check_both pm_Rack_check_both an_Rack_check_both cd_Rack_check_both ct_Rack_check_both, f_cell_at, PySem.W.fnOf "_law_cell_at" "_law_cell_at" (defArgs s_cell_at) (defBody s_cell_at) (defScope s_cell_at) .none kV_cell_at dc_cell_at pm_cell_at an_cell_at cd_cell_at ct_cell_at, f_mixed, PySem.W.fnOf "_law_mixed" "_law_mixed" (defArgs s_mixed) (defBody s_mixed) (defScope s_mixed) .none kV_mixed dc_mixed pm_mixed an_mixed cd_mixed ct_mixed, f_block, PySem.W.fnOf "_law_block" "_law_block" (defArgs s_block) (defBody s_block) (defScope s_block) .none kV_block dc_block pm_block an_block cd_block ct_block, f_same, PySem.W.fnOf "_law_same" "_law_same" (defArgs s_same) (defBody s_same) (defScope s_same) .none kV_same dc_same pm_same an_same cd_same ct_same, f_sizes, PySem.W.fnOf "_law_sizes" "_law_sizes" (defArgs s_sizes) (defBody s_sizes) (defScope s_sizes) .none kV_sizes dc_sizes pm_sizes an_sizes cd_sizes ct_sizes, f_sized, PySem.W.fnOf "_law_sized" "_law_sized" (defArgs s_sized) (defBody s_sized) (defScope s_sized) .none kV_sized dc_sized pm_sized an_sized cd_sized ct_sized, f_all, PySem.W.fnOf "_law_all" "_law_all" (defArgs s_all) (defBody s_all) (defScope s_all) .none kV_all dc_all pm_all an_all cd_all ct_all, f_law, PySem.W.fnOf "law" "law" (defArgs s_law) (defBody s_law) (defScope s_law) .none kV_law dc_law pm_law an_law cd_law ct_law, t_MOST_SLOTS, t_MOST_STRIPES, t_MOST_PLANKS, t_LEAST_PLANKS⟩, ?_, fun s v => .of_eq rfl⟩
  exact {
    cl_Plank := ⟨pg_Plank, hd_Plank, po_Plank, sa_Plank⟩
    m_Plank := PySem.W.mg_of X G a_Plank
    no_Plank_held := no_Plank_held
    mk_Plank := ⟨mk_Plank, a_Plank_init, i_Plank_init, kc_Plank⟩
    cl_LostPlank := ⟨pg_LostPlank, hd_LostPlank, po_LostPlank, sa_LostPlank⟩
    m_LostPlank := PySem.W.mg_of X G a_LostPlank
    no_LostPlank_held := no_LostPlank_held
    mk_LostPlank := ⟨mk_LostPlank, a_LostPlank_init, i_LostPlank_init, kc_LostPlank⟩
    cl_Rack := ⟨pg_Rack, hd_Rack, po_Rack, sa_Rack⟩
    m_Rack := PySem.W.mg_of X G a_Rack
    no_Rack_planks := no_Rack_planks
    no_Rack_stripes := no_Rack_stripes
    no_Rack_slots := no_Rack_slots
    no_Rack_shelf := no_Rack_shelf
    no_Rack_slate := no_Rack_slate
    no_Rack_left := no_Rack_left
    no_Rack_gone := no_Rack_gone
    no_Rack_done := no_Rack_done
    mk_Rack := ⟨mk_Rack, a_Rack_init, i_Rack_init, kc_Rack⟩
    F_Plank_init := F_Plank_init
    b_Plank_init := F_Plank_init.binds (ps := ["self", "held"]) fun _ _ _ _ _ _ us hl => match us, hl with | [_, _], _ => rfl
    k_Plank_init := k_Plank_init
    me_Plank_init := ⟨a_Plank_init, i_Plank_init, k_Plank_init⟩
    F_Plank_there := F_Plank_there
    b_Plank_there := F_Plank_there.binds (ps := ["self", "at"]) fun _ _ _ _ _ _ us hl => match us, hl with | [_, _], _ => rfl
    k_Plank_there := k_Plank_there
    me_Plank_there := ⟨a_Plank_there, i_Plank_there, k_Plank_there⟩
    F_Plank_look_at := F_Plank_look_at
    b_Plank_look_at := F_Plank_look_at.binds (ps := ["self", "at"]) fun _ _ _ _ _ _ us hl => match us, hl with | [_, _], _ => rfl
    k_Plank_look_at := k_Plank_look_at
    me_Plank_look_at := ⟨a_Plank_look_at, i_Plank_look_at, k_Plank_look_at⟩
    F_Plank_lay_at := F_Plank_lay_at
    b_Plank_lay_at := F_Plank_lay_at.binds (ps := ["self", "at", "block"]) fun _ _ _ _ _ _ us hl => match us, hl with | [_, _, _], _ => rfl
    k_Plank_lay_at := k_Plank_lay_at
    me_Plank_lay_at := ⟨a_Plank_lay_at, i_Plank_lay_at, k_Plank_lay_at⟩
    F_LostPlank_init := F_LostPlank_init
    b_LostPlank_init := F_LostPlank_init.binds (ps := ["self", "many"]) fun _ _ _ _ _ _ us hl => match us, hl with | [_, _], _ => rfl
    k_LostPlank_init := k_LostPlank_init
    me_LostPlank_init := ⟨a_LostPlank_init, i_LostPlank_init, k_LostPlank_init⟩
    F_check_bounds := F_check_bounds
    b_check_bounds := F_check_bounds.binds (ps := ["planks", "stripes", "slots"]) fun _ _ _ _ _ _ us hl => match us, hl with | [_, _, _], _ => rfl
    k_check_bounds := k_check_bounds
    m_check_bounds := PySem.W.mg_of X G a_check_bounds
    F_Rack_init := F_Rack_init
    b_Rack_init := F_Rack_init.binds (ps := ["self", "planks", "stripes", "slots"]) fun _ _ _ _ _ _ us hl => match us, hl with | [_, _, _, _], _ => rfl
    k_Rack_init := k_Rack_init
    me_Rack_init := ⟨a_Rack_init, i_Rack_init, k_Rack_init⟩
    F_Rack_peek := F_Rack_peek
    b_Rack_peek := F_Rack_peek.binds (ps := ["self", "plank", "stripe"]) fun _ _ _ _ _ _ us hl => match us, hl with | [_, _, _], _ => rfl
    k_Rack_peek := k_Rack_peek
    me_Rack_peek := ⟨a_Rack_peek, i_Rack_peek, k_Rack_peek⟩
    F_Rack_there := F_Rack_there
    b_Rack_there := F_Rack_there.binds (ps := ["self", "plank", "stripe"]) fun _ _ _ _ _ _ us hl => match us, hl with | [_, _, _], _ => rfl
    k_Rack_there := k_Rack_there
    me_Rack_there := ⟨a_Rack_there, i_Rack_there, k_Rack_there⟩
    F_Rack_look := F_Rack_look
    b_Rack_look := F_Rack_look.binds (ps := ["self", "plank", "stripe"]) fun _ _ _ _ _ _ us hl => match us, hl with | [_, _, _], _ => rfl
    k_Rack_look := k_Rack_look
    me_Rack_look := ⟨a_Rack_look, i_Rack_look, k_Rack_look⟩
    F_Rack_lay := F_Rack_lay
    b_Rack_lay := F_Rack_lay.binds (ps := ["self", "plank", "stripe", "block"]) fun _ _ _ _ _ _ us hl => match us, hl with | [_, _, _, _], _ => rfl
    k_Rack_lay := k_Rack_lay
    me_Rack_lay := ⟨a_Rack_lay, i_Rack_lay, k_Rack_lay⟩
    F_Rack_need_write := F_Rack_need_write
    b_Rack_need_write := F_Rack_need_write.binds (ps := ["self"]) fun _ _ _ _ _ _ us hl => match us, hl with | [_], _ => rfl
    k_Rack_need_write := k_Rack_need_write
    me_Rack_need_write := ⟨a_Rack_need_write, i_Rack_need_write, k_Rack_need_write⟩
    F_Rack_spend := F_Rack_spend
    b_Rack_spend := F_Rack_spend.binds (ps := ["self", "event"]) fun _ _ _ _ _ _ us hl => match us, hl with | [_, _], _ => rfl
    k_Rack_spend := k_Rack_spend
    me_Rack_spend := ⟨a_Rack_spend, i_Rack_spend, k_Rack_spend⟩
    F_Rack_check_plank := F_Rack_check_plank
    b_Rack_check_plank := F_Rack_check_plank.binds (ps := ["self", "plank"]) fun _ _ _ _ _ _ us hl => match us, hl with | [_, _], _ => rfl
    k_Rack_check_plank := k_Rack_check_plank
    me_Rack_check_plank := ⟨a_Rack_check_plank, i_Rack_check_plank, k_Rack_check_plank⟩
    F_Rack_check_stripe := F_Rack_check_stripe
    b_Rack_check_stripe := F_Rack_check_stripe.binds (ps := ["self", "stripe"]) fun _ _ _ _ _ _ us hl => match us, hl with | [_, _], _ => rfl
    k_Rack_check_stripe := k_Rack_check_stripe
    me_Rack_check_stripe := ⟨a_Rack_check_stripe, i_Rack_check_stripe, k_Rack_check_stripe⟩
    F_Rack_check_both := F_Rack_check_both
    b_Rack_check_both := F_Rack_check_both.binds (ps := ["self", "plank", "stripe"]) fun _ _ _ _ _ _ us hl => match us, hl with | [_, _, _], _ => rfl
    k_Rack_check_both := k_Rack_check_both
    me_Rack_check_both := ⟨a_Rack_check_both, i_Rack_check_both, k_Rack_check_both⟩
    F_cell_at := F_cell_at
    b_cell_at := F_cell_at.binds (ps := ["_law_script", "_law_k"]) fun _ _ _ _ _ _ us hl => match us, hl with | [_, _], _ => rfl
    k_cell_at := k_cell_at
    m_cell_at := PySem.W.mg_of X G a_cell_at
    F_mixed := F_mixed
    b_mixed := F_mixed.binds (ps := ["_law_cell", "_law_k"]) fun _ _ _ _ _ _ us hl => match us, hl with | [_, _], _ => rfl
    k_mixed := k_mixed
    m_mixed := PySem.W.mg_of X G a_mixed
    F_block := F_block
    b_block := F_block.binds (ps := ["_law_number"]) fun _ _ _ _ _ _ us hl => match us, hl with | [_], _ => rfl
    k_block := k_block
    m_block := PySem.W.mg_of X G a_block
    F_same := F_same
    b_same := F_same.binds (ps := ["_law_found", "_law_due"]) fun _ _ _ _ _ _ us hl => match us, hl with | [_, _], _ => rfl
    k_same := k_same
    m_same := PySem.W.mg_of X G a_same
    F_sizes := F_sizes
    b_sizes := F_sizes.binds (ps := ["_law_script", "_law_k"]) fun _ _ _ _ _ _ us hl => match us, hl with | [_, _], _ => rfl
    k_sizes := k_sizes
    m_sizes := PySem.W.mg_of X G a_sizes
    F_sized := F_sized
    b_sized := F_sized.binds (ps := ["_law_rack", "_law_sizes_here"]) fun _ _ _ _ _ _ us hl => match us, hl with | [_, _], _ => rfl
    k_sized := k_sized
    m_sized := PySem.W.mg_of X G a_sized
    F_all := F_all
    b_all := F_all.binds (ps := ["_law_rack", "_law_sizes_here", "_law_known"]) fun _ _ _ _ _ _ us hl => match us, hl with | [_, _, _], _ => rfl
    k_all := k_all
    m_all := PySem.W.mg_of X G a_all
    F_law := F_law
    b_law := F_law.binds (ps := ["_law_script"]) fun _ _ _ _ _ _ us hl => match us, hl with | [_], _ => rfl
    k_law := k_law
    m_law := PySem.W.mg_of X G a_law
    ty_Plank := ⟨tya_Plank, tyn_Plank, tyt_Plank, tym_Plank⟩
    kn_Plank_LostPlank := kn_Plank_LostPlank
    n_list := PySem.W.mg_none_of X G z_list
    n_range := PySem.W.mg_none_of X G z_range
    n_isinstance := PySem.W.mg_none_of X G z_isinstance
    n_len := PySem.W.mg_none_of X G z_len
    n_int := PySem.W.mg_none_of X G z_int
    n_bool := PySem.W.mg_none_of X G z_bool
    n_min := PySem.W.mg_none_of X G z_min
    v_LEAST_PLANKS := PySem.W.mg_of X G v_LEAST_PLANKS
    v_MOST_PLANKS := PySem.W.mg_of X G v_MOST_PLANKS
    v_MOST_STRIPES := PySem.W.mg_of X G v_MOST_STRIPES
    v_MOST_SLOTS := PySem.W.mg_of X G v_MOST_SLOTS }
/-! ### small words -/
theorem Same.new {H : Hp} {p : Addr} {o : HO} (h : H p = none) : Same H (upd H p o) := fun b u e => by rw [upd_ne (ne_of_none e h)]; exact e
theorem modN (c : Int) {n : Nat} (h : 0 < n) : ∃ y : Nat, y < n ∧ c % (n : Int) = (y : Int) := by
  have hp : (0 : Int) < (n : Int) := by omega
  have h1 := Int.emod_lt_of_pos c hp
  have h2 := Int.emod_nonneg c (Int.ne_of_gt hp)
  exact ⟨(c % (n : Int)).toNat, by omega, by omega⟩
theorem ixN_nat {n j : Nat} (h : j < n) : ixN n (j : Int) = some j := by
  unfold ixN
  rw [if_pos (by omega), if_pos (by omega), Int.toNat_natCast]
def cell (ns : List Int) (k : Nat) : Int := ns.getD k 0
section
variable {P : Program} {wo : World} {K : PySem.W.Frag} {mg : Str → Option Value} {base : Heap} {a : Adr}
def spCell (K : PySem.W.Frag) : Sp := fun vs H Q _ => ∃ (s : Addr) (ns : List Int) (k : Nat), vs = [.ref s, .int k] ∧ SqL K H s (ns.map V.int) ∧ Q (.int (cell ns k)) H
theorem ok_cell_at (T : Txt K mg a) : FnOk P wo K mg base CX0 1 a.f_cell_at a.d_cell_at ["_law_script", "_law_k"] (spCell K) := by
  refine T.F_cell_at.ok (k := 0) sc_cell_at (fun vs H Q E h => ?_) (fun cdv A outer s H vs Q E hr h => ?_)
  · obtain ⟨p, ns, k, rfl, _⟩ := h
    rfl
  · obtain ⟨p, ns, k, rfl, hS, q⟩ := h
    refine ⟨_, (pss_cons (ps_if (pt_cmpR op_lt (pv 1) (pe_callB call_len_seq rfl T.n_len PySem.boot_len (pa_cons (pv 0) pa_nil)) (nomark _)) (pss_one (ps_ret (pe_ix ix_list (pv 0) (pv 1) (fun _ _ => rfl)))) pss_nil)
      (pss_one (ps_ret pe_int))), ?_⟩
    refine ⟨_, rfl, _, rfl, p, _, rfl, .inl hS, _, _, rfl, rfl, _, rfl, ?_⟩
    refine ite2 (fun h => ?_) (fun h => ?_)
    · have hk : k < ns.length := by
        have := of_decide_eq_true h
        rw [List.length_map] at this
        omega
      have e : (ns.map V.int)[k]? = some (V.int (cell ns k)) := by
        unfold cell
        rw [List.getElem?_map, List.getD_eq_getElem?_getD, List.getElem?_eq_getElem hk]
        rfl
      exact ⟨_, rfl, _, rfl, p, _, _, _, rfl, rfl, hS, atI_nat e, q⟩
    · have hk : ns.length ≤ k := by
        have : ¬ ((k : Int) < ((ns.map V.int).length : Nat)) := fun z => h (decide_eq_true z)
        rw [List.length_map] at this
        omega
      have e : cell ns k = 0 := by
        unfold cell
        rw [List.getD_eq_getElem?_getD, List.getElem?_eq_none hk]
        rfl
      rw [e] at q
      exact q
end
/-! ### planks -/
def ov : Option Int → V
  | none => .non
  | some i => .int i
def dO : Option Int → Dt
  | none => .non
  | some i => .int i
abbrev rO (r : List (Option Int)) : List V := r.map ov
def hf (l : Addr) : List (Str × V) := [("held", .ref l)]
def hcf (l : Addr) (c : Int) : List (Str × V) := [("held", .ref l), ("cost", .int c)]
def hmf (l : Addr) (m : Int) : List (Str × V) := [("held", .ref l), ("mark", .int m)]
section
variable {P : Program} {wo : World} {K : PySem.W.Frag} {mg : Str → Option Value} {base : Heap} {a : Adr}
def spPlankInit (K : PySem.W.Frag) : Sp := fun vs H Q _ => ∃ (p L C dx : Addr) (xs : List V), vs = [.ref p, .ref L] ∧ H p = some (.ins C dx []) ∧ Cls K C ∧ NoAttr K C "held" ∧ H L = some (.lst xs) ∧ ∀ l, H l = none → Q .non (upd (upd H l (.lst xs)) p (.ins C dx (hf l)))
theorem ok_Plank_init (T : Txt K mg a) : FnOk P wo K mg base CX0 1 a.f_Plank_init a.d_Plank_init ["self", "held"] (spPlankInit K) := by
  refine T.F_Plank_init.ok (k := 0) sc_Plank_init (fun vs H Q E h => ?_) (fun cdv A outer s H vs Q E hr h => ?_)
  · obtain ⟨p, L, C, dx, xs, rfl, _⟩ := h
    rfl
  · obtain ⟨p, L, C, dx, xs, rfl, hp, cl, no, hL, q⟩ := h
    refine ⟨_, (pss_one (ps_fld (pv 0) (pe_callTy call_list_of rfl T.n_list (by decide +kernel) (pa_cons (pv 1) pa_nil)) rfl)), ?_⟩
    exact ⟨_, rfl, L, _, rfl, .inl (SqL.of hL), fun l nl => ⟨_, rfl, p, C, dx, _, rfl, Same.new nl _ _ hp, cl, no, (by decide), q l nl⟩⟩
def spPlank_there : Sp := fun vs H Q _ => ∃ (p : Addr) (x : V), vs = [.ref p, x] ∧ Q (.bl true) H
theorem ok_Plank_there (T : Txt K mg a) : FnOk P wo K mg base CX0 1 a.f_Plank_there a.d_Plank_there ["self", "at"] spPlank_there := by
  refine T.F_Plank_there.ok (k := 0) sc_Plank_there (fun vs H Q E h => ?_) (fun cdv A outer s H vs Q E hr h => ?_)
  · obtain ⟨p, x, rfl, _⟩ := h
    rfl
  · obtain ⟨p, x, rfl, q⟩ := h
    refine ⟨_, (pss_one (ps_ret pe_bl)), ?_⟩
    exact q
def spLookAt (K : PySem.W.Frag) : Sp := fun vs H Q _ => ∃ (p l C dx : Addr) (fs : List (Str × V)) (xs : List V) (i : Nat) (v : V), vs = [.ref p, .int i] ∧ H p = some (.ins C dx fs) ∧ Cls K C ∧ NoAttr K C "held" ∧ fs.lookup ("held" : Str) = some (.ref l) ∧ H l = some (.lst xs) ∧ xs[i]? = some v ∧ Q v H
theorem ok_Plank_look_at (T : Txt K mg a) : FnOk P wo K mg base CX0 1 a.f_Plank_look_at a.d_Plank_look_at ["self", "at"] (spLookAt K) := by
  refine T.F_Plank_look_at.ok (k := 0) sc_Plank_look_at (fun vs H Q E h => ?_) (fun cdv A outer s H vs Q E hr h => ?_)
  · obtain ⟨p, l, C, dx, fs, xs, i, v, rfl, _⟩ := h
    rfl
  · obtain ⟨p, l, C, dx, fs, xs, i, v, rfl, hp, cl, no, lk, hl, hv, q⟩ := h
    refine ⟨_, (pss_one (ps_ret (pe_ix ix_list (pe_fld (pv 0) rfl) (pv 1) (fun _ _ => rfl)))), ?_⟩
    exact ⟨_, rfl, p, _, _, _, _, rfl, hp, cl, no, lk, _, rfl, l, _, _, _, rfl, rfl, SqL.of hl, atI_nat hv, q⟩
def spLayAt (K : PySem.W.Frag) : Sp := fun vs H Q _ => ∃ (p l C dx : Addr) (fs : List (Str × V)) (xs : List V) (i : Nat) (v : V), vs = [.ref p, .int i, v] ∧ H p = some (.ins C dx fs) ∧ Cls K C ∧ NoAttr K C "held" ∧ fs.lookup ("held" : Str) = some (.ref l) ∧ H l = some (.lst xs) ∧ i < xs.length ∧ Q .non (upd H l (.lst (xs.set i v)))
theorem ok_Plank_lay_at (T : Txt K mg a) : FnOk P wo K mg base CX0 1 a.f_Plank_lay_at a.d_Plank_lay_at ["self", "at", "block"] (spLayAt K) := by
  refine T.F_Plank_lay_at.ok (k := 0) sc_Plank_lay_at (fun vs H Q E h => ?_) (fun cdv A outer s H vs Q E hr h => ?_)
  · obtain ⟨p, l, C, dx, fs, xs, i, v, rfl, _⟩ := h
    rfl
  · obtain ⟨p, l, C, dx, fs, xs, i, v, rfl, hp, cl, no, lk, hl, hi, q⟩ := h
    refine ⟨_, (pss_one (ps_asg (pv 2) (pg_sub (pe_fld (pv 0) rfl) (pv 1) set_list))), ?_⟩
    exact ⟨_, rfl, _, rfl, p, _, _, _, _, rfl, hp, cl, no, lk, _, rfl, l, _, _, _, rfl, rfl, hl, ixN_nat hi, q⟩
end

/-! ### racks -/
/-- where a rack's things lie, and its sizes -/
structure Rk where
  rk : Addr
  sh : Addr
  sl : Addr
  dn : Addr
  ps : List Addr
  hs : List Addr
  P : Nat
  S : Nat
  L : Nat
def Rk.lists (R : Rk) : List Addr := R.dn :: R.sh :: R.sl :: R.hs
def rf (R : Rk) (left : Option Int) (gone : Bool) : List (Str × V) := [("planks", .int R.P), ("stripes", .int R.S), ("slots", .int R.L), ("shelf", .ref R.sh), ("slate", .ref R.sl), ("left", ov left), ("gone", .bl gone), ("done", .ref R.dn)]
theorem rf_planks (R : Rk) (left : Option Int) (gone : Bool) : (rf R left gone).lookup ("planks" : Str) = some (.int R.P) := rfl
theorem rf_stripes (R : Rk) (left : Option Int) (gone : Bool) : (rf R left gone).lookup ("stripes" : Str) = some (.int R.S) := rfl
theorem rf_slots (R : Rk) (left : Option Int) (gone : Bool) : (rf R left gone).lookup ("slots" : Str) = some (.int R.L) := rfl
theorem rf_shelf (R : Rk) (left : Option Int) (gone : Bool) : (rf R left gone).lookup ("shelf" : Str) = some (.ref R.sh) := rfl
theorem rf_left (R : Rk) (left : Option Int) (gone : Bool) : (rf R left gone).lookup ("left" : Str) = some (ov left) := rfl
theorem rf_gone (R : Rk) (left : Option Int) (gone : Bool) : (rf R left gone).lookup ("gone" : Str) = some (.bl gone) := rfl
theorem rf_done (R : Rk) (left : Option Int) (gone : Bool) : (rf R left gone).lookup ("done" : Str) = some (.ref R.dn) := rfl
def heldRow (S : Nat) (f : Nat → Option Int) : List V := (List.range S).map fun j => ov (f j)
theorem heldRow_at {S j : Nat} {f : Nat → Option Int} (h : j < S) : (heldRow S f)[j]? = some (ov (f j)) := by
  unfold heldRow
  rw [List.getElem?_map, List.getElem?_range h]
  rfl
theorem heldRow_len (S : Nat) (f : Nat → Option Int) : (heldRow S f).length = S := by unfold heldRow; rw [List.length_map, List.length_range]
theorem heldRow_set {S j : Nat} {f : Nat → Option Int} {o : Option Int} : (heldRow S f).set j (ov o) = heldRow S (fun k => if k = j then o else f k) := by
  unfold heldRow
  apply List.ext_getElem?
  intro k
  rw [List.getElem?_set, List.getElem?_map, List.getElem?_map, List.length_map, List.length_range]
  by_cases hk : k < S
  · rw [List.getElem?_range hk]
    by_cases y : j = k
    · subst y
      rw [if_pos rfl, if_pos hk]
      show _ = some (ov (if j = j then o else f j))
      rw [if_pos rfl]
    · rw [if_neg y]
      show _ = some (ov (if k = j then o else f k))
      rw [if_neg (fun z => y z.symm)]
      rfl
  · rw [List.getElem?_eq_none (by rw [List.length_range]; omega)]
    by_cases y : j = k
    · rw [if_pos y, if_neg (by omega)]
      rfl
    · rw [if_neg y]
      rfl
/-- a rack of whole planks as it lies, what it holds, how many events it has told -/
structure RackAt (a : Adr) (H : Hp) (R : Rk) (left : Option Int) (gone : Bool) (e : Nat) (X : Nat → Nat → Option Int) : Prop where
  ins : ∃ dx, H R.rk = some (.ins a.C_Rack dx (rf R left gone))
  shelf : H R.sh = some (.lst (R.ps.map V.ref))
  lp : R.ps.length = R.P
  lh : R.hs.length = R.P
  pl : ∀ (i : Nat) p, R.ps[i]? = some p → ∃ dp h, R.hs[i]? = some h ∧ H p = some (.ins a.C_Plank dp (hf h))
  hd : ∀ (i : Nat) h, R.hs[i]? = some h → H h = some (.lst (heldRow R.S (X i)))
  dn : ∃ ds, H R.dn = some (.lst ds) ∧ ds.length = e
  sl : ∃ ss, H R.sl = some (.lst ss)
  nd : R.lists.Nodup
  p8 : R.P ≤ 8
  s32 : R.S ≤ 32
/-- all but some objects stay -/
def KB (ms : List Addr) (H H' : Hp) : Prop := ∀ b o, b ∉ ms → H b = some o → H' b = some o
theorem KB.refl (ms : List Addr) (H : Hp) : KB ms H H := fun _ _ _ e => e
theorem KB.trans {ms : List Addr} {H H1 H2 : Hp} (h : KB ms H H1) (k : KB ms H1 H2) : KB ms H H2 := fun b o n e => k b o n (h b o n e)
theorem KB.same {ms : List Addr} {H H1 H2 : Hp} (h : KB ms H H1) (s : Same H1 H2) : KB ms H H2 := fun b o n e => s _ _ (h b o n e)
theorem KB.of {ms : List Addr} {H H1 : Hp} (s : Same H H1) : KB ms H H1 := fun b o _ e => s _ _ e
theorem KB.more {ms ns : List Addr} {H H1 : Hp} (h : KB ms H H1) (m : ∀ b ∈ ms, b ∈ ns) : KB ns H H1 := fun b o n e => h b o (fun z => n (m b z)) e
theorem RackAt.keep {a : Adr} {H H' : Hp} {R : Rk} {left : Option Int} {gone : Bool} {e : Nat} {X : Nat → Nat → Option Int} {ms : List Addr} (h : RackAt a H R left gone e X) (k : KB ms H H') (hm : ∀ b ∈ ms, ∀ C dx fs, H b ≠ some (.ins C dx fs)) (hd : ∀ b ∈ R.lists, b ∉ ms) : RackAt a H' R left gone e X where
  ins := by
    obtain ⟨dx, h1⟩ := h.ins
    exact ⟨dx, k _ _ (fun z => hm _ z _ _ _ h1) h1⟩
  shelf := k _ _ (hd _ (List.mem_cons_of_mem _ List.mem_cons_self)) h.shelf
  lp := h.lp
  lh := h.lh
  pl i p ep := by
    obtain ⟨dp, l, hl, h1⟩ := h.pl i p ep
    exact ⟨dp, l, hl, k _ _ (fun z => hm _ z _ _ _ h1) h1⟩
  hd i l el := k _ _ (hd _ (List.mem_cons_of_mem _ (List.mem_cons_of_mem _ (List.mem_cons_of_mem _ (List.mem_of_getElem? el))))) (h.hd i l el)
  dn := by
    obtain ⟨ds, h1, h2⟩ := h.dn
    exact ⟨ds, k _ _ (hd _ List.mem_cons_self) h1, h2⟩
  sl := by
    obtain ⟨ss, h1⟩ := h.sl
    exact ⟨ss, k _ _ (hd _ (List.mem_cons_of_mem _ (List.mem_cons_of_mem _ List.mem_cons_self))) h1⟩
  nd := h.nd
  p8 := h.p8
  s32 := h.s32
theorem RackAt.same {a : Adr} {H H' : Hp} {R : Rk} {left : Option Int} {gone : Bool} {e : Nat} {X : Nat → Nat → Option Int} (h : RackAt a H R left gone e X) (s : Same H H') : RackAt a H' R left gone e X :=
  h.keep (KB.of (ms := []) s) (fun b hb => absurd hb List.not_mem_nil) (fun b _ hb => absurd hb List.not_mem_nil)
theorem rep0 (n : Nat) : (List.replicate n [V.int 0]).flatten = heldRow n (fun _ => some 0) := by
  unfold heldRow
  show _ = (List.range n).map fun _ => V.int 0
  rw [List.map_const', List.length_range]
  induction n with
  | zero => rfl
  | succ n ih => rw [List.replicate_succ, List.flatten_cons, ih, List.replicate_succ]; rfl
section
variable {P : Program} {wo : World} {K : PySem.W.Frag} {mg : Str → Option Value} {base : Heap} {a : Adr}
def spBounds : Sp := fun vs H Q _ => ∃ (p s l : Nat), vs = [.int p, .int s, .int l] ∧ 2 ≤ p ∧ p ≤ 8 ∧ 1 ≤ s ∧ s ≤ 32 ∧ 1 ≤ l ∧ l ≤ 8 ∧ Q .non H
theorem ok_check_bounds (T : Txt K mg a) : FnOk P wo K mg base CX0 1 a.f_check_bounds a.d_check_bounds ["planks", "stripes", "slots"] spBounds := by
  refine T.F_check_bounds.ok (k := 0) sc_check_bounds (fun vs H Q E h => ?_) (fun cdv A outer s H vs Q E hr h => ?_)
  · obtain ⟨p, s, l, rfl, _⟩ := h
    rfl
  · obtain ⟨p, s, l, rfl, p1, p2, s1, s2, l1, l2, q⟩ := h
    refine ⟨_, (pss_cons (ps_if (PW.pt (pw_or (pt_cmpR op_lt (pv 0) (pe_glob (v := .int 2) rfl T.v_LEAST_PLANKS ⟨_, rfl⟩) (nomark _)) (pw_or1 (pt_cmpR op_gt (pv 0) (pe_glob (v := .int 8) rfl T.v_MOST_PLANKS ⟨_, rfl⟩) (nomark _))))) (pss_one ps_never) pss_nil)
      (pss_cons (ps_if (PW.pt (pw_or (pt_cmpR op_lt (pv 1) pe_int (nomark _)) (pw_or1 (pt_cmpR op_gt (pv 1) (pe_glob (v := .int 32) rfl T.v_MOST_STRIPES ⟨_, rfl⟩) (nomark _))))) (pss_one ps_never) pss_nil)
      (pss_one (ps_if (PW.pt (pw_or (pt_cmpR op_lt (pv 2) pe_int (nomark _)) (pw_or1 (pt_cmpR op_gt (pv 2) (pe_glob (v := .int 8) rfl T.v_MOST_SLOTS ⟨_, rfl⟩) (nomark _))))) (pss_one ps_never) pss_nil)))), ?_⟩
    refine ⟨_, rfl, _, _, rfl, rfl, _, rfl, ?_⟩
    refine ite2 (fun y => absurd (of_decide_eq_true y) (by omega)) (fun _ => ?_)
    refine ⟨_, rfl, _, _, rfl, rfl, _, rfl, ?_⟩
    refine ite2 (fun y => absurd (of_decide_eq_true y) (by omega)) (fun _ => ?_)
    refine ⟨_, rfl, _, _, rfl, rfl, _, rfl, ?_⟩
    refine ite2 (fun y => absurd (of_decide_eq_true y) (by omega)) (fun _ => ?_)
    refine ⟨_, rfl, _, _, rfl, rfl, _, rfl, ?_⟩
    refine ite2 (fun y => absurd (of_decide_eq_true y) (by omega)) (fun _ => ?_)
    refine ⟨_, rfl, _, _, rfl, rfl, _, rfl, ?_⟩
    refine ite2 (fun y => absurd (of_decide_eq_true y) (by omega)) (fun _ => ?_)
    refine ⟨_, rfl, _, _, rfl, rfl, _, rfl, ?_⟩
    exact ite2 (fun y => absurd (of_decide_eq_true y) (by omega)) (fun _ => q)
def spRackInit (a : Adr) : Sp := fun vs H Q _ => ∃ (rk dx : Addr) (p s l : Nat), vs = [.ref rk, .int p, .int s, .int l] ∧ H rk = some (.ins a.C_Rack dx []) ∧ 2 ≤ p ∧ p ≤ 8 ∧ 1 ≤ s ∧ s ≤ 32 ∧ 1 ≤ l ∧ l ≤ 8 ∧
  ∀ (R : Rk) H', R.rk = rk → R.P = p → R.S = s → R.L = l → (∀ b o, b ≠ rk → H b = some o → H' b = some o) → RackAt a H' R none false 0 (fun _ _ => some 0) → (∀ b ∈ R.lists, H b = none) → Q .non H'
theorem ok_Rack_init (T : Txt K mg a) : FnOk P wo K mg base CX0 3 a.f_Rack_init a.d_Rack_init ["self", "planks", "stripes", "slots"] (spRackInit a) := by
  have G_check_bounds : FnOk P wo K mg base CX0 2 _ _ _ _ := (ok_check_bounds T).mono (by decide)
  have G_Plank_init : FnOk P wo K mg base CX0 1 _ _ _ _ := ok_Plank_init T
  refine T.F_Rack_init.ok (k := 2) sc_Rack_init (fun vs H Q E h => ?_) (fun cdv A outer s H vs Q E hr h => ?_)
  · obtain ⟨rk, dx, p, s, l, rfl, _⟩ := h
    rfl
  · obtain ⟨rk, dx, p, s', l, rfl, hc, p1, p2, s1, s2, l1, l2, q⟩ := h
    refine ⟨_, (pss_cons (ps_expr (pe_call G_check_bounds (hr.mono (by decide)) rfl T.m_check_bounds T.k_check_bounds T.b_check_bounds .nil pass0 (pa_cons (pv 1) (pa_cons (pv 2) (pa_cons (pv 3) pa_nil)))))
      (pss_cons (ps_fld (pv 0) (pv 1) rfl)
      (pss_cons (ps_fld (pv 0) (pv 2) rfl)
      (pss_cons (ps_fld (pv 0) (pv 3) rfl)
      (pss_cons (ps_fld (pv 0) (pe_comp (CompOk.of (cap := [2]) (own := ["plank"]) (by kernel_rfl)) rfl (pi_range1 rfl T.n_range (pa_cons (pv 1) pa_nil)) (fun _ _ _ _ _ => (pg_name (i := 1) (of_decide_eq_true (by kernel_rfl)) rfl (Or.inl rfl))) (fun _ _ _ _ _ => pts_nil) (fun _ _ _ _ _ => by exact (pe_make T.mk_Plank G_Plank_init (hr.mono (by decide)) rfl T.m_Plank T.b_Plank_init .nil pass0 (pa_cons (pe_op op_rep (pe_lst (pa_cons pe_int pa_nil)) (pv 0)) pa_nil)))) rfl)
      (pss_cons (ps_fld (pv 0) (pe_op op_rep (pe_lst (pa_cons pe_non pa_nil)) (pv 3)) rfl)
      (pss_cons (ps_fld (pv 0) pe_non rfl)
      (pss_cons (ps_fld (pv 0) pe_bl rfl)
      (pss_one (ps_fld (pv 0) (pe_lst pa_nil) rfl)))))))))), ?_⟩
    refine ⟨_, rfl, _, rfl, _, rfl, p, s', l, rfl, p1, p2, s1, s2, l1, l2, ?_⟩
    refine ⟨_, rfl, _, rfl, rk, a.C_Rack, dx, _, rfl, hc, T.cl_Rack, T.no_Rack_planks, (by decide), ?_⟩
    refine ⟨_, rfl, _, rfl, rk, a.C_Rack, dx, _, rfl, upd_same, T.cl_Rack, T.no_Rack_stripes, (by show (1 : Nat) < 1000; decide), ?_⟩
    refine ⟨_, rfl, _, rfl, rk, a.C_Rack, dx, _, rfl, upd_same, T.cl_Rack, T.no_Rack_slots, (by show (2 : Nat) < 1000; decide), ?_⟩
    dsimp only
    rw [upd_upd, upd_upd]
    have ef : putF "slots" (.int (l : Int)) (putF "stripes" (.int (s' : Int)) (putF "planks" (.int (p : Int)) [])) = [(("planks" : Str), V.int (p : Int)), (("stripes" : Str), V.int (s' : Int)), (("slots" : Str), V.int (l : Int))] := rfl
    rw [ef]
    have hc2 : (upd H rk (.ins a.C_Rack dx [(("planks" : Str), V.int (p : Int)), (("stripes" : Str), V.int (s' : Int)), (("slots" : Str), V.int (l : Int))])) rk = some (.ins a.C_Rack dx [(("planks" : Str), V.int (p : Int)), (("stripes" : Str), V.int (s' : Int)), (("slots" : Str), V.int (l : Int))]) := upd_same
    have k2 : ∀ b o, b ≠ rk → H b = some o → (upd H rk (.ins a.C_Rack dx [(("planks" : Str), V.int (p : Int)), (("stripes" : Str), V.int (s' : Int)), (("slots" : Str), V.int (l : Int))])) b = some o := fun b o z e => by rw [upd_ne z]; exact e
    have f2 : ∀ b, (upd H rk (.ins a.C_Rack dx [(("planks" : Str), V.int (p : Int)), (("stripes" : Str), V.int (s' : Int)), (("slots" : Str), V.int (l : Int))])) b = none → H b = none := fun b e => by
      by_cases z : b = rk
      · rw [z, upd_same] at e; cases e
      · rw [upd_ne z] at e; exact e
    generalize (upd H rk (.ins a.C_Rack dx [(("planks" : Str), V.int (p : Int)), (("stripes" : Str), V.int (s' : Int)), (("slots" : Str), V.int (l : Int))])) = H2 at hc2 k2 f2
    refine ⟨_, rfl, _, rfl, by omega, by omega, fun D nD => ?_⟩
    rw [Int.toNat_natCast]
    refine comp_invR (n := p) (cs := [some (.int s')]) (fun i ys H5 => ∃ ps hs : List Addr, ys = ps.map V.ref ∧ ps.length = i ∧ hs.length = i ∧ (∀ (j : Nat) b, ps[j]? = some b → ∃ dp h, hs[j]? = some h ∧ H5 b = some (.ins a.C_Plank dp (hf h))) ∧ (∀ h ∈ hs, H5 h = some (.lst (heldRow s' fun _ => some 0)) ∧ H2 h = none ∧ h ≠ D) ∧ hs.Nodup) nD rfl (Nat.le_trans p2 (by decide)) (fun H3 _ => ⟨[], [], rfl, rfl, rfl, (fun j b e => by rw [List.getElem?_nil] at e; cases e), (fun h hh => absurd hh List.not_mem_nil), List.nodup_nil⟩) (fun i ys H3 R3 hi s3 hD3 z3 hR => ?_) (fun ys H3 s3 hD3 z3 => ?_)
    · obtain ⟨ps, hs, rfl, lp, lh, hp, hh, nd⟩ := z3
      refine ⟨(show 1 ≤ sizeLine by decide), fun q1 n1 => ⟨_, rfl, q1, _, _, rfl, rfl, upd_same, by omega, by omega, ?_, fun q2 n2 => ?_⟩⟩
      · rw [Int.toNat_natCast]
        show 1 * s' ≤ sizeLine
        exact Nat.le_trans (by omega : 1 * s' ≤ 32) (by decide)
      rw [Int.toNat_natCast, rep0]
      have sq := (Same.new (o := .lst [V.int 0]) n1).trans (Same.new (o := .lst (heldRow s' fun _ => some 0)) n2)
      have hq2 : (upd (upd H3 q1 (.lst [V.int 0])) q2 (.lst (heldRow s' fun _ => some 0))) q2 = some (.lst (heldRow s' fun _ => some 0)) := upd_same
      generalize (upd (upd H3 q1 (.lst [V.int 0])) q2 (.lst (heldRow s' fun _ => some 0))) = H4 at sq hq2
      intro x dp nx ndx nex
      have sx : Same H4 (upd (upd H4 dp (.own x)) x (.ins a.C_Plank dp [])) := fun y o e => by
        rw [upd_ne (ne_of_none e nx), upd_ne (ne_of_none e ndx)]
        exact e
      refine ⟨x, q2, a.C_Plank, dp, _, rfl, upd_same, T.cl_Plank, T.no_Plank_held, sx _ _ hq2, fun h nh => ⟨rfl, ?_⟩⟩
      have nh4 : H4 h = none := sx.free nh
      have sxh : Same H4 (upd (upd (upd (upd H4 dp (.own x)) x (.ins a.C_Plank dp [])) h (.lst (heldRow s' fun _ => some 0))) x (.ins a.C_Plank dp (hf h))) := fun y o e => by
        rw [upd_ne (ne_of_none e nx)]
        exact (Same.new nh) _ _ (sx _ _ e)
      have nhx : h ≠ x := fun z => by rw [z, upd_same] at nh; cases nh
      have hx6 : (upd (upd (upd (upd H4 dp (.own x)) x (.ins a.C_Plank dp [])) h (.lst (heldRow s' fun _ => some 0))) x (.ins a.C_Plank dp (hf h))) x = some (.ins a.C_Plank dp (hf h)) := upd_same
      have hh6 : (upd (upd (upd (upd H4 dp (.own x)) x (.ins a.C_Plank dp [])) h (.lst (heldRow s' fun _ => some 0))) x (.ins a.C_Plank dp (hf h))) h = some (.lst (heldRow s' fun _ => some 0)) := by
        rw [upd_ne nhx]
        exact upd_same
      generalize (upd (upd (upd (upd H4 dp (.own x)) x (.ins a.C_Plank dp [])) h (.lst (heldRow s' fun _ => some 0))) x (.ins a.C_Plank dp (hf h))) = H6 at sxh hx6 hh6
      have s36 := sq.trans sxh
      refine hR (.ref x) H6 s36 fun H5 sb => ?_
      have nD3 : ∀ b o, H3 b = none → H6 b = some o → b ≠ D := fun b o e _ z => by rw [z, hD3] at e; cases e
      have nx3 : H3 x = none := sq.free nx
      have nh3 : H3 h = none := sq.free nh4
      refine ⟨ps ++ [x], hs ++ [h], by rw [List.map_append]; rfl, by rw [List.length_append, lp]; rfl, by rw [List.length_append, lh]; rfl, fun j b e => ?_, fun b hb => ?_, ?_⟩
      · rw [List.getElem?_append] at e
        split at e
        · obtain ⟨dq, h', eh, hb⟩ := hp j b e
          have nb : b ≠ D := fun z => by rw [z, hD3] at hb; cases hb
          refine ⟨dq, h', ?_, sb _ _ nb (s36 _ _ hb)⟩
          rw [List.getElem?_append_left (by omega)]
          exact eh
        · have ej : j - ps.length = 0 := by
            have := (List.getElem?_eq_some_iff.mp e).1
            have : j - ps.length < 1 := this
            omega
          rw [ej] at e
          cases Option.some.inj e
          refine ⟨dp, h, ?_, sb _ _ (nD3 _ _ nx3 hx6) hx6⟩
          rw [List.getElem?_append_right (by omega), lh, ← lp, ej]
          rfl
      · rcases List.mem_append.mp hb with y | y
        · obtain ⟨e1, e2, e3⟩ := hh b y
          exact ⟨sb _ _ e3 (s36 _ _ e1), e2, e3⟩
        · rw [List.mem_singleton.mp y]
          exact ⟨sb _ _ (nD3 _ _ nh3 hh6) hh6, s3.free nh3, nD3 _ _ nh3 hh6⟩
      · refine List.nodup_append.mpr ⟨nd, (List.nodup_cons.mpr ⟨List.not_mem_nil, List.nodup_nil⟩), fun b hb c hc z => ?_⟩
        rw [List.mem_singleton.mp hc] at z
        have := (hh b hb).1
        rw [z, nh3] at this
        cases this
    · obtain ⟨ps, hs, rfl, lp, lh, hp, hh, nd⟩ := z3
      have hc3 := s3 _ _ hc2
      have nDr : D ≠ rk := fun z => by rw [z, hc2] at nD; cases nD
      refine ⟨_, rfl, rk, a.C_Rack, dx, _, rfl, hc3, T.cl_Rack, T.no_Rack_shelf, (by show (3 : Nat) < 1000; decide), ?_⟩
      -- slate
      have hc4 : (upd H3 rk (HO.ins a.C_Rack dx (putF "shelf" (.ref D) [(("planks" : Str), V.int (p : Int)), (("stripes" : Str), V.int (s' : Int)), (("slots" : Str), V.int (l : Int))]))) rk = some (.ins a.C_Rack dx [(("planks" : Str), V.int (p : Int)), (("stripes" : Str), V.int (s' : Int)), (("slots" : Str), V.int (l : Int)), (("shelf" : Str), V.ref D)]) := upd_same
      have k4 : ∀ b o, b ≠ rk → H3 b = some o → (upd H3 rk (HO.ins a.C_Rack dx (putF "shelf" (.ref D) [(("planks" : Str), V.int (p : Int)), (("stripes" : Str), V.int (s' : Int)), (("slots" : Str), V.int (l : Int))]))) b = some o := fun b o z e => by rw [upd_ne z]; exact e
      have f4 : ∀ b, (upd H3 rk (HO.ins a.C_Rack dx (putF "shelf" (.ref D) [(("planks" : Str), V.int (p : Int)), (("stripes" : Str), V.int (s' : Int)), (("slots" : Str), V.int (l : Int))]))) b = none → H3 b = none := fun b e => by
        by_cases z : b = rk
        · rw [z, upd_same] at e; cases e
        · rw [upd_ne z] at e; exact e
      generalize (upd H3 rk (HO.ins a.C_Rack dx (putF "shelf" (.ref D) [(("planks" : Str), V.int (p : Int)), (("stripes" : Str), V.int (s' : Int)), (("slots" : Str), V.int (l : Int))]))) = H4 at hc4 k4 f4
      refine ⟨(show 1 ≤ sizeLine by decide), fun q1 n1 => ⟨_, rfl, q1, _, _, rfl, rfl, upd_same, by omega, by omega, ?_, fun sl nsl => ?_⟩⟩
      · rw [Int.toNat_natCast]
        show 1 * l ≤ sizeLine
        exact Nat.le_trans (by omega : 1 * l ≤ 32) (by decide)
      have sS := (Same.new (o := .lst [V.non]) n1).trans (Same.new (o := .lst (List.replicate (l : Int).toNat [V.non]).flatten) nsl)
      have hsl : (upd (upd H4 q1 (.lst [V.non])) sl (.lst (List.replicate (l : Int).toNat [V.non]).flatten)) sl = some (.lst (List.replicate (l : Int).toNat [V.non]).flatten) := upd_same
      have nsl4 : H4 sl = none := (Same.new (o := .lst [V.non]) n1).free nsl
      refine ⟨_, rfl, rk, a.C_Rack, dx, _, rfl, sS _ _ hc4, T.cl_Rack, T.no_Rack_slate, (by show (4 : Nat) < 1000; decide), ?_⟩
      generalize (upd (upd H4 q1 (.lst [V.non])) sl (.lst (List.replicate (l : Int).toNat [V.non]).flatten)) = H5 at sS hsl
      refine ⟨_, rfl, rk, a.C_Rack, dx, _, rfl, upd_same, T.cl_Rack, T.no_Rack_left, (by show (5 : Nat) < 1000; decide), ?_⟩
      refine ⟨_, rfl, rk, a.C_Rack, dx, _, rfl, upd_same, T.cl_Rack, T.no_Rack_gone, (by show (6 : Nat) < 1000; decide), ?_⟩
      rw [upd_upd, upd_upd]
      have ef6 : putF "gone" (V.bl false) (putF "left" V.non (putF "slate" (V.ref sl) [(("planks" : Str), V.int (p : Int)), (("stripes" : Str), V.int (s' : Int)), (("slots" : Str), V.int (l : Int)), (("shelf" : Str), V.ref D)])) = [(("planks" : Str), V.int (p : Int)), (("stripes" : Str), V.int (s' : Int)), (("slots" : Str), V.int (l : Int)), (("shelf" : Str), V.ref D), (("slate" : Str), V.ref sl), (("left" : Str), V.non), (("gone" : Str), V.bl false)] := rfl
      rw [ef6]
      have hc6 : (upd H5 rk (HO.ins a.C_Rack dx [(("planks" : Str), V.int (p : Int)), (("stripes" : Str), V.int (s' : Int)), (("slots" : Str), V.int (l : Int)), (("shelf" : Str), V.ref D), (("slate" : Str), V.ref sl), (("left" : Str), V.non), (("gone" : Str), V.bl false)])) rk = some (.ins a.C_Rack dx [(("planks" : Str), V.int (p : Int)), (("stripes" : Str), V.int (s' : Int)), (("slots" : Str), V.int (l : Int)), (("shelf" : Str), V.ref D), (("slate" : Str), V.ref sl), (("left" : Str), V.non), (("gone" : Str), V.bl false)]) := upd_same
      have k6 : ∀ b o, b ≠ rk → H5 b = some o → (upd H5 rk (HO.ins a.C_Rack dx [(("planks" : Str), V.int (p : Int)), (("stripes" : Str), V.int (s' : Int)), (("slots" : Str), V.int (l : Int)), (("shelf" : Str), V.ref D), (("slate" : Str), V.ref sl), (("left" : Str), V.non), (("gone" : Str), V.bl false)])) b = some o := fun b o z e => by rw [upd_ne z]; exact e
      have f6 : ∀ b, (upd H5 rk (HO.ins a.C_Rack dx [(("planks" : Str), V.int (p : Int)), (("stripes" : Str), V.int (s' : Int)), (("slots" : Str), V.int (l : Int)), (("shelf" : Str), V.ref D), (("slate" : Str), V.ref sl), (("left" : Str), V.non), (("gone" : Str), V.bl false)])) b = none → H5 b = none := fun b e => by
        by_cases z : b = rk
        · rw [z, upd_same] at e; cases e
        · rw [upd_ne z] at e; exact e
      generalize (upd H5 rk (HO.ins a.C_Rack dx [(("planks" : Str), V.int (p : Int)), (("stripes" : Str), V.int (s' : Int)), (("slots" : Str), V.int (l : Int)), (("shelf" : Str), V.ref D), (("slate" : Str), V.ref sl), (("left" : Str), V.non), (("gone" : Str), V.bl false)])) = H6 at hc6 k6 f6
      refine ⟨(show 0 ≤ sizeLine by decide), fun dn ndn => ?_⟩
      have sN := Same.new (o := .lst []) ndn
      have hdn : (upd H6 dn (.lst [])) dn = some (.lst []) := upd_same
      have ndr : dn ≠ rk := fun z => by rw [z, hc6] at ndn; cases ndn
      refine ⟨_, rfl, rk, a.C_Rack, dx, _, rfl, sN _ _ hc6, T.cl_Rack, T.no_Rack_done, (by show (7 : Nat) < 1000; decide), ?_⟩
      generalize (upd H6 dn (.lst [])) = H7 at sN hdn
      have hi : ∀ b o, b ≠ rk → H3 b = some o → H7 b = some o := fun b o z e => sN _ _ (k6 _ _ z (sS _ _ (k4 _ _ z e)))
      have up : ∀ b o, b ≠ rk → H3 b = some o → (upd H7 rk (HO.ins a.C_Rack dx (putF "done" (V.ref dn) [(("planks" : Str), V.int (p : Int)), (("stripes" : Str), V.int (s' : Int)), (("slots" : Str), V.int (l : Int)), (("shelf" : Str), V.ref D), (("slate" : Str), V.ref sl), (("left" : Str), V.non), (("gone" : Str), V.bl false)]))) b = some o := fun b o z e => by rw [upd_ne z]; exact hi b o z e
      have hhr : ∀ h ∈ hs, h ≠ rk := fun h hm z => by
        have := (hh h hm).1
        rw [z, hc3] at this
        cases this
      have nslr : sl ≠ rk := fun z => by rw [z, hc4] at nsl4; cases nsl4
      have nsl3 : H3 sl = none := f4 _ nsl4
      have ndn5 : H5 dn = none := f6 _ ndn
      have ndn4 : H4 dn = none := sS.free ndn5
      have ndn3 : H3 dn = none := f4 _ ndn4
      refine q ⟨rk, D, sl, dn, ps, hs, p, s', l⟩ _ rfl rfl rfl rfl (fun b o z e => up b o z (s3 _ _ (k2 _ _ z e))) ⟨⟨dx, upd_same⟩, up _ _ nDr hD3, lp, lh, fun j b e => ?_, fun j h e => ?_, ⟨[], by rw [upd_ne ndr]; exact hdn, rfl⟩, ⟨_, by rw [upd_ne nslr]; exact sN _ _ (k6 _ _ nslr hsl)⟩, ?_, p2, s2⟩ (fun b hb => ?_)
      · obtain ⟨dp, h, eh, hb⟩ := hp j b e
        refine ⟨dp, h, eh, up _ _ (fun z => ?_) hb⟩
        rw [z, hc3] at hb
        have e := Option.some.inj hb
        injection e with e1 e2 e3
        exact absurd (show (3 : Nat) = 1 from congrArg List.length e3) (by decide)
      · have hm := List.mem_of_getElem? e
        exact up _ _ (hhr h hm) (hh h hm).1
      · have dne : ∀ b o, H3 b = some o → dn ≠ b := fun b o e z => by rw [← z, ndn3] at e; cases e
        have sne : ∀ b o, H3 b = some o → sl ≠ b := fun b o e z => by rw [← z, nsl3] at e; cases e
        have nds : dn ≠ sl := fun z => by rw [z, hsl] at ndn5; cases ndn5
        show (dn :: D :: sl :: hs).Nodup
        refine List.nodup_cons.mpr ⟨fun z => ?_, List.nodup_cons.mpr ⟨fun z => ?_, List.nodup_cons.mpr ⟨fun z => sne sl _ (hh sl z).1 rfl, nd⟩⟩⟩
        · rcases List.mem_cons.mp z with y | y
          · exact dne _ _ hD3 y
          · rcases List.mem_cons.mp y with y | y
            · exact nds y
            · exact dne _ _ (hh dn y).1 rfl
        · rcases List.mem_cons.mp z with y | y
          · exact sne _ _ hD3 y.symm
          · exact (hh D y).2.2 rfl
      · have hb : b ∈ (dn :: D :: sl :: hs) := hb
        rcases List.mem_cons.mp hb with y | y
        · rw [y]; exact f2 _ (s3.free ndn3)
        · rcases List.mem_cons.mp y with y | y
          · rw [y]; exact f2 _ nD
          · rcases List.mem_cons.mp y with y | y
            · rw [y]; exact f2 _ (s3.free nsl3)
            · exact f2 _ (hh b y).2.1
end

theorem RackAt.lst_ne {a : Adr} {H : Hp} {R : Rk} {left : Option Int} {gone : Bool} {e : Nat} {X : Nat → Nat → Option Int} (h : RackAt a H R left gone e X) {b : Addr} {xs : List V} (hb : H b = some (.lst xs)) : b ≠ R.rk ∧ ∀ p ∈ R.ps, b ≠ p := by
  refine ⟨fun z => ?_, fun p hp z => ?_⟩
  · obtain ⟨dx, h1⟩ := h.ins
    rw [← z, hb] at h1
    cases h1
  · obtain ⟨i, hi⟩ := List.getElem?_of_mem hp
    obtain ⟨dp, l, _, h1⟩ := h.pl i p hi
    rw [← z, hb] at h1
    cases h1
/-- one more event -/
theorem RackAt.told {a : Adr} {H H' : Hp} {R : Rk} {left : Option Int} {gone : Bool} {e e' : Nat} {X : Nat → Nat → Option Int} {ds : List V} (h : RackAt a H R left gone e X) (k : KB [R.dn] H H') (hd : H' R.dn = some (.lst ds)) (hl : ds.length = e') : RackAt a H' R left gone e' X := by
  obtain ⟨ds0, hd0, _⟩ := h.dn
  have ne := h.lst_ne hd0
  have nd := List.nodup_cons.mp h.nd
  have k' : ∀ b o, b ≠ R.dn → H b = some o → H' b = some o := fun b o n e => k b o (fun z => n (List.mem_singleton.mp z)) e
  refine ⟨?_, k' _ _ (fun z => nd.1 (by rw [← z]; exact List.mem_cons_self)) h.shelf, h.lp, h.lh, fun i p ep => ?_, fun i l el => ?_, ⟨ds, hd, hl⟩, ?_, h.nd, h.p8, h.s32⟩
  · obtain ⟨dx, h1⟩ := h.ins
    exact ⟨dx, k' _ _ (fun z => ne.1 z.symm) h1⟩
  · obtain ⟨dp, l, hl, h1⟩ := h.pl i p ep
    exact ⟨dp, l, hl, k' _ _ (fun z => ne.2 p (List.mem_of_getElem? ep) z.symm) h1⟩
  · exact k' _ _ (fun z => nd.1 (by rw [← z]; exact List.mem_cons_of_mem _ (List.mem_cons_of_mem _ (List.mem_of_getElem? el)))) (h.hd i l el)
  · obtain ⟨ss, h1⟩ := h.sl
    exact ⟨ss, k' _ _ (fun z => nd.1 (by rw [← z]; exact List.mem_cons_of_mem _ List.mem_cons_self)) h1⟩
def setX (X : Nat → Nat → Option Int) (i j : Nat) (o : Option Int) : Nat → Nat → Option Int := fun i' j' => if i' = i ∧ j' = j then o else X i' j'
theorem RackAt.laid {a : Adr} {H : Hp} {R : Rk} {left : Option Int} {gone : Bool} {e i j : Nat} {X : Nat → Nat → Option Int} {l : Addr} {o : Option Int} (h : RackAt a H R left gone e X) (hl : R.hs[i]? = some l) : RackAt a (upd H l (.lst ((heldRow R.S (X i)).set j (ov o)))) R left gone e (setX X i j o) := by
  have hl0 := h.hd i l hl
  have ne := h.lst_ne hl0
  have nd := List.nodup_cons.mp h.nd
  have nd2 := List.nodup_cons.mp nd.2
  have nd3 := List.nodup_cons.mp nd2.2
  have lm := List.mem_of_getElem? hl
  refine ⟨?_, ?_, h.lp, h.lh, fun k p ep => ?_, fun k l' el => ?_, ?_, ?_, h.nd, h.p8, h.s32⟩
  · obtain ⟨dx, h1⟩ := h.ins
    exact ⟨dx, by rw [upd_ne (fun z => ne.1 z.symm)]; exact h1⟩
  · rw [upd_ne (fun z => nd2.1 (by rw [z]; exact List.mem_cons_of_mem _ lm))]
    exact h.shelf
  · obtain ⟨dp, l', hl', h1⟩ := h.pl k p ep
    exact ⟨dp, l', hl', by rw [upd_ne (fun z => ne.2 p (List.mem_of_getElem? ep) z.symm)]; exact h1⟩
  · by_cases y : k = i
    · subst y
      rw [hl] at el
      cases Option.some.inj el
      rw [upd_same, heldRow_set]
      refine congrArg (fun f => some (HO.lst (heldRow R.S f))) ?_
      funext j'
      unfold setX
      by_cases z : j' = j
      · rw [if_pos z, if_pos ⟨rfl, z⟩]
      · rw [if_neg z, if_neg (fun w => z w.2)]
    · have nl : l' ≠ l := fun z => by
        rw [z] at el
        have hk := (List.getElem?_eq_some_iff.mp el).1
        have hi := (List.getElem?_eq_some_iff.mp hl).1
        rw [List.getElem?_eq_getElem hk] at el
        rw [List.getElem?_eq_getElem hi] at hl
        exact y ((List.getElem_inj (h₀ := hk) (h₁ := hi) nd3.2).mp ((Option.some.inj el).trans (Option.some.inj hl).symm))
      rw [upd_ne nl, h.hd k l' el]
      refine congrArg (fun f => some (HO.lst (heldRow R.S f))) ?_
      funext j'
      unfold setX
      rw [if_neg (fun w => y w.1)]
  · obtain ⟨ds, h1, h2⟩ := h.dn
    exact ⟨ds, by rw [upd_ne (fun z => nd.1 (by rw [z]; exact List.mem_cons_of_mem _ (List.mem_cons_of_mem _ lm)))]; exact h1, h2⟩
  · obtain ⟨ss, h1⟩ := h.sl
    exact ⟨ss, by rw [upd_ne (fun z => nd3.1 (by rw [z]; exact lm))]; exact h1⟩
theorem RackAt.dict {a : Adr} {H : Hp} {R : Rk} {left : Option Int} {gone : Bool} {e : Nat} {X : Nat → Nat → Option Int} {d : Addr} {kvs : List (List Key × V)} {o : HO} (h : RackAt a H R left gone e X) (hd : H d = some (.dT kvs)) : RackAt a (upd H d o) R left gone e X := by
  refine h.keep (ms := [d]) (fun b u n e => by rw [upd_ne (fun z => n (by rw [z]; exact List.mem_singleton_self _))]; exact e) (fun b hb C dx fs e => ?_) (fun b hb z => ?_)
  · rw [List.mem_singleton.mp hb, hd] at e
    cases e
  · have z := List.mem_singleton.mp z
    subst z
    have hb : b ∈ (R.dn :: R.sh :: R.sl :: R.hs) := hb
    rcases List.mem_cons.mp hb with y | y
    · obtain ⟨ds, h1, _⟩ := h.dn
      rw [← y, hd] at h1
      cases h1
    · rcases List.mem_cons.mp y with y | y
      · have h1 := h.shelf
        rw [← y, hd] at h1
        cases h1
      · rcases List.mem_cons.mp y with y | y
        · obtain ⟨ss, h1⟩ := h.sl
          rw [← y, hd] at h1
          cases h1
        · obtain ⟨i, hi⟩ := List.getElem?_of_mem y
          have h1 := h.hd i b hi
          rw [hd] at h1
          cases h1
theorem RackAt.isLst {a : Adr} {H : Hp} {R : Rk} {left : Option Int} {gone : Bool} {e : Nat} {X : Nat → Nat → Option Int} (h : RackAt a H R left gone e X) {b : Addr} (hb : b ∈ R.lists) : ∃ xs, H b = some (.lst xs) := by
  have hb : b ∈ (R.dn :: R.sh :: R.sl :: R.hs) := hb
  rcases List.mem_cons.mp hb with y | y
  · obtain ⟨ds, h1, _⟩ := h.dn
    exact ⟨ds, by rw [y]; exact h1⟩
  · rcases List.mem_cons.mp y with y | y
    · exact ⟨_, by rw [y]; exact h.shelf⟩
    · rcases List.mem_cons.mp y with y | y
      · obtain ⟨ss, h1⟩ := h.sl
        exact ⟨ss, by rw [y]; exact h1⟩
      · obtain ⟨i, hi⟩ := List.getElem?_of_mem y
        exact ⟨_, h.hd i b hi⟩
theorem RackAt.at {a : Adr} {H : Hp} {R : Rk} {left : Option Int} {gone : Bool} {e i : Nat} {X : Nat → Nat → Option Int} (h : RackAt a H R left gone e X) (hi : i < R.P) : ∃ p dp l, R.ps[i]? = some p ∧ R.hs[i]? = some l ∧ H p = some (.ins a.C_Plank dp (hf l)) ∧ H l = some (.lst (heldRow R.S (X i))) := by
  have ep : R.ps[i]? = some (R.ps[i]'(by rw [h.lp]; exact hi)) := List.getElem?_eq_getElem (by rw [h.lp]; exact hi)
  obtain ⟨dp, l, hl, h1⟩ := h.pl i _ ep
  exact ⟨_, dp, l, ep, hl, h1, h.hd i l hl⟩
theorem refs_at {ps : List Addr} {i : Nat} {p : Addr} (h : ps[i]? = some p) : (ps.map V.ref)[i]? = some (.ref p) := by rw [List.getElem?_map, h]; rfl
section
variable {P : Program} {wo : World} {K : PySem.W.Frag} {mg : Str → Option Value} {base : Heap} {a : Adr}
def spCheckPlank (a : Adr) : Sp := fun vs H Q _ => ∃ (R : Rk) (left : Option Int) (gone : Bool) (e i : Nat) (X : Nat → Nat → Option Int), vs = [.ref R.rk, .int i] ∧ RackAt a H R left gone e X ∧ i < R.P ∧ Q .non H
theorem ok_Rack_check_plank (T : Txt K mg a) : FnOk P wo K mg base CX0 1 a.f_Rack_check_plank a.d_Rack_check_plank ["self", "plank"] (spCheckPlank a) := by
  refine T.F_Rack_check_plank.ok (k := 0) sc_Rack_check_plank (fun vs H Q E h => ?_) (fun cdv A outer s H vs Q E hr h => ?_)
  · obtain ⟨R, left, gone, e, i, X, rfl, _⟩ := h
    rfl
  · obtain ⟨R, left, gone, e, i, X, rfl, hR, hi, q⟩ := h
    obtain ⟨dx, h1⟩ := hR.ins
    refine ⟨_, (pss_one (ps_if (PW.pt (pw_or (pt_cmpR op_lt (pv 1) pe_int (nomark _)) (pw_or1 (pt_cmpR op_ge (pv 1) (pe_fld (pv 0) rfl) (nomark _))))) (pss_one ps_never) pss_nil)), ?_⟩
    refine ⟨_, rfl, _, _, rfl, rfl, _, rfl, ?_⟩
    refine ite2 (fun y => absurd (of_decide_eq_true y) (by omega)) (fun _ => ?_)
    refine ⟨_, rfl, _, rfl, R.rk, _, _, _, _, rfl, h1, T.cl_Rack, T.no_Rack_planks, rf_planks R left gone, _, _, rfl, rfl, _, rfl, ?_⟩
    exact ite2 (fun y => absurd (of_decide_eq_true y) (by omega)) (fun _ => q)
def spCheckStripe (a : Adr) : Sp := fun vs H Q _ => ∃ (R : Rk) (left : Option Int) (gone : Bool) (e j : Nat) (X : Nat → Nat → Option Int), vs = [.ref R.rk, .int j] ∧ RackAt a H R left gone e X ∧ j < R.S ∧ Q .non H
theorem ok_Rack_check_stripe (T : Txt K mg a) : FnOk P wo K mg base CX0 1 a.f_Rack_check_stripe a.d_Rack_check_stripe ["self", "stripe"] (spCheckStripe a) := by
  refine T.F_Rack_check_stripe.ok (k := 0) sc_Rack_check_stripe (fun vs H Q E h => ?_) (fun cdv A outer s H vs Q E hr h => ?_)
  · obtain ⟨R, left, gone, e, i, X, rfl, _⟩ := h
    rfl
  · obtain ⟨R, left, gone, e, i, X, rfl, hR, hi, q⟩ := h
    obtain ⟨dx, h1⟩ := hR.ins
    refine ⟨_, (pss_one (ps_if (PW.pt (pw_or (pt_cmpR op_lt (pv 1) pe_int (nomark _)) (pw_or1 (pt_cmpR op_ge (pv 1) (pe_fld (pv 0) rfl) (nomark _))))) (pss_one ps_never) pss_nil)), ?_⟩
    refine ⟨_, rfl, _, _, rfl, rfl, _, rfl, ?_⟩
    refine ite2 (fun y => absurd (of_decide_eq_true y) (by omega)) (fun _ => ?_)
    refine ⟨_, rfl, _, rfl, R.rk, _, _, _, _, rfl, h1, T.cl_Rack, T.no_Rack_stripes, rf_stripes R left gone, _, _, rfl, rfl, _, rfl, ?_⟩
    exact ite2 (fun y => absurd (of_decide_eq_true y) (by omega)) (fun _ => q)
def spCheckBoth (a : Adr) : Sp := fun vs H Q _ => ∃ (R : Rk) (left : Option Int) (gone : Bool) (e i j : Nat) (X : Nat → Nat → Option Int), vs = [.ref R.rk, .int i, .int j] ∧ RackAt a H R left gone e X ∧ i < R.P ∧ j < R.S ∧ Q .non H
theorem ok_Rack_check_both (T : Txt K mg a) : FnOk P wo K mg base CX0 2 a.f_Rack_check_both a.d_Rack_check_both ["self", "plank", "stripe"] (spCheckBoth a) := by
  have G_Rack_check_plank : FnOk P wo K mg base CX0 1 _ _ _ _ := ok_Rack_check_plank T
  have G_Rack_check_stripe : FnOk P wo K mg base CX0 1 _ _ _ _ := ok_Rack_check_stripe T
  refine T.F_Rack_check_both.ok (k := 1) sc_Rack_check_both (fun vs H Q E h => ?_) (fun cdv A outer s H vs Q E hr h => ?_)
  · obtain ⟨R, left, gone, e, i, j, X, rfl, _⟩ := h
    rfl
  · obtain ⟨R, left, gone, e, i, j, X, rfl, hR, hi, hj, q⟩ := h
    obtain ⟨dx, h1⟩ := id hR.ins
    refine ⟨_, (pss_cons (ps_expr (pe_meth (pv 0) T.cl_Rack T.me_Rack_check_plank G_Rack_check_plank (hr.mono (by decide)) T.b_Rack_check_plank .nil pass0 (pa_cons (pv 1) pa_nil)))
      (pss_one (ps_expr (pe_meth (pv 0) T.cl_Rack T.me_Rack_check_stripe G_Rack_check_stripe (hr.mono (by decide)) T.b_Rack_check_stripe .nil pass0 (pa_cons (pv 2) pa_nil))))), ?_⟩
    refine ⟨_, rfl, R.rk, dx, _, rfl, h1, rfl, _, rfl, R, left, gone, e, i, X, rfl, hR, hi, ?_⟩
    exact ⟨_, rfl, R.rk, dx, _, rfl, h1, rfl, _, rfl, R, left, gone, e, j, X, rfl, hR, hj, q⟩
def spPeek (a : Adr) : Sp := fun vs H Q _ => ∃ (R : Rk) (left : Option Int) (gone : Bool) (e i j : Nat) (X : Nat → Nat → Option Int), vs = [.ref R.rk, .int i, .int j] ∧ RackAt a H R left gone e X ∧ i < R.P ∧ j < R.S ∧ Q (ov (X i j)) H
theorem ok_Rack_peek (T : Txt K mg a) : FnOk P wo K mg base CX0 3 a.f_Rack_peek a.d_Rack_peek ["self", "plank", "stripe"] (spPeek a) := by
  have G_Rack_check_both : FnOk P wo K mg base CX0 2 _ _ _ _ := ok_Rack_check_both T
  have G_Plank_look_at : FnOk P wo K mg base CX0 2 _ _ _ _ := (ok_Plank_look_at T).mono (by decide)
  refine T.F_Rack_peek.ok (k := 2) sc_Rack_peek (fun vs H Q E h => ?_) (fun cdv A outer s H vs Q E hr h => ?_)
  · obtain ⟨R, left, gone, e, i, j, X, rfl, _⟩ := h
    rfl
  · obtain ⟨R, left, gone, e, i, j, X, rfl, hR, hi, hj, q⟩ := h
    obtain ⟨dx, h1⟩ := id hR.ins
    obtain ⟨p, dp, l, ep, el, hp, hl⟩ := hR.at hi
    refine ⟨_, (pss_cons (ps_expr (pe_meth (pv 0) T.cl_Rack T.me_Rack_check_both G_Rack_check_both (hr.mono (by decide)) T.b_Rack_check_both .nil pass0 (pa_cons (pv 1) (pa_cons (pv 2) pa_nil))))
      (pss_one (ps_ret (pe_meth (pe_ix ix_list (pe_fld (pv 0) rfl) (pv 1) (fun _ _ => rfl)) T.cl_Plank T.me_Plank_look_at G_Plank_look_at (hr.mono (by decide)) T.b_Plank_look_at .nil pass0 (pa_cons (pv 2) pa_nil))))), ?_⟩
    refine ⟨_, rfl, R.rk, dx, _, rfl, h1, rfl, _, rfl, _, rfl, R, left, gone, e, i, j, X, rfl, hR, hi, hj, ?_⟩
    refine ⟨_, rfl, R.rk, _, _, _, _, rfl, h1, T.cl_Rack, T.no_Rack_shelf, rf_shelf R left gone, _, rfl, R.sh, _, _, _, rfl, rfl, SqL.of hR.shelf, atI_nat (refs_at ep), p, dp, _, rfl, hp, rfl, _, rfl, p, l, a.C_Plank, dp, _, _, j, _, rfl, hp, T.cl_Plank, T.no_Plank_held, rfl, hl, heldRow_at hj, q⟩
def spLook (a : Adr) : Sp := fun vs H Q _ => ∃ (R : Rk) (left : Option Int) (e i j : Nat) (X : Nat → Nat → Option Int), vs = [.ref R.rk, .int i, .int j] ∧ RackAt a H R left false e X ∧ e < 9000 ∧ i < R.P ∧ j < R.S ∧ ∀ H', KB [R.dn] H H' → RackAt a H' R left false (e + 1) X → Q (ov (X i j)) H'
theorem ok_Rack_look (T : Txt K mg a) : FnOk P wo K mg base CX0 3 a.f_Rack_look a.d_Rack_look ["self", "plank", "stripe"] (spLook a) := by
  have G_Rack_check_both : FnOk P wo K mg base CX0 2 _ _ _ _ := ok_Rack_check_both T
  have G_Plank_look_at : FnOk P wo K mg base CX0 2 _ _ _ _ := (ok_Plank_look_at T).mono (by decide)
  have G_Plank_there : FnOk P wo K mg base CX0 2 _ _ _ _ := (ok_Plank_there T).mono (by decide)
  refine T.F_Rack_look.ok (k := 2) sc_Rack_look (fun vs H Q E h => ?_) (fun cdv A outer s H vs Q E hr h => ?_)
  · obtain ⟨R, left, e, i, j, X, rfl, _⟩ := h
    rfl
  · obtain ⟨R, left, e, i, j, X, rfl, hR, he, hi, hj, q⟩ := h
    obtain ⟨dx, h1⟩ := id hR.ins
    obtain ⟨ds, hds, hdl⟩ := id hR.dn
    refine ⟨_, (pss_cons (ps_expr (pe_meth (pv 0) T.cl_Rack T.me_Rack_check_both G_Rack_check_both (hr.mono (by decide)) T.b_Rack_check_both .nil pass0 (pa_cons (pv 1) (pa_cons (pv 2) pa_nil))))
      (pss_cons (ps_if (pt_val (pe_fld (pv 0) rfl)) (pss_one ps_never) pss_nil)
      (pss_cons (ps_expr (pe_bm PySem.F.plainAttrs_list PySem.F.slot_list_append PySem.F.type_list_append mt_append (pe_fld (pv 0) rfl) (pa_cons (pe_tup (pa_cons pe_str (pa_cons (pv 1) (pa_cons (pv 2) pa_nil)))) pa_nil)))
      (pss_cons (ps_if (pt_val (pe_meth (pe_ix ix_list (pe_fld (pv 0) rfl) (pv 1) (fun _ _ => rfl)) T.cl_Plank T.me_Plank_there G_Plank_there (hr.mono (by decide)) T.b_Plank_there .nil pass0 (pa_cons (pv 2) pa_nil))) (pss_one (ps_ret (pe_meth (pe_ix ix_list (pe_fld (pv 0) rfl) (pv 1) (fun _ _ => rfl)) T.cl_Plank T.me_Plank_look_at G_Plank_look_at (hr.mono (by decide)) T.b_Plank_look_at .nil pass0 (pa_cons (pv 2) pa_nil)))) pss_nil)
      (pss_one (ps_ret pe_non)))))), ?_⟩
    refine ⟨_, rfl, R.rk, dx, _, rfl, h1, rfl, _, rfl, _, rfl, R, left, false, e, i, j, X, rfl, hR, hi, hj, ?_⟩
    refine ⟨_, rfl, R.rk, _, _, _, _, rfl, h1, T.cl_Rack, T.no_Rack_gone, rf_gone R left false, _, rfl, ?_⟩
    refine ite2 (fun z => absurd z (by decide)) (fun _ => ?_)
    refine ⟨_, rfl, R.rk, _, _, _, _, rfl, h1, T.cl_Rack, T.no_Rack_done, rf_done R left false, .inl ⟨rfl, _, SqL.of hds⟩, ?_⟩
    refine ⟨_, rfl, _, rfl, (show 3 ≤ sizeLine by decide), fun tp ntp => ⟨R.dn, _, _, rfl, rfl, Same.new ntp _ _ hds, Nat.lt_of_lt_of_le (by omega : ds.length < 9000) (by decide), ?_⟩⟩
    have kb : KB [R.dn] H (upd (upd H tp (.tup [V.str (Str.ofString "look"), V.int (i : Int), V.int (j : Int)])) R.dn (.lst (ds ++ [V.ref tp]))) := fun b o n e => by
      rw [upd_ne (fun z => n (by rw [z]; exact List.mem_singleton_self _))]
      exact Same.new ntp _ _ e
    have hd' : (upd (upd H tp (.tup [V.str (Str.ofString "look"), V.int (i : Int), V.int (j : Int)])) R.dn (.lst (ds ++ [V.ref tp]))) R.dn = some (.lst (ds ++ [V.ref tp])) := upd_same
    have hR' := hR.told (e' := e + 1) kb hd' (by rw [List.length_append, hdl]; rfl)
    generalize (upd (upd H tp (.tup [V.str (Str.ofString "look"), V.int (i : Int), V.int (j : Int)])) R.dn (.lst (ds ++ [V.ref tp]))) = H1 at kb hR'
    obtain ⟨dx', h1'⟩ := id hR'.ins
    obtain ⟨p, dp, l, ep, el, hp, hl⟩ := hR'.at hi
    refine ⟨_, rfl, R.rk, _, _, _, _, rfl, h1', T.cl_Rack, T.no_Rack_shelf, rf_shelf R left false, _, rfl, R.sh, _, _, _, rfl, rfl, SqL.of hR'.shelf, atI_nat (refs_at ep), p, dp, _, rfl, hp, rfl, _, rfl, p, _, rfl, _, rfl, ?_⟩
    refine ite2 (fun _ => ?_) (fun z => absurd rfl z)
    exact ⟨_, rfl, R.rk, _, _, _, _, rfl, h1', T.cl_Rack, T.no_Rack_shelf, rf_shelf R left false, _, rfl, R.sh, _, _, _, rfl, rfl, SqL.of hR'.shelf, atI_nat (refs_at ep), p, dp, _, rfl, hp, rfl, _, rfl, p, l, a.C_Plank, dp, _, _, j, _, rfl, hp, T.cl_Plank, T.no_Plank_held, rfl, hl, heldRow_at hj, q _ kb hR'⟩
def spNeed (a : Adr) : Sp := fun vs H Q _ => ∃ (R : Rk) (e : Nat) (X : Nat → Nat → Option Int), vs = [.ref R.rk] ∧ RackAt a H R none false e X ∧ Q .non H
theorem ok_Rack_need_write (T : Txt K mg a) : FnOk P wo K mg base CX0 1 a.f_Rack_need_write a.d_Rack_need_write ["self"] (spNeed a) := by
  refine T.F_Rack_need_write.ok (k := 0) sc_Rack_need_write (fun vs H Q E h => ?_) (fun cdv A outer s H vs Q E hr h => ?_)
  · obtain ⟨R, e, X, rfl, _⟩ := h
    rfl
  · obtain ⟨R, e, X, rfl, hR, q⟩ := h
    obtain ⟨dx, h1⟩ := id hR.ins
    refine ⟨_, (pss_cons (ps_if (PW.pt (pw_and (pt_cmpR op_notN (pe_fld (pv 0) rfl) pe_non (nomark _)) (pw_and1 (pt_cmpR op_lt (pe_fld (pv 0) rfl) pe_int (nomark _))))) (pss_one (ps_fld (pv 0) pe_bl rfl)) pss_nil)
      (pss_one (ps_if (pt_val (pe_fld (pv 0) rfl)) (pss_one ps_never) pss_nil))), ?_⟩
    refine ⟨_, rfl, R.rk, _, _, _, _, rfl, h1, T.cl_Rack, T.no_Rack_left, rf_left R none false, rfl, _, rfl, ?_⟩
    refine ite2 (fun z => absurd z (by decide)) (fun _ => ?_)
    refine ite2 (fun z => absurd z (by decide)) (fun _ => ?_)
    refine ⟨_, rfl, R.rk, _, _, _, _, rfl, h1, T.cl_Rack, T.no_Rack_gone, rf_gone R none false, _, rfl, ?_⟩
    exact ite2 (fun z => absurd z (by decide)) (fun _ => q)
def spSpend (a : Adr) : Sp := fun vs H Q _ => ∃ (R : Rk) (e : Nat) (X : Nat → Nat → Option Int) (t : Addr), vs = [.ref R.rk, .ref t] ∧ RackAt a H R none false e X ∧ e < 9000 ∧ ∀ H', KB [R.dn] H H' → RackAt a H' R none false (e + 1) X → Q .non H'
theorem ok_Rack_spend (T : Txt K mg a) : FnOk P wo K mg base CX0 1 a.f_Rack_spend a.d_Rack_spend ["self", "event"] (spSpend a) := by
  refine T.F_Rack_spend.ok (k := 0) sc_Rack_spend (fun vs H Q E h => ?_) (fun cdv A outer s H vs Q E hr h => ?_)
  · obtain ⟨R, e, X, t, rfl, _⟩ := h
    rfl
  · obtain ⟨R, e, X, t, rfl, hR, he, q⟩ := h
    obtain ⟨dx, h1⟩ := id hR.ins
    obtain ⟨ds, hds, hdl⟩ := id hR.dn
    refine ⟨_, (pss_cons (ps_if (pt_cmpR op_notN (pe_fld (pv 0) rfl) pe_non (nomark _)) (pss_one (ps_fldaug (pv 0) pe_int ip_sub)) pss_nil)
      (pss_one (ps_expr (pe_bm PySem.F.plainAttrs_list PySem.F.slot_list_append PySem.F.type_list_append mt_append (pe_fld (pv 0) rfl) (pa_cons (pv 1) pa_nil))))), ?_⟩
    refine ⟨_, rfl, R.rk, _, _, _, _, rfl, h1, T.cl_Rack, T.no_Rack_left, rf_left R none false, rfl, _, rfl, ?_⟩
    refine ite2 (fun z => absurd z (by decide)) (fun _ => ?_)
    refine ⟨_, rfl, R.rk, _, _, _, _, rfl, h1, T.cl_Rack, T.no_Rack_done, rf_done R none false, .inl ⟨rfl, _, SqL.of hds⟩, _, rfl, R.dn, _, _, rfl, rfl, hds, Nat.lt_of_lt_of_le (by omega : ds.length < 9000) (by decide), ?_⟩
    have kb : KB [R.dn] H (upd H R.dn (.lst (ds ++ [V.ref t]))) := fun b o n e => by
      rw [upd_ne (fun z => n (by rw [z]; exact List.mem_singleton_self _))]
      exact e
    exact q _ kb (hR.told kb upd_same (by rw [List.length_append, hdl]; rfl))
def spLay (a : Adr) : Sp := fun vs H Q _ => ∃ (R : Rk) (e i j : Nat) (X : Nat → Nat → Option Int) (o : Option Int), vs = [.ref R.rk, .int i, .int j, ov o] ∧ RackAt a H R none false e X ∧ e < 9000 ∧ i < R.P ∧ j < R.S ∧ ∀ H', KB (R.dn :: R.hs) H H' → RackAt a H' R none false (e + 1) (setX X i j o) → Q .non H'
theorem ok_Rack_lay (T : Txt K mg a) : FnOk P wo K mg base CX0 3 a.f_Rack_lay a.d_Rack_lay ["self", "plank", "stripe", "block"] (spLay a) := by
  have G_Rack_check_both : FnOk P wo K mg base CX0 2 _ _ _ _ := ok_Rack_check_both T
  have G_Rack_need_write : FnOk P wo K mg base CX0 2 _ _ _ _ := (ok_Rack_need_write T).mono (by decide)
  have G_Rack_spend : FnOk P wo K mg base CX0 2 _ _ _ _ := (ok_Rack_spend T).mono (by decide)
  have G_Plank_lay_at : FnOk P wo K mg base CX0 2 _ _ _ _ := (ok_Plank_lay_at T).mono (by decide)
  refine T.F_Rack_lay.ok (k := 2) sc_Rack_lay (fun vs H Q E h => ?_) (fun cdv A outer s H vs Q E hr h => ?_)
  · obtain ⟨R, e, i, j, X, o, rfl, _⟩ := h
    rfl
  · obtain ⟨R, e, i, j, X, o, rfl, hR, he, hi, hj, q⟩ := h
    obtain ⟨dx, h1⟩ := id hR.ins
    obtain ⟨p, dp, l, ep, el, hp, hl⟩ := hR.at hi
    refine ⟨_, (pss_cons (ps_expr (pe_meth (pv 0) T.cl_Rack T.me_Rack_check_both G_Rack_check_both (hr.mono (by decide)) T.b_Rack_check_both .nil pass0 (pa_cons (pv 1) (pa_cons (pv 2) pa_nil))))
      (pss_cons (ps_expr (pe_meth0 (pv 0) T.cl_Rack T.me_Rack_need_write G_Rack_need_write (hr.mono (by decide)) T.b_Rack_need_write .nil pass0))
      (pss_cons (ps_if (pt_val (pe_callB call_isiC rfl T.n_isinstance boot_isinstance (pa_cons (pe_ix ix_list (pe_fld (pv 0) rfl) (pv 1) (fun _ _ => rfl)) (pa_cons (pe_glob (v := .ref a.C_LostPlank) rfl T.m_LostPlank rfl) pa_nil)))) (pss_one ps_never) pss_nil)
      (pss_cons (ps_expr (pe_meth (pe_ix ix_list (pe_fld (pv 0) rfl) (pv 1) (fun _ _ => rfl)) T.cl_Plank T.me_Plank_lay_at G_Plank_lay_at (hr.mono (by decide)) T.b_Plank_lay_at .nil pass0 (pa_cons (pv 2) (pa_cons (pv 3) pa_nil))))
      (pss_one (ps_expr (pe_meth (pv 0) T.cl_Rack T.me_Rack_spend G_Rack_spend (hr.mono (by decide)) T.b_Rack_spend .nil pass0 (pa_cons (pe_tup (pa_cons pe_str (pa_cons (pv 1) (pa_cons (pv 2) pa_nil)))) pa_nil)))))))), ?_⟩
    refine ⟨_, rfl, R.rk, dx, _, rfl, h1, rfl, _, rfl, _, rfl, R, none, false, e, i, j, X, rfl, hR, hi, hj, ?_⟩
    refine ⟨_, rfl, R.rk, dx, _, rfl, h1, rfl, R, e, X, rfl, hR, ?_⟩
    refine ⟨_, rfl, R.rk, _, _, _, _, rfl, h1, T.cl_Rack, T.no_Rack_shelf, rf_shelf R none false, _, rfl, R.sh, _, _, _, rfl, rfl, SqL.of hR.shelf, atI_nat (refs_at ep), _, _, _, _, rfl, T.ty_Plank.of T.cl_Plank hp, T.kn_Plank_LostPlank, _, rfl, ?_⟩
    refine ite2 (fun z => absurd z (by decide)) (fun _ => ?_)
    refine ⟨_, rfl, R.rk, _, _, _, _, rfl, h1, T.cl_Rack, T.no_Rack_shelf, rf_shelf R none false, _, rfl, R.sh, _, _, _, rfl, rfl, SqL.of hR.shelf, atI_nat (refs_at ep), p, dp, _, rfl, hp, rfl, _, rfl, _, rfl, p, l, a.C_Plank, dp, _, _, j, _, rfl, hp, T.cl_Plank, T.no_Plank_held, rfl, hl, by rw [heldRow_len]; exact hj, ?_⟩
    have hR' := hR.laid (j := j) (o := o) el
    have kl : KB (R.dn :: R.hs) H (upd H l (.lst ((heldRow R.S (X i)).set j (ov o)))) := fun b o n e => by
      rw [upd_ne (fun z => n (by rw [z]; exact List.mem_cons_of_mem _ (List.mem_of_getElem? el)))]
      exact e
    generalize (upd H l (.lst ((heldRow R.S (X i)).set j (ov o)))) = H1 at hR' kl
    obtain ⟨dx', h1'⟩ := id hR'.ins
    refine ⟨_, rfl, R.rk, dx', _, rfl, h1', rfl, _, rfl, _, rfl, (show 3 ≤ sizeLine by decide), fun tp ntp => ?_⟩
    have st := Same.new (o := .tup [V.str (Str.ofString "lay"), V.int (i : Int), V.int (j : Int)]) ntp
    refine ⟨R, e, setX X i j o, tp, rfl, hR'.same st, he, fun H2 k2 hR2 => ?_⟩
    exact q H2 ((kl.same st).trans (k2.more fun b hb => by rw [List.mem_singleton.mp hb]; exact List.mem_cons_self)) hR2
end

section
variable {P : Program} {wo : World} {K : PySem.W.Frag} {mg : Str → Option Value} {base : Heap} {a : Adr}
def spSame : Sp := fun vs H Q _ => ∃ o : Option Int, vs = [ov o, ov o] ∧ Q (.bl true) H
theorem ok_same (T : Txt K mg a) : FnOk P wo K mg base CX0 1 a.f_same a.d_same ["_law_found", "_law_due"] spSame := by
  refine T.F_same.ok (k := 0) sc_same (fun vs H Q E h => ?_) (fun cdv A outer s H vs Q E hr h => ?_)
  · obtain ⟨o, rfl, _⟩ := h
    rfl
  · obtain ⟨o, rfl, q⟩ := h
    refine ⟨_, (pss_cons (ps_if (pt_cmpR op_isN (pv 1) pe_non (nomark _)) (pss_one (ps_ret (pe_cmpR op_isN (pv 0) pe_non (nomark _)))) pss_nil)
      (pss_one (ps_ret (pe_and (pe_callB call_isi rfl T.n_isinstance boot_isinstance (pa_cons (pv 0) (pa_cons (pe_bltn (v := .ty "int") rfl T.n_int (by decide +kernel) rfl) pa_nil))) (pe_and (pe_not (pe_callB call_isi rfl T.n_isinstance boot_isinstance (pa_cons (pv 0) (pa_cons (pe_bltn (v := .ty "bool") rfl T.n_bool (by decide +kernel) rfl) pa_nil)))) (pe_one (pe_cmpR op_eq (pv 0) (pv 1) (nomark _)))))))), ?_⟩
    cases o with
    | none =>
      refine ⟨_, rfl, rfl, _, rfl, ?_⟩
      refine iteT ?_
      exact ⟨_, rfl, rfl, q⟩
    | some i =>
      refine ⟨_, rfl, rfl, _, rfl, ?_⟩
      refine ite2 (fun h => absurd (of_decide_eq_true h) (fun z => nomatch z)) (fun _ => ?_)
      refine ⟨_, rfl, _, _, _, _, rfl, .int _, kit_same _ _, _, rfl, iteT ?_⟩
      refine ⟨_, rfl, _, _, _, _, rfl, .int _, kit_int_bool _, _, rfl, _, rfl, iteT ?_⟩
      refine ⟨_, rfl, _, rfl, rfl, ?_⟩
      rw [decide_eq_true rfl]
      exact q
end

section
variable {P : Program} {wo : World} {K : PySem.W.Frag} {mg : Str → Option Value} {base : Heap} {a : Adr}
def spMixedR : Sp := fun vs H Q _ => ∃ (c : Int) (k : Nat), vs = [.int c, .int k] ∧ k ≤ 100 ∧ ∀ z : Int, 0 ≤ z → z < 2147483629 → Q (.int z) H
theorem ok_mixed (T : Txt K mg a) : FnOk P wo K mg base CX0 1 a.f_mixed a.d_mixed ["_law_cell", "_law_k"] spMixedR := by
  refine T.F_mixed.ok (k := 0) sc_mixed (fun vs H Q E h => ?_) (fun cdv A outer s H vs Q E hr h => ?_)
  · obtain ⟨c, k, rfl, _⟩ := h
    rfl
  · obtain ⟨c, k, rfl, hk, q⟩ := h
    refine ⟨_, (pss_cons (ps_set (i := 2) sc_mixed.nd rfl (Or.inl rfl) (pe_op op_add (pe_op op_add (pe_op op_mod (pv 0) pe_int) (pe_op op_mul pe_int (pv 1))) pe_int))
      (pss_one (ps_ret (pe_op op_mod (pe_op op_mul (pe_op op_mod (pe_op op_mul (pv 2) (pv 2)) pe_int) pe_int) pe_int)))), ?_⟩
    have b1 := Int.emod_nonneg c (show (2147483629 : Int) ≠ 0 by decide)
    have b2 := Int.emod_lt_of_pos c (show (0 : Int) < 2147483629 by decide)
    refine ⟨_, rfl, _, _, rfl, rfl, p0 (by decide), _, rfl, _, _, rfl, rfl, .inl ⟨by decide, by decide⟩, _, _, rfl, rfl, _, _, rfl, rfl, ?_⟩
    have hz0 : 0 ≤ c % 2147483629 + 7919 * (k : Int) + 1 := by omega
    have hz1 : c % 2147483629 + 7919 * (k : Int) + 1 < 2147483629 + 791901 := by omega
    try dsimp only
    generalize c % 2147483629 + 7919 * (k : Int) + 1 = y at hz0 hz1
    have c1 := Int.emod_nonneg (y * y) (show (2147483629 : Int) ≠ 0 by decide)
    have c2 := Int.emod_lt_of_pos (y * y) (show (0 : Int) < 2147483629 by decide)
    refine ⟨_, rfl, _, rfl, _, _, rfl, rfl, .inl ⟨by omega, by omega⟩, _, _, rfl, rfl, p0 (by decide), _, _, rfl, rfl, .inr ⟨by decide, by decide⟩, _, _, rfl, rfl, p0 (by decide), ?_⟩
    exact q _ (Int.emod_nonneg _ (by decide)) (Int.emod_lt_of_pos _ (by decide))
def spBlockR : Sp := fun vs H Q _ => ∃ x : Int, vs = [.int x] ∧ 0 ≤ x ∧ x < 2147483629 ∧ ∀ z : Int, Q (.int z) H
theorem ok_block (T : Txt K mg a) : FnOk P wo K mg base CX0 1 a.f_block a.d_block ["_law_number"] spBlockR := by
  refine T.F_block.ok (k := 0) sc_block (fun vs H Q E h => ?_) (fun cdv A outer s H vs Q E hr h => ?_)
  · obtain ⟨x, rfl, _⟩ := h
    rfl
  · obtain ⟨x, rfl, h0, h1, q⟩ := h
    refine ⟨_, (pss_one (ps_ret (pe_op op_mod (pe_op op_mul (pe_op op_pow (pe_op op_add (pe_op op_fdiv (pv 0) pe_int) pe_int) pe_int) pe_int) (pe_op op_shl pe_int pe_int)))), ?_⟩
    exact ⟨_, rfl, _, _, rfl, rfl, ⟨by decide, by decide⟩, _, _, rfl, rfl, _, _, rfl, rfl, ⟨by decide, by decide, by omega⟩, _, _, rfl, rfl, .inr ⟨by decide, by decide⟩, _, _, rfl, rfl, ⟨by decide, by decide⟩, _, _, rfl, rfl, p0 (by decide), q _⟩
def spSizes (K : PySem.W.Frag) : Sp := fun vs H Q _ => ∃ (s : Addr) (ns : List Int) (k : Nat), vs = [.ref s, .int k] ∧ SqL K H s (ns.map V.int) ∧ k ≤ 10 ∧ ∀ (D : Addr) (p t l : Nat) H', H D = none → Same H H' → H' D = some (.lst [.int p, .int t, .int l]) → 2 ≤ p → p ≤ 8 → 1 ≤ t → t ≤ 32 → 1 ≤ l → l ≤ 8 → Q (.ref D) H'
theorem ok_sizes (T : Txt K mg a) : FnOk P wo K mg base CX0 2 a.f_sizes a.d_sizes ["_law_script", "_law_k"] (spSizes K) := by
  have G_cell_at : FnOk P wo K mg base CX0 1 _ _ _ _ := ok_cell_at T
  refine T.F_sizes.ok (k := 1) sc_sizes (fun vs H Q E h => ?_) (fun cdv A outer s H vs Q E hr h => ?_)
  · obtain ⟨sa, ns, k, rfl, _⟩ := h
    rfl
  · obtain ⟨sa, ns, k, rfl, hS, hk, q⟩ := h
    refine ⟨_, (pss_cons (ps_set (i := 2) sc_sizes.nd rfl (Or.inl rfl) (pe_op op_add pe_int (pe_op op_mod (pe_call G_cell_at (hr.mono (by decide)) rfl T.m_cell_at T.k_cell_at T.b_cell_at .nil pass0 (pa_cons (pv 0) (pa_cons (pv 1) pa_nil))) pe_int)))
      (pss_cons (ps_set (i := 3) sc_sizes.nd rfl (Or.inl rfl) (pe_op op_add pe_int (pe_op op_mod (pe_call G_cell_at (hr.mono (by decide)) rfl T.m_cell_at T.k_cell_at T.b_cell_at .nil pass0 (pa_cons (pv 0) (pa_cons (pe_op op_add (pv 1) pe_int) pa_nil))) pe_int)))
      (pss_one (ps_ret (pe_lst (pa_cons (pv 2) (pa_cons (pv 3) (pa_cons (pe_op op_add pe_int (pe_op op_mod (pe_call G_cell_at (hr.mono (by decide)) rfl T.m_cell_at T.k_cell_at T.b_cell_at .nil pass0 (pa_cons (pv 0) (pa_cons (pe_op op_add (pv 1) pe_int) pa_nil))) pe_int)) pa_nil)))))))), ?_⟩
    obtain ⟨x, hx, ex⟩ := modN (cell ns k) (n := 7) (by decide)
    obtain ⟨y, hy, ey⟩ := modN (cell ns (k + 1)) (n := 32) (by decide)
    obtain ⟨z, hz, ez⟩ := modN (cell ns (k + 2)) (n := 8) (by decide)
    have e1 : (2 : Int) + cell ns k % 7 = ((2 + x : Nat) : Int) := by
      have : cell ns k % 7 = (x : Int) := ex
      omega
    have e2 : (1 : Int) + cell ns (k + 1) % 32 = ((1 + y : Nat) : Int) := by
      have : cell ns (k + 1) % 32 = (y : Int) := ey
      omega
    have e3 : (1 : Int) + cell ns (k + 2) % 8 = ((1 + z : Nat) : Int) := by
      have : cell ns (k + 2) % 8 = (z : Int) := ez
      omega
    have ek1 : (k : Int) + 1 = ((k + 1 : Nat) : Int) := by omega
    have ek2 : (k : Int) + 2 = ((k + 2 : Nat) : Int) := by omega
    refine ⟨_, rfl, _, rfl, sa, ns, k, rfl, hS, _, _, rfl, rfl, p0 (by decide), _, _, rfl, rfl, ?_⟩
    try dsimp only
    rw [e1]
    refine ⟨_, rfl, _, rfl, _, _, rfl, rfl, ?_⟩
    try dsimp only
    rw [ek1]
    refine ⟨sa, ns, k + 1, rfl, hS, _, _, rfl, rfl, p0 (by decide), _, _, rfl, rfl, ?_⟩
    try dsimp only
    rw [e2]
    refine ⟨_, rfl, _, rfl, _, rfl, _, rfl, _, _, rfl, rfl, ?_⟩
    try dsimp only
    rw [ek2]
    refine ⟨sa, ns, k + 2, rfl, hS, _, _, rfl, rfl, p0 (by decide), _, _, rfl, rfl, ?_⟩
    try dsimp only
    rw [e3]
    refine ⟨(show 3 ≤ sizeLine by decide), fun D nD => ?_⟩
    exact q D (2 + x) (1 + y) (1 + z) _ nD (Same.new nD) upd_same (by omega) (by omega) (by omega) (by omega) (by omega) (by omega)
def spSized (a : Adr) : Sp := fun vs H Q _ => ∃ (R : Rk) (left : Option Int) (gone : Bool) (e : Nat) (X : Nat → Nat → Option Int) (sz : Addr), vs = [.ref R.rk, .ref sz] ∧ RackAt a H R left gone e X ∧ H sz = some (.lst [.int R.P, .int R.S, .int R.L]) ∧ Q (.bl true) H
theorem ok_sized (T : Txt K mg a) : FnOk P wo K mg base CX0 2 a.f_sized a.d_sized ["_law_rack", "_law_sizes_here"] (spSized a) := by
  have G_same : FnOk P wo K mg base CX0 1 _ _ _ _ := ok_same T
  refine T.F_sized.ok (k := 1) sc_sized (fun vs H Q E h => ?_) (fun cdv A outer s H vs Q E hr h => ?_)
  · obtain ⟨R, left, gone, e, X, sz, rfl, _⟩ := h
    rfl
  · obtain ⟨R, left, gone, e, X, sz, rfl, hR, hs, q⟩ := h
    obtain ⟨dx, h1⟩ := id hR.ins
    refine ⟨_, (pss_cons (ps_if (PW.pt (pw_or (pt_not (pt_val (pe_call G_same (hr.mono (by decide)) rfl T.m_same T.k_same T.b_same .nil pass0 (pa_cons (pe_fld (pv 0) rfl) (pa_cons (pe_ix ix_list (pv 1) pe_int (fun _ _ => rfl)) pa_nil))))) (pw_or1 (pt_not (pt_val (pe_call G_same (hr.mono (by decide)) rfl T.m_same T.k_same T.b_same .nil pass0 (pa_cons (pe_fld (pv 0) rfl) (pa_cons (pe_ix ix_list (pv 1) pe_int (fun _ _ => rfl)) pa_nil)))))))) (pss_one (ps_ret pe_bl)) pss_nil)
      (pss_one (ps_ret (pe_call G_same (hr.mono (by decide)) rfl T.m_same T.k_same T.b_same .nil pass0 (pa_cons (pe_fld (pv 0) rfl) (pa_cons (pe_ix ix_list (pv 1) pe_int (fun _ _ => rfl)) pa_nil)))))), ?_⟩
    refine ⟨_, rfl, R.rk, _, _, _, _, rfl, h1, T.cl_Rack, T.no_Rack_planks, rf_planks R left gone, _, rfl, sz, _, _, _, rfl, rfl, SqL.of hs, atI_nat (j := 0) rfl, some (R.P : Int), rfl, _, rfl, ?_⟩
    refine ite2 (fun z => absurd z (by decide)) (fun _ => ?_)
    refine ⟨_, rfl, R.rk, _, _, _, _, rfl, h1, T.cl_Rack, T.no_Rack_stripes, rf_stripes R left gone, _, rfl, sz, _, _, _, rfl, rfl, SqL.of hs, atI_nat (j := 1) rfl, some (R.S : Int), rfl, _, rfl, ?_⟩
    refine ite2 (fun z => absurd z (by decide)) (fun _ => ?_)
    exact ⟨_, rfl, R.rk, _, _, _, _, rfl, h1, T.cl_Rack, T.no_Rack_slots, rf_slots R left gone, _, rfl, sz, _, _, _, rfl, rfl, SqL.of hs, atI_nat (j := 2) rfl, some (R.L : Int), rfl, q⟩
end

/-- a dict that knows what a rack holds -/
def Knows (R : Rk) (kvs : List (List Key × V)) (X : Nat → Nat → Option Int) : Prop := ∀ i j : Nat, i < R.P → j < R.S → (valV kvs [Sum.inl (i : Int), Sum.inl (j : Int)]).getD (.int 0) = ov (X i j)
theorem Knows.put {R : Rk} {kvs : List (List Key × V)} {X : Nat → Nat → Option Int} (h : Knows R kvs X) (i j : Nat) (o : Option Int) : Knows R (putK kvs [Sum.inl (i : Int), Sum.inl (j : Int)] (ov o)) (setX X i j o) := fun i' j' hi hj => by
  rw [valV_put]
  unfold setX
  by_cases y : i' = i ∧ j' = j
  · obtain ⟨rfl, rfl⟩ := y
    rw [if_pos rfl, if_pos ⟨rfl, rfl⟩]
    rfl
  · rw [if_neg y, if_neg (fun z => ?_)]
    · exact h i' j' hi hj
    · injection z with z1 z2
      injection z2 with z2 z3
      have z1 := Sum.inl.inj z1
      have z2 := Sum.inl.inj z2
      exact y ⟨by omega, by omega⟩
section
variable {P : Program} {wo : World} {K : PySem.W.Frag} {mg : Str → Option Value} {base : Heap} {a : Adr}
def spAll (a : Adr) : Sp := fun vs H Q _ => ∃ (R : Rk) (e : Nat) (X : Nat → Nat → Option Int) (sz kd : Addr) (kvs : List (List Key × V)), vs = [.ref R.rk, .ref sz, .ref kd] ∧ RackAt a H R none false e X ∧ e ≤ 5000 ∧ H sz = some (.lst [.int R.P, .int R.S, .int R.L]) ∧ sz ≠ R.dn ∧ H kd = some (.dT kvs) ∧ Knows R kvs X ∧ ∀ H', KB [R.dn] H H' → Q (.bl true) H'
theorem ok_all (T : Txt K mg a) : FnOk P wo K mg base CX0 4 a.f_all a.d_all ["_law_rack", "_law_sizes_here", "_law_known"] (spAll a) := by
  have G_same : FnOk P wo K mg base CX0 3 _ _ _ _ := (ok_same T).mono (by decide)
  have G_Rack_peek : FnOk P wo K mg base CX0 3 _ _ _ _ := ok_Rack_peek T
  have G_Rack_look : FnOk P wo K mg base CX0 3 _ _ _ _ := ok_Rack_look T
  refine T.F_all.ok (k := 3) sc_all (fun vs H Q E h => ?_) (fun cdv A outer s H vs Q E hr h => ?_)
  · obtain ⟨R, e, X, sz, kd, kvs, rfl, _⟩ := h
    rfl
  · obtain ⟨R, e, X, sz, kd, kvs, rfl, hR, he, hsz, nsz, hkd, hK, q⟩ := h
    have p8 := hR.p8
    have s32 := hR.s32
    obtain ⟨ds0, hds0, _⟩ := id hR.dn
    have nkd : kd ≠ R.dn := fun z => by rw [z, hds0] at hkd; cases hkd
    have mem1 : ∀ b : Addr, b ≠ R.dn → b ∉ [R.dn] := fun b n z => n (List.mem_singleton.mp z)
    refine ⟨_, (pss_cons (ps_for PassesOwn.never rfl (pi_range1 rfl T.n_range (pa_cons (pe_ix ix_list (pv 1) pe_int (fun _ _ => rfl)) pa_nil)) (pg_name (i := 3) sc_all.nd rfl (Or.inl rfl)) (pss_one (ps_for PassesOwn.never rfl (pi_range1 rfl T.n_range (pa_cons (pe_ix ix_list (pv 1) pe_int (fun _ _ => rfl)) pa_nil)) (pg_name (i := 4) sc_all.nd rfl (Or.inl rfl)) (pss_cons (ps_set (i := 5) sc_all.nd rfl (Or.inl rfl) (pe_dget2 (hu_of hr) (pv 2) (pe_tup (pa_cons (pv 3) (pa_cons (pv 4) pa_nil))) pe_int ⟨rfl, rfl, rfl, rfl⟩))
      (pss_cons (ps_if (pt_not (pt_val (pe_call G_same (hr.mono (by decide)) rfl T.m_same T.k_same T.b_same .nil pass0 (pa_cons (pe_meth (pv 0) T.cl_Rack T.me_Rack_peek G_Rack_peek (hr.mono (by decide)) T.b_Rack_peek .nil pass0 (pa_cons (pv 3) (pa_cons (pv 4) pa_nil))) (pa_cons (pv 5) pa_nil))))) (pss_one (ps_ret pe_bl)) pss_nil)
      (pss_one (ps_if (pt_not (pt_val (pe_call G_same (hr.mono (by decide)) rfl T.m_same T.k_same T.b_same .nil pass0 (pa_cons (pe_meth (pv 0) T.cl_Rack T.me_Rack_look G_Rack_look (hr.mono (by decide)) T.b_Rack_look .nil pass0 (pa_cons (pv 3) (pa_cons (pv 4) pa_nil))) (pa_cons (pv 5) pa_nil))))) (pss_one (ps_ret pe_bl)) pss_nil)))))))
      (pss_one (ps_ret pe_bl))), ?_⟩
    refine ⟨_, rfl, sz, _, _, _, rfl, rfl, SqL.of hsz, atI_nat (j := 0) rfl, _, rfl, by omega, by omega, ?_⟩
    rw [Int.toNat_natCast]
    refine for_range (lo := 0) (n := R.P) (fun i σ H' => (∃ v3 v4 v5 : Option V, σ = [some (.ref R.rk), some (.ref sz), some (.ref kd), v3, v4, v5]) ∧ KB [R.dn] H H' ∧ RackAt a H' R none false (e + i * R.S) X) ⟨⟨none, none, none, rfl⟩, KB.refl _ _, by rw [Nat.zero_mul, Nat.add_zero]; exact hR⟩ ?_ ?_
    · rintro i σ H1 hi ⟨⟨v3, v4, v5, rfl⟩, k1, hR1⟩
      have ei : (0 : Int) + (i : Nat) = ((i : Nat) : Int) := by omega
      rw [ei]
      refine ⟨_, rfl, sz, _, _, _, rfl, rfl, SqL.of (k1 _ _ (mem1 _ nsz) hsz), atI_nat (j := 1) rfl, _, rfl, by omega, by omega, ?_⟩
      rw [Int.toNat_natCast]
      have hb : e + i * R.S + R.S ≤ 5300 := by
        have : i * R.S ≤ 7 * 32 := Nat.mul_le_mul (by omega) s32
        omega
      refine for_range (lo := 0) (n := R.S) (fun j σ H' => (∃ v4 v5 : Option V, σ = [some (.ref R.rk), some (.ref sz), some (.ref kd), some (.int i), v4, v5]) ∧ KB [R.dn] H H' ∧ RackAt a H' R none false (e + i * R.S + j) X) ⟨⟨v4, v5, rfl⟩, k1, hR1⟩ ?_ ?_
      · rintro j σ H2 hj ⟨⟨v4, v5, rfl⟩, k2, hR2⟩
        have ej : (0 : Int) + (j : Nat) = ((j : Nat) : Int) := by omega
        rw [ej]
        have hkd2 := k2 _ _ (mem1 _ nkd) hkd
        try dsimp only [L2.start, List.set, List.map, List.append, List.replicate, HAppend.hAppend, Append.append, List.length, Nat.reduceAdd, Nat.reduceSub]
        refine ⟨_, rfl, kd, rfl, .inr ⟨_, .inl hkd2⟩, _, rfl, _, rfl, (show 2 ≤ sizeLine by decide), fun tp ntp => ?_⟩
        have st := Same.new (o := .tup [V.int (i : Int), V.int (j : Int)]) ntp
        refine ⟨_, DGet.t (k := [Sum.inl (i : Int), Sum.inl (j : Int)]) (st _ _ hkd2) upd_same, ?_⟩
        rw [hK i j hi hj]
        generalize (upd H2 tp (.tup [V.int (i : Int), V.int (j : Int)])) = H3 at st
        have hR3 := hR2.same st
        obtain ⟨dx, h1⟩ := id hR3.ins
        try dsimp only [L2.start, List.set, List.map, List.append, List.replicate, HAppend.hAppend, Append.append, List.length, Nat.reduceAdd, Nat.reduceSub]
        refine ⟨_, rfl, R.rk, dx, _, rfl, h1, rfl, _, rfl, _, rfl, R, none, false, _, i, j, X, rfl, hR3, hi, hj, _, rfl, X i j, rfl, _, rfl, ?_⟩
        refine ite2 (fun z => absurd z (by decide)) (fun _ => ?_)
        refine ⟨_, rfl, R.rk, dx, _, rfl, h1, rfl, _, rfl, _, rfl, R, none, _, i, j, X, rfl, hR3, by omega, hi, hj, fun H4 k4 hR4 => ⟨_, rfl, X i j, rfl, _, rfl, ?_⟩⟩
        exact ite2 (fun z => absurd z (by decide)) (fun _ => ⟨⟨_, _, rfl⟩, (k2.same st).trans k4, hR4⟩)
      · rintro σ H2 ⟨⟨v4, v5, rfl⟩, k2, hR2⟩
        refine ⟨⟨_, _, _, rfl⟩, k2, ?_⟩
        have : e + i * R.S + R.S = e + (i + 1) * R.S := by rw [Nat.succ_mul]; omega
        rw [← this]
        exact hR2
    · rintro σ H1 ⟨⟨v3, v4, v5, rfl⟩, k1, hR1⟩
      exact q _ k1
end

/-! ### two racks and what is known of them -/
def At32 (a : Adr) (R : Nat → Rk) (d : Nat → Addr) (n t : Nat) (H : Hp) : Prop := ∃ (e : Nat) (X : Nat → Nat → Option Int) (kvs : List (List Key × V)), RackAt a H (R t) none false e X ∧ e ≤ n ∧ H (d t) = some (.dT kvs) ∧ kvs.length ≤ n ∧ Knows (R t) kvs X
structure Fix32 (H3 : Hp) (RL KL : Addr) (R : Nat → Rk) (d : Nat → Addr) : Prop where
  fr : ∀ t, t < 2 → ∀ b ∈ (R t).lists, H3 b = none ∧ b ≠ RL ∧ b ≠ KL
  fd : ∀ t, t < 2 → H3 (d t) = none
  dis : ∀ t u, t < 2 → u < 2 → t ≠ u → ∀ b ∈ (R t).lists, b ∉ (R u).lists
  dd : ∀ t u, t < 2 → u < 2 → t ≠ u → d t ≠ d u
structure Run32 (a : Adr) (H3 : Hp) (RL KL : Addr) (R : Nat → Rk) (d : Nat → Addr) (lo n : Nat) (H : Hp) : Prop where
  sm : Same H3 H
  rl : H RL = some (.lst [.ref (R 0).rk, .ref (R 1).rk])
  kl : H KL = some (.lst [.ref (d 0), .ref (d 1)])
  at_ : ∀ t, lo ≤ t → t < 2 → At32 a R d n t H
theorem Run32.same {a : Adr} {H3 H H' : Hp} {RL KL : Addr} {R : Nat → Rk} {d : Nat → Addr} {lo n : Nat} (r : Run32 a H3 RL KL R d lo n H) (s : Same H H') : Run32 a H3 RL KL R d lo n H' where
  sm := r.sm.trans s
  rl := s _ _ r.rl
  kl := s _ _ r.kl
  at_ t h1 h2 := by
    obtain ⟨e, X, kvs, hR, he, hd, hl, hk⟩ := r.at_ t h1 h2
    exact ⟨e, X, kvs, hR.same s, he, s _ _ hd, hl, hk⟩
theorem Run32.step {a : Adr} {H3 H H' : Hp} {RL KL : Addr} {R : Nat → Rk} {d : Nat → Addr} {lo lo' n n' t : Nat} {ms : List Addr} (F : Fix32 H3 RL KL R d) (r : Run32 a H3 RL KL R d lo n H) (ht : t < 2) (hlo : lo ≤ t) (kb : KB ms H H') (hms : ∀ b ∈ ms, b ∈ (R t).lists ∨ b = d t) (new : lo' ≤ t → At32 a R d n' t H') (hl : lo ≤ lo') (hn : n ≤ n') : Run32 a H3 RL KL R d lo' n' H' := by
  obtain ⟨e, X, kvs, hR, he, hd, _, hk⟩ := r.at_ t hlo ht
  have cls : ∀ b ∈ ms, (∃ xs, H b = some (.lst xs)) ∨ H b = some (.dT kvs) := fun b hb => by
    rcases hms b hb with y | y
    · exact .inl (hR.isLst y)
    · exact .inr (by rw [y]; exact hd)
  refine ⟨fun b o e => kb b o (fun z => ?_) (r.sm _ _ e), kb _ _ (fun z => ?_) r.rl, kb _ _ (fun z => ?_) r.kl, fun u hu hu2 => ?_⟩
  · rcases hms b z with y | y
    · rw [(F.fr t ht b y).1] at e; cases e
    · rw [y, F.fd t ht] at e; cases e
  · rcases hms _ z with y | y
    · exact (F.fr t ht _ y).2.1 rfl
    · have := r.rl
      rw [y, hd] at this
      cases this
  · rcases hms _ z with y | y
    · exact (F.fr t ht _ y).2.2 rfl
    · have := r.kl
      rw [y, hd] at this
      cases this
  · by_cases y : u = t
    · subst y
      exact new hu
    · obtain ⟨e2, X2, kvs2, hR2, he2, hd2, hl2, hk2⟩ := r.at_ u (Nat.le_trans hl hu) hu2
      refine ⟨e2, X2, kvs2, hR2.keep kb (fun b hb C dx fs z => ?_) (fun b hb z => ?_), by omega, kb _ _ (fun z => ?_) hd2, by omega, hk2⟩
      · rcases cls b hb with ⟨xs, w⟩ | w
        · rw [w] at z; cases z
        · rw [w] at z; cases z
      · rcases hms b z with w | w
        · exact F.dis u t hu2 ht y b hb w
        · obtain ⟨xs, v⟩ := hR2.isLst hb
          rw [w, hd] at v
          cases v
      · rcases hms _ z with w | w
        · obtain ⟨xs, v⟩ := hR.isLst w
          rw [hd2] at v
          cases v
        · exact F.dd u t hu2 ht y w
theorem joinV {F : V → Hp → Prop} {G : Prop} (Pz : V → Hp → Prop) (h : (∀ v H, Pz v H → F v H) → G) (key : ∀ v H, Pz v H → F v H) : G := h key
theorem joinI {F : Int → Hp → Prop} {G : Prop} (Pz : Int → Hp → Prop) (h : (∀ v H, Pz v H → F v H) → G) (key : ∀ v H, Pz v H → F v H) : G := h key
theorem iteR {c : Bool} {A B : Prop} (hf : ¬ c = true → B) (ht : c = true → A) : if c = true then A else B := by
  by_cases h : c = true
  · rw [if_pos h]; exact ht h
  · rw [if_neg h]; exact hf h
theorem putK_len {κ : Type} [DecidableEq κ] (kvs : List (κ × V)) (k : κ) (v : V) : (putK kvs k v).length ≤ kvs.length + 1 := by
  unfold putK
  split
  · rw [List.length_map]; omega
  · rw [List.length_append]; exact Nat.le_refl _

section
variable {P : Program} {wo : World} {K : PySem.W.Frag} {mg : Str → Option Value} {base : Heap} {a : Adr}
def spLaw (K : PySem.W.Frag) : Sp := fun vs H Q _ => ∃ (s : Addr) (ns : List Int), vs = [.ref s] ∧ SqL K H s (ns.map V.int) ∧ ns.length ≤ 63 ∧ ∀ H', Q (.bl true) H'
set_option maxHeartbeats 8000000 in
theorem ok_law (T : Txt K mg a) : FnOk P wo K mg base CX0 6 a.f_law a.d_law ["_law_script"] (spLaw K) := by
  have G_mixed : FnOk P wo K mg base CX0 5 _ _ _ _ := (ok_mixed T).mono (by decide)
  have G_block : FnOk P wo K mg base CX0 5 _ _ _ _ := (ok_block T).mono (by decide)
  have G_same : FnOk P wo K mg base CX0 5 _ _ _ _ := (ok_same T).mono (by decide)
  have G_sizes : FnOk P wo K mg base CX0 5 _ _ _ _ := (ok_sizes T).mono (by decide)
  have G_sized : FnOk P wo K mg base CX0 5 _ _ _ _ := (ok_sized T).mono (by decide)
  have G_all : FnOk P wo K mg base CX0 5 _ _ _ _ := (ok_all T).mono (by decide)
  have G_Rack_init : FnOk P wo K mg base CX0 4 _ _ _ _ := (ok_Rack_init T).mono (by decide)
  have G_Rack_peek : FnOk P wo K mg base CX0 5 _ _ _ _ := (ok_Rack_peek T).mono (by decide)
  have G_Rack_look : FnOk P wo K mg base CX0 5 _ _ _ _ := (ok_Rack_look T).mono (by decide)
  have G_Rack_lay : FnOk P wo K mg base CX0 5 _ _ _ _ := (ok_Rack_lay T).mono (by decide)
  refine T.F_law.ok (k := 5) sc_law (fun vs H Q E h => ?_) (fun cdv A outer s H vs Q E hr h => ?_)
  · obtain ⟨sa, ns, rfl, _⟩ := h
    rfl
  · obtain ⟨sa, ns, rfl, hS, hn0, q⟩ := h
    refine ⟨_, (pss_cons (ps_set (i := 1) sc_law.nd rfl (Or.inl rfl) (pe_lst (pa_cons (pe_call G_sizes (hr.mono (by decide)) rfl T.m_sizes T.k_sizes T.b_sizes .nil pass0 (pa_cons (pv 0) (pa_cons pe_int pa_nil))) (pa_cons (pe_call G_sizes (hr.mono (by decide)) rfl T.m_sizes T.k_sizes T.b_sizes .nil pass0 (pa_cons (pv 0) (pa_cons pe_int pa_nil))) pa_nil))))
      (pss_cons (ps_setC (i := 2) sc_law.nd rfl (Or.inl rfl) (CompOk.of (cap := []) (own := ["_law_row"]) (by kernel_rfl)) rfl (pi_list (pv 1)) (fun _ _ _ _ _ => (pg_name (i := 0) (of_decide_eq_true (by kernel_rfl)) rfl (Or.inl rfl))) (fun _ _ _ _ _ => pts_nil) (fun _ _ _ _ _ => by exact (pe_make T.mk_Rack G_Rack_init (hr.mono (by decide)) rfl T.m_Rack T.b_Rack_init .nil pass0 (pa_cons (pe_ix (ix_listK (K := K) rfl) (pv 0) pe_int (fun _ _ => rfl)) (pa_cons (pe_ix (ix_listK (K := K) rfl) (pv 0) pe_int (fun _ _ => rfl)) (pa_cons (pe_ix (ix_listK (K := K) rfl) (pv 0) pe_int (fun _ _ => rfl)) pa_nil))))))
      (pss_cons (ps_set (i := 3) sc_law.nd rfl (Or.inl rfl) (pe_lst (pa_cons pe_dnewT (pa_cons pe_dnewT pa_nil))))
      (pss_cons (ps_for PassesOwn.never rfl (pi_range2 rfl T.n_range (pa_cons pe_int (pa_cons (pe_callB (call_min2 rfl) rfl T.n_min boot_min (pa_cons (pe_callB call_len_seq rfl T.n_len PySem.boot_len (pa_cons (pv 0) pa_nil)) (pa_cons pe_int pa_nil))) pa_nil))) (pg_name (i := 4) sc_law.nd rfl (Or.inl rfl)) (pss_cons (ps_set (i := 5) sc_law.nd rfl (Or.inl rfl) (pe_call G_mixed (hr.mono (by decide)) rfl T.m_mixed T.k_mixed T.b_mixed .nil pass0 (pa_cons (pe_ix ix_list (pv 0) (pv 4) (fun _ _ => rfl)) (pa_cons (pv 4) pa_nil))))
      (pss_cons (ps_set (i := 6) sc_law.nd rfl (Or.inl rfl) (pe_op op_mod (pv 5) pe_int))
      (pss_cons (ps_set (i := 7) sc_law.nd rfl (Or.inl rfl) (pe_op op_mod (pe_op op_fdiv (pv 5) pe_int) pe_int))
      (pss_cons (ps_set (i := 8) sc_law.nd rfl (Or.inl rfl) (pe_op op_mod (pe_op op_fdiv (pv 5) pe_int) (pe_ix ix_list (pe_ix ix_list (pv 1) (pv 6) (fun _ _ => rfl)) pe_int (fun _ _ => rfl))))
      (pss_cons (ps_set (i := 9) sc_law.nd rfl (Or.inl rfl) (pe_op op_mod (pe_op op_fdiv (pv 5) pe_int) (pe_ix ix_list (pe_ix ix_list (pv 1) (pv 6) (fun _ _ => rfl)) pe_int (fun _ _ => rfl))))
      (pss_cons (ps_set (i := 10) sc_law.nd rfl (Or.inl rfl) (pe_dget2 (hu_of hr) (pe_ix ix_list (pv 3) (pv 6) (fun _ _ => rfl)) (pe_tup (pa_cons (pv 8) (pa_cons (pv 9) pa_nil))) pe_int ⟨rfl, rfl, rfl, rfl⟩))
      (pss_one (ps_if (pt_cmpR op_eq (pv 7) pe_int (nomark _)) (pss_cons (ps_set (i := 11) sc_law.nd rfl (Or.inl rfl) (pe_call G_block (hr.mono (by decide)) rfl T.m_block T.k_block T.b_block .nil pass0 (pa_cons (pv 5) pa_nil)))
      (pss_cons (ps_if (pt_cmpR op_eq (pe_op op_mod (pe_op op_fdiv (pv 5) pe_int) pe_int) pe_int (nomark _)) (pss_one (ps_set (i := 11) sc_law.nd rfl (Or.inl rfl) (pe_op op_sub pe_int (pv 11)))) pss_nil)
      (pss_cons (ps_if (pt_cmpR op_eq (pe_op op_mod (pe_op op_fdiv (pv 5) pe_int) pe_int) pe_int (nomark _)) (pss_one (ps_set (i := 11) sc_law.nd rfl (Or.inl rfl) (pe_op op_add (pv 11) (pe_op op_pow pe_int pe_int)))) pss_nil)
      (pss_cons (ps_if (pt_cmpR op_gt (pe_op op_mod (pe_op op_fdiv (pv 5) pe_int) pe_int) pe_int (nomark _)) (pss_one (ps_set (i := 11) sc_law.nd rfl (Or.inl rfl) pe_non)) pss_nil)
      (pss_cons (ps_expr (pe_meth (pe_ix ix_list (pv 2) (pv 6) (fun _ _ => rfl)) T.cl_Rack T.me_Rack_lay G_Rack_lay (hr.mono (by decide)) T.b_Rack_lay .nil pass0 (pa_cons (pv 8) (pa_cons (pv 9) (pa_cons (pv 11) pa_nil)))))
      (pss_one (ps_dput (hu_of hr) (pe_ix ix_list (pv 3) (pv 6) (fun _ _ => rfl)) (pe_tup (pa_cons (pv 8) (pa_cons (pv 9) pa_nil))) (pv 11) rfl))))))) (pss_one (ps_if (PW.pt (pw_and (pt_cmpR op_eq (pv 7) pe_int (nomark _)) (pw_and1 (pt_not (pt_val (pe_call G_same (hr.mono (by decide)) rfl T.m_same T.k_same T.b_same .nil pass0 (pa_cons (pe_meth (pe_ix ix_list (pv 2) (pv 6) (fun _ _ => rfl)) T.cl_Rack T.me_Rack_look G_Rack_look (hr.mono (by decide)) T.b_Rack_look .nil pass0 (pa_cons (pv 8) (pa_cons (pv 9) pa_nil))) (pa_cons (pv 10) pa_nil)))))))) (pss_one (ps_ret pe_bl)) (pss_one (ps_if (PW.pt (pw_and (pt_cmpR op_eq (pv 7) pe_int (nomark _)) (pw_and1 (pt_not (pt_val (pe_call G_same (hr.mono (by decide)) rfl T.m_same T.k_same T.b_same .nil pass0 (pa_cons (pe_meth (pe_ix ix_list (pv 2) (pv 6) (fun _ _ => rfl)) T.cl_Rack T.me_Rack_peek G_Rack_peek (hr.mono (by decide)) T.b_Rack_peek .nil pass0 (pa_cons (pv 8) (pa_cons (pv 9) pa_nil))) (pa_cons (pv 10) pa_nil)))))))) (pss_one (ps_ret pe_bl)) pss_nil)))))))))))))
      (pss_cons (ps_for PassesOwn.never rfl (pi_range1 rfl T.n_range (pa_cons pe_int pa_nil)) (pg_name (i := 6) sc_law.nd rfl (Or.inl rfl)) (pss_one (ps_if (PW.pt (pw_or (pt_not (pt_val (pe_call G_sized (hr.mono (by decide)) rfl T.m_sized T.k_sized T.b_sized .nil pass0 (pa_cons (pe_ix ix_list (pv 2) (pv 6) (fun _ _ => rfl)) (pa_cons (pe_ix ix_list (pv 1) (pv 6) (fun _ _ => rfl)) pa_nil))))) (pw_or1 (pt_not (pt_val (pe_call G_all (hr.mono (by decide)) rfl T.m_all T.k_all T.b_all .nil pass0 (pa_cons (pe_ix ix_list (pv 2) (pv 6) (fun _ _ => rfl)) (pa_cons (pe_ix ix_list (pv 1) (pv 6) (fun _ _ => rfl)) (pa_cons (pe_ix ix_list (pv 3) (pv 6) (fun _ _ => rfl)) pa_nil))))))))) (pss_one (ps_ret pe_bl)) pss_nil)))
      (pss_one (ps_ret pe_bl))))))), ?_⟩
    refine ⟨_, rfl, sa, ns, 0, rfl, hS, by decide, fun z0 pA tA lA H1 nz0 s1 hz0 a1 a2 a3 a4 a5 a6 => ?_⟩
    refine ⟨_, rfl, sa, ns, 3, rfl, s1.seq hS, by decide, fun z1 pB tB lB H2 nz1 s2 hz1 b1 b2 b3 b4 b5 b6 => ?_⟩
    refine ⟨(show 2 ≤ sizeLine by decide), fun SL nSL => ?_⟩
    have s3 := Same.new (o := .lst [V.ref z0, V.ref z1]) nSL
    have hSL : (upd H2 SL (.lst [V.ref z0, V.ref z1])) SL = some (.lst [V.ref z0, V.ref z1]) := upd_same
    have hz0' := s3 _ _ (s2 _ _ hz0)
    have hz1' := s3 _ _ hz1
    have hS3 := s3.seq (s2.seq (s1.seq hS))
    generalize (upd H2 SL (.lst [V.ref z0, V.ref z1])) = H3 at s3 hSL hz0' hz1' hS3
    have hzz : ∀ (i : Nat) v, ([V.ref z0, V.ref z1] : List V)[i]? = some v → ∃ (z : Addr) (p t l : Nat), v = .ref z ∧ [z0, z1][i]? = some z ∧ H3 z = some (.lst [.int p, .int t, .int l]) ∧ 2 ≤ p ∧ p ≤ 8 ∧ 1 ≤ t ∧ t ≤ 32 ∧ 1 ≤ l ∧ l ≤ 8 := fun i v hv => by
      match i, hv with
      | 0, hv => exact ⟨z0, pA, tA, lA, (Option.some.inj hv).symm, rfl, hz0', a1, a2, a3, a4, a5, a6⟩
      | 1, hv => exact ⟨z1, pB, tB, lB, (Option.some.inj hv).symm, rfl, hz1', b1, b2, b3, b4, b5, b6⟩
    clear hz0 hz1 hz0' hz1' nz0 nz1 a1 a2 a3 a4 a5 a6 b1 b2 b3 b4 b5 b6
    try dsimp only [L2.start, List.set, List.map, List.append, List.replicate, HAppend.hAppend, Append.append, List.length, Nat.reduceAdd, Nat.reduceSub]
    -- racks
    refine ⟨_, rfl, SL, rfl, ⟨_, SqL.of hSL⟩, fun RL nRL => ?_⟩
    refine comp_invL (xs := [V.ref z0, V.ref z1]) (cs := []) (fun i ys H => ∃ Rs : List Rk, ys = Rs.map (fun R => V.ref R.rk) ∧ Rs.length = i ∧ (∀ (n : Nat) R, Rs[n]? = some R → RackAt a H R none false 0 (fun _ _ => some 0) ∧ 2 ≤ R.P ∧ 1 ≤ R.S ∧ ∃ z, [z0, z1][n]? = some z ∧ H3 z = some (.lst [.int R.P, .int R.S, .int R.L])) ∧ (∀ R ∈ Rs, ∀ b ∈ R.lists, H3 b = none ∧ b ≠ RL) ∧ Rs.Pairwise (fun R R' => ∀ b ∈ R.lists, b ∉ R'.lists)) (SqL.of hSL) nRL rfl (show 2 ≤ sizeLine by decide) (fun H4 _ => ⟨[], rfl, rfl, (fun n R e => by rw [List.getElem?_nil] at e; cases e), (fun R hR => absurd hR List.not_mem_nil), List.Pairwise.nil⟩) (fun i v ys H4 R4 hv s4 hD4 z4 hR4 => ?_) (fun ys H4 s4 hRL z4 => ?_)
    · obtain ⟨z, p, t, l, rfl, ez, hz, c1, c2, c3, c4, c5, c6⟩ := hzz i v hv
      obtain ⟨Rs, rfl, lR, hRs, fRs, dRs⟩ := z4
      have hz4 := s4 _ _ hz
      refine ⟨_, rfl, z, _, _, _, rfl, rfl, SqL.of hz4, atI_nat (j := 0) rfl, _, rfl, z, _, _, _, rfl, rfl, SqL.of hz4, atI_nat (j := 1) rfl, _, rfl, z, _, _, _, rfl, rfl, SqL.of hz4, atI_nat (j := 2) rfl, fun x dx nx ndx nex => ?_⟩
      have sx : Same H4 (upd (upd H4 dx (.own x)) x (.ins a.C_Rack dx [])) := fun y o e => by
        rw [upd_ne (ne_of_none e nx), upd_ne (ne_of_none e ndx)]
        exact e
      refine ⟨x, dx, p, t, l, rfl, upd_same, c1, c2, c3, c4, c5, c6, fun R H5 e1 e2 e3 e4 k5 hR fR => ⟨rfl, ?_⟩⟩
      subst e1 e2 e3 e4
      have s45 : Same H4 H5 := fun y o e => k5 _ _ (ne_of_none e nx) (sx _ _ e)
      have fR4 : ∀ b ∈ R.lists, H4 b = none := fun b hb => sx.free (fR b hb)
      have fRD : ∀ b ∈ R.lists, b ≠ RL := fun b hb z => by
        have := fR4 b hb
        rw [z, hD4] at this
        cases this
      refine hR4 (.ref R.rk) H5 s45 fun H6 sb => ?_
      have kb : KB [RL] H5 H6 := fun b o n e => sb b o (fun z => n (by rw [z]; exact List.mem_singleton_self _)) e
      have hm : ∀ b ∈ [RL], ∀ C dx fs, H5 b ≠ some (.ins C dx fs) := fun b hb C dx fs z => by
        rw [List.mem_singleton.mp hb, s45 _ _ hD4] at z
        cases z
      refine ⟨Rs ++ [R], by rw [List.map_append]; rfl, by rw [List.length_append, lR]; rfl, fun n R' e => ?_, fun R' hR' b hb => ?_, ?_⟩
      · rw [List.getElem?_append] at e
        split at e
        · obtain ⟨r1, r2, r3, r4⟩ := hRs n R' e
          exact ⟨(r1.same s45).keep kb hm (fun b hb z => (fRs R' (List.mem_of_getElem? e) b hb).2 (List.mem_singleton.mp z)), r2, r3, r4⟩
        · have en : n - Rs.length = 0 := by
            have := (List.getElem?_eq_some_iff.mp e).1
            have : n - Rs.length < 1 := this
            omega
          rw [en] at e
          cases Option.some.inj e
          have eni : n = i := by omega
          exact ⟨hR.keep kb hm (fun b hb z => fRD b hb (List.mem_singleton.mp z)), c1, c3, z, by rw [eni]; exact ez, hz⟩
      · rcases List.mem_append.mp hR' with y | y
        · exact fRs R' y b hb
        · rw [List.mem_singleton.mp y] at hb
          exact ⟨s4.free (fR4 b hb), fRD b hb⟩
      · refine List.pairwise_append.mpr ⟨dRs, List.pairwise_singleton _ _, fun R' hR' R'' hR'' b hb z => ?_⟩
        rw [List.mem_singleton.mp hR''] at z
        obtain ⟨n, hn⟩ := List.getElem?_of_mem hR'
        obtain ⟨xs, w⟩ := (hRs n R' hn).1.isLst hb
        rw [fR4 b z] at w
        cases w
    obtain ⟨Rs, rfl, lR, hRs, fRs, dRs⟩ := z4
    obtain ⟨R0, R1, rfl⟩ : ∃ R0 R1, Rs = [R0, R1] := by
      match Rs, lR with
      | [R0, R1], _ => exact ⟨R0, R1, rfl⟩
    try dsimp only [L2.start, List.set, List.map, List.append, List.replicate, HAppend.hAppend, Append.append, List.length, Nat.reduceAdd, Nat.reduceSub]
    -- known
    refine fun d0 nd0 => ?_
    refine fun d1 nd1 => ⟨(show 2 ≤ sizeLine by decide), fun KL nKL => ?_⟩
    have sd0 := Same.new (o := .dT []) nd0
    have sd1 := Same.new (o := .dT []) nd1
    have sKL := Same.new (o := .lst [V.ref d0, V.ref d1]) nKL
    have sK := sd0.trans (sd1.trans sKL)
    have hKL : (upd (upd (upd H4 d0 (.dT [])) d1 (.dT [])) KL (.lst [V.ref d0, V.ref d1])) KL = some (.lst [V.ref d0, V.ref d1]) := upd_same
    have hd0 : (upd (upd (upd H4 d0 (.dT [])) d1 (.dT [])) KL (.lst [V.ref d0, V.ref d1])) d0 = some (.dT []) := sKL _ _ (sd1 _ _ upd_same)
    have hd1 : (upd (upd (upd H4 d0 (.dT [])) d1 (.dT [])) KL (.lst [V.ref d0, V.ref d1])) d1 = some (.dT []) := sKL _ _ upd_same
    have nd01 : d0 ≠ d1 := fun z => by rw [← z, upd_same] at nd1; cases nd1
    have nd1' : H4 d1 = none := sd0.free nd1
    have nKL4 : H4 KL = none := sd0.free (sd1.free nKL)
    have hRLc := sK _ _ hRL
    generalize (upd (upd (upd H4 d0 (.dT [])) d1 (.dT [])) KL (.lst [V.ref d0, V.ref d1])) = Hc at sK hKL hd0 hd1 hRLc
    obtain ⟨R, hRe⟩ : ∃ R : Nat → Rk, R = fun t => if t = 0 then R0 else R1 := ⟨_, rfl⟩
    obtain ⟨d, hde⟩ : ∃ d : Nat → Addr, d = fun t => if t = 0 then d0 else d1 := ⟨_, rfl⟩
    have eR0 : R 0 = R0 := by rw [hRe]; rfl
    have eR1 : R 1 = R1 := by rw [hRe]; rfl
    have ed0 : d 0 = d0 := by rw [hde]; rfl
    have ed1 : d 1 = d1 := by rw [hde]; rfl
    clear hRe hde
    rw [← ed0] at hd0 hKL nd0 nd01
    rw [← ed1] at hd1 hKL nd1' nd01
    have hRs' : ∀ t, t < 2 → RackAt a H4 (R t) none false 0 (fun _ _ => some 0) ∧ 2 ≤ (R t).P ∧ 1 ≤ (R t).S ∧ ∃ z, ([V.ref z0, V.ref z1] : List V)[t]? = some (.ref z) ∧ H3 z = some (.lst [.int (R t).P, .int (R t).S, .int (R t).L]) := fun t ht => by
      have h2 : t = 0 ∨ t = 1 := by omega
      rcases h2 with rfl | rfl
      · obtain ⟨r1, r2, r3, z, r4, r5⟩ := hRs 0 R0 rfl
        rw [eR0]
        exact ⟨r1, r2, r3, z, by rw [← Option.some.inj r4]; rfl, r5⟩
      · obtain ⟨r1, r2, r3, z, r4, r5⟩ := hRs 1 R1 rfl
        rw [eR1]
        exact ⟨r1, r2, r3, z, by rw [← Option.some.inj r4]; rfl, r5⟩
    have ndd : ∀ t, t < 2 → H4 (d t) = none ∧ Hc (d t) = some (.dT []) := fun t ht => by
      have h2 : t = 0 ∨ t = 1 := by omega
      rcases h2 with rfl | rfl
      · exact ⟨nd0, hd0⟩
      · exact ⟨nd1', hd1⟩
    have dis01 : ∀ b ∈ (R 0).lists, b ∉ (R 1).lists := by
      rw [eR0, eR1]
      exact (List.pairwise_cons.mp dRs).1 R1 (List.mem_singleton_self _)
    have FX : Fix32 H3 RL KL R d := by
      refine ⟨fun t ht b hb => ?_, fun t ht => s4.free (ndd t ht).1, fun t u ht hu ne b hb hb' => ?_, fun t u ht hu ne => ?_⟩
      · have hb4 := (hRs' t ht).1.isLst hb
        have h2 : t = 0 ∨ t = 1 := by omega
        have hf : H3 b = none ∧ b ≠ RL := by
          rcases h2 with rfl | rfl
          · rw [eR0] at hb
            exact fRs R0 List.mem_cons_self b hb
          · rw [eR1] at hb
            exact fRs R1 (List.mem_cons_of_mem _ List.mem_cons_self) b hb
        refine ⟨hf.1, hf.2, fun z => ?_⟩
        obtain ⟨xs, w⟩ := hb4
        rw [z, nKL4] at w
        cases w
      · have h2 : (t = 0 ∧ u = 1) ∨ (t = 1 ∧ u = 0) := by omega
        rcases h2 with ⟨rfl, rfl⟩ | ⟨rfl, rfl⟩
        · exact dis01 b hb hb'
        · exact dis01 b hb' hb
      · have h2 : (t = 0 ∧ u = 1) ∨ (t = 1 ∧ u = 0) := by omega
        rcases h2 with ⟨rfl, rfl⟩ | ⟨rfl, rfl⟩
        · exact nd01
        · exact fun z => nd01 z.symm
    have RN : Run32 a H3 RL KL R d 0 0 Hc := ⟨s4.trans sK, by rw [hRLc, eR0, eR1]; rfl, hKL, fun t _ ht => ⟨0, _, [], (hRs' t ht).1.same sK, Nat.le_refl _, (ndd t ht).2, Nat.le_refl _, fun i j hi hj => rfl⟩⟩
    have hSZ : ∀ t, t < 2 → 2 ≤ (R t).P ∧ 1 ≤ (R t).S ∧ ∃ z, ([V.ref z0, V.ref z1] : List V)[t]? = some (.ref z) ∧ H3 z = some (.lst [.int (R t).P, .int (R t).S, .int (R t).L]) := fun t ht => (hRs' t ht).2
    have hRat : ∀ t, t < 2 → ([.ref (R 0).rk, .ref (R 1).rk] : List V)[t]? = some (.ref (R t).rk) := fun t ht => by
      have h2 : t = 0 ∨ t = 1 := by omega
      rcases h2 with rfl | rfl <;> rfl
    have hDat : ∀ t, t < 2 → ([.ref (d 0), .ref (d 1)] : List V)[t]? = some (.ref (d t)) := fun t ht => by
      have h2 : t = 0 ∨ t = 1 := by omega
      rcases h2 with rfl | rfl <;> rfl
    clear hRs' ndd dis01 hRs fRs dRs hRL hRLc hKL hd0 hd1 nd0 nd1 nd1' nd01 nKL nKL4 eR0 eR1 ed0 ed1 hzz sd0 sd1 sKL lR
    try dsimp only [L2.start, List.set, List.map, List.append, List.replicate, HAppend.hAppend, Append.append, List.length, Nat.reduceAdd, Nat.reduceSub]
    refine ⟨_, rfl, sa, _, rfl, .inl (RN.sm.seq hS3), _, _, rfl, _, _, rfl, ?_, ?_⟩
    · rw [List.length_map]
      refine ⟨by decide, by decide, ?_, ?_⟩ <;> split <;> omega
    have hN : ∀ i, i < ((if (96 : Int) < (((ns.map V.int).length : Nat) : Int) then (96 : Int) else (((ns.map V.int).length : Nat) : Int)) - 6).toNat → i < 57 ∧ 6 + i < ns.length := fun i hi => by
      rw [List.length_map] at hi
      split at hi <;> omega
    generalize ((if (96 : Int) < (((ns.map V.int).length : Nat) : Int) then (96 : Int) else (((ns.map V.int).length : Nat) : Int)) - 6).toNat = NN at hN
    refine for_range (lo := 6) (n := NN) (fun i σ H' => (∃ v4 v5 v6 v7 v8 v9 v10 v11 : Option V, σ = [some (.ref sa), some (.ref SL), some (.ref RL), some (.ref KL), v4, v5, v6, v7, v8, v9, v10, v11]) ∧ Run32 a H3 RL KL R d 0 i H') ⟨⟨none, none, none, none, none, none, none, none, rfl⟩, RN⟩ ?_ ?_
    · rintro i σ H5 hi ⟨⟨v4, v5, v6, v7, v8, v9, v10, v11, rfl⟩, r5⟩
      obtain ⟨hi57, hil⟩ := hN i hi
      have ei : (6 : Int) + (i : Nat) = ((6 + i : Nat) : Int) := by omega
      rw [ei]
      have hat : (ns.map V.int)[6 + i]? = some (.int (ns.getD (6 + i) 0)) := by
        rw [List.getElem?_map, List.getD_eq_getElem?_getD, List.getElem?_eq_getElem hil]
        rfl
      try dsimp only [L2.start, List.set, List.map, List.append, List.replicate, HAppend.hAppend, Append.append, List.length, Nat.reduceAdd, Nat.reduceSub]
      refine ⟨_, rfl, _, rfl, sa, _, _, _, rfl, rfl, r5.sm.seq hS3, atI_nat hat, _, rfl, _, 6 + i, rfl, by omega, fun zz y0 y1 => ?_⟩
      obtain ⟨t, ht, et⟩ := modN zz (n := 2) (by decide)
      have et' : zz % 2 = (t : Int) := et
      try dsimp only [L2.start, List.set, List.map, List.append, List.replicate, HAppend.hAppend, Append.append, List.length, Nat.reduceAdd, Nat.reduceSub]
      refine ⟨_, rfl, _, _, rfl, rfl, p0 (by decide), ?_⟩
      try dsimp only
      rw [et']
      try dsimp only [L2.start, List.set, List.map, List.append, List.replicate, HAppend.hAppend, Append.append, List.length, Nat.reduceAdd, Nat.reduceSub]
      refine ⟨_, rfl, _, _, rfl, rfl, ⟨by decide, by decide⟩, _, _, rfl, rfl, p0 (by decide), ?_⟩
      try dsimp only
      have w0 := Int.emod_nonneg (zz / 2) (show (3 : Int) ≠ 0 by decide)
      have w1 := Int.emod_lt_of_pos (zz / 2) (show (0 : Int) < 3 by decide)
      generalize zz / 2 % 3 = wy at w0 w1
      obtain ⟨hP, hSs, z, hz, hzl⟩ := hSZ t ht
      have hz5 := r5.sm _ _ hzl
      have hSL5 := r5.sm _ _ hSL
      obtain ⟨pl, hpl, epl⟩ := modN (zz / 6) (n := (R t).P) (by omega)
      obtain ⟨st, hst, est⟩ := modN (zz / 48) (n := (R t).S) (by omega)
      try dsimp only [L2.start, List.set, List.map, List.append, List.replicate, HAppend.hAppend, Append.append, List.length, Nat.reduceAdd, Nat.reduceSub]
      refine ⟨_, rfl, _, _, rfl, rfl, ⟨by decide, by decide⟩, _, rfl, _, rfl, SL, _, _, _, rfl, rfl, SqL.of hSL5, atI_nat hz, z, _, _, _, rfl, rfl, SqL.of hz5, atI_nat (j := 0) rfl, _, _, rfl, rfl, p0 (by omega), ?_⟩
      try dsimp only
      rw [epl]
      try dsimp only [L2.start, List.set, List.map, List.append, List.replicate, HAppend.hAppend, Append.append, List.length, Nat.reduceAdd, Nat.reduceSub]
      refine ⟨_, rfl, _, _, rfl, rfl, ⟨by decide, by decide⟩, _, rfl, _, rfl, SL, _, _, _, rfl, rfl, SqL.of hSL5, atI_nat hz, z, _, _, _, rfl, rfl, SqL.of hz5, atI_nat (j := 1) rfl, _, _, rfl, rfl, p0 (by omega), ?_⟩
      try dsimp only
      rw [est]
      obtain ⟨e, X, kvs, hR, he, hd, hl, hk⟩ := r5.at_ t (Nat.zero_le _) ht
      try dsimp only [L2.start, List.set, List.map, List.append, List.replicate, HAppend.hAppend, Append.append, List.length, Nat.reduceAdd, Nat.reduceSub]
      refine ⟨_, rfl, _, rfl, KL, _, _, _, rfl, rfl, SqL.of r5.kl, atI_nat (hDat t ht), d t, rfl, .inr ⟨_, .inl hd⟩, _, rfl, _, rfl, (show 2 ≤ sizeLine by decide), fun tp ntp => ?_⟩
      have st1 := Same.new (o := .tup [V.int (pl : Int), V.int (st : Int)]) ntp
      refine ⟨_, DGet.t (k := [Sum.inl (pl : Int), Sum.inl (st : Int)]) (st1 _ _ hd) upd_same, ?_⟩
      rw [hk pl st hpl hst]
      generalize (upd H5 tp (.tup [V.int (pl : Int), V.int (st : Int)])) = H6 at st1
      have r6 := r5.same st1
      have hR6 := hR.same st1
      have hd6 := st1 _ _ hd
      obtain ⟨dx, h1⟩ := id hR6.ins
      clear r5 hR hd
      try dsimp only [L2.start, List.set, List.map, List.append, List.replicate, HAppend.hAppend, Append.append, List.length, Nat.reduceAdd, Nat.reduceSub]
      refine ⟨_, rfl, rfl, _, rfl, ?_⟩
      have hnext : ∀ (H' : Hp) (x4 x5 x6 x7 x8 x9 x10 x11 : Option V), Run32 a H3 RL KL R d 0 (i + 1) H' → (∃ v4 v5 v6 v7 v8 v9 v10 v11 : Option V, [some (V.ref sa), some (.ref SL), some (.ref RL), some (.ref KL), x4, x5, x6, x7, x8, x9, x10, x11] = [some (V.ref sa), some (.ref SL), some (.ref RL), some (.ref KL), v4, v5, v6, v7, v8, v9, v10, v11]) ∧ Run32 a H3 RL KL R d 0 (i + 1) H' := fun H' _ _ _ _ _ _ _ _ r => ⟨⟨_, _, _, _, _, _, _, _, rfl⟩, r⟩
      refine ite2 (fun hw => ?_) (fun hw => ?_)
      · -- lay
        refine joinI (fun z H' => H6 = H') (fun key => by
          refine ⟨_, rfl, zz, rfl, y0, y1, fun zb => ?_⟩
          try dsimp only [L2.start, List.set, List.map, List.append, List.replicate, HAppend.hAppend, Append.append, List.length, Nat.reduceAdd, Nat.reduceSub]
          refine ⟨_, rfl, _, _, rfl, rfl, ⟨by decide, by decide⟩, _, _, rfl, rfl, p0 (by decide), rfl, _, rfl, ?_⟩
          refine iteR (fun _ => ?_) (fun _ => ?_)
          · exact key zb H6 rfl
          · refine ⟨_, rfl, _, _, rfl, rfl, ?_⟩
            exact key _ H6 rfl) ?_
        rintro zb _ rfl
        try dsimp only [L2.start, List.set, List.map, List.append, List.replicate, HAppend.hAppend, Append.append, List.length, Nat.reduceAdd, Nat.reduceSub]
        refine joinI (fun z H' => H6 = H') (fun key => by
          refine ⟨_, rfl, _, _, rfl, rfl, ⟨by decide, by decide⟩, _, _, rfl, rfl, p0 (by decide), rfl, _, rfl, ?_⟩
          refine iteR (fun _ => ?_) (fun _ => ?_)
          · generalize zb = z'
            exact key z' H6 rfl
          · refine ⟨_, rfl, _, _, rfl, rfl, ⟨by decide, by decide, by decide⟩, _, _, rfl, rfl, ?_⟩
            exact key _ H6 rfl) ?_
        rintro zc _ rfl
        try dsimp only [L2.start, List.set, List.map, List.append, List.replicate, HAppend.hAppend, Append.append, List.length, Nat.reduceAdd, Nat.reduceSub]
        refine joinV (fun v H' => H6 = H' ∧ ∃ o : Option Int, v = ov o) (fun key => by
          refine ⟨_, rfl, _, _, rfl, rfl, ⟨by decide, by decide⟩, _, _, rfl, rfl, p0 (by decide), _, _, rfl, rfl, _, rfl, ?_⟩
          refine iteR (fun _ => ?_) (fun _ => ?_)
          · obtain ⟨v, hv⟩ : ∃ v : V, V.int zc = v := ⟨_, rfl⟩
            rw [hv]
            exact key v H6 ⟨rfl, some zc, hv.symm⟩
          · exact key _ H6 ⟨rfl, none, rfl⟩) ?_
        rintro v _ ⟨rfl, o, rfl⟩
        try dsimp only [L2.start, List.set, List.map, List.append, List.replicate, HAppend.hAppend, Append.append, List.length, Nat.reduceAdd, Nat.reduceSub]
        refine ⟨_, rfl, _, rfl, RL, _, _, _, rfl, rfl, SqL.of r6.rl, atI_nat (hRat t ht), (R t).rk, dx, _, rfl, h1, rfl, _, rfl, _, rfl, _, rfl, R t, e, pl, st, X, o, rfl, hR6, by omega, hpl, hst, fun H7 kb7 hR7 => ?_⟩
        have ndt : d t ∉ ((R t).dn :: (R t).hs) := fun z => by
          have zl : d t ∈ (R t).lists := by
            rcases List.mem_cons.mp z with y | y
            · rw [y]; exact List.mem_cons_self
            · exact List.mem_cons_of_mem _ (List.mem_cons_of_mem _ (List.mem_cons_of_mem _ y))
          obtain ⟨xs, w⟩ := hR6.isLst zl
          rw [hd6] at w
          cases w
        have hd7 := kb7 _ _ ndt hd6
        have hKL7 : H7 KL = some (.lst [.ref (d 0), .ref (d 1)]) := kb7 _ _ (fun z => by
          have zl : KL ∈ (R t).lists := by
            rcases List.mem_cons.mp z with y | y
            · rw [y]; exact List.mem_cons_self
            · exact List.mem_cons_of_mem _ (List.mem_cons_of_mem _ (List.mem_cons_of_mem _ y))
          exact (FX.fr t ht _ zl).2.2 rfl) r6.kl
        try dsimp only [L2.start, List.set, List.map, List.append, List.replicate, HAppend.hAppend, Append.append, List.length, Nat.reduceAdd, Nat.reduceSub]
        refine ⟨_, rfl, _, rfl, _, rfl, KL, _, _, _, rfl, rfl, SqL.of hKL7, atI_nat (hDat t ht), _, rfl, _, rfl, (show 2 ≤ sizeLine by decide), fun tq ntq => ?_⟩
        have sq := Same.new (o := .tup [V.int (pl : Int), V.int (st : Int)]) ntq
        refine ⟨d t, _, rfl, DPut.t (k := [Sum.inl (pl : Int), Sum.inl (st : Int)]) (sq _ _ hd7) upd_same (Nat.lt_of_le_of_lt hl (Nat.lt_of_lt_of_le hi57 (by decide))), ?_⟩
        have hR8 := hR7.same sq
        generalize (upd H7 tq (.tup [V.int (pl : Int), V.int (st : Int)])) = H8 at sq hR8
        refine hnext _ _ _ _ _ _ _ _ _ (r6.step FX ht (Nat.zero_le _) (ms := d t :: (R t).dn :: (R t).hs) (fun b u n e => ?_) (fun b hb => ?_) (fun _ => ⟨e + 1, _, _, hR8.dict (sq _ _ hd7), by omega, upd_same, ?_, hk.put pl st o⟩) (Nat.le_refl _) (by omega))
        · rw [upd_ne (fun z => n (by rw [z]; exact List.mem_cons_self))]
          exact sq _ _ (kb7 _ _ (fun z => n (List.mem_cons_of_mem _ z)) e)
        · rcases List.mem_cons.mp hb with y | y
          · exact .inr y
          · refine .inl ?_
            rcases List.mem_cons.mp y with y | y
            · rw [y]; exact List.mem_cons_self
            · exact List.mem_cons_of_mem _ (List.mem_cons_of_mem _ (List.mem_cons_of_mem _ y))
        · have := putK_len kvs [Sum.inl (pl : Int), Sum.inl (st : Int)] (ov o)
          omega
      · have r7 : Run32 a H3 RL KL R d 0 (i + 1) H6 := ⟨r6.sm, r6.rl, r6.kl, fun t h1 h2 => by
          obtain ⟨e, X, kvs, hR, he, hd, hl, hk⟩ := r6.at_ t h1 h2
          exact ⟨e, X, kvs, hR, by omega, hd, by omega, hk⟩⟩
        refine ⟨_, rfl, rfl, _, rfl, ?_⟩
        refine ite2 (fun hw1 => ?_) (fun hw1 => ?_)
        · have ew : wy = 1 := V.int.inj (of_decide_eq_true hw1)
          subst ew
          refine ⟨_, rfl, _, rfl, RL, _, _, _, rfl, rfl, SqL.of r6.rl, atI_nat (hRat t ht), (R t).rk, dx, _, rfl, h1, rfl, _, rfl, _, rfl, R t, none, e, pl, st, X, rfl, hR6, by omega, hpl, hst, fun H7 kb7 hR7 => ⟨_, rfl, X pl st, rfl, _, rfl, ?_⟩⟩
          refine ite2 (fun z => absurd z (by decide)) (fun _ => ?_)
          refine ⟨_, rfl, rfl, _, rfl, ?_⟩
          refine ite2 (fun z => absurd z (by decide)) (fun _ => ?_)
          refine ite2 (fun z => absurd z (by decide)) (fun _ => ?_)
          refine hnext _ _ _ _ _ _ _ _ _ (r6.step FX ht (Nat.zero_le _) kb7 (fun b hb => .inl (by rw [List.mem_singleton.mp hb]; exact List.mem_cons_self)) (fun _ => ⟨e + 1, X, kvs, hR7, by omega, kb7 _ _ (fun z => ?_) hd6, by omega, hk⟩) (Nat.le_refl _) (by omega))
          obtain ⟨ds, w, _⟩ := hR6.dn
          rw [← List.mem_singleton.mp z, hd6] at w
          cases w
        · refine ite2 (fun z => absurd z (by decide)) (fun _ => ?_)
          refine ⟨_, rfl, rfl, _, rfl, ?_⟩
          refine ite2 (fun hw2 => ?_) (fun hw2 => ?_)
          · refine ⟨_, rfl, _, rfl, RL, _, _, _, rfl, rfl, SqL.of r6.rl, atI_nat (hRat t ht), (R t).rk, dx, _, rfl, h1, rfl, _, rfl, _, rfl, R t, none, false, e, pl, st, X, rfl, hR6, hpl, hst, _, rfl, X pl st, rfl, _, rfl, ?_⟩
            exact ite2 (fun z => absurd z (by decide)) (fun _ => hnext _ _ _ _ _ _ _ _ _ r7)
          · exact ite2 (fun z => absurd z (by decide)) (fun _ => hnext _ _ _ _ _ _ _ _ _ r7)
    · rintro σ H5 ⟨⟨v4, v5, v6, v7, v8, v9, v10, v11, rfl⟩, r5⟩
      have hNN : NN ≤ 57 := by
        rcases Nat.lt_or_ge 57 NN with y | y
        · exact absurd (hN 57 y).1 (Nat.lt_irrefl _)
        · exact y
      try dsimp only [L2.start, List.set, List.map, List.append, List.replicate, HAppend.hAppend, Append.append, List.length, Nat.reduceAdd, Nat.reduceSub]
      refine ⟨2, rfl, by decide, by decide, ?_⟩
      refine for_range (lo := 0) (n := 2) (fun w σ H' => (∃ v4 v5 v6 v7 v8 v9 v10 v11 : Option V, σ = [some (.ref sa), some (.ref SL), some (.ref RL), some (.ref KL), v4, v5, v6, v7, v8, v9, v10, v11]) ∧ Run32 a H3 RL KL R d w NN H') ⟨⟨v4, v5, v6, v7, v8, v9, v10, v11, rfl⟩, r5⟩ ?_ ?_
      · rintro t σ H6 ht ⟨⟨v4, v5, v6, v7, v8, v9, v10, v11, rfl⟩, r6⟩
        have et : (0 : Int) + (t : Nat) = ((t : Nat) : Int) := by omega
        rw [et]
        obtain ⟨hP, hSs, z, hz, hzl⟩ := hSZ t ht
        obtain ⟨e, X, kvs, hR, he, hd, hl, hk⟩ := r6.at_ t (Nat.le_refl _) ht
        have hz6 := r6.sm _ _ hzl
        have hSL6 := r6.sm _ _ hSL
        have nz : z ≠ (R t).dn := fun y => by
          have := (FX.fr t ht (R t).dn List.mem_cons_self).1
          rw [← y, hzl] at this
          cases this
        try dsimp only [L2.start, List.set, List.map, List.append, List.replicate, HAppend.hAppend, Append.append, List.length, Nat.reduceAdd, Nat.reduceSub]
        refine ⟨_, rfl, _, rfl, RL, _, _, _, rfl, rfl, SqL.of r6.rl, atI_nat (hRat t ht), _, rfl, _, rfl, SL, _, _, _, rfl, rfl, SqL.of hSL6, atI_nat hz, R t, none, false, e, X, z, rfl, hR, hz6, _, rfl, ?_⟩
        refine ite2 (fun z => absurd z (by decide)) (fun _ => ?_)
        refine ⟨_, rfl, _, rfl, RL, _, _, _, rfl, rfl, SqL.of r6.rl, atI_nat (hRat t ht), _, rfl, _, rfl, SL, _, _, _, rfl, rfl, SqL.of hSL6, atI_nat hz, _, rfl, _, rfl, KL, _, _, _, rfl, rfl, SqL.of r6.kl, atI_nat (hDat t ht), R t, e, X, z, d t, kvs, rfl, hR, by omega, hz6, nz, hd, hk, fun H7 kb => ⟨_, rfl, ?_⟩⟩
        refine ite2 (fun z => absurd z (by decide)) (fun _ => ⟨⟨_, _, _, _, _, _, _, _, rfl⟩, ?_⟩)
        exact r6.step FX ht (Nat.le_refl _) kb (fun b hb => .inl (by rw [List.mem_singleton.mp hb]; exact List.mem_cons_self)) (fun z => absurd z (by omega)) (by omega) (Nat.le_refl _)
      · rintro σ H6 ⟨⟨v4, v5, v6, v7, v8, v9, v10, v11, rfl⟩, r6⟩
        exact q _
end
theorem walk {l : PySem.W.OpenLaw} {q : Program} {loose : List Str} {XP : (Str → Option Value) → Heap → Prop} {YP : World → Heap → Prop} {d : DefRec} {K : Params → PySem.W.Frag} (hn : l.most = some 63) (hdf : d.params.defaults = [])
    (hY : ∀ (w : World) (h : Heap), YP w h → (K w.params).In h)
    (F : ∀ (w : World) (mg : Str → Option Value) (fa : Addr) (h : Heap), (K w.params).In h → h.Ns mainGlobals mg → mg d.name = some (.ref fa) →
      ∃ fd : FuncData, (∀ (s : Shared) (u : Value), BindsTo s fd ⟨[u], []⟩ [("_law_script", u)]) ∧ ∀ base : Heap, (K w.params).In base → base.Ns mainGlobals mg → FnOk l.prog w (K w.params) mg base CX0 6 fa fd ["_law_script"] (spLaw (K w.params))) :
    PySem.W.WalkO q loose XP YP l.row.toRowW d [] (fun f vs => PySem.call f vs) :=
  L2.walk_of (n := 63) (k := 6) (x := "_law_script") (CX := fun _ => CX0) (sp := fun w => spLaw (K w.params)) hn (by decide) hdf ⟨rfl, by decide, by decide, rfl⟩ hY F (fun _ _ a ns hl _ hS => ⟨a, ns, rfl, hS, hl, fun _ => rfl⟩) fun _ _ _ _ _ z => z


end My
open PySem PySem.W PyProof.Rows
-- names the tactics below would else use for second copies of large terms; nothing uses these
def PySem.W.Fast.tw758940946530540747 : Nat := 0
def PySem.W.Fast.tw17928567587869764306 : Nat := 0
def PySem.W.Fast.tw13047074639106734 : Nat := 0
def PySem.W.Fast.tw12070478187114227126 : Nat := 0
def PySem.W.Fast.tw8799425340465947163 : Nat := 0
def PySem.W.Fast.tw14286754288899090828 : Nat := 0
def PySem.W.Fast.tw1349966429255032823 : Nat := 0
def PySem.W.Fast.tw4385086248546528599 : Nat := 0
def PySem.W.Fast.tw13224472733782629104 : Nat := 0
def PySem.W.Fast.tw3632144396568051294 : Nat := 0
def PySem.W.Fast.tw4559169184131890374 : Nat := 0
def PySem.W.Fast.tw4214396796792327492 : Nat := 0
def PySem.W.Fast.tw5040817729401815702 : Nat := 0
def PySem.W.Fast.tw4122944605065403257 : Nat := 0
def PySem.W.Fast.tw6159643498239171455 : Nat := 0
def PySem.W.Fast.tw4964221759967662617 : Nat := 0
def PySem.W.Fast.tw8364984197520491295 : Nat := 0
def PySem.W.Fast.tw1564936961872022620 : Nat := 0
def PySem.W.Fast.tw2777911482095140423 : Nat := 0
def PySem.W.Fast.tw6377761184394892384 : Nat := 0
def PySem.W.Fast.tw17856853792216567813 : Nat := 0
def PySem.W.Fast.tw4558443075814375224 : Nat := 0
def PySem.W.Fast.tw1909954708498183882 : Nat := 0
def PySem.W.Fast.tw14130973330439303844 : Nat := 0
def PySem.W.Fast.tw17797030868498747768 : Nat := 0
def PySem.W.Fast.tw18303540125644838202 : Nat := 0
def PySem.W.Fast.tw3737001002962828551 : Nat := 0
def PySem.W.Fast.tw9748073110054667742 : Nat := 0
def PySem.W.Fast.tw2228435931902693614 : Nat := 0
def PySem.W.Fast.tw7735959586441543202 : Nat := 0
def PySem.W.Fast.tw1852297107581917588 : Nat := 0
def PySem.W.Fast.tw17436869779669063322 : Nat := 0
def PySem.W.Fast.tw14052832652086196253 : Nat := 0
def PySem.W.Fast.tw16124335196825370085 : Nat := 0
def PySem.W.Fast.tw10393610089153119609 : Nat := 0
def PySem.W.Fast.tw17916068154383264902 : Nat := 0
def PySem.W.Fast.tw14645251723060520184 : Nat := 0
def PySem.W.Fast.tw9508863198597682516 : Nat := 0
def PySem.W.Fast.tw3884695823825222434 : Nat := 0
def PySem.W.Fast.tw3696844168450711736 : Nat := 0
def PySem.W.Fast.tw15223399529210163075 : Nat := 0
def PySem.W.Fast.tw12826677079066031605 : Nat := 0
def PySem.W.Fast.tw1515172356874882719 : Nat := 0
def PySem.W.Fast.tw4974058576805484229 : Nat := 0
set_option maxRecDepth 100000 in
set_option maxHeartbeats 0 in
theorem PySem.Challenge.cw_spareplank_k32_laid_and_looked_at_holds : PySem.Challenge.rw_spareplank_k32_laid_and_looked_at.Holds := by
  w_on; o_law; k_head; (case hw => w_witness2)
  k_fill
  refine My.walk (l := PySem.Challenge.rw_spareplank_k32_laid_and_looked_at) rfl rfl (fun w h Y => PySem.W.kIn_of Y) ?F
  case F =>
    intro w mg fa h KX G hmg
    have T : ∃ a : My.Adr, My.Txt (L2.KOf KX) mg a ∧ (∀ (s : Shared) (v : Value), BindsTo s a.d_law ⟨[v], []⟩ [("_law_script", v)]) := by
      dsimp only [L2.KOf]
      refine' My.txt_mk KX G ?a_Plank ?pg_Plank ?hd_Plank ?po_Plank ?sa_Plank ?no_Plank_held ?mk_Plank ?kc_Plank ?a_LostPlank ?pg_LostPlank ?hd_LostPlank ?po_LostPlank ?sa_LostPlank ?no_LostPlank_held ?mk_LostPlank ?kc_LostPlank ?a_Rack ?pg_Rack ?hd_Rack ?po_Rack ?sa_Rack ?no_Rack_planks ?no_Rack_stripes ?no_Rack_slots ?no_Rack_shelf ?no_Rack_slate ?no_Rack_left ?no_Rack_gone ?no_Rack_done ?mk_Rack ?kc_Rack ?a_Plank_init ?i_Plank_init ?l_Plank_init ?c_Plank_init ?k_Plank_init ?a_Plank_there ?i_Plank_there ?l_Plank_there ?c_Plank_there ?k_Plank_there ?a_Plank_look_at ?i_Plank_look_at ?l_Plank_look_at ?c_Plank_look_at ?k_Plank_look_at ?a_Plank_lay_at ?i_Plank_lay_at ?l_Plank_lay_at ?c_Plank_lay_at ?k_Plank_lay_at ?a_LostPlank_init ?i_LostPlank_init ?l_LostPlank_init ?c_LostPlank_init ?k_LostPlank_init ?a_check_bounds ?l_check_bounds ?c_check_bounds ?k_check_bounds ?a_Rack_init ?i_Rack_init ?l_Rack_init ?c_Rack_init ?k_Rack_init ?a_Rack_peek ?i_Rack_peek ?l_Rack_peek ?c_Rack_peek ?k_Rack_peek ?a_Rack_there ?i_Rack_there ?l_Rack_there ?c_Rack_there ?k_Rack_there ?a_Rack_look ?i_Rack_look ?l_Rack_look ?c_Rack_look ?k_Rack_look ?a_Rack_lay ?i_Rack_lay ?l_Rack_lay ?c_Rack_lay ?k_Rack_lay ?a_Rack_need_write ?i_Rack_need_write ?l_Rack_need_write ?c_Rack_need_write ?k_Rack_need_write ?a_Rack_spend ?i_Rack_spend ?l_Rack_spend ?c_Rack_spend ?k_Rack_spend ?a_Rack_check_plank ?i_Rack_check_plank ?l_Rack_check_plank ?c_Rack_check_plank ?k_Rack_check_plank ?a_Rack_check_stripe ?i_Rack_check_stripe ?l_Rack_check_stripe ?c_Rack_check_stripe ?k_Rack_check_stripe ?a_Rack_check_both ?i_Rack_check_both ?l_Rack_check_both ?c_Rack_check_both ?k_Rack_check_both ?a_cell_at ?l_cell_at ?c_cell_at ?k_cell_at ?a_mixed ?l_mixed ?c_mixed ?k_mixed ?a_block ?l_block ?c_block ?k_block ?a_same ?l_same ?c_same ?k_same ?a_sizes ?l_sizes ?c_sizes ?k_sizes ?a_sized ?l_sized ?c_sized ?k_sized ?a_all ?l_all ?c_all ?k_all ?a_law ?l_law ?c_law ?k_law ?tya_Plank ?tyn_Plank ?tyt_Plank ?tym_Plank ?kn_Plank_LostPlank ?z_list ?z_range ?z_isinstance ?z_len ?z_int ?z_bool ?z_min ?v_LEAST_PLANKS ?v_MOST_PLANKS ?v_MOST_STRIPES ?v_MOST_SLOTS
      (case a_Plank => k_is)
      (case pg_Plank => k_is)
      (case hd_Plank => k_is)
      (case po_Plank => k_is)
      (case sa_Plank => k_is)
      (case no_Plank_held => k_is)
      (case mk_Plank => k_is)
      (case kc_Plank => k_is)
      (case a_LostPlank => k_is)
      (case pg_LostPlank => k_is)
      (case hd_LostPlank => k_is)
      (case po_LostPlank => k_is)
      (case sa_LostPlank => k_is)
      (case no_LostPlank_held => k_is)
      (case mk_LostPlank => k_is)
      (case kc_LostPlank => k_is)
      (case a_Rack => k_is)
      (case pg_Rack => k_is)
      (case hd_Rack => k_is)
      (case po_Rack => k_is)
      (case sa_Rack => k_is)
      (case no_Rack_planks => k_is)
      (case no_Rack_stripes => k_is)
      (case no_Rack_slots => k_is)
      (case no_Rack_shelf => k_is)
      (case no_Rack_slate => k_is)
      (case no_Rack_left => k_is)
      (case no_Rack_gone => k_is)
      (case no_Rack_done => k_is)
      (case mk_Rack => k_is)
      (case kc_Rack => k_is)
      (case a_Plank_init => k_is)
      (case i_Plank_init => k_is)
      (case l_Plank_init => k_is)
      (case c_Plank_init => k_is)
      (case k_Plank_init => k_is)
      (case a_Plank_there => k_is)
      (case i_Plank_there => k_is)
      (case l_Plank_there => k_is)
      (case c_Plank_there => k_is)
      (case k_Plank_there => k_is)
      (case a_Plank_look_at => k_is)
      (case i_Plank_look_at => k_is)
      (case l_Plank_look_at => k_is)
      (case c_Plank_look_at => k_is)
      (case k_Plank_look_at => k_is)
      (case a_Plank_lay_at => k_is)
      (case i_Plank_lay_at => k_is)
      (case l_Plank_lay_at => k_is)
      (case c_Plank_lay_at => k_is)
      (case k_Plank_lay_at => k_is)
      (case a_LostPlank_init => k_is)
      (case i_LostPlank_init => k_is)
      (case l_LostPlank_init => k_is)
      (case c_LostPlank_init => k_is)
      (case k_LostPlank_init => k_is)
      (case a_check_bounds => k_is)
      (case l_check_bounds => k_is)
      (case c_check_bounds => k_is)
      (case k_check_bounds => k_is)
      (case a_Rack_init => k_is)
      (case i_Rack_init => k_is)
      (case l_Rack_init => k_is)
      (case c_Rack_init => k_is)
      (case k_Rack_init => k_is)
      (case a_Rack_peek => k_is)
      (case i_Rack_peek => k_is)
      (case l_Rack_peek => k_is)
      (case c_Rack_peek => k_is)
      (case k_Rack_peek => k_is)
      (case a_Rack_there => k_is)
      (case i_Rack_there => k_is)
      (case l_Rack_there => k_is)
      (case c_Rack_there => k_is)
      (case k_Rack_there => k_is)
      (case a_Rack_look => k_is)
      (case i_Rack_look => k_is)
      (case l_Rack_look => k_is)
      (case c_Rack_look => k_is)
      (case k_Rack_look => k_is)
      (case a_Rack_lay => k_is)
      (case i_Rack_lay => k_is)
      (case l_Rack_lay => k_is)
      (case c_Rack_lay => k_is)
      (case k_Rack_lay => k_is)
      (case a_Rack_need_write => k_is)
      (case i_Rack_need_write => k_is)
      (case l_Rack_need_write => k_is)
      (case c_Rack_need_write => k_is)
      (case k_Rack_need_write => k_is)
      (case a_Rack_spend => k_is)
      (case i_Rack_spend => k_is)
      (case l_Rack_spend => k_is)
      (case c_Rack_spend => k_is)
      (case k_Rack_spend => k_is)
      (case a_Rack_check_plank => k_is)
      (case i_Rack_check_plank => k_is)
      (case l_Rack_check_plank => k_is)
      (case c_Rack_check_plank => k_is)
      (case k_Rack_check_plank => k_is)
      (case a_Rack_check_stripe => k_is)
      (case i_Rack_check_stripe => k_is)
      (case l_Rack_check_stripe => k_is)
      (case c_Rack_check_stripe => k_is)
      (case k_Rack_check_stripe => k_is)
      (case a_Rack_check_both => k_is)
      (case i_Rack_check_both => k_is)
      (case l_Rack_check_both => k_is)
      (case c_Rack_check_both => k_is)
      (case k_Rack_check_both => k_is)
      (case a_cell_at => k_is)
      (case l_cell_at => k_is)
      (case c_cell_at => k_is)
      (case k_cell_at => k_is)
      (case a_mixed => k_is)
      (case l_mixed => k_is)
      (case c_mixed => k_is)
      (case k_mixed => k_is)
      (case a_block => k_is)
      (case l_block => k_is)
      (case c_block => k_is)
      (case k_block => k_is)
      (case a_same => k_is)
      (case l_same => k_is)
      (case c_same => k_is)
      (case k_same => k_is)
      (case a_sizes => k_is)
      (case l_sizes => k_is)
      (case c_sizes => k_is)
      (case k_sizes => k_is)
      (case a_sized => k_is)
      (case l_sized => k_is)
      (case c_sized => k_is)
      (case k_sized => k_is)
      (case a_all => k_is)
      (case l_all => k_is)
      (case c_all => k_is)
      (case k_all => k_is)
      (case a_law => k_is)
      (case l_law => k_is)
      (case c_law => k_is)
      (case k_law => k_is)
      (case tya_Plank => first | k_is | rfl)
      (case tyn_Plank => first | k_is | rfl)
      (case tyt_Plank => first | k_is | rfl)
      (case tym_Plank => first | k_is | rfl)
      (case kn_Plank_LostPlank => rfl)
      (case z_list => k_is)
      (case z_range => k_is)
      (case z_isinstance => k_is)
      (case z_len => k_is)
      (case z_int => k_is)
      (case z_bool => k_is)
      (case z_min => k_is)
      (case v_LEAST_PLANKS => k_is)
      (case v_MOST_PLANKS => k_is)
      (case v_MOST_STRIPES => k_is)
      (case v_MOST_SLOTS => k_is)
    obtain ⟨a, T, hb⟩ := T
    have e0 := hmg.symm.trans T.m_law
    cases e0
    exact ⟨a.d_law, hb, fun base kb nb => My.ok_law T⟩
#print axioms PySem.Challenge.cw_spareplank_k32_laid_and_looked_at_holds
