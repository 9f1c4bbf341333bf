import PyProof.Rows.All
import Wide.All
import OpenK.AllK
import Wide.FinOn
import Lean
import PyProof.EqAt
import PyProof.EqKinds
import PyProof.TupleCall
import PyProof.NeKinds
import PySem.Challenge.RW_spareplank_k44_whole_any_weights_read
set_option Elab.async false
set_option linter.all false
set_option maxRecDepth 100000
namespace L2
open PySem PySem.Spec PyProof.Rows
abbrev Key:=Sum Int Str
def qhw_:Key->Value->Bool
 | .inl k,v=>Value.isInt k v
 | .inr x,v=>Value.isStrOf x v
def keyH (w:World):Key->Int
 | .inl k=>hashInt k
 | .inr x=>hashStr w x
theorem jC_:∀ {k:Key}{v:Value},qhw_ k v = true->(∃ i t,k = Sum.inl i/\v = Value.int i t)\/(∃ x t,k = Sum.inr x/\v = Value.str x t)
 | .inl i,v,h=>by
  obtain ⟨t,e⟩:=Value.isInt_shape (k:=i) (v:=v) h
  exact .inl ⟨i,t,rfl,e⟩
 | .inr x,v,h=>by
  obtain ⟨t,e⟩:=Value.isStrOf_shape (x:=x) (v:=v) h
  exact .inr ⟨x,t,rfl,e⟩
theorem qjo_ (a b:Int):decide ((Sum.inl a:Key) = Sum.inl b) = (a == b):=by
 by_cases e:a = b
 ·subst e;simp
 ·have h:¬ (Sum.inl a:Key) = Sum.inl b:=fun q=>e (Sum.inl.inj q)
  rw [decide_eq_false h]
  exact (beq_eq_false_iff_ne.mpr e).symm
theorem qjp_ (a b:Str):decide ((Sum.inr a:Key) = Sum.inr b) = decide (a = b):=by
 by_cases e:a = b
 ·subst e;simp
 ·have h:¬ (Sum.inr a:Key) = Sum.inr b:=fun q=>e (Sum.inr.inj q)
  rw [decide_eq_false h,decide_eq_false e]
theorem qjq_ (a:Int) (b:Str):decide ((Sum.inl a:Key) = Sum.inr b) = false:=decide_eq_false (fun q=>nomatch q)
theorem qjr_ (a:Str) (b:Int):decide ((Sum.inr a:Key) = Sum.inl b) = false:=decide_eq_false (fun q=>nomatch q)
def qce_ (prog:Program) (w:World):PySem.KeyKind prog w Key where
 is:=qhw_
 hash:=keyH w
 inj:=fun v a b ha hb=>by
  rcases jC_ ha with ⟨i,t,rfl,rfl⟩ | ⟨x,t,rfl,rfl⟩
  ·rcases jC_ hb with ⟨j,u,rfl,e⟩ | ⟨y,u,rfl,e⟩
   ·injection e with e1 _;rw [e1]
   ·exact nomatch e
  ·rcases jC_ hb with ⟨j,u,rfl,e⟩ | ⟨y,u,rfl,e⟩
   ·exact nomatch e
   ·injection e with e1 _;rw [e1]
 byValue:=fun k v h=>by
  rcases jC_ h with ⟨i,t,rfl,rfl⟩ | ⟨x,t,rfl,rfl⟩ <;> rfl
 pyHash:=fun hv h=>by
  rcases jC_ hv with ⟨i,t,rfl,rfl⟩ | ⟨x,t,rfl,rfl⟩
  ·exact wpAny_pyHash_int h
  ·exact wpAny_pyHash_str h
 eqBool:=fun hu hv h=>by
  rcases jC_ hu with ⟨i,t,rfl,rfl⟩ | ⟨x,t,rfl,rfl⟩
  ·rcases jC_ hv with ⟨j,u,rfl,rfl⟩ | ⟨y,u,rfl,rfl⟩
   ·rw [qjo_] at h;exact wpAny_eqBool_int h
   ·rw [qjq_] at h;exact SeqAt.EqAt.int_str i t y u _ _ _ _ h
  ·rcases jC_ hv with ⟨j,u,rfl,rfl⟩ | ⟨y,u,rfl,rfl⟩
   ·rw [qjr_] at h;exact SeqAt.EqAt.str_int x t j u _ _ _ _ h
   ·rw [qjp_] at h;exact wpAny_eqBool_str h
 «strs»:=fun k x t v h=>by
  rcases jC_ h with ⟨i,u,rfl,e⟩ | ⟨y,u,rfl,e⟩
  ·exact nomatch e
  ·injection e with e1 _
   subst e1
   cases v <;> rfl
end L2
namespace L2
open PySem PySem.Spec PyProof.Rows
inductive V where
 | non | bl (b:Bool) | int (i:Int) | str (x:Str) | byt (b:Array UInt8) | flt (b:UInt64) | ref (a:Addr) | ty (n:String)
 deriving DecidableEq
def RelV:V->Value->Prop
 | .non,u=>u = Value.none
 | .bl b,u=>u = Value.bool b
 | .int i,u=>∃ t,u = Value.int i t
 | .str x,u=>∃ t,u = Value.str x t
 | .byt b,u=>∃ t,u = Value.bytes b t
 | .flt b,u=>∃ t,u = Value.float b t
 | .ref a,u=>u = Value.ref a
 | .ty n,u=>u = Value.type n
abbrev Vals:List V->List Value->Prop:=Paired RelV
theorem Vals.length {xs:List V}{us:List Value} (r:Vals xs us):xs.length = us.length:=Paired.length r
theorem Vals.get:∀ {xs:List V}{us:List Value}{i:Nat}{x:V},Vals xs us->xs[i]? = some x->∃ u,us[i]? = some u/\RelV x u
 | _,_,_,_,.nil,e=>by simp at e
 | _,_,0,_,.cons r _,e=>by simp at e;subst e;exact ⟨_,rfl,r⟩
 | _,_,i + 1,x,.cons _ t,e=>by
  obtain ⟨u,h1,h2⟩:=Vals.get (i:=i) (x:=x) t (by simpa using e)
  exact ⟨u,by simpa using h1,h2⟩
theorem Vals.set {x:V}{u:Value} (r:RelV x u):∀ {xs:List V}{us:List Value} (i:Nat),Vals xs us->Vals (xs.set i x) (us.set i u)
 | _,_,_,.nil=>.nil
 | _,_,0,.cons _ t=>.cons r t
 | _,_,i + 1,.cons q t=>.cons q (Vals.set r i t)
theorem Vals.append:∀ {xs ys:List V}{us ws:List Value},Vals xs us->Vals ys ws->Vals (xs ++ ys) (us ++ ws)
 | _,_,_,_,.nil,s=>s
 | _,_,_,_,.cons r t,s=>.cons r (Vals.append t s)
theorem Vals.take:∀ {xs:List V}{us:List Value} (n:Nat),Vals xs us->Vals (xs.take n) (us.take n)
 | _,_,0,_=>.nil
 | _,_,_ + 1,.nil=>.nil
 | _,_,n + 1,.cons r t=>.cons r (Vals.take n t)
theorem Vals.drop:∀ {xs:List V}{us:List Value} (n:Nat),Vals xs us->Vals (xs.drop n) (us.drop n)
 | _,_,0,r=>r
 | _,_,_ + 1,.nil=>.nil
 | _,_,n + 1,.cons _ t=>Vals.drop n t
def RelO:Option V->Option Value->Prop
 | some v,some u=>RelV v u
 | none,none=>True
 | _,_=>False
def KV {κ:Type}:List (κ × V)->List (κ × Value)->Prop:=Paired fun (p:κ × V) (q:κ × Value)=>p.1 = q.1/\RelV p.2 q.2
def kV:Key->V
 | .inl i=>.int i
 | .inr x=>.str x
inductive HO where
 | lst (xs:List V)
 | tup (xs:List V)
 | dK (kvs:List (Key × V)) | dT (kvs:List (List Key × V))
 | set (S:Int->Bool) (n:Nat)
 | ins (C dx:Addr) (fs:List (Str × V))
 | own (x:Addr)
 | xd (fs:List (Str × V))
 | met (f x:Addr)
 | rng (lo hi:Int)
 | frz (o:Obj) (u:HO)
 | tbl (ps:Array Value)
 | ext (φ:Heap->Prop)
abbrev Hp:=Addr->Option HO
def upd (H:Hp) (a:Addr) (o:HO):Hp:=fun b=>if b = a then some o else H b
theorem qc_ {H:Hp}{a:Addr}{o:HO}:upd H a o a = some o:=by unfold upd;rw [if_pos rfl]
theorem qf_ {H:Hp}{a b:Addr}{o:HO} (h:b ≠ a):upd H a o b = H b:=by unfold upd;rw [if_neg h]
theorem jA_ {H:Hp}{a:Addr}{o u:HO}:upd (upd H a o) a u = upd H a u:=by
 funext b;unfold upd;split <;> rfl
theorem y2_ {H:Hp}{a b:Addr}{o u:HO} (h:H a = some o) (h':H b = some u) (d:o ≠ u):a ≠ b:=by
 intro e;subst e;rw [h] at h';exact d (Option.some.inj h')
theorem qm_ {H:Hp}{a b:Addr}{o:HO} (h:H a = some o) (h':H b = none):a ≠ b:=by
 intro e;subst e;rw [h] at h';cases h'
section
variable (P:Program) (w:World)
def ObjOk (H:Hp) (h:Heap) (a:Addr):HO->Prop
 | .lst xs=>xs.length ≤ sizeLine ∧ ∃ (its:List Value) (n:Nat),Vals xs its ∧ h.get? a = some { cls:=.type "list",data:=.seq its.toArray n }
 | .tup xs=>xs.length<=sizeLine/\∃ its:List Value,Vals xs its/\IsTup h a its.toArray
 | .dK kvs=>kvs.length<=sizeLine/\(a == sysModules) = false/\∃ vs,KV kvs vs/\h.DictOf (qce_ P w) a vs
 | .dT kvs=>kvs.length<=sizeLine/\(a == sysModules) = false/\∃ xs:List (List Key × Addr × Value),
   Paired (fun (p:List Key × V) (q:List Key × Addr × Value)=>p.1 = q.1/\H q.2.1 = some (.tup (p.1.map kV))/\RelV p.2 q.2.2) kvs xs ∧
   ∃ o es ep,h.get? a = some o/\o.ExactDict/\o.data = .dict es ep/\es.toList = xs.map (entryOfKey (tupleKind (qce_ P w)))/\(xs.map (·.1)).Nodup
 | .set S n=>h.SetOf (intKind P w) a S n
 | .ins C dx fs=>H dx = some (.own a)/\fs.length<=1000/\dx ≠ a/\h.get? a = some (PySem.W.instObj C dx) ∧
   ∃ mA,h.Ns1 dx mA/\(∀ f,RelO (fs.lookup f) (mA f))/\PySem.Within mA (fs.map (·.1))
 | .own _=>∃ o,h.get? a = some o
 | .xd fs=>∃ mA,h.Ns1 a mA/\∀ f,RelO (fs.lookup f) (mA f)
 | .rng lo hi=>∃ t u v,h.get? a = some { cls:=.type "range",data:=.fields #[.int lo t,.int hi u,.int 1 v] }
 | .frz o u=>h.get? a = some o/\ObjOk H h a u
 | .tbl ps=>h.get? a = some { cls:=.none,data:=.fields ps }
 | .met f x=>h.get? a = some (PySem.W.methodObj (.ref f) (.ref x))
 | .ext φ=>φ h/\(∃ o,h.get? a = some o)/\∀ h1 h2:Heap,φ h1->(∀ o,h1.get? a = some o->h2.get? a = some o)->φ h2
def HOk (H:Hp) (h:Heap):Prop:=∀ a o,H a = some o->ObjOk P w H h a o
end
section
variable {P:Program}{w:World}{H H':Hp}{h h':Heap}{a:Addr}{o:HO}
theorem ObjOk.lt (x:ObjOk P w H h a o):a < h.objs.size:=by
 cases o with
 | lst xs=>obtain ⟨_,_,_,_,e⟩:=x;exact Heap.lt_size e
 | tup xs=>obtain ⟨_,_,_,p⟩:=x;exact p.lt
 | dK kvs=>obtain ⟨_,_,_,_,o,_,_,e,_⟩:=x;exact Heap.lt_size e
 | dT kvs=>obtain ⟨_,_,_,_,o,_,_,e,_⟩:=x;exact Heap.lt_size e
 | set S n=>obtain ⟨o,_,_,_,e,_⟩:=x;exact Heap.lt_size e
 | ins C dx fs=>obtain ⟨_,_,_,e,_⟩:=x;exact Heap.lt_size e
 | own y=>obtain ⟨_,e⟩:=x;exact Heap.lt_size e
 | xd fs=>obtain ⟨_,⟨_,_,_,e,_⟩,_⟩:=x;exact Heap.lt_size e
 | rng lo hi=>obtain ⟨_,_,_,e⟩:=x;exact Heap.lt_size e
 | frz ob u=>obtain ⟨e,_⟩:=x;exact Heap.lt_size e
 | tbl ps=>exact Heap.lt_size (show h.get? a = some _ from x)
 | met f y=>exact Heap.lt_size (show h.get? a = some _ from x)
 | ext φ=>obtain ⟨_,⟨_,e⟩,_⟩:=x;exact Heap.lt_size e
theorem Paired.mapP {α β:Type}{F G:α->β->Prop}:∀ {l₁:List α}{l₂:List β},Paired F l₁ l₂->(∀ a b,F a b->G a b)->Paired G l₁ l₂
 | _,_,.nil,_=>.nil
 | _,_,.cons r t,f=>.cons (f _ _ r) (Paired.mapP t f)
theorem ObjOk.stay (x:ObjOk P w H h a o) (k:∀ b u,(b = a\/H b = some (.own a))->h.get? b = some u->h'.get? b = some u)
  (ho:∀ b,H b = some (.own a)->H' b = some (.own a)) (ht:∀ b xs,H b = some (.tup xs)->H' b = some (.tup xs)):ObjOk P w H' h' a o:=by
 induction o with
 | lst xs=>obtain ⟨z,its,n,r,e⟩:=x;exact ⟨z,its,n,r,k _ _ (.inl rfl) e⟩
 | tup xs=>obtain ⟨z,its,r,ob,e,c⟩:=x;exact ⟨z,its,r,ob,k _ _ (.inl rfl) e,c⟩
 | dK kvs=>obtain ⟨z,y,vs,r,ob,es,ep,e,c⟩:=x;exact ⟨z,y,vs,r,ob,es,ep,k _ _ (.inl rfl) e,c⟩
 | dT kvs =>
  obtain ⟨z,y,xs,r,ob,es,ep,e,c⟩:=x
  exact ⟨z,y,xs,Paired.mapP r fun p q z=>⟨z.1,ht _ _ z.2.1,z.2.2⟩,ob,es,ep,k _ _ (.inl rfl) e,c⟩
 | set S n=>obtain ⟨ob,es,ep,t,e,c⟩:=x;exact ⟨ob,es,ep,t,k _ _ (.inl rfl) e,c⟩
 | ins C dx fs =>
  obtain ⟨d,z,ne,e,mA,⟨od,es,ep,e2,c⟩,r⟩:=x
  exact ⟨ho _ d,z,ne,k _ _ (.inl rfl) e,mA,⟨od,es,ep,k _ _ (.inr d) e2,c⟩,r⟩
 | own y=>obtain ⟨ob,e⟩:=x;exact ⟨ob,k _ _ (.inl rfl) e⟩
 | xd fs=>obtain ⟨mA,⟨od,es,ep,e,c⟩,r⟩:=x;exact ⟨mA,⟨od,es,ep,k _ _ (.inl rfl) e,c⟩,r⟩
 | rng lo hi=>obtain ⟨t,u,v,e⟩:=x;exact ⟨t,u,v,k _ _ (.inl rfl) e⟩
 | frz ob u ih=>obtain ⟨e,q⟩:=x;exact ⟨k _ _ (.inl rfl) e,ih q⟩
 | tbl ps =>
  have e:h.get? a = some { cls:=.none,data:=.fields ps }:=x
  show h'.get? a = some { cls:=.none,data:=.fields ps }
  exact k a _ (.inl rfl) e
 | met f y =>
  have e:h.get? a = some (PySem.W.methodObj (.ref f) (.ref y)):=x
  show h'.get? a = some (PySem.W.methodObj (.ref f) (.ref y))
  exact k a _ (.inl rfl) e
 | ext φ=>obtain ⟨p,⟨o,e⟩,st⟩:=x;exact ⟨st _ _ p fun o q=>k _ _ (.inl rfl) q,⟨o,k _ _ (.inl rfl) e⟩,st⟩
theorem HOk.lt (x:HOk P w H h) (e:H a = some o):a < h.objs.size:=(x a o e).lt
theorem HOk.fresh (x:HOk P w H h) (e:h.objs.size<=a):H a = none:=by
 cases q:H a with
 | none=>rfl
 | some u=>exact absurd (Nat.lt_of_lt_of_le (x.lt q) e) (Nat.lt_irrefl _)
theorem HOk.kept (x:HOk P w H h) (k:∀ b u,h.get? b = some u->h'.get? b = some u):HOk P w H h':=fun a o e =>
 (x a o e).stay (fun b u _ q=>k b u q) (fun _ q=>q) fun _ _ q=>q
theorem HOk.laid (x:HOk P w H h) (k:∀ b u,h.get? b = some u->h'.get? b = some u) (hp:h.objs.size<=a) (new:ObjOk P w (upd H a o) h' a o):HOk P w (upd H a o) h':=fun b u e=>by
 have hn:=x.fresh hp
 by_cases hb:b = a
 ·subst hb;rw [qc_] at e;cases e;exact new
 ·rw [qf_ hb] at e
  exact (x b u e).stay (fun c v _ q=>k c v q) (fun c q=>by rw [qf_ (qm_ q hn)];exact q) fun c xs q=>by rw [qf_ (qm_ q hn)];exact q
end
def Rd (H:Hp) (a:Addr) (u:HO):Prop:=H a = some u\/∃ o,H a = some (.frz o u)
theorem Rd.ok {P:Program}{w:World}{H:Hp}{h:Heap}{a:Addr}{u:HO} (r:Rd H a u) (x:HOk P w H h):ObjOk P w H h a u:=by
 rcases r with r | ⟨o,r⟩
 ·exact x a u r
 ·obtain ⟨_,q⟩:=x a _ r
  exact q
def Mut:Option HO->Prop
 | some (.lst _)=>True
 | some (.dK _)=>True
 | some (.dT _)=>True
 | some (.set _ _)=>True
 | some (.ins _ _ _)=>True
 | some (.ext _)=>True
 | _=>False
section
variable {P:Program}{w:World}{H:Hp}{h h':Heap}{x e:Addr}{o':HO}
theorem HOk.write (ok:HOk P w H h) (mu:Mut (H x)) (he:e = x\/H e = some (.own x)) (k:∀ b u,b ≠ e->h.get? b = some u->h'.get? b = some u) (heo:∃ u,h'.get? e = some u)
  (new:ObjOk P w (upd H x o') h' x o'):HOk P w (upd H x o') h':=fun b u q=>by
 have nown:∀ c y,H c = some (.own y)->c ≠ x:=fun c y r z=>by subst z;rw [r] at mu;exact mu
 have ntup:∀ c xs,H c = some (.tup xs)->c ≠ x:=fun c xs r z=>by subst z;rw [r] at mu;exact mu
 by_cases hb:b = x
 ·subst hb;rw [qc_] at q;cases q;exact new
 ·rw [qf_ hb] at q
  by_cases hbe:b = e
  ·have q':H b = some (.own x):=by
    rcases he with z | z
    ·exact absurd (hbe.trans z) hb
    ·rw [hbe];exact z
   rw [q] at q';cases q'
   obtain ⟨v,hv⟩:=heo
   exact ⟨v,by rw [hbe];exact hv⟩
  ·refine (ok b u q).stay (fun c v hc r=>k c v ?_ r) (fun c r=>by rw [qf_ (nown c b r)];exact r) fun c xs r=>by rw [qf_ (ntup c xs r)];exact r
   rcases hc with rfl | hc
   ·exact hbe
   ·rintro rfl
    rcases he with z | z
    ·exact nown c b hc z
    ·rw [hc] at z;cases z;exact hb rfl
end
structure Un (fs ex:List Addr) (H H':Hp) (h h':Heap):Prop where
 keep:∀ b o,h.get? b = some o->H b = none->b ∉ fs->b ∉ ex->h'.get? b = some o
 slot:∀ b o,h.get? b = some o->H b = none->b ∈ fs->b ∉ ex->∃ sl,h'.get? b = some { o with slots:=sl }
 free:∀ b o,h.get? b = some o->H b = none->b ∉ ex->H' b = none
 there:∀ b o,h.get? b = some o->b ∉ ex->∃ o',h'.get? b = some o'
 tups:∀ b xs,H b = some (.tup xs)->H' b = some (.tup xs)
 frzs:∀ b o u,H b = some (.frz o u)->H' b = some (.frz o u)
 tbls:∀ b ps,H b = some (.tbl ps)->∃ more,H' b = some (.tbl (ps ++ more))
section
variable {fs fs' ex ex':List Addr}{H H1 H2:Hp}{h h1 h2 h':Heap}{a x e:Addr}{o:HO}
theorem Un.any (u:Un fs ex H H1 h h1) {b:Addr}{ob:Obj} (q:h.get? b = some ob) (n:H b = none) (hx:b ∉ ex):∃ sl,h1.get? b = some { ob with slots:=sl }:=by
 by_cases hb:b ∈ fs
 ·exact u.slot b ob q n hb hx
 ·exact ⟨ob.slots,u.keep b ob q n hb hx⟩
theorem Un.trans (a:Un fs ex H H1 h h1) (b:Un fs ex H1 H2 h1 h2):Un fs ex H H2 h h2 where
 keep:=fun c ob q n hc hx=>b.keep c ob (a.keep c ob q n hc hx) (a.free c ob q n hx) hc hx
 slot:=fun c ob q n hc hx=>by
  obtain ⟨sl,e1⟩:=a.slot c ob q n hc hx
  obtain ⟨sl',e2⟩:=b.slot c _ e1 (a.free c ob q n hx) hc hx
  exact ⟨sl',e2⟩
 free:=fun c ob q n hx=>by
  obtain ⟨o',e1⟩:=a.there c ob q hx
  exact b.free c o' e1 (a.free c ob q n hx) hx
 there:=fun c ob q hx=>by
  obtain ⟨o',e1⟩:=a.there c ob q hx
  exact b.there c o' e1 hx
 tups:=fun c xs q=>b.tups c xs (a.tups c xs q)
 frzs:=fun c ob xs q=>b.frzs c ob xs (a.frzs c ob xs q)
 tbls:=fun c ps q=>by
  obtain ⟨m1,e1⟩:=a.tbls c ps q
  obtain ⟨m2,e2⟩:=b.tbls c _ e1
  exact ⟨m1 ++ m2,by rw [e2,Array.append_assoc]⟩
theorem Un.kept (k:∀ b u,h.get? b = some u->h'.get? b = some u):Un fs ex H H h h' :=
 ⟨fun b ob q _ _ _=>k b ob q,fun b ob q _ _ _=>⟨ob.slots,k b ob q⟩,fun _ _ _ n _=>n,fun b ob q _=>⟨ob,k b ob q⟩,fun _ _ q=>q,fun _ _ _ q=>q,fun _ ps q=>⟨#[],by rw [q];simp⟩⟩
theorem Un.refl:Un fs ex H H h h:=Un.kept fun _ _ q=>q
theorem Un.laid (k:∀ b u,h.get? b = some u->h'.get? b = some u) (hp:h.objs.size<=a) (hn:H a = none):Un fs ex H (upd H a o) h h' where
 keep:=fun b u q _ _ _=>k b u q
 slot:=fun b u q _ _ _=>⟨u.slots,k b u q⟩
 free:=fun b u q n _=>by rw [qf_ (Nat.ne_of_lt (Nat.lt_of_lt_of_le (Heap.lt_size q) hp))];exact n
 there:=fun b u q _=>⟨u,k b u q⟩
 tups:=fun b xs q=>by rw [qf_ (qm_ q hn)];exact q
 frzs:=fun b u xs q=>by rw [qf_ (qm_ q hn)];exact q
 tbls:=fun b ps q=>⟨#[],by rw [qf_ (qm_ q hn),q];simp⟩
theorem Un.write (mu:Mut (H x)) (he:e = x\/H e = some (.own x)) (k:∀ b u,b ≠ e->h.get? b = some u->h'.get? b = some u) (heo:∃ u,h'.get? e = some u):Un fs ex H (upd H x o) h h':=by
 have hx:∀ b,H b = none->b ≠ x:=fun b n z=>by subst z;rw [n] at mu;exact mu
 have hb:∀ b,H b = none->b ≠ e:=fun b n z=>by
  subst z
  rcases he with r | r
  ·exact hx b n r
  ·rw [n] at r;cases r
 have hm:∀ b u,H b = some u->¬ Mut (some u)->b ≠ x:=fun b u q nm z=>by subst z;rw [q] at mu;exact nm mu
 refine ⟨fun b u q n _ _=>k b u (hb b n) q,fun b u q n _ _=>⟨u.slots,k b u (hb b n) q⟩,fun b u q n _=>by rw [qf_ (hx b n)];exact n,fun b u q _=>?_,
  fun b xs q=>by rw [qf_ (hm b _ q fun z=>z)];exact q,fun b u xs q=>by rw [qf_ (hm b _ q fun z=>z)];exact q,fun b ps q=>⟨#[],by rw [qf_ (hm b _ q fun z=>z),q];simp⟩⟩
 by_cases hbe:b = e
 ·subst hbe;exact heo
 ·exact ⟨u,k b u hbe q⟩
end
def trk (h:Heap) (H:Hp):List Addr:=(List.range h.objs.size).filter fun a=>(H a).isSome
def hidT (h:Heap) (H:Hp):Heap:=PySem.W.hideAll h (trk h H)
theorem qd7_ (h:Heap) (H:Hp):(hidT h H).objs.size = h.objs.size:=PySem.W.hideAll_size _ _
theorem qf6_ {h:Heap}{H:Hp}{b:Addr}{o:Obj} (e:h.get? b = some o) (n:H b = none):(hidT h H).get? b = some o :=
 PySem.W.hideAll_get _ e fun hm=>by
  have q:(H b).isSome = true:=(List.mem_filter.mp hm).2
  rw [n] at q;simp at q
theorem qh2_ {h:Heap}{H:Hp}{b:Addr}{o:Obj} (e:(hidT h H).get? b = some o):h.get? b = some o/\H b = none:=by
 have e':h.get? b = some o:=PySem.W.of_hideAll (trk h H) e
 refine ⟨e',?_⟩
 cases q:H b with
 | none=>rfl
 | some x =>
  have hm:b ∈ trk h H:=List.mem_filter.mpr ⟨List.mem_range.mpr (Heap.lt_size e'),by simp [q]⟩
  have z:(hidT h H).get? b = none:=PySem.W.hideAll_none (trk h H) hm
  rw [z] at e;cases e
def qh3_ (g h:Heap) (L:Addr):List (Addr × Obj):=(List.range h.objs.size).filterMap fun a=>if a = L\/(g.get? a).isSome = true then none else (h.get? a).map fun o=>(a,o)
def rest (g h:Heap) (L d:Addr):List (Addr × Obj):=(qh3_ g h L).filter fun p=>decide (p.1 ≠ d)
end L2
namespace L2
open PySem PySem.Spec PyProof.Rows
structure Mod (K:PySem.W.Frag) (mg:Str->Option Value) (base:Heap):Prop where
 kin:K.In base
 glob:base.Ns mainGlobals mg
 blt:∃ mb,base.Ns builtinsNs mb ∧ ∀ x:Str,x ≠ "__name__" → mb x = bootBuiltins x
 nolimit:base.NoLimit
structure Cx where
 prog:Program
 w:World
 K:PySem.W.Frag
 mg:Str->Option Value
 base:Heap
 A:Around
 N:List Str
 s₀:Shared
 H₀:Hp
 env:Env
 outer:List Env
 stack:List Env
 ex:List Addr
 fn:Str->Bool
 calm:Bool
 pn:List (Addr × Obj)
 xe:Value->Shared->Prop
def frs (l:List Env):List Addr:=l.filterMap (·.frame)
abbrev Cx.fs (X:Cx):List Addr:=frs X.outer
def Vis (sc:Scope) (x:Str):Prop:=sc.names.lookup x = some .local\/sc.names.lookup x = some .cell\/sc.names.lookup x = some .free
def Loc (sc:Scope) (x:Str):Prop:=sc.names.lookup x = some .local\/sc.names.lookup x = some .cell
def Look (env:Env) (h:Heap) (m:Str->Option Value) (x:Str) (u:Value):Prop :=
 (env.kindOf x = some .local/\m x = some u)\/((env.kindOf x = some .cell\/env.kindOf x = some .free)/\∃ c,env.cells.lookup x = some c/\h.IsCell c (some u))
structure Cx.Ok (X:Cx):Prop where
 mod:Mod X.K X.mg X.base
 kind:X.env.scope.kind = .function
 glob:X.env.globals = mainGlobals
 blt:X.env.builtins = builtinsNs
 above:X.s₀.heap.objs.size<=X.env.locals
 inj:∀ x y c,X.env.cells.lookup x = some c->X.env.cells.lookup y = some c->x = y
 has:∀ x,(X.env.kindOf x = some .cell\/X.env.kindOf x = some .free)->∃ c,X.env.cells.lookup x = some c
 cab:∀ x c,X.fn x = true->X.env.cells.lookup x = some c->X.s₀.heap.objs.size<=c
 hd:X.calm = true->X.A.handled = none
 frames:X.A.frames = some X.stack
 stk:X.stack = X.outer\/(X.stack = X.env :: X.outer/\X.env.frame = some X.env.locals)
 exf:∀ b ∈ X.ex,b ≠ X.env.locals/\∀ x c,X.env.cells.lookup x = some c->c ≠ b
 bs:∀ b o,X.base.get? b = some o->X.s₀.heap.get? b = some o/\X.H₀ b = none
 bsz:X.base.objs.size<=X.s₀.heap.objs.size
 noex:∀ b o,X.base.get? b = some o->b ∉ X.ex
 exfs:∀ b ∈ X.ex,b ∉ X.fs
 funs:X.s₀.heap.FunFrames X.base X.outer
 frf:∀ b ∈ X.fs,X.H₀ b = none
structure Inv (X:Cx) (pins:List (Addr × Obj)) (σ:List (Option V)) (H:Hp) (s:Shared):Prop where
 ok:X.Ok
 os:s.os = X.s₀.os
 bare:AllBare s.gens
 base:Un X.fs X.ex X.H₀ H X.s₀.heap s.heap
 loc:∃ m,s.heap.Ns X.env.locals m/\∀ (i:Nat) (x:Str) (v:V),X.N[i]? = some x->σ[i]? = some (some v)->Vis X.env.scope x->∃ u,RelV v u/\Look X.env s.heap m x u
 cell:∀ x c,X.env.cells.lookup x = some c->∃ v,s.heap.IsCell c v
 free:H X.env.locals = none
 freeC:∀ x c,X.env.cells.lookup x = some c->H c = none
 pin:∀ p ∈ X.pn ++ pins,s.heap.get? p.1 = some p.2/\H p.1 = none/\p.1 ≠ X.env.locals/\p.1 ∉ X.fs/\∀ v,p.2.data ≠ .cell v
 hok:HOk X.prog X.w H s.heap
 len:σ.length = X.N.length
section
variable {X:Cx}{pins:List (Addr × Obj)}{σ:List (Option V)}{H H':Hp}{s:Shared}{h':Heap}
theorem Cx.Ok.nofr (ok:X.Ok) {b:Addr}{o:Obj} (e:X.base.get? b = some o):b ∉ X.fs:=fun hb=>by
 have:=(ok.funs.mem hb).1
 rw [e] at this;cases this
theorem Inv.bs (I:Inv X pins σ H s):∀ b o,X.base.get? b = some o->s.heap.get? b = some o/\H b = none:=fun b o e =>
 ⟨I.base.keep b o (I.ok.bs b o e).1 (I.ok.bs b o e).2 (I.ok.nofr e) (I.ok.noex b o e),I.base.free b o (I.ok.bs b o e).1 (I.ok.bs b o e).2 (I.ok.noex b o e)⟩
theorem Inv.bk (I:Inv X pins σ H s):∀ b o,X.base.get? b = some o->s.heap.get? b = some o:=fun b o e=>(I.bs b o e).1
theorem Inv.mod (I:Inv X pins σ H s):Mod X.K X.mg X.base:=I.ok.mod
theorem Inv.kIn (I:Inv X pins σ H s):X.K.In s.heap:=I.ok.mod.kin.keeps I.bk
theorem Inv.lt (I:Inv X pins σ H s):X.env.locals < s.heap.objs.size:=let ⟨_,hn,_⟩:=I.loc;hn.lt
theorem Inv.sz (I:Inv X pins σ H s):X.s₀.heap.objs.size<=s.heap.objs.size:=Nat.le_trans I.ok.above (Nat.le_of_lt I.lt)
theorem Inv.nofs (I:Inv X pins σ H s) {a:Addr} (h:s.heap.objs.size<=a):a ∉ X.fs:=fun hb=>by
 obtain ⟨_,o,ho,_⟩:=I.ok.funs.mem hb
 exact absurd (Nat.lt_of_lt_of_le (Heap.lt_size ho) (Nat.le_trans I.sz h)) (Nat.lt_irrefl _)
theorem Inv.cne (I:Inv X pins σ H s):∀ x c,X.env.cells.lookup x = some c->c ≠ X.env.locals:=fun x c e z=>by
 obtain ⟨v,o,ho,hd⟩:=I.cell x c e
 obtain ⟨m,⟨o',es,ep,ho',hd',_⟩,_⟩:=I.loc
 rw [z,ho'] at ho;cases ho;rw [hd'] at hd;cases hd
theorem Inv.funs (I:Inv X pins σ H s):s.heap.FunFrames X.base X.outer:=by
 have all:∀ (l:List Env),(∀ b ∈ frs l,b ∈ X.fs)->X.s₀.heap.FunFrames X.base l->s.heap.FunFrames X.base l:=by
  intro l
  induction l with
  | nil=>intro _ _;trivial
  | cons env r ih =>
   intro hs hl
   obtain ⟨hk,⟨L,o,hf,hn,ho,hd⟩,hr⟩:=hl
   have hL:L ∈ X.fs:=hs L (by unfold frs;rw [List.filterMap_cons,hf];exact List.mem_cons_self)
   obtain ⟨sl,e⟩:=I.base.slot L o ho (I.ok.frf L hL) hL fun z=>I.ok.exfs L z hL
   exact ⟨hk,⟨L,_,hf,hn,e,hd⟩,ih (fun b hb=>hs b (by unfold frs;rw [List.filterMap_cons,hf];exact List.mem_cons_of_mem _ hb)) hr⟩
 exact all X.outer (fun _ hb=>hb) I.ok.funs
theorem Inv.stack (I:Inv X pins σ H s):s.heap.FunFrames X.base X.stack:=by
 rcases I.ok.stk with e | ⟨e,hf⟩
 ·rw [e];exact I.funs
 ·rw [e]
  obtain ⟨m,hn,_⟩:=I.loc
  refine .cons (by rw [I.ok.kind];decide) hf hn ?_ I.funs
  exact Heap.get?_none_of_le (Nat.le_trans I.ok.bsz I.ok.above)
theorem Inv.stkSub (I:Inv X pins σ H s):∀ b ∈ frs X.stack,b ∈ X.env.locals :: X.fs:=fun b hb=>by
 rcases I.ok.stk with e | ⟨e,hf⟩
 ·rw [e] at hb;exact List.mem_cons_of_mem _ hb
 ·rw [e] at hb
  unfold frs at hb
  rw [List.filterMap_cons,hf] at hb
  exact hb
theorem Inv.stkFree (I:Inv X pins σ H s):∀ b ∈ frs X.stack,H b = none:=fun b hb=>by
 rcases List.mem_cons.mp (I.stkSub b hb) with e | hb
 ·rw [e];exact I.free
 ·obtain ⟨_,o,ho,_⟩:=I.ok.funs.mem hb
  exact I.base.free b o ho (I.ok.frf b hb) fun z=>I.ok.exfs b z hb
theorem Inv.step {g':Array GenState}{t':Nat}{d':Drawn}{ch:List Addr} (I:Inv X pins σ H s)
  (hch:∀ b ∈ ch,(b ∈ X.ex\/X.s₀.heap.objs.size<=b)/\b ≠ X.env.locals/\(∀ x c,X.env.cells.lookup x = some c->c ≠ b)/\∀ p ∈ X.pn ++ pins,p.1 ≠ b)
  (keep:∀ b o,b ≠ X.env.locals->b ∉ X.fs->b ∉ ch->s.heap.get? b = some o->H b = none->h'.get? b = some o)
  (slot:∀ b o,b ≠ X.env.locals->b ∈ X.fs->b ∉ ch->s.heap.get? b = some o->H b = none->∃ sl,h'.get? b = some { o with slots:=sl }) (free:∀ b o,b ∉ ch->s.heap.get? b = some o->H b = none->H' b = none)
  (there:∀ b o,b ∉ ch->s.heap.get? b = some o->∃ o',h'.get? b = some o')
  (tups:∀ b xs,H b = some (.tup xs)->H' b = some (.tup xs)) (frzs:∀ b o u,H b = some (.frz o u)->H' b = some (.frz o u)) (tbls:∀ b ps,H b = some (.tbl ps)->∃ more,H' b = some (.tbl (ps ++ more)))
  (ns:∀ m,s.heap.Ns X.env.locals m->h'.Ns X.env.locals m) (hok:HOk X.prog X.w H' h') (hg:AllBare g') :
  Inv X pins σ H' { s with heap:=h',gens:=g',drawn:=d',toks:=t' }:=by
 have neL:∀ b o,X.s₀.heap.get? b = some o->b ≠ X.env.locals:=fun b o e=>Nat.ne_of_lt (Nat.lt_of_lt_of_le (Heap.lt_size e) I.ok.above)
 have neC:∀ b o,X.s₀.heap.get? b = some o->b ∉ X.ex->b ∉ ch:=fun b o e hx hb=>by
  rcases (hch b hb).1 with z | z
  ·exact hx z
  ·exact absurd (Nat.lt_of_lt_of_le (Heap.lt_size e) z) (Nat.lt_irrefl _)
 have cellK:∀ x c,X.env.cells.lookup x = some c->∀ v,s.heap.IsCell c v->h'.IsCell c v:=fun x c e v ⟨o,ho,hd⟩=>by
  have nch:c ∉ ch:=fun z=>(hch c z).2.2.1 x c e rfl
  by_cases hc:c ∈ X.fs
  ·obtain ⟨sl,q⟩:=slot c o (I.cne x c e) hc nch ho (I.freeC x c e)
   exact ⟨_,q,hd⟩
  ·exact ⟨o,keep c o (I.cne x c e) hc nch ho (I.freeC x c e),hd⟩
 refine ⟨I.ok,I.os,hg,⟨fun b o e n hb hx=>?_,fun b o e n hb hx=>?_,fun b o e n hx=>?_,fun b o e hx=>?_,fun b xs e=>tups b xs (I.base.tups b xs e),fun b o xs e=>frzs b o xs (I.base.frzs b o xs e),fun b ps e=>?_⟩,?_,fun x c e=>?_,?_,fun x c e=>?_,fun p hp=>?_,hok,I.len⟩
 ·exact keep b o (neL b o e) hb (neC b o e hx) (I.base.keep b o e n hb hx) (I.base.free b o e n hx)
 ·obtain ⟨sl,e1⟩:=I.base.slot b o e n hb hx
  obtain ⟨sl',e2⟩:=slot b _ (neL b o e) hb (neC b o e hx) e1 (I.base.free b o e n hx)
  exact ⟨sl',e2⟩
 ·obtain ⟨o',e1⟩:=I.base.there b o e hx
  exact free b o' (neC b o e hx) e1 (I.base.free b o e n hx)
 ·obtain ⟨o',e1⟩:=I.base.there b o e hx
  exact there b o' (neC b o e hx) e1
 ·obtain ⟨m1,e1⟩:=I.base.tbls b ps e
  obtain ⟨m2,e2⟩:=tbls b _ e1
  exact ⟨m1 ++ m2,by rw [e2,Array.append_assoc]⟩
 ·obtain ⟨m,hn,hl⟩:=I.loc
  refine ⟨m,ns m hn,fun i x v e1 e2 e3=>?_⟩
  obtain ⟨u,r,l⟩:=hl i x v e1 e2 e3
  refine ⟨u,r,?_⟩
  rcases l with l | ⟨k,c,e,z⟩
  ·exact .inl l
  ·exact .inr ⟨k,c,e,cellK x c e _ z⟩
 ·obtain ⟨v,z⟩:=I.cell x c e
  exact ⟨v,cellK x c e v z⟩
 ·obtain ⟨m,⟨o,_,_,ho,_⟩,_⟩:=I.loc
  exact free _ o (fun z=>(hch _ z).2.1 rfl) ho I.free
 ·obtain ⟨v,o,ho,hd⟩:=I.cell x c e
  exact free c o (fun z=>(hch c z).2.2.1 x c e rfl) ho (I.freeC x c e)
 ·obtain ⟨e,n,ne,nf,d⟩:=I.pin p hp
  have nch:p.1 ∉ ch:=fun z=>(hch p.1 z).2.2.2 p hp rfl
  exact ⟨keep p.1 p.2 ne nf nch e n,free p.1 p.2 nch e n,ne,nf,d⟩
theorem Inv.un {t':Nat} (I:Inv X pins σ H s) (u:Un X.fs [] H H' s.heap h') (hok:HOk X.prog X.w H' h'):Inv X pins σ H' { s with heap:=h',toks:=t' }:=by
 obtain ⟨m,⟨o,es,ep,ho,r⟩,_⟩:=id I.loc
 obtain ⟨sl,hL⟩:=u.any ho I.free (by simp)
 exact I.step (g':=s.gens) (d':=s.drawn) (ch:=[]) (fun _ z=>nomatch z) (fun b o _ hb _ e n=>u.keep b o e n hb (by simp)) (fun b o _ hb _ e n=>u.slot b o e n hb (by simp)) (fun b o _ e n=>u.free b o e n (by simp)) (fun b o _ e=>u.there b o e (by simp)) u.tups u.frzs u.tbls (fun m' hm=>by
  obtain ⟨o',es',ep',ho',r'⟩:=hm
  rw [ho] at ho';cases ho'
  exact ⟨_,es',ep',hL,r'⟩) hok I.bare
theorem Inv.call {g':Array GenState}{t':Nat}{d':Drawn}{ch:List Addr} (I:Inv X pins σ H s) (u:Un (frs X.stack) ch H H' s.heap h') (hok:HOk X.prog X.w H' h') (hg:AllBare g')
  (hch:∀ b ∈ ch,(b ∈ X.ex\/X.s₀.heap.objs.size<=b)/\b ≠ X.env.locals/\(∀ x c,X.env.cells.lookup x = some c->c ≠ b)/\∀ p ∈ X.pn ++ pins,p.1 ≠ b) :
  Inv X pins σ H' { s with heap:=h',gens:=g',drawn:=d',toks:=t' }:=by
 obtain ⟨m,⟨o,es,ep,ho,r⟩,_⟩:=id I.loc
 obtain ⟨sl,hL⟩:=u.any ho I.free fun z=>(hch _ z).2.1 rfl
 exact I.step (ch:=ch) hch (fun b o hL hb hc e n=>u.keep b o e n (fun z=>(List.mem_cons.mp (I.stkSub b z)).elim hL hb) hc) (fun b o _ _ hc e n=>u.any e n hc) (fun b o hc e n=>u.free b o e n hc) (fun b o hc e=>u.there b o e hc) u.tups u.frzs u.tbls (fun m' hm=>by
  obtain ⟨o',es',ep',ho',r'⟩:=hm
  rw [ho] at ho';cases ho'
  exact ⟨_,es',ep',hL,r'⟩) hok hg
theorem Inv.turned {t':Nat}{it:Addr} (I:Inv X pins σ H s) (k:∀ b o,b ≠ it->s.heap.get? b = some o->h'.get? b = some o) (hn:H it = none) (hL:it ≠ X.env.locals)
  (h1:it ∈ X.ex\/X.s₀.heap.objs.size<=it) (h2:∀ x c,X.env.cells.lookup x = some c->c ≠ it) (h3:∀ p ∈ X.pn ++ pins,p.1 ≠ it):Inv X pins σ H { s with heap:=h',toks:=t' }:=by
 have nit:∀ b u,H b = some u->b ≠ it:=fun b u e z=>by rw [z,hn] at e;cases e
 refine I.step (g':=s.gens) (d':=s.drawn) (ch:=[it]) (fun b hb=>?_) (fun b o _ _ hc e _=>k b o (fun z=>hc (by simp [z])) e) (fun b o _ _ hc e _=>⟨o.slots,k b o (fun z=>hc (by simp [z])) e⟩) (fun _ _ _ _ n=>n)
  (fun b o hc e=>⟨o,k b o (fun z=>hc (by simp [z])) e⟩) (fun _ _ e=>e) (fun _ _ _ e=>e) (fun b ps e=>⟨#[],by rw [e];simp⟩) (fun m hm=>?_) (fun b u e=>?_) I.bare
 ·have e:b = it:=by simpa using hb
  subst e
  exact ⟨h1,hL,h2,h3⟩
 ·obtain ⟨o,es,ep,ho,r⟩:=hm
  exact ⟨o,es,ep,k _ o (Ne.symm hL) ho,r⟩
 ·refine (I.hok b u e).stay (fun c v hc q=>k c v ?_ q) (fun _ q=>q) fun _ _ q=>q
  rcases hc with z | z
  ·rw [z];exact nit b u e
  ·exact nit c _ z
theorem Inv.tok (I:Inv X pins σ H s) (t:Nat):Inv X pins σ H { s with toks:=t }:=I.un (h':=s.heap) (t':=t) Un.refl I.hok
theorem Inv.kept {t':Nat} (I:Inv X pins σ H s) (k:∀ b u,s.heap.get? b = some u->h'.get? b = some u):Inv X pins σ H { s with heap:=h',toks:=t' }:=I.un (Un.kept k) (I.hok.kept k)
theorem Inv.laid {a:Addr}{o:HO}{t':Nat} (I:Inv X pins σ H s) (k:∀ b u,s.heap.get? b = some u->h'.get? b = some u) (hp:s.heap.objs.size<=a) (new:ObjOk X.prog X.w (upd H a o) h' a o) :
  Inv X pins σ (upd H a o) { s with heap:=h',toks:=t' }:=I.un (Un.laid k hp (I.hok.fresh hp)) (I.hok.laid k hp new)
theorem Inv.write {x e:Addr}{o:HO}{t':Nat} (I:Inv X pins σ H s) (mu:Mut (H x)) (he:e = x\/H e = some (.own x)) (k:∀ b u,b ≠ e->s.heap.get? b = some u->h'.get? b = some u) (heo:∃ u,h'.get? e = some u)
  (new:ObjOk X.prog X.w (upd H x o) h' x o):Inv X pins σ (upd H x o) { s with heap:=h',toks:=t' }:=I.un (Un.write mu he k heo) (I.hok.write mu he k heo new)
theorem Inv.pins_of {pins':List (Addr × Obj)} (I:Inv X pins σ H s) (h:∀ p ∈ pins',s.heap.get? p.1 = some p.2/\H p.1 = none/\p.1 ≠ X.env.locals/\p.1 ∉ X.fs/\∀ v,p.2.data ≠ .cell v):Inv X pins' σ H s :=
 ⟨I.ok,I.os,I.bare,I.base,I.loc,I.cell,I.free,I.freeC,fun p hp=>(List.mem_append.mp hp).elim (fun z=>I.pin p (List.mem_append_left _ z)) (h p),I.hok,I.len⟩
theorem vH_ {N:List Str} (hN:N.Nodup) {i j:Nat}{x:Str} (a:N[i]? = some x) (b:N[j]? = some x):i = j:=by
 obtain ⟨h1,e1⟩:=List.getElem?_eq_some_iff.mp a
 obtain ⟨h2,e2⟩:=List.getElem?_eq_some_iff.mp b
 exact (List.getElem_inj hN).mp (e1.trans e2.symm)
theorem uJ_ {M:Model}{A:Around}{E:Value->Shared->Prop}{i:Nat}{x:Str}{v:V}{u:Value}{Q:Unit->Shared->Prop} (I:Inv X pins σ H s) (hN:X.N.Nodup) (hi:X.N[i]? = some x) (hx:Loc X.env.scope x) (r:RelV v u)
  (h:∀ s',Inv X pins (σ.set i (some v)) H s'->(∃ a,Heap.SameBut a s.heap s'.heap/\(a = X.env.locals\/X.env.cells.lookup x = some a))->Q () s') (hf:X.fn x = true\/X.env.scope.names.lookup x = some .local:=by first | exact .inl rfl | exact .inr rfl | assumption):wpAny M A (storeName X.env x u) Q E s:=by
 obtain ⟨m,hn,hl⟩:=id I.loc
 have hcls:(X.env.scope.kind == .class || (X.env.scope.kind == .module && X.env.locals != X.env.globals)) = false:=by rw [I.ok.kind];rfl
 have hiσ:i < σ.length:=by rw [I.len];exact (List.getElem?_eq_some_iff.mp hi).1
 have cne:=I.cne
 have tracked:∀ {a:Addr}{h':Heap},(∃ o,s.heap.get? a = some o/\H a = none)->Heap.SameBut a s.heap h'->HOk X.prog X.w H h':=fun {a h'} ha hs b ob e=>by
  obtain ⟨_,_,hfree⟩:=ha
  refine (I.hok b ob e).stay (fun c w' hc q=>(hs.2 c ?_).trans q) (fun _ q=>q) fun _ _ q=>q
  rintro rfl
  rcases hc with rfl | hc
  ·rw [hfree] at e;cases e
  ·rw [hfree] at hc;cases hc
 rcases hx with hk | hk
 ·refine wpAny_storeName_local hk hn (fun h' hn' hs=>?_) hcls
  obtain ⟨oL,_,_,hoL,_⟩:=id hn
  refine h _ ⟨I.ok,I.os,I.bare,⟨fun b o e n hb hx=>?_,fun b o e n hb hx=>?_,I.base.free,fun b o e hx=>?_,I.base.tups,I.base.frzs,I.base.tbls⟩,⟨_,hn',fun j y v' e1 e2 e3=>?_⟩,fun y c e=>?_,I.free,I.freeC,fun p hp=>?_,tracked ⟨oL,hoL,I.free⟩ hs,by simpa using I.len⟩ ⟨_,hs,.inl rfl⟩
  ·exact (hs.2 b (Nat.ne_of_lt (Nat.lt_of_lt_of_le (Heap.lt_size e) I.ok.above))).trans (I.base.keep b o e n hb hx)
  ·obtain ⟨sl,e1⟩:=I.base.slot b o e n hb hx
   exact ⟨sl,(hs.2 b (Nat.ne_of_lt (Nat.lt_of_lt_of_le (Heap.lt_size e) I.ok.above))).trans e1⟩
  ·obtain ⟨o',e1⟩:=I.base.there b o e hx
   exact ⟨o',(hs.2 b (Nat.ne_of_lt (Nat.lt_of_lt_of_le (Heap.lt_size e) I.ok.above))).trans e1⟩
  ·by_cases hj:j = i
   ·subst hj
    rw [hi] at e1;cases e1
    rw [List.getElem?_set_self hiσ] at e2
    cases e2
    exact ⟨u,r,.inl ⟨hk,by simp⟩⟩
   ·rw [List.getElem?_set_ne (Ne.symm hj)] at e2
    obtain ⟨u',r',q⟩:=hl j y v' e1 e2 e3
    refine ⟨u',r',?_⟩
    rcases q with ⟨k,e⟩ | ⟨k,c,e,z⟩
    ·refine .inl ⟨k,?_⟩
     have:y ≠ x:=fun e=>hj (vH_ hN e1 (e ▸ hi))
     simp [this,e]
    ·exact .inr ⟨k,c,e,z.sameBut hs (cne y c e)⟩
  ·obtain ⟨w',z⟩:=I.cell y c e
   exact ⟨w',z.sameBut hs (cne y c e)⟩
  ·obtain ⟨e,n,ne,nf,d⟩:=I.pin p hp
   exact ⟨(hs.2 p.1 ne).trans e,n,ne,nf,d⟩
 ·have hfn:X.fn x = true:=by
   rcases hf with z | z
   ·exact z
   ·rw [z] at hk;cases hk
  obtain ⟨c,hc⟩:=I.ok.has x (.inl hk)
  obtain ⟨w',z⟩:=I.cell x c hc
  refine wpAny_storeName_cell I.ok.kind hk hc z (fun h' hc' hs=>?_)
  obtain ⟨oc,hoc,hocd⟩:=id z
  refine h { s with heap:=h' } ⟨I.ok,I.os,I.bare,⟨fun b o e n hb hx=>?_,fun b o e n hb hx=>?_,I.base.free,fun b o e hx=>?_,I.base.tups,I.base.frzs,I.base.tbls⟩,⟨m,hn.sameBut hs (Ne.symm (cne x c hc)),fun j y v' e1 e2 e3=>?_⟩,fun y c' e=>?_,I.free,I.freeC,fun p hp=>?_,tracked ⟨oc,hoc,I.freeC x c hc⟩ hs,by simpa using I.len⟩ ⟨c,hs,.inr hc⟩
  ·exact (hs.2 b (Nat.ne_of_lt (Nat.lt_of_lt_of_le (Heap.lt_size e) (I.ok.cab x c hfn hc)))).trans (I.base.keep b o e n hb hx)
  ·obtain ⟨sl,e1⟩:=I.base.slot b o e n hb hx
   exact ⟨sl,(hs.2 b (Nat.ne_of_lt (Nat.lt_of_lt_of_le (Heap.lt_size e) (I.ok.cab x c hfn hc)))).trans e1⟩
  ·obtain ⟨o',e1⟩:=I.base.there b o e hx
   exact ⟨o',(hs.2 b (Nat.ne_of_lt (Nat.lt_of_lt_of_le (Heap.lt_size e) (I.ok.cab x c hfn hc)))).trans e1⟩
  ·by_cases hj:j = i
   ·subst hj
    rw [hi] at e1;cases e1
    rw [List.getElem?_set_self hiσ] at e2
    cases e2
    exact ⟨u,r,.inr ⟨.inl hk,c,hc,hc'⟩⟩
   ·rw [List.getElem?_set_ne (Ne.symm hj)] at e2
    obtain ⟨u',r',q⟩:=hl j y v' e1 e2 e3
    refine ⟨u',r',?_⟩
    rcases q with q | ⟨k,c',e,z'⟩
    ·exact .inl q
    ·refine .inr ⟨k,c',e,z'.sameBut hs ?_⟩
     rintro rfl
     exact hj (vH_ hN e1 (I.ok.inj _ _ _ e hc ▸ hi))
  ·by_cases hcc:c' = c
   ·subst hcc;exact ⟨_,hc'⟩
   ·obtain ⟨w2,z2⟩:=I.cell y c' e
    exact ⟨w2,z2.sameBut hs hcc⟩
  ·obtain ⟨e,n,ne,nf,d⟩:=I.pin p hp
   refine ⟨(hs.2 p.1 ?_).trans e,n,ne,nf,d⟩
   intro q
   rw [q,hoc] at e
   have q':oc = p.2:=Option.some.inj e
   exact d w' (by rw [<- q'];exact hocd)
theorem zJ_ {M:Model}{A:Around}{E:Value->Shared->Prop}{i:Nat}{x:Str}{v:V}{u:Value}{Q:Unit->Shared->Prop} (I:Inv X pins σ H s) (hN:X.N.Nodup) (hi:X.N[i]? = some x) (hx:Loc X.env.scope x) (r:RelV v u)
  (h:∀ s',Inv X pins (σ.set i (some v)) H s'->Q () s') (hf:X.fn x = true\/X.env.scope.names.lookup x = some .local:=by first | exact .inl rfl | exact .inr rfl | assumption):wpAny M A (storeName X.env x u) Q E s :=
 uJ_ I hN hi hx r (fun s' I' _=>h s' I') hf
theorem Inv.call' {s':Shared}{ch:List Addr} (I:Inv X pins σ H s) (ho:s'.os = s.os) (u:Un (frs X.stack) ch H H' s.heap s'.heap) (hok:HOk X.prog X.w H' s'.heap) (hg:AllBare s'.gens)
  (hch:∀ b ∈ ch,(b ∈ X.ex\/X.s₀.heap.objs.size<=b)/\b ≠ X.env.locals/\(∀ x c,X.env.cells.lookup x = some c->c ≠ b)/\∀ p ∈ X.pn ++ pins,p.1 ≠ b):Inv X pins σ H' s':=by
 obtain ⟨h',g',d',t',o'⟩:=s'
 have e:o' = s.os:=ho
 subst e
 exact I.call (g':=g') (t':=t') (d':=d') u hok hg hch
end
abbrev XK:=Value->Option Addr->Hp->Prop
abbrev St:=List (Option V)
abbrev VK:=V->Hp->Prop
abbrev TE:=St->Hp->VK->Prop
abbrev TT:=St->Hp->(Bool->Hp->Prop)->Prop
abbrev TA:=St->Hp->(List V->Hp->Prop)->Prop
structure Ends where
 nx:St->Hp->Prop
 rt:VK
 bk:St->Hp->Prop:=fun _ _=>False
 ct:St->Hp->Prop:=fun _ _=>False
abbrev TS:=Ends->St->Hp->Prop
def EP (X:Cx) (pins:List (Addr × Obj)) (σ:St) (Q:VK) (u:Value) (s':Shared):Prop:=∃ v H',Inv X pins σ H' s'/\RelV v u/\Q v H'
def TP (X:Cx) (pins:List (Addr × Obj)) (σ:St) (Q:Bool->Hp->Prop) (b:Bool) (s':Shared):Prop:=∃ H',Inv X pins σ H' s'/\Q b H'
def AP (X:Cx) (pins:List (Addr × Obj)) (σ:St) (Q:List V->Hp->Prop) (us:List Value) (s':Shared):Prop:=∃ vs H',Inv X pins σ H' s'/\Vals vs us/\Q vs H'
def SP (X:Cx) (pins:List (Addr × Obj)) (D:Ends) (f:Flow) (s':Shared):Prop :=
 match f with
 | .next=>∃ σ' H',Inv X pins σ' H' s'/\D.nx σ' H'
 | .brk=>∃ σ' H',Inv X pins σ' H' s'/\D.bk σ' H'
 | .cont=>∃ σ' H',Inv X pins σ' H' s'/\D.ct σ' H'
 | .ret u=>∃ v σ' H',Inv X pins σ' H' s'/\RelV v u/\D.rt v H'
def PE (X:Cx) (e:Expr) (t:TE):Prop :=
 ∀ (pins:List (Addr × Obj)) (s:Shared) (σ:St) (H:Hp) (Q:VK),Inv X pins σ H s->t σ H Q->wpAny (model X.prog X.w) X.A (eval e X.env) (EP X pins σ Q) X.xe s
def PT (X:Cx) (e:Expr) (t:TT):Prop :=
 ∀ (pins:List (Addr × Obj)) (s:Shared) (σ:St) (H:Hp) (Q:Bool->Hp->Prop),Inv X pins σ H s->t σ H Q->wpAny (model X.prog X.w) X.A (isTrue e X.env (eval e X.env)) (TP X pins σ Q) X.xe s
def PW (X:Cx) (e:Expr) (t:TT):Prop :=
 ∀ (whole:Sem Value) (pins:List (Addr × Obj)) (s:Shared) (σ:St) (H:Hp) (Q:Bool->Hp->Prop),Inv X pins σ H s->t σ H Q->wpAny (model X.prog X.w) X.A (isTrue e X.env whole) (TP X pins σ Q) X.xe s
theorem PW.pt {X:Cx}{e:Expr}{t:TT} (h:PW X e t):PT X e t:=h _
def PA (X:Cx) (es:List Expr) (t:TA):Prop :=
 ∀ (pos:Pos) (pins:List (Addr × Obj)) (s:Shared) (σ:St) (H:Hp) (Q:List V->Hp->Prop),Inv X pins σ H s->t σ H Q->wpAny (model X.prog X.w) X.A (spliced (backTo pos (starEach es X.env))) (AP X pins σ Q) X.xe s
def PS (X:Cx) (st:Stmt) (t:TS):Prop :=
 ∀ (pins:List (Addr × Obj)) (s:Shared) (σ:St) (H:Hp) (D:Ends),Inv X pins σ H s->t D σ H->wpAny (model X.prog X.w) X.A (exec st X.env) (SP X pins D) X.xe s
def PSs (X:Cx) (st:List Stmt) (t:TS):Prop :=
 ∀ (pins:List (Addr × Obj)) (s:Shared) (σ:St) (H:Hp) (D:Ends),Inv X pins σ H s->t D σ H->wpAny (model X.prog X.w) X.A (execs st X.env) (SP X pins D) X.xe s
theorem thn {α:Type}{t:Sem α}{Q Q':α->Shared->Prop}{M:Model}{A:Around}{E:Value->Shared->Prop}{s:Shared} (h:wpAny M A t Q E s) (hQ:∀ a s,Q a s->Q' a s):wpAny M A t Q' E s:=wpAny_mono h hQ fun _ _ x=>x
end L2
namespace L2
open PySem PySem.Spec PyProof.Rows
section
variable {X:Cx}
def tVar (i:Nat):TE:=fun σ H Q=>∃ v,σ[i]? = some (some v)/\Q v H
def tC (v:V):TE:=fun _ H Q=>Q v H
theorem qjs_ {i:Nat}{x:Str}{pos:Pos} (hN:X.N[i]? = some x) (hv:Vis X.env.scope x) (hd:(x == ("__debug__" : Str)) = false:=by decide) (hcd:(x == ("__classdict__" : Str)) = false:=by decide):PE X (.Name x pos) (tVar i):=by
 intro pins s σ H Q I h
 obtain ⟨v,e,h⟩:=h
 obtain ⟨m,hn,hl⟩:=I.loc
 obtain ⟨u,r,l⟩:=hl i x v hN e hv
 have fin:EP X pins σ Q u s:=⟨v,H,I,r,h⟩
 rcases l with ⟨hk,hm⟩ | ⟨hk,c,hc,hcell⟩
 ·exact wpAny_Name (wpAny_loadName_local I.ok.kind hk hn hm fin) hd
 ·rcases hk with hk | hk
  ·exact wpAny_Name (wpAny_loadName_cell I.ok.kind hk hc hcell fin) hd
  ·exact wpAny_Name (wpAny_loadName_free I.ok.kind hk hc hcell fin hcd) hd
theorem qj_ {i j pos}:PE X (.Constant (.int i) j pos) (tC (.int i)):=fun _ _ _ H _ I h=>wpAny_Constant_int ⟨.int i,H,I.tok _,⟨_,rfl⟩,h⟩
theorem yI_ {b j pos}:PE X (.Constant (.bool b) j pos) (tC (.bl b)):=fun _ _ _ H _ I h=>Constant_bool ⟨.bl b,H,I,rfl,h⟩
theorem jo_ {j pos}:PE X (.Constant .none j pos) (tC .non):=fun _ _ _ H _ I h=>Constant_none ⟨.non,H,I,rfl,h⟩
theorem v0_ {x j pos}:PE X (.Constant (.str x) j pos) (tC (.str x)):=fun _ _ _ H _ I h=>Calls.Constant_str ⟨.str x,H,I.tok _,⟨_,rfl⟩,h⟩
def Gl (X:Cx) (x:Str):Prop:=X.env.kindOf x = some .globalImplicit
theorem ur_ {E:Value->Shared->Prop}{pins:List (Addr × Obj)}{s:Shared}{σ:St}{H:Hp}{x:Str}{u:Value}{pos:Pos}{Q:Value->Shared->Prop} (I:Inv X pins σ H s) (hg:Gl X x) (hm:X.mg x = some u) (h:Q u s)
  (hd:(x == ("__debug__" : Str)) = false:=by decide):wpAny (model X.prog X.w) X.A (eval (.Name x pos) X.env) Q E s :=
 Calls.Name_function_global I.ok.kind hg (Calls.loadGlobal_global (by rw [I.ok.glob];exact I.mod.glob.keeps I.bk) hm h) hd
theorem yz_ {E:Value->Shared->Prop}{pins:List (Addr × Obj)}{s:Shared}{σ:St}{H:Hp}{x:Str}{u:Value}{pos:Pos}{Q:Value->Shared->Prop} (I:Inv X pins σ H s) (hg:Gl X x) (hm:X.mg x = none) (hv:bootBuiltins x = some u) (h:Q u s)
  (hn:x ≠ "__name__":=by decide) (hd:(x == ("__debug__" : Str)) = false:=by decide):wpAny (model X.prog X.w) X.A (eval (.Name x pos) X.env) Q E s:=by
 obtain ⟨mb,h1,h2⟩:=I.mod.blt
 exact Calls.Name_function_global I.ok.kind hg (Calls.loadGlobal_builtin (by rw [I.ok.glob];exact I.mod.glob.keeps I.bk) hm (by rw [I.ok.blt];exact h1.keeps I.bk) ((h2 x hn).trans hv) h) hd
theorem zA_ {x:Str}{v:V}{u:Value}{pos:Pos} (hg:Gl X x) (hm:X.mg x = some u) (r:RelV v u) (hd:(x == ("__debug__" : Str)) = false:=by decide):PE X (.Name x pos) (tC v) :=
 fun _ _ _ H _ I h=>ur_ I hg hm ⟨v,H,I,r,h⟩ hd
theorem vm_ {x:Str}{v:V}{u:Value}{pos:Pos} (hg:Gl X x) (hm:X.mg x = none) (hv:bootBuiltins x = some u) (r:RelV v u) (hn:x ≠ "__name__":=by decide) (hd:(x == ("__debug__" : Str)) = false:=by decide):PE X (.Name x pos) (tC v) :=
 fun _ _ _ H _ I h=>yz_ I hg hm hv ⟨v,H,I,r,h⟩ hn hd
def t2I (ta tb:TE) (k:Int->Int->Hp->Prop):St->Hp->Prop:=fun σ H=>ta σ H fun x H1=>tb σ H1 fun y H2=>∃ i j,x = .int i/\y = .int j/\k i j H2
def tAdd (ta tb:TE):TE:=fun σ H Q=>t2I ta tb (fun i j H2=>Q (.int (i + j)) H2) σ H
def tSub (ta tb:TE):TE:=fun σ H Q=>t2I ta tb (fun i j H2=>Q (.int (i - j)) H2) σ H
def tMul (ta tb:TE):TE:=fun σ H Q=>t2I ta tb (fun i j H2=>(-(2 ^ 64) < i/\i < 2 ^ 64)/\Q (.int (i * j)) H2) σ H
variable {a b:Expr}{ta tb:TE}{pos:Pos}
def PC (X:Cx) (op:CmpOp) (a b:Expr) (t:TE):Prop :=
 ∀ (pins:List (Addr × Obj)) (s:Shared) (σ:St) (H:Hp) (Q:VK),Inv X pins σ H s->t σ H Q →
  wpAny (model X.prog X.w) X.A (eval a X.env) (fun v s₁=>wpAny (model X.prog X.w) X.A (eval b X.env) (fun u s₂=>wpAny (model X.prog X.w) X.A (compareOp op v u) (EP X pins σ Q) X.xe s₂) X.xe s₁) X.xe s
def tCmp (p:Int->Int->Bool) (ta tb:TE):TE:=fun σ H Q=>t2I ta tb (fun i j H2=>Q (.bl (p i j)) H2) σ H
abbrev tLt:TE->TE->TE:=tCmp fun i j=>decide (i < j)
abbrev tLe:TE->TE->TE:=tCmp fun i j=>decide (i<=j)
abbrev tGt:TE->TE->TE:=tCmp fun i j=>decide (j < i)
abbrev tGe:TE->TE->TE:=tCmp fun i j=>decide (j<=i)
abbrev tEqI:TE->TE->TE:=tCmp fun i j=>decide (i = j)
abbrev tNeI:TE->TE->TE:=tCmp fun i j=>!decide (i = j)
def tIsN (ta:TE):TE:=fun σ H Q=>ta σ H fun x H1=>Q (.bl (decide (x = .non))) H1
def ql9_ (ta:TE):TE:=fun σ H Q=>ta σ H fun x H1=>Q (.bl (!decide (x = .non))) H1
def tB (t:TE):TT:=fun σ H Q=>t σ H fun x H1=>∃ c,x = .bl c/\Q c H1
theorem jR_ {e:Expr}{t:TE} (h:PE X e t) (he:∀ whole,isTrue e X.env whole = (do let v ← whole;standAt e.pos;holding [v] (truthy v)):=by intro _;rfl):PT X e (tB t):=by
 intro pins s σ H Q I hw
 refine isTrue_plain (thn (h pins s σ H _ I hw) fun v s1 ⟨x,H1,I1,r1,q1⟩=>?_) (he _)
 obtain ⟨d,rfl,q⟩:=q1
 cases r1
 exact wpAny_truthy_bool ⟨H1,I1,q⟩
variable {tA tB':TT}{rest:List Expr}
def tAnd (t u:TT):TT:=fun σ H Q=>t σ H fun c H1=>if c = true then u σ H1 Q else Q false H1
def tOr (t u:TT):TT:=fun σ H Q=>t σ H fun c H1=>if c = true then Q true H1 else u σ H1 Q
def tNot (t:TT):TT:=fun σ H Q=>t σ H fun c H1=>Q (!c) H1
theorem qcf_ (ha:PT X a tA):PW X (.BoolOp .And [a] pos) tA:=by
 intro wh pins s σ H Q I h
 refine isTrue_and (thn (ha pins s σ H Q I h) fun c s1 e=>?_)
 cases c with
 | true=>exact isTrue_and_nil e
 | false=>exact e
theorem yA_ (ha:PT X a tA):PW X (.BoolOp .Or [a] pos) tA:=by
 intro wh pins s σ H Q I h
 refine isTrue_or (thn (ha pins s σ H Q I h) fun c s1 e=>?_)
 cases c with
 | false=>exact isTrue_or_nil e
 | true=>exact e
theorem qd8_ (ha:PT X a tA) (hb:PW X (.BoolOp .And (b :: rest) pos) tB'):PW X (.BoolOp .And (a :: b :: rest) pos) (tAnd tA tB'):=by
 intro wh pins s σ H Q I h
 refine isTrue_and (thn (ha pins s σ H _ I h) fun c s1 ⟨H1,I1,q1⟩=>?_)
 cases c with
 | true=>exact hb wh pins s1 σ H1 Q I1 q1
 | false=>exact ⟨H1,I1,q1⟩
theorem ym_ (ha:PT X a tA) (hb:PW X (.BoolOp .Or (b :: rest) pos) tB'):PW X (.BoolOp .Or (a :: b :: rest) pos) (tOr tA tB'):=by
 intro wh pins s σ H Q I h
 refine isTrue_or (thn (ha pins s σ H _ I h) fun c s1 ⟨H1,I1,q1⟩=>?_)
 cases c with
 | true=>exact ⟨H1,I1,q1⟩
 | false=>exact hb wh pins s1 σ H1 Q I1 q1
theorem yJ_ (ha:PT X a tA):PT X (.UnaryOp .Not a pos) (tNot tA):=by
 intro pins s σ H Q I h
 exact isTrue_not (ha pins s σ H (fun c H1=>Q (!c) H1) I h)
def qkv_ (ta tb:TE):TE:=fun σ H Q=>ta σ H fun x H1=>∃ c,x = .bl c/\if c = true then tb σ H1 Q else Q (.bl false) H1
def tOrV (ta tb:TE):TE:=fun σ H Q=>ta σ H fun x H1=>∃ c,x = .bl c/\if c = true then Q (.bl true) H1 else tb σ H1 Q
def qkw_ (ta:TE):TE:=fun σ H Q=>ta σ H fun x H1=>∃ c,x = .bl c/\Q (.bl (!c)) H1
theorem z0_ {op}{t:TE} (h:PE X a t):PE X (.BoolOp op [a] pos) t:=fun pins s σ H Q I hw=>BoolOp_one (h pins s σ H Q I hw)
theorem v1_ (ha:PE X a ta) (hb:PE X (.BoolOp .And (b :: rest) pos) tb):PE X (.BoolOp .And (a :: b :: rest) pos) (qkv_ ta tb):=by
 intro pins s σ H Q I h
 refine BoolOp_and (thn (ha pins s σ H _ I h) fun v s1 ⟨x,H1,I1,r1,q1⟩=>?_)
 obtain ⟨c,rfl,q1⟩:=q1
 cases r1
 refine wpAny_truthy_bool ?_
 cases c with
 | true=>exact hb pins s1 σ H1 Q I1 q1
 | false=>exact ⟨.bl false,H1,I1,rfl,q1⟩
theorem qkx_ (ha:PE X a ta) (hb:PE X (.BoolOp .Or (b :: rest) pos) tb):PE X (.BoolOp .Or (a :: b :: rest) pos) (tOrV ta tb):=by
 intro pins s σ H Q I h
 refine BoolOp_or (thn (ha pins s σ H _ I h) fun v s1 ⟨x,H1,I1,r1,q1⟩=>?_)
 obtain ⟨c,rfl,q1⟩:=q1
 cases r1
 refine wpAny_truthy_bool ?_
 cases c with
 | false=>exact hb pins s1 σ H1 Q I1 q1
 | true=>exact ⟨.bl true,H1,I1,rfl,q1⟩
theorem qd9_ (ha:PE X a ta):PE X (.UnaryOp .Not a pos) (qkw_ ta):=by
 intro pins s σ H Q I h
 refine UnaryOp_ (thn (ha pins s σ H _ I h) fun v s1 ⟨x,H1,I1,r1,q1⟩=>?_)
 obtain ⟨c,rfl,q1⟩:=q1
 cases r1
 exact not_of (wpAny_truthy_bool ⟨.bl (!c),H1,I1,rfl,q1⟩)
def tIf (t:TT) (ta tb:TE):TE:=fun σ H Q=>t σ H fun c H1=>if c = true then ta σ H1 Q else tb σ H1 Q
theorem qf7_ {c:Expr} (hc:PT X c tA) (ha:PE X a ta) (hb:PE X b tb):PE X (.IfExp c a b pos) (tIf tA ta tb):=by
 intro pins s σ H Q I h
 refine wpAny_IfExp (thn (hc pins s σ H _ I h) fun d s1 ⟨H1,I1,q1⟩=>?_)
 cases d with
 | true=>exact ha pins s1 σ H1 Q I1 q1
 | false=>exact hb pins s1 σ H1 Q I1 q1
end
end L2
namespace L2
open PySem PySem.Spec PyProof.Rows
def SqL (K:PySem.W.Frag) (H:Hp) (a:Addr) (xs:List V):Prop :=
 Rd H a (.lst xs) ∨
  ∃ (o:Obj) (its:Array Value) (n:Nat),K.lookup a = some o ∧ o.cls = .type "list" ∧ o.dict = none ∧ o.data = .seq its n ∧ its.size ≤ sizeLine ∧ Vals xs its.toList
def SqT (K:PySem.W.Frag) (H:Hp) (a:Addr) (xs:List V):Prop :=
 Rd H a (.tup xs) ∨
  ∃ (o:Obj) (its:Array Value) (n:Nat),K.lookup a = some o ∧ o.cls = .type "tuple" ∧ o.data = .seq its n ∧ its.size ≤ sizeLine ∧ Vals xs its.toList
def absV:Value->Option V
 | .none=>some .non
 | .bool b=>some (.bl b)
 | .int i _=>some (.int i)
 | .str x _=>some (.str x)
 | .bytes b _=>some (.byt b)
 | .float b _=>some (.flt b)
 | .ref a=>some (.ref a)
 | .type n=>some (.ty n)
 | _=>none
theorem RelV.abs {x:V}{u:Value} (r:RelV x u):absV u = some x:=by
 cases x with
 | non=>cases r;rfl
 | bl _=>cases r;rfl
 | int _=>obtain ⟨t,rfl⟩:=r;rfl
 | str _=>obtain ⟨t,rfl⟩:=r;rfl
 | byt _=>obtain ⟨t,rfl⟩:=r;rfl
 | flt _=>obtain ⟨t,rfl⟩:=r;rfl
 | ref _=>cases r;rfl
 | ty _=>cases r;rfl
theorem RelV.inj {x y:V}{u:Value} (r:RelV x u) (q:RelV y u):x = y:=Option.some.inj (r.abs.symm.trans q.abs)
theorem Vals.inj:∀ {xs ys:List V}{us:List Value},Vals xs us->Vals ys us->xs = ys
 | _,_,_,.nil,.nil=>rfl
 | _,_,_,.cons r t,.cons r' t'=>by rw [r.inj r',Vals.inj t t']
section
variable {X:Cx}{pins:List (Addr × Obj)}{σ:St}{H:Hp}{s:Shared}{a:Addr}{xs ys:List V}
theorem SqL.of {K:PySem.W.Frag} (h:H a = some (.lst xs)):SqL K H a xs:=.inl (.inl h)
theorem SqT.of {K:PySem.W.Frag} (h:H a = some (.tup xs)):SqT K H a xs:=.inl (.inl h)
theorem Inv.list (I:Inv X pins σ H s) (h:SqL X.K H a xs):∃ its:List Value,Vals xs its/\PlainL s.heap a its.toArray/\xs.length<=sizeLine:=by
 rcases h with h | ⟨o,its,n,hk,hc,hd,hs,hz,r⟩
 ·obtain ⟨z,its,n,r,e⟩:=h.ok I.hok
  exact ⟨its,r,⟨_,n,e,rfl,rfl,rfl⟩,z⟩
 ·refine ⟨its.toList,r,⟨o,n,I.kIn a o hk,hc,hd,by simpa using hs⟩,?_⟩
  have e:=r.length
  simp only [Array.length_toList] at e
  omega
theorem Inv.tuple (I:Inv X pins σ H s) (h:SqT X.K H a xs):∃ its:List Value,Vals xs its/\IsTup s.heap a its.toArray/\xs.length<=sizeLine:=by
 rcases h with h | ⟨o,its,n,hk,hc,hs,hz,r⟩
 ·obtain ⟨z,its,r,p⟩:=h.ok I.hok
  exact ⟨its,r,p,z⟩
 ·refine ⟨its.toList,r,⟨o,I.kIn a o hk,hc,n,by simpa using hs⟩,?_⟩
  have e:=r.length
  simp only [Array.length_toList] at e
  omega
theorem Inv.list_inj (I:Inv X pins σ H s) (h:SqL X.K H a xs) (h':SqL X.K H a ys):xs = ys:=by
 obtain ⟨its,r,⟨o,n,e,_,_,d⟩,_⟩:=I.list h
 obtain ⟨its',r',⟨o',n',e',_,_,d'⟩,_⟩:=I.list h'
 rw [e] at e';cases e'
 rw [d] at d'
 injection d' with d1 _
 have:its = its':=by simpa using congrArg Array.toList d1
 subst this
 exact r.inj r'
theorem Inv.tuple_inj (I:Inv X pins σ H s) (h:SqT X.K H a xs) (h':SqT X.K H a ys):xs = ys:=by
 obtain ⟨its,r,⟨o,e,_,n,d⟩,_⟩:=I.tuple h
 obtain ⟨its',r',⟨o',e',_,n',d'⟩,_⟩:=I.tuple h'
 rw [e] at e';cases e'
 rw [d] at d'
 injection d' with d1 _
 have:its = its':=by simpa using congrArg Array.toList d1
 subst this
 exact r.inj r'
end
abbrev Cx.wish (X:Cx) (E:Value->Shared->Prop):Cx:={ X with xe:=E }
abbrev Cx.nox (X:Cx):Cx:=X.wish fun _ _=>False
theorem Cx.Ok.wish {X:Cx} (ok:X.Ok) (E:Value->Shared->Prop):(X.wish E).Ok :=
 ⟨ok.mod,ok.kind,ok.glob,ok.blt,ok.above,ok.inj,ok.has,ok.cab,ok.hd,ok.frames,ok.stk,ok.exf,ok.bs,ok.bsz,ok.noex,ok.exfs,ok.funs,ok.frf⟩
theorem Cx.Ok.unwish {X:Cx}{E:Value->Shared->Prop} (ok:(X.wish E).Ok):X.Ok :=
 ⟨ok.mod,ok.kind,ok.glob,ok.blt,ok.above,ok.inj,ok.has,ok.cab,ok.hd,ok.frames,ok.stk,ok.exf,ok.bs,ok.bsz,ok.noex,ok.exfs,ok.funs,ok.frf⟩
section
variable {X:Cx}{pins:List (Addr × Obj)}{σ:St}{H:Hp}{s:Shared}{E:Value->Shared->Prop}
theorem Inv.wish (I:Inv X pins σ H s) (E:Value->Shared->Prop):Inv (X.wish E) pins σ H s:=⟨I.ok.wish E,I.os,I.bare,I.base,I.loc,I.cell,I.free,I.freeC,I.pin,I.hok,I.len⟩
theorem Inv.unwish (I:Inv (X.wish E) pins σ H s):Inv X pins σ H s:=⟨I.ok.unwish,I.os,I.bare,I.base,I.loc,I.cell,I.free,I.freeC,I.pin,I.hok,I.len⟩
theorem SP.unwish {D:Ends}{f:Flow}{s':Shared} (h:SP (X.wish E) pins D f s'):SP X pins D f s':=by
 cases f with
 | next=>obtain ⟨σ',H',I,q⟩:=h;exact ⟨σ',H',I.unwish,q⟩
 | brk=>obtain ⟨σ',H',I,q⟩:=h;exact ⟨σ',H',I.unwish,q⟩
 | cont=>obtain ⟨σ',H',I,q⟩:=h;exact ⟨σ',H',I.unwish,q⟩
 | ret u=>obtain ⟨v,σ',H',I,r,q⟩:=h;exact ⟨v,σ',H',I.unwish,r,q⟩
theorem PSs.nox {st:List Stmt}{t:TS} (h:PSs X.nox st t):PSs X st t:=fun pins s σ H D I hw =>
 wpAny_mono (h pins s σ H D (I.wish _) hw) (fun _ _ q=>q.unwish) fun _ _ z=>False.elim z
end
section
variable {X:Cx}{st:Stmt}{rest:List Stmt}{t u:TS}{e:Expr}{te:TE}{pos:Pos}
def qky_:TS:=fun D σ H=>D.nx σ H
def tSeq (t u:TS):TS:=fun D σ H=>t { D with nx:=u D } σ H
theorem qA_:PSs X [] qky_:=fun _ _ σ H _ I h=>wpAny_execs_nil ⟨σ,H,I,h⟩
theorem qd_ (h1:PS X st t) (h2:PSs X rest u):PSs X (st :: rest) (tSeq t u):=by
 intro pins s σ H D I h
 refine wpAny_execs_cons (thn (h1 pins s σ H { D with nx:=u D } I h) fun f s1 q=>?_)
 cases f with
 | next =>
  obtain ⟨σ',H',I',q⟩:=q
  exact h2 pins s1 σ' H' D I' q
 | ret v=>exact q
 | brk=>exact q
 | cont=>exact q
theorem qg_ (h1:PS X st t):PSs X [st] t:=by
 intro pins s σ H D I h
 refine wpAny_execs_cons (thn (h1 pins s σ H D I h) fun f s1 q=>?_)
 cases f with
 | next=>exact wpAny_execs_nil q
 | ret v=>exact q
 | brk=>exact q
 | cont=>exact q
def qjt_:TS:=fun D σ H=>D.bk σ H
def qkz_:TS:=fun D σ H=>D.ct σ H
theorem qf8_:PS X (.Break pos) qjt_:=fun _ _ σ H _ I h=>wpAny_Break ⟨σ,H,I,h⟩
theorem qbw_:PS X (.Continue pos) qkz_:=fun _ _ σ H _ I h=>wpAny_Continue ⟨σ,H,I,h⟩
theorem Inv.quiet {pins:List (Addr × Obj)}{σ:St}{H:Hp}{s:Shared} (I:Inv X pins σ H s):interactive X.env = false:=by simp [interactive,I.ok.kind]
def qk0_ (te:TE):TS:=fun D σ H=>te σ H fun _ H1=>D.nx σ H1
theorem qU_ (he:PE X e te) (hs:swapsWith e none pos.line X.env = pure false:=by rfl):PS X (.Expr e pos) (qk0_ te):=by
 intro pins s σ H D I h
 exact wpAny_Expr_any (thn (he pins s σ H _ I h) fun v s1 ⟨x,H1,I1,r1,q1⟩=>⟨σ,H1,I1,q1⟩) I.quiet hs
def tRet (te:TE):TS:=fun D σ H=>te σ H D.rt
theorem qq_ (he:PE X e te):PS X (.Return (some e) pos) (tRet te):=by
 intro pins s σ H D I h
 exact wpAny_Return_some (thn (he pins s σ H _ I h) fun v s1 ⟨x,H1,I1,r1,q1⟩=>⟨x,σ,H1,I1,r1,q1⟩)
def qma_:TS:=fun D _ H=>D.rt .non H
def tIfS (c:TT) (t u:TS):TS:=fun D σ H=>c σ H fun b H1=>if b = true then t D σ H1 else u D σ H1
theorem qD_ {c:Expr}{a b:List Stmt}{tc:TT} (hc:PT X c tc) (ha:PSs X a t) (hb:PSs X b u):PS X (.If c a b pos) (tIfS tc t u):=by
 intro pins s σ H D I h
 refine wpAny_If (thn (hc pins s σ H _ I h) fun d s1 ⟨H1,I1,q1⟩=>?_)
 cases d with
 | true=>exact ha pins s1 σ H1 D I1 q1
 | false=>exact hb pins s1 σ H1 D I1 q1
def qju_:TS:=fun _ _ _=>False
theorem jO_:PS X st qju_:=fun _ _ _ _ _ _ h=>h.elim
end
abbrev TG:=V->St->Hp->(St->Hp->Prop)->Prop
abbrev TGs:=List V->St->Hp->(St->Hp->Prop)->Prop
def PG (X:Cx) (target:Expr) (t:TG):Prop :=
 ∀ (pins:List (Addr × Obj)) (s:Shared) (σ:St) (H:Hp) (v:V) (u:Value) (Q:St->Hp->Prop),Inv X pins σ H s->RelV v u->t v σ H Q →
  wpAny (model X.prog X.w) X.A (assign target X.env u) (fun _ s'=>∃ σ' H',Inv X pins σ' H' s'/\Q σ' H') X.xe s
def PGs (X:Cx) (ts:List Expr) (t:TGs):Prop :=
 ∀ (pins:List (Addr × Obj)) (s:Shared) (σ:St) (H:Hp) (vs:List V) (us:List Value) (Q:St->Hp->Prop),Inv X pins σ H s->Vals vs us->t vs σ H Q →
  wpAny (model X.prog X.w) X.A (assignInOrder ((assignEach ts X.env).map (·.2)) us) (fun _ s'=>∃ σ' H',Inv X pins σ' H' s'/\Q σ' H') X.xe s
abbrev TSet:=V->V->V->Hp->(Hp->Prop)->Prop
def PSet (X:Cx) (t:TSet):Prop :=
 ∀ (pins:List (Addr × Obj)) (s:Shared) (σ:St) (H:Hp) (o i v:V) (ov iv u:Value) (Q:Hp->Prop),Inv X pins σ H s->RelV o ov->RelV i iv->RelV v u->t o i v H Q →
  wpAny (model X.prog X.w) X.A (setItem ov iv u) (fun _ s'=>∃ H',Inv X pins σ H' s'/\Q H') X.xe s
abbrev TIp:=V->V->Hp->VK->Prop
def PIp (X:Cx) (op:Operator) (t:TIp):Prop :=
 ∀ (pins:List (Addr × Obj)) (s:Shared) (σ:St) (H:Hp) (x y:V) (v u:Value) (Q:VK),Inv X pins σ H s->RelV x v->RelV y u->t x y H Q →
  wpAny (model X.prog X.w) X.A (inplaceOp op v u) (EP X pins σ Q) X.xe s
section
variable {X:Cx}{pos:Pos}
def qZ_ (i:Nat):TG:=fun v σ H Q=>Q (σ.set i (some v)) H
theorem qo_ {i:Nat}{x:Str} (hN:X.N.Nodup) (hi:X.N[i]? = some x) (hx:Loc X.env.scope x) (hf:X.fn x = true\/X.env.scope.names.lookup x = some .local:=by first | exact .inl rfl | exact .inr rfl | assumption):PG X (.Name x pos) (qZ_ i):=by
 intro pins s σ H v u Q I r h
 exact wpAny_assign_Name (zJ_ I hN hi hx r (fun s' I'=>⟨_,H,I',h⟩) hf)
def gNil:TGs:=fun vs σ H Q=>vs = []/\Q σ H
def yK_ (t:TG) (u:TGs):TGs:=fun vs σ H Q=>∃ v r,vs = v :: r/\t v σ H fun σ' H'=>u r σ' H' Q
theorem j2_:PGs X [] gNil:=by
 intro pins s σ H vs us Q I r h
 obtain ⟨e,h⟩:=h
 subst e
 cases r
 exact assignInOrder_nil ⟨σ,H,I,h⟩
theorem qL_ {e:Expr}{es:List Expr}{t:TG}{u:TGs} (h1:PG X e t) (h2:PGs X es u)
  (hs:(assignEach (e :: es) X.env).map (·.2) = assign e X.env :: (assignEach es X.env).map (·.2):=by rfl):PGs X (e :: es) (yK_ t u):=by
 intro pins s σ H vs us Q I r h
 obtain ⟨v,vr,e1,h⟩:=h
 subst e1
 cases r with
 | cons r rr =>
  rw [hs]
  refine assignInOrder_cons (thn (h1 pins s σ H _ _ _ I r h) fun _ s1 ⟨σ1,H1,I1,q1⟩=>?_)
  exact h2 pins s1 σ1 H1 _ _ Q I1 rr q1
def gTup (K:PySem.W.Frag) (n:Nat) (t:TGs):TG:=fun v σ H Q=>∃ a xs,v = .ref a/\SqT K H a xs/\xs.length = n/\t xs σ H Q
theorem y4_ {es:List Expr}{k:Nat}{t:TGs}{n:Nat} (hc:X.calm = true) (h:PGs X es t)
  (hn:(assignEach es X.env).length = n:=by rfl) (hst:(assignEach es X.env).findIdx? (·.1) = none:=by rfl):PG X (.Tuple es k pos) (gTup X.K n t):=by
 intro pins s σ H v u Q I r hw
 obtain ⟨a,xs,e1,hq,hl,hw⟩:=hw
 subst e1
 cases r
 obtain ⟨its,rv,ht,hz⟩:=I.tuple hq
 refine assign_Tuple_tuple (I.ok.hd hc) ht (by simp [hn,← hl,rv.length]) hst fun h' hx=>?_
 have I1:Inv X pins σ H { s with heap:=h' }:=I.kept (t':=s.toks) fun b o e=>hx b o (Nat.ne_of_lt (Heap.lt_size e)) e
 exact h pins _ σ H xs _ Q I1 (by simpa using rv) hw
def gSub (to ti:TE) (t:TSet):TG:=fun v σ H Q=>to σ H fun o H1=>ti σ H1 fun i H2=>t o i v H2 fun H3=>Q σ H3
theorem yi_ {o i:Expr}{to ti:TE}{t:TSet} (ho:PE X o to) (hi:PE X i ti) (hs:PSet X t)
  (ha:∀ v,assign (.Subscript o i pos) X.env v = (do
   let ov ← holding [v] (eval o X.env)
   let iv ← holding [v,ov] (eval i X.env)
   standAt pos
   holding [v,ov,iv] (setItem ov iv v)
   release [v,ov,iv] []):=by intro _;rfl):PG X (.Subscript o i pos) (gSub to ti t):=by
 intro pins s σ H v u Q I r h
 rw [ha]
 refine wpAny_bind (wpAny_holding (thn (ho pins s σ H _ I h) fun ov s1 ⟨x,H1,I1,r1,q1⟩=>?_))
 refine wpAny_bind (wpAny_holding (thn (hi pins s1 σ H1 _ I1 q1) fun iv s2 ⟨y,H2,I2,r2,q2⟩=>?_))
 refine wpAny_bind (wpAny_standAt (wpAny_bind (wpAny_holding (thn (hs pins s2 σ H2 x y v ov iv u _ I2 r1 r2 r q2) fun _ s3 ⟨H3,I3,q3⟩=>?_))))
 exact wpAny_release ⟨σ,H3,I3,q3⟩
def tAsg (te:TE) (g:TG):TS:=fun D σ H=>te σ H fun x H1=>g x σ H1 D.nx
theorem ye_ {tg e:Expr}{te:TE}{g:TG} (he:PE X e te) (hg:PG X tg g) (hs:swapsWithSole [tg] e pos.line X.env = pure false:=by rfl) (hw:swappedStores [tg] e X.env = pure none:=by rfl)
  (h1:(assignEach [tg] X.env).map (·.2) = [assign tg X.env]:=by rfl):PS X (.Assign [tg] e pos) (tAsg te g):=by
 intro pins s σ H D I h
 refine wpAny_Assign_stores (thn (he pins s σ H _ I h) fun v s1 ⟨x,H1,I1,r1,q1⟩=>?_) hs hw
 rw [h1]
 exact thn (hg pins s1 σ H1 x v _ I1 r1 q1) fun _ s2 q=>q
theorem ql_ {i:Nat}{x:Str}{e:Expr}{te:TE}{pos':Pos} (hN:X.N.Nodup) (hi:X.N[i]? = some x) (hx:Loc X.env.scope x) (he:PE X e te) (hs:swapsWith e (some (.Name x pos')) pos.line X.env = pure false:=by rfl) (hf:X.fn x = true\/X.env.scope.names.lookup x = some .local:=by first | exact .inl rfl | exact .inr rfl | assumption) :
  PS X (.Assign [.Name x pos'] e pos) (tAsg te (qZ_ i)):=by
 intro pins s σ H D I h
 refine wpAny_Assign_Name (thn (he pins s σ H _ I h) fun v s1 ⟨y,H1,I1,r1,q1⟩=>?_) hs
 exact zJ_ I1 hN hi hx r1 (fun s2 I2=>⟨_,H1,I2,q1⟩) hf
def tPar (i j:Nat) (ta:TA):TS:=fun D σ H=>ta σ H fun vs H1=>∃ v w,vs = [v,w]/\D.nx ((σ.set i (some v)).set j (some w)) H1
def tAug (i:Nat) (te:TE) (ti:TIp):TS:=fun D σ H=>∃ x,σ[i]? = some (some x)/\te σ H fun y H1=>ti x y H1 fun z H2=>D.nx (σ.set i (some z)) H2
theorem qjv_ {i:Nat}{x:Str}{e:Expr}{te:TE}{op:Operator}{ti:TIp}{pos':Pos} (hN:X.N.Nodup) (hi:X.N[i]? = some x) (hx:Loc X.env.scope x) (he:PE X e te) (ho:PIp X op ti) (hf:X.fn x = true\/X.env.scope.names.lookup x = some .local:=by first | exact .inl rfl | exact .inr rfl | assumption) :
  PS X (.AugAssign (.Name x pos') op e pos) (tAug i te ti):=by
 intro pins s σ H D I h
 obtain ⟨v,e1,h⟩:=h
 obtain ⟨m,hn,hl⟩:=I.loc
 have vis:Vis X.env.scope x:=by rcases hx with k | k;exact .inl k;exact .inr (.inl k)
 obtain ⟨u,r,l⟩:=hl i x v hi e1 vis
 refine wpAny_AugAssign_Name ?_
 have go:wpAny (model X.prog X.w) X.A (eval e X.env) (fun w s₂=>wpAny (model X.prog X.w) X.A (inplaceOp op u w) (fun r s₃=>wpAny (model X.prog X.w) X.A (storeName X.env x r) (fun _=>SP X pins D .next) X.xe s₃) X.xe s₂) X.xe s:=by
  refine thn (he pins s σ H _ I h) fun w s1 ⟨y,H1,I1,r1,q1⟩=>?_
  refine thn (ho pins s1 σ H1 v y u w _ I1 r r1 q1) fun z s2 ⟨zv,H2,I2,r2,q2⟩=>?_
  exact zJ_ I2 hN hi hx r2 (fun s3 I3=>⟨_,H2,I3,q2⟩) hf
 rcases l with ⟨hk,hm⟩ | ⟨hk,c,hc,hcell⟩
 ·exact wpAny_loadName_local I.ok.kind hk hn hm go
 ·rcases hk with hk | hk
  ·exact wpAny_loadName_cell I.ok.kind hk hc hcell go
  ·rcases hx with k | k
   ·have:X.env.scope.names.lookup x = some .free:=hk
    rw [k] at this;cases this
   ·have:X.env.scope.names.lookup x = some .free:=hk
    rw [k] at this;cases this
def qmb_ (to ti te:TE) (tget:V->V->Hp->VK->Prop) (tip:TIp) (tset:TSet):TS:=fun D σ H=>to σ H fun o H1=>ti σ H1 fun i H2=>tget o i H2 fun x H3=>te σ H3 fun y H4=>tip x y H4 fun z H5=>tset o i z H5 fun H6=>D.nx σ H6
def PGet (X:Cx) (t:V->V->Hp->VK->Prop):Prop :=
 ∀ (pins:List (Addr × Obj)) (s:Shared) (σ:St) (H:Hp) (o i:V) (ov iv:Value) (Q:VK),Inv X pins σ H s->RelV o ov->RelV i iv->t o i H Q →
  wpAny (model X.prog X.w) X.A (getItem ov iv) (EP X pins σ Q) X.xe s
def ipI (f:Int->Int->Int):TIp:=fun x y H Q=>∃ i j,x = .int i/\y = .int j/\Q (.int (f i j)) H
theorem qjw_:PIp X .Add (ipI fun i j=>i + j):=by
 intro pins s σ H x y v u Q I r1 r2 h
 obtain ⟨i,j,e1,e2,q⟩:=h
 subst e1;subst e2
 obtain ⟨t,rfl⟩:=r1
 obtain ⟨t',rfl⟩:=r2
 exact iadd_int ⟨.int _,H,I.tok _,⟨_,rfl⟩,q⟩
end
section
variable {X:Cx}{pos:Pos}
def qjx_ (c:TT) (tb:TS):TS:=fun D σ H=>∃ W:Nat->St->Hp->Prop,(∃ m,W m σ H)/\∀ m σ H,W m σ H →
 c σ H fun b H1=>if b = true then ∃ N:St->Hp->Prop,(∀ σ' H',N σ' H'->∃ m',m' < m/\W m' σ' H')/\tb { D with nx:=N,ct:=N,bk:=D.nx } σ H1 else D.nx σ H1
theorem yH_ {c:Expr}{body:List Stmt}{tc:TT}{tb:TS} (hp:PassesOwn (model X.prog X.w) X.A X.env X.xe) (hc:PT X c tc) (hb:PSs X body tb):PS X (.While c body [] pos) (qjx_ tc tb):=by
 intro pins s σ H D I h
 obtain ⟨W,⟨m0,w0⟩,turn⟩:=h
 refine wpAny_While (codeAny_whileLoop (fun n s'=>∃ σ' H',Inv X pins σ' H' s'/\W n σ' H') ?_ m0 ⟨σ,H,I,w0⟩)
 rintro n s1 ⟨σ1,H1,I1,w1⟩
 refine wpAny_passesOwn hp (thn (hc pins s1 σ1 H1 _ I1 (turn n σ1 H1 w1)) fun b s2 ⟨H2,I2,q2⟩=>?_)
 cases b with
 | true =>
  obtain ⟨N,hN,q2⟩:=q2
  rw [if_pos rfl]
  refine wpAny_passesOwn hp (thn (hb pins s2 σ1 H2 _ I2 q2) fun f s3 q3=>?_)
  cases f with
  | next =>
   obtain ⟨σ3,H3,I3,n3⟩:=q3
   obtain ⟨m',hm,w3⟩:=hN σ3 H3 n3
   exact ⟨m',hm,σ3,H3,I3,w3⟩
  | cont =>
   obtain ⟨σ3,H3,I3,n3⟩:=q3
   obtain ⟨m',hm,w3⟩:=hN σ3 H3 n3
   exact ⟨m',hm,σ3,H3,I3,w3⟩
  | brk=>exact q3
  | ret v=>exact q3
 | false =>
  rw [if_neg Bool.false_ne_true]
  exact wpAny_execs_nil ⟨σ1,H2,I2,q2⟩
end
structure It where
 go:Nat->Hp->Prop
 yld:Nat->Hp->V->Hp->Prop
 stop:Nat->Hp->Prop
def FpOk (X:Cx) (pins:List (Addr × Obj)) (H:Hp) (b:Addr):Prop :=
 H b = none/\b ≠ X.env.locals/\b ∉ X.fs/\(b ∈ X.ex\/X.s₀.heap.objs.size<=b)/\(∀ x c,X.env.cells.lookup x = some c->c ≠ b)/\∀ p ∈ X.pn ++ pins,p.1 ≠ b
theorem Inv.fpOk {X:Cx}{pins:List (Addr × Obj)}{σ:St}{H H':Hp}{s:Shared}{b:Addr} (I:Inv X pins σ H s) (hb:s.heap.objs.size<=b) (hn:H' b = none):FpOk X pins H' b:=by
 refine ⟨hn,Nat.ne_of_gt (Nat.lt_of_lt_of_le I.lt hb),I.nofs hb,.inr (Nat.le_trans I.sz hb),fun x c e z=>?_,fun p hp z=>?_⟩
 ·obtain ⟨v,q⟩:=I.cell x c e
  exact absurd (Nat.lt_of_lt_of_le q.lt (by rw [z];exact hb)) (Nat.lt_irrefl _)
 ·exact absurd (Nat.lt_of_lt_of_le (Heap.lt_size (I.pin p hp).1) (by rw [z];exact hb)) (Nat.lt_irrefl _)
structure Turn (P:Program) (w:World) (K:PySem.W.Frag) (tg:Expr) (J:It) (fp:List Addr) (it:Addr) (tn:Nat->Heap->Prop):Prop where
 mem:it ∈ fp
 obj:∀ i h,tn i h->∀ b ∈ fp,∃ o,h.get? b = some o/\∀ v,o.data ≠ .cell v
 keep:∀ i h h',tn i h->(∀ b ∈ fp,∀ o,h.get? b = some o->h'.get? b = some o)->tn i h'
 item:∀ (X:Cx),X.prog = P->X.w = w->X.K = K->X.calm = true->∀ (i:Nat) (pins:List (Addr × Obj)) (s:Shared) (σ:St) (H:Hp) (E:Value->Shared->Prop),Inv X pins σ H s->(∀ b ∈ fp,FpOk X pins H b)->tn i s.heap->J.go i H →
  wpAny (model P w) X.A (pyNext (.ref it)) (fun r s1=>∃ u,r = some u ∧
   wpAny (model P w) X.A (letOwnedTupleGo tg (.ref it) u) (fun _ s2=>∃ x H',Inv X pins σ H' s2/\RelV x u/\J.yld i H x H'/\tn (i + 1) s2.heap/\∀ b ∈ fp,H' b = none) E s1) E s
 done:∀ (X:Cx),X.prog = P->X.w = w->X.K = K->X.calm = true->∀ (i:Nat) (pins:List (Addr × Obj)) (s:Shared) (σ:St) (H:Hp) (E:Value->Shared->Prop),Inv X pins σ H s->(∀ b ∈ fp,FpOk X pins H b)->tn i s.heap->J.stop i H →
  wpAny (model P w) X.A (pyNext (.ref it)) (fun r s1=>r = none/\Inv X pins σ H s1) E s
 self:∀ (A:Around) (i:Nat) (s:Shared) (Q:Value->Shared->Prop) (E:Value->Shared->Prop),tn i s.heap->Q (.ref it) s->wpAny (model P w) A (pyIter (.ref it)) Q E s
abbrev TI:=St->Hp->(It->Hp->Prop)->Prop
def PIE (X:Cx) (pins:List (Addr × Obj)) (σ:St) (tg:Expr) (R:It->Hp->Prop) (itv:Value) (s2:Shared):Prop :=
 ∃ (it:Addr) (fp:List Addr) (tn:Nat->Heap->Prop) (J:It) (H':Hp),itv = .ref it/\Inv X pins σ H' s2/\Turn X.prog X.w X.K tg J fp it tn/\tn 0 s2.heap/\(∀ b ∈ fp,FpOk X pins H' b)/\R J H'
def PI (X:Cx) (tg iter:Expr) (wi:TI):Prop :=
 ∀ (pins:List (Addr × Obj)) (s:Shared) (σ:St) (H:Hp) (R:It->Hp->Prop),Inv X pins σ H s->wi σ H R →
  wpAny (model X.prog X.w) X.A (eval iter X.env) (fun v s1=>wpAny (model X.prog X.w) X.A (pyIter v) (PIE X pins σ tg R) X.xe s1) X.xe s
theorem qal_ {M:Model}{A:Around}{E:Value->Shared->Prop}{s:Shared}{tg:Expr}{it:Addr}{u:Value}{o:Obj}{n:String}{vs:Array Value}{Q:Unit->Shared->Prop} (ho:s.heap.get? it = some o) (hc:o.cls = .type n) (hd:o.data = .fields vs)
  (hn:["enumerate", "zip", "dict_itemiterator", "dict_reverseitemiterator", "odict_iterator", "itertools.zip_longest", "itertools.pairwise"].contains n = false) (hQ:Q () s):wpAny M A (letOwnedTupleGo tg (.ref it) u) Q E s:=by
 unfold letOwnedTupleGo
 cases tg <;> first
  | exact wpAny_pure hQ
  | (cases u <;> first
    | exact wpAny_pure hQ
    | (refine wpAny_bind (wpAny_load ho ?_)
       rw [hc,hd]
       show wpAny M A (if (["enumerate", "zip", "dict_itemiterator", "dict_reverseitemiterator", "odict_iterator", "itertools.zip_longest", "itertools.pairwise"].contains n && vs[0]? == some (rawInt _)) = true then _ else _) Q E s
       rw [if_neg (by intro h;rw [hn,Bool.false_and] at h;cases h)]
       exact wpAny_pure hQ))
def Itl (K:PySem.W.Frag) (a:Addr):It :=
 ⟨fun i H=>∃ xs x,SqL K H a xs/\xs[i]? = some x,fun i H x H'=>H' = H/\∀ xs,SqL K H a xs->xs[i]? = some x,fun i H=>∃ xs,SqL K H a xs/\xs.length<=i⟩
def Itt (K:PySem.W.Frag) (a:Addr):It :=
 ⟨fun i H=>∃ xs x,SqT K H a xs/\xs[i]? = some x,fun i H x H'=>H' = H/\∀ xs,SqT K H a xs->xs[i]? = some x,fun i H=>∃ xs,SqT K H a xs/\xs.length<=i⟩
def Itr (lo:Int) (n:Nat):It:=⟨fun i _=>i < n,fun i H x H'=>H' = H/\x = .int (lo + i),fun i _=>n<=i⟩
theorem qea_ {P:Program}{w:World}{K:PySem.W.Frag}{tg:Expr} (a it:Addr):Turn P w K tg (Itl K a) [it] it (fun i h=>h.IsListIter it a i) where
 mem:=by simp
 obj:=fun i h st b hb=>by
  have e:b = it:=by simpa using hb
  subst e
  obtain ⟨o,e,c,d⟩:=st
  exact ⟨o,e,fun v z=>by rw [d] at z;cases z⟩
 keep:=fun i h h' st k=>st.at fun o e=>k it (by simp) o e
 item:=by
  intro X hP hw hK hc i pins s σ H E I hf st hg
  subst hP hw hK
  obtain ⟨xs,x,hq,hx⟩:=hg
  obtain ⟨its,rv,p,hz⟩:=I.list hq
  obtain ⟨u,hu,ru⟩:=rv.get hx
  obtain ⟨f0,f1,f2,f3,f4,f5⟩:=hf it (by simp)
  refine wpAny_pyNext_list_item st p.isList (x:=u) (by simpa using hu) fun h' st' sb=>?_
  have I1:Inv X pins σ H { s with heap:=h' }:=I.turned (t':=s.toks) (fun b o hb e=>(sb.2 b hb).trans e) f0 f1 f3 f4 f5
  obtain ⟨o,e,c,d⟩:=id st'
  exact ⟨u,rfl,qal_ (s:={ s with heap:=h' }) e c d (by decide) ⟨x,H,I1,ru,⟨rfl,fun ys hy=>by rw [I.list_inj hy hq];exact hx⟩,st',fun b hb=>(hf b hb).1⟩⟩
 done:=by
  intro X hP hw hK hc i pins s σ H E I hf st hg
  subst hP hw hK
  obtain ⟨xs,hq,hx⟩:=hg
  obtain ⟨its,rv,p,hz⟩:=I.list hq
  obtain ⟨f0,f1,f2,f3,f4,f5⟩:=hf it (by simp)
  have hl:=rv.length
  exact wpAny_pyNext_list_end (I.ok.hd hc) st p.isList (by simp;omega) fun h' eb=>⟨rfl,I.turned (t':=s.toks) (fun b o hb e=>eb b o hb e) f0 f1 f3 f4 f5⟩
 self:=fun _ _ _ _ _ st h=>wpAny_pyIter_listiter st h
theorem qdc_ {P:Program}{w:World}{K:PySem.W.Frag}{tg:Expr} (it:Addr) (lo:Int) (n:Nat):Turn P w K tg (Itr lo n) [it] it (fun i h=>IsRangeIter h it (lo + (i:Nat) * 1) ((n:Int) - (i:Nat)) 1) where
 mem:=by simp
 obj:=fun i h st b hb=>by
  have e:b = it:=by simpa using hb
  subst e
  exact ⟨_,st,fun v z=>by
   have z':Data.fields _ = Data.cell v:=z
   cases z'⟩
 keep:=fun i h h' st k=>k it (by simp) _ st
 item:=by
  intro X hP hw hK hc i pins s σ H E I hf st hg
  subst hP hw hK
  obtain ⟨f0,f1,f2,f3,f4,f5⟩:=hf it (by simp)
  have W:=Walks.range (prog:=X.prog) (w:=X.w) (I.ok.hd hc) it lo 1 n
  refine W.item i s _ _ hg st fun v h' tk hv st' kk=>?_
  obtain ⟨t,rfl⟩:=hv
  have I1:Inv X pins σ H { s with heap:=h',toks:=tk }:=I.turned (fun b o hb e=>kk b o (by simpa using hb) e) f0 f1 f3 f4 f5
  refine ⟨_,rfl,qal_ (s:={ s with heap:=h',toks:=tk }) (n:="range_iterator") st' rfl rfl (by decide) ⟨.int (lo + i),H,I1,⟨t,?_⟩,⟨rfl,rfl⟩,st',fun b hb=>(hf b hb).1⟩⟩
  rw [Int.mul_one]
 done:=by
  intro X hP hw hK hc i pins s σ H E I hf st hg
  subst hP hw hK
  obtain ⟨f0,f1,f2,f3,f4,f5⟩:=hf it (by simp)
  exact wpAny_pyNext_range_end (I.ok.hd hc) st (by have:n<=i:=hg;omega) fun h' eb=>⟨rfl,I.turned (t':=s.toks) (fun b o hb e=>eb b o hb e) f0 f1 f3 f4 f5⟩
 self:=fun _ _ _ _ _ st h=>wpAny_pyIter_rangeiter st h
end L2
namespace L2
open PySem PySem.Spec PyProof.Rows
section
variable {X:Cx}{tg:Expr}
def qk1_ (K:PySem.W.Frag) (tl:TE):TI:=fun σ H R=>tl σ H fun x H1=>∃ a,x = .ref a/\(∃ xs,SqL K H1 a xs)/\R (Itl K a) H1
def iTup (K:PySem.W.Frag) (tl:TE):TI:=fun σ H R=>tl σ H fun x H1=>∃ a,x = .ref a/\(∃ xs,SqT K H1 a xs)/\R (Itt K a) H1
theorem q7_ {l:Expr}{tl:TE} (hl:PE X l tl):PI X tg l (qk1_ X.K tl):=by
 intro pins s σ H R I h
 refine thn (hl pins s σ H _ I h) fun v s1 ⟨x,H1,I1,r1,q1⟩=>?_
 obtain ⟨a,e,⟨xs,hq⟩,q⟩:=q1
 subst e
 cases r1
 obtain ⟨its,rv,p,hz⟩:=I1.list hq
 refine wpAny_pyIter_list p.isList ?_
 refine ⟨s1.heap.objs.size,[s1.heap.objs.size],_,_,H1,rfl,I1.kept (t':=s1.toks) fun b o e=>Heap.get?_push_of_some _ e,qea_ a _,⟨_,Heap.get?_push_size _ rfl,rfl,rfl⟩,fun b hb=>?_,q⟩
 have e:b = s1.heap.objs.size:=by simpa using hb
 subst e
 exact I1.fpOk (Nat.le_refl _) (I1.hok.fresh (Nat.le_refl _))
theorem qaq_ {pins:List (Addr × Obj)}{σ:St}{H:Hp}{s:Shared}{R:It->Hp->Prop}{E:Value->Shared->Prop}{lo hi:Int}{t u v:Tok}{tk:Nat} (I:Inv X pins σ H s) (h1:-(2 ^ 62)<=lo) (h2:lo < 2 ^ 62) (h3:-(2 ^ 62)<=hi) (h4:hi < 2 ^ 62)
  (q:R (Itr lo (hi - lo).toNat) H):wpAny (model X.prog X.w) X.A (pyIter (.ref s.heap.objs.size)) (PIE X pins σ tg R) E { s with heap:=s.heap.push { cls:=.type "range",data:=.fields #[.int lo t,.int hi u,.int 1 v] },toks:=tk }:=by
 refine wpAny_pyIter_range (IsRange.new ..) (small_one h1 h2 h3 h4) ?_
 have I1:Inv X pins σ H { s with heap:=s.heap.push { cls:=.type "range",data:=.fields #[.int lo t,.int hi u,.int 1 v] },toks:=tk }:=I.kept fun b o e=>Heap.get?_push_of_some _ e
 refine ⟨(s.heap.push { cls:=.type "range",data:=.fields #[.int lo t,.int hi u,.int 1 v] }).objs.size,[(s.heap.push { cls:=.type "range",data:=.fields #[.int lo t,.int hi u,.int 1 v] }).objs.size],_,_,H,rfl,
  I1.kept (t':=tk) fun b o e=>Heap.get?_push_of_some _ e,qdc_ _ lo (hi - lo).toNat,?_,fun b hb=>?_,q⟩
 ·have e1:lo + ((0:Nat):Int) * 1 = lo:=by simp
  have e2:(((hi - lo).toNat:Nat):Int) - ((0:Nat):Int) = Builtin.Range.rangeSize lo hi 1:=by rw [rangeSize_one];split <;> omega
  show IsRangeIter _ _ (lo + ((0:Nat):Int) * 1) ((((hi - lo).toNat:Nat):Int) - ((0:Nat):Int)) 1
  rw [e1,e2]
  exact Heap.get?_push_size _ rfl
 ·have e:b = (s.heap.push { cls:=.type "range",data:=.fields #[.int lo t,.int hi u,.int 1 v] }).objs.size:=by simpa using hb
  subst e
  exact I1.fpOk (Nat.le_refl _) (I1.hok.fresh (Nat.le_refl _))
def qk2_ (ta:TA):TI:=fun σ H R=>ta σ H fun vs H1=>∃ j:Int,vs = [.int j]/\-(2 ^ 62)<=j/\j < 2 ^ 62/\R (Itr 0 j.toNat) H1
def qk3_ (ta:TA):TI:=fun σ H R=>ta σ H fun vs H1=>∃ i j:Int,vs = [.int i,.int j]/\(-(2 ^ 62)<=i/\i < 2 ^ 62/\-(2 ^ 62)<=j/\j < 2 ^ 62)/\R (Itr i (j - i).toNat) H1
theorem qW_ {a:Expr}{ta:TA}{p pos:Pos} (hg:Gl X "range") (hm:X.mg "range" = none) (ha:PA X [a] ta) (hs:starEach [a] X.env = [(false,eval a X.env)]:=by rfl):PI X tg (.Call (.Name "range" p) [a] [] pos) (qk2_ ta):=by
 intro pins s σ H R I h
 refine Call_ (yz_ I hg hm boot_range (PyProof.Rows.callWith_type1 (thn (ha pos pins s σ H _ I h) fun us s1 ⟨vs,H1,I1,r1,q1⟩=>?_) hs rfl))
 obtain ⟨j,e,q1,q2,q⟩:=q1
 subst e
 cases r1 with
 | cons r rr =>
  cases rr
  obtain ⟨t,rfl⟩:=r
  exact call_range_1 (qaq_ I1 (by omega) (by omega) q1 q2 (by simpa using q))
theorem qeb_ {a b:Expr}{ta:TA}{p pos:Pos} (hg:Gl X "range") (hm:X.mg "range" = none) (ha:PA X [a,b] ta) (hs:starEach [a,b] X.env = [(false,eval a X.env),(false,eval b X.env)]:=by rfl) (hs2:starEach [b] X.env = [(false,eval b X.env)]:=by rfl) :
  PI X tg (.Call (.Name "range" p) [a,b] [] pos) (qk3_ ta):=by
 intro pins s σ H R I h
 refine Call_ (yz_ I hg hm boot_range (PyProof.Rows.callWith_type1 (thn (ha pos pins s σ H _ I h) fun us s1 ⟨vs,H1,I1,r1,q1⟩=>?_) (by rw [hs,hs2]) (by rw [hs2];rfl)))
 obtain ⟨i,j,e,⟨q1,q2,q3,q4⟩,q⟩:=q1
 subst e
 cases r1 with
 | cons r rr =>
  cases rr with
  | cons r' rr =>
   cases rr
   obtain ⟨t,rfl⟩:=r
   obtain ⟨t',rfl⟩:=r'
   exact call_range_2 (qaq_ I1 q1 q2 q3 q4 q)
def tFor (wi:TI) (g:TG) (tb:TS):TS:=fun D σ H=>wi σ H fun J H1=>∃ W:Nat->Nat->St->Hp->Prop,(∃ m,W 0 m σ H1)/\∀ i m σ H,W i m σ H →
 (J.stop i H/\D.nx σ H)\/(J.go i H/\∃ N:St->Hp->Prop,(∀ σ' H',N σ' H'->∃ m',m' < m/\W (i + 1) m' σ' H')/\∀ x H',J.yld i H x H'->g x σ H' fun σ2 H2=>tb { D with nx:=N,ct:=N,bk:=D.nx } σ2 H2)
def zB_ (fp:List Addr) (h:Heap):List (Addr × Obj):=fp.filterMap fun b=>(h.get? b).map fun o=>(b,o)
theorem za_ {fp:List Addr}{h:Heap}{b:Addr}{o:Obj} (hb:b ∈ fp) (e:h.get? b = some o):(b,o) ∈ zB_ fp h:=List.mem_filterMap.mpr ⟨b,hb,by rw [e];rfl⟩
theorem qec_ {fp:List Addr}{h:Heap}{p:Addr × Obj} (hp:p ∈ zB_ fp h):p.1 ∈ fp/\h.get? p.1 = some p.2:=by
 obtain ⟨b,hb,e⟩:=List.mem_filterMap.mp hp
 cases q:h.get? b with
 | none=>rw [q] at e;cases e
 | some o =>
  rw [q] at e
  have e':(b,o) = p:=Option.some.inj e
  subst e'
  exact ⟨hb,q⟩
theorem Inv.pinned {pins:List (Addr × Obj)}{σ:St}{H:Hp}{s:Shared}{fp:List Addr} (I:Inv X pins σ H s) (hf:∀ b ∈ fp,FpOk X pins H b) (ho:∀ b ∈ fp,∃ o,s.heap.get? b = some o/\∀ v,o.data ≠ .cell v):Inv X (pins ++ zB_ fp s.heap) σ H s :=
 I.pins_of fun p hp=>(List.mem_append.mp hp).elim (fun z=>I.pin p (List.mem_append_right _ z)) fun z=>by
  obtain ⟨hb,e⟩:=qec_ z
  obtain ⟨f0,f1,f2,_⟩:=hf p.1 hb
  obtain ⟨o,e',d⟩:=ho p.1 hb
  rw [e] at e';cases e'
  exact ⟨e,f0,f1,f2,d⟩
theorem Inv.unpinned {pins pl:List (Addr × Obj)}{σ:St}{H:Hp}{s:Shared} (I:Inv X (pins ++ pl) σ H s):Inv X pins σ H s:=I.pins_of fun p hp=>I.pin p (List.mem_append_right _ (List.mem_append_left _ hp))
theorem qK_ {iter:Expr}{body:List Stmt}{wi:TI}{g:TG}{tb:TS}{pos:Pos} (hp:PassesOwn (model X.prog X.w) X.A X.env X.xe) (hc:X.calm = true) (hi:PI X tg iter wi) (hg:PG X tg g) (hb:PSs X body tb)
  (hs:∀ x,foldedSetIterable iter X.env x = pure x:=by intro _;rfl):PS X (.For tg iter body [] pos) (tFor wi g tb):=by
 intro pins s σ H D I h
 refine wpAny_For (thn (hi pins s σ H _ I h) fun v s1 h1=>thn h1 fun itv s2 h2=>?_) hs
 obtain ⟨it,fp,tn,J,H2,e,I2,T,st2,f2,W,⟨m0,w0⟩,turn⟩:=h2
 subst e
 have stat:∀ {H':Hp},(∀ b ∈ fp,H' b = none)->∀ b ∈ fp,FpOk X pins H' b:=fun hn b hb=>⟨hn b hb,(f2 b hb).2⟩
 refine codeAny_forLoop_any (fun n s'=>∃ i σ' H',Inv X pins σ' H' s'/\tn i s'.heap/\(∀ b ∈ fp,H' b = none)/\W i n σ' H') ?_ m0 ⟨0,σ,H2,I2,st2,fun b hb=>(f2 b hb).1,w0⟩
 rintro n s3 ⟨i,σ3,H3,I3,st3,fr3,w3⟩
 rcases turn i n σ3 H3 w3 with ⟨stop,qn⟩ | ⟨go,N,hN,step⟩
 ·refine wpAny_passesOwn hp (thn (T.done X rfl rfl rfl hc i pins s3 σ3 H3 X.xe I3 (stat fr3) st3 stop) fun r s4 ⟨hr,I4⟩=>?_)
  subst hr
  exact wpAny_execs_nil ⟨σ3,H3,I4,qn⟩
 ·refine wpAny_passesOwn hp (thn (T.item X rfl rfl rfl hc i pins s3 σ3 H3 X.xe I3 (stat fr3) st3 go) fun r s4 ⟨u,hr,h4⟩=>?_)
  subst hr
  refine wpAny_passesOwn hp (thn h4 fun _ s5 ⟨x,H5,I5,r5,y5,st5,fr5⟩=>?_)
  have I5':=I5.pinned (stat fr5) (T.obj _ _ st5)
  refine wpAny_passesOwn hp (thn (hg _ s5 σ3 H5 x u _ I5' r5 (step x H5 y5)) fun _ s6 ⟨σ6,H6,I6,q6⟩=>?_)
  refine wpAny_passesOwn hp (thn (hb _ s6 σ6 H6 _ I6 q6) fun f s7 q7=>?_)
  have again:∀ {σ7:St}{H7:Hp},Inv X (pins ++ zB_ fp s5.heap) σ7 H7 s7->N σ7 H7->∃ m,m < n/\∃ i σ' H',Inv X pins σ' H' s7/\tn i s7.heap/\(∀ b ∈ fp,H' b = none)/\W i m σ' H':=fun {σ7 H7} I7 n7=>by
   obtain ⟨m',hm,w7⟩:=hN σ7 H7 n7
   refine ⟨m',hm,i + 1,σ7,H7,I7.unpinned,T.keep _ _ _ st5 fun b hb o e=>(I7.pin (b,o) (List.mem_append_right _ (List.mem_append_right _ (za_ hb e)))).1,fun b hb=>?_,w7⟩
   obtain ⟨o,e,d⟩:=T.obj _ _ st5 b hb
   exact (I7.pin (b,o) (List.mem_append_right _ (List.mem_append_right _ (za_ hb e)))).2.1
  cases f with
  | next=>obtain ⟨σ7,H7,I7,n7⟩:=q7;exact again I7 n7
  | cont=>obtain ⟨σ7,H7,I7,n7⟩:=q7;exact again I7 n7
  | brk=>obtain ⟨σ7,H7,I7,q7⟩:=q7;exact ⟨σ7,H7,I7.unpinned,q7⟩
  | ret v=>obtain ⟨x7,σ7,H7,I7,r7,q7⟩:=q7;exact ⟨x7,σ7,H7,I7.unpinned,r7,q7⟩
end
theorem j6_ {K:PySem.W.Frag}{a:Addr}{xs:List V}{g:TG}{tb:TS}{D:Ends}{σ:St}{H:Hp} (Pv:Nat->St->Hp->Prop) (h0:Pv 0 σ H) (hl:∀ i σ H,i<=xs.length->Pv i σ H->SqL K H a xs)
  (hs:∀ i x σ H,xs[i]? = some x->Pv i σ H->g x σ H fun σ2 H2=>tb { D with nx:=Pv (i + 1),ct:=Pv (i + 1),bk:=D.nx } σ2 H2) (hd:∀ σ H,Pv xs.length σ H->D.nx σ H) :
  ∃ W:Nat->Nat->St->Hp->Prop,(∃ m,W 0 m σ H)/\∀ i m σ H,W i m σ H →
   ((Itl K a).stop i H/\D.nx σ H)\/((Itl K a).go i H/\∃ N:St->Hp->Prop,(∀ σ' H',N σ' H'->∃ m',m' < m/\W (i + 1) m' σ' H')/\∀ x H',(Itl K a).yld i H x H'->g x σ H' fun σ2 H2=>tb { D with nx:=N,ct:=N,bk:=D.nx } σ2 H2):=by
 refine ⟨fun i m σ H=>m = xs.length - i/\i<=xs.length/\Pv i σ H,⟨xs.length,by simp,Nat.zero_le _,h0⟩,?_⟩
 rintro i m σ H ⟨rfl,hi,p⟩
 have q:=hl i σ H hi p
 by_cases hlt:i < xs.length
 ·refine .inr ⟨⟨xs,xs[i],q,by simp [hlt]⟩,Pv (i + 1),fun σ' H' p'=>⟨xs.length - (i + 1),by omega,rfl,hlt,p'⟩,fun x H' y=>?_⟩
  obtain ⟨e,y⟩:=y
  subst e
  exact hs i x σ _ (y xs q) p
 ·have e:i = xs.length:=by omega
  subst e
  exact .inl ⟨⟨xs,q,Nat.le_refl _⟩,hd σ H p⟩
theorem jn_ {lo:Int}{n:Nat}{g:TG}{tb:TS}{D:Ends}{σ:St}{H:Hp} (Pv:Nat->St->Hp->Prop) (h0:Pv 0 σ H)
  (hs:∀ i σ H,i < n->Pv i σ H->g (.int (lo + i)) σ H fun σ2 H2=>tb { D with nx:=Pv (i + 1),ct:=Pv (i + 1),bk:=D.nx } σ2 H2) (hd:∀ σ H,Pv n σ H->D.nx σ H) :
  ∃ W:Nat->Nat->St->Hp->Prop,(∃ m,W 0 m σ H)/\∀ i m σ H,W i m σ H →
   ((Itr lo n).stop i H/\D.nx σ H)\/((Itr lo n).go i H/\∃ N:St->Hp->Prop,(∀ σ' H',N σ' H'->∃ m',m' < m/\W (i + 1) m' σ' H')/\∀ x H',(Itr lo n).yld i H x H'->g x σ H' fun σ2 H2=>tb { D with nx:=N,ct:=N,bk:=D.nx } σ2 H2):=by
 refine ⟨fun i m σ H=>m = n - i/\i<=n/\Pv i σ H,⟨n,by simp,Nat.zero_le _,h0⟩,?_⟩
 rintro i m σ H ⟨rfl,hi,p⟩
 by_cases hlt:i < n
 ·refine .inr ⟨hlt,Pv (i + 1),fun σ' H' p'=>⟨n - (i + 1),by omega,rfl,hlt,p'⟩,fun x H' y=>?_⟩
  obtain ⟨e,y⟩:=y
  subst e y
  exact hs i σ _ hlt p
 ·have e:i = n:=by omega
  subst e
  exact .inl ⟨Nat.le_refl _,hd σ H p⟩
end L2
namespace L2
open PySem PySem.Spec PyProof.Rows
abbrev R2:=V->V->Hp->VK->Prop
def OpR (X:Cx) (f:Value->Value->Sem Value) (r:R2):Prop :=
 ∀ (pins:List (Addr × Obj)) (s:Shared) (σ:St) (H:Hp) (x y:V) (v u:Value) (Q:VK),Inv X pins σ H s->RelV x v->RelV y u->r x y H Q →
  wpAny (model X.prog X.w) X.A (f v u) (EP X pins σ Q) X.xe s
def UnR (X:Cx) (f:Value->Sem Value) (r:V->Hp->VK->Prop):Prop :=
 ∀ (pins:List (Addr × Obj)) (s:Shared) (σ:St) (H:Hp) (x:V) (v:Value) (Q:VK),Inv X pins σ H s->RelV x v->r x H Q →
  wpAny (model X.prog X.w) X.A (f v) (EP X pins σ Q) X.xe s
def yE_ (X:Cx) (f:Value) (r:List V->Hp->VK->Prop):Prop :=
 ∀ (pins:List (Addr × Obj)) (s:Shared) (σ:St) (H:Hp) (xs:List V) (us:List Value) (Q:VK),Inv X pins σ H s->Vals xs us->r xs H Q →
  wpAny (model X.prog X.w) X.A (call f us) (EP X pins σ Q) X.xe s
def TruR (X:Cx) (r:V->Hp->(Bool->Hp->Prop)->Prop):Prop :=
 ∀ (pins:List (Addr × Obj)) (s:Shared) (σ:St) (H:Hp) (x:V) (v:Value) (Q:Bool->Hp->Prop),Inv X pins σ H s->RelV x v->r x H Q →
  wpAny (model X.prog X.w) X.A (truthy v) (TP X pins σ Q) X.xe s
def tOp (r:R2) (ta tb:TE):TE:=fun σ H Q=>ta σ H fun x H1=>tb σ H1 fun y H2=>r x y H2 Q
def tUn (r:V->Hp->VK->Prop) (ta:TE):TE:=fun σ H Q=>ta σ H fun x H1=>r x H1 Q
def rI (C:Int->Int->Prop) (g:Int->Int->V):R2:=fun x y H Q=>∃ i j,x = .int i/\y = .int j/\C i j/\Q (g i j) H
def rI0 (g:Int->Int->V):R2:=fun x y H Q=>∃ i j,x = .int i/\y = .int j/\Q (g i j) H
def rU (g:Int->V):V->Hp->VK->Prop:=fun x H Q=>∃ i,x = .int i/\Q (g i) H
section
variable {X:Cx}{a b c:Expr}{ta tb tc:TE}{pos:Pos}
theorem binT (ha:PE X a ta) (hb:PE X b tb) {pins:List (Addr × Obj)}{s:Shared}{σ:St}{H:Hp}{R:V->V->Hp->Prop} (I:Inv X pins σ H s)
  (h:ta σ H fun x H1=>tb σ H1 fun y H2=>R x y H2) {Q:Value->Shared->Prop}{f:Value->Value->Sem Value}
  (hf:∀ v u s2 x y H2,Inv X pins σ H2 s2->RelV x v->RelV y u->R x y H2->wpAny (model X.prog X.w) X.A (f v u) Q X.xe s2) :
  wpAny (model X.prog X.w) X.A (eval a X.env) (fun v s₁=>wpAny (model X.prog X.w) X.A (eval b X.env) (fun u s₂=>wpAny (model X.prog X.w) X.A (f v u) Q X.xe s₂) X.xe s₁) X.xe s:=by
 refine thn (ha pins s σ H _ I h) fun v s1 ⟨x,H1,I1,r1,q1⟩=>?_
 refine thn (hb pins s1 σ H1 _ I1 q1) fun u s2 ⟨y,H2,I2,r2,q2⟩=>?_
 exact hf v u s2 x y H2 I2 r1 r2 q2
theorem qn_ {op:Operator}{r:R2} (ho:OpR X (binaryOp op) r) (ha:PE X a ta) (hb:PE X b tb):PE X (.BinOp a op b pos) (tOp r ta tb):=by
 intro pins s σ H Q I h
 exact wpAny_BinOp (binT ha hb I h fun v u s2 x y H2 I2 rx ry q=>ho pins s2 σ H2 x y v u Q I2 rx ry q)
theorem qk4_ {op:UnaryOp}{r:V->Hp->VK->Prop} (ho:UnR X (unaryOp op) r) (ha:PE X a ta):PE X (.UnaryOp op a pos) (tUn r ta):=by
 intro pins s σ H Q I h
 exact UnaryOp_ (thn (ha pins s σ H _ I h) fun v s1 ⟨x,H1,I1,r1,q1⟩=>ho pins s1 σ H1 x v Q I1 r1 q1)
theorem opI {f:Value->Value->Sem Value}{C:Int->Int->Prop}{g:Int->Int->Int}
  (rule:∀ (i j:Int) (t u:Tok) (s:Shared) (Q:Value->Shared->Prop) (E:Value->Shared->Prop),C i j->Q (.int (g i j) s.toks) { s with toks:=s.toks + 1 }->wpAny (model X.prog X.w) X.A (f (.int i t) (.int j u)) Q E s) :
  OpR X f (rI C fun i j=>.int (g i j)):=by
 intro pins s σ H x y v u Q I rx ry h
 obtain ⟨i,j,rfl,rfl,hc,q⟩:=h
 obtain ⟨t,rfl⟩:=rx
 obtain ⟨t',rfl⟩:=ry
 exact rule i j t t' s _ _ hc ⟨.int (g i j),H,I.tok _,⟨_,rfl⟩,q⟩
theorem opI0 {f:Value->Value->Sem Value}{g:Int->Int->Int}
  (rule:∀ (i j:Int) (t u:Tok) (s:Shared) (Q:Value->Shared->Prop) (E:Value->Shared->Prop),Q (.int (g i j) s.toks) { s with toks:=s.toks + 1 }->wpAny (model X.prog X.w) X.A (f (.int i t) (.int j u)) Q E s) :
  OpR X f (rI0 fun i j=>.int (g i j)):=by
 intro pins s σ H x y v u Q I rx ry h
 obtain ⟨i,j,rfl,rfl,q⟩:=h
 obtain ⟨t,rfl⟩:=rx
 obtain ⟨t',rfl⟩:=ry
 exact rule i j t t' s _ _ ⟨.int (g i j),H,I.tok _,⟨_,rfl⟩,q⟩
theorem opB0 {f:Value->Value->Sem Value}{g:Int->Int->Bool}
  (rule:∀ (i j:Int) (t u:Tok) (s:Shared) (Q:Value->Shared->Prop) (E:Value->Shared->Prop),Q (.bool (g i j)) s->wpAny (model X.prog X.w) X.A (f (.int i t) (.int j u)) Q E s) :
  OpR X f (rI0 fun i j=>.bl (g i j)):=by
 intro pins s σ H x y v u Q I rx ry h
 obtain ⟨i,j,rfl,rfl,q⟩:=h
 obtain ⟨t,rfl⟩:=rx
 obtain ⟨t',rfl⟩:=ry
 exact rule i j t t' s _ _ ⟨.bl (g i j),H,I,rfl,q⟩
def CDiv (i j:Int):Prop:=0 < j/\j < 1073741824
def qmc_ (i j:Int):Prop:=j ≠ 0/\j.natAbs < 1073741824
def CPow (i j:Int):Prop:=0<=j/\j<=1000000/\i.natAbs < 2 ^ 64
def CMul (i j:Int):Prop:=(-(2 ^ 64) < i/\i < 2 ^ 64)\/(-(2 ^ 64) < j/\j < 2 ^ 64)
theorem CMul.ok {i j:Int} (h:CMul i j):IntMulOk i j:=by
 rcases h with ⟨h1,h2⟩ | ⟨h1,h2⟩
 ·exact .of_left (intBits_le_64 h1 h2)
 ·exact .of_right (intBits_le_64 h1 h2)
theorem qO_:OpR X (binaryOp .Add) (rI0 fun i j=>.int (i + j)):=opI0 fun _ _ _ _ _ _ _ q=>add_int q
theorem zi_:OpR X (binaryOp .Sub) (rI0 fun i j=>.int (i - j)):=opI0 fun _ _ _ _ _ _ _ q=>sub_int q
theorem jP_:OpR X (binaryOp .Mult) (rI CMul fun i j=>.int (i * j)):=opI fun _ _ _ _ _ _ _ hc q=>mul_int q hc.ok
theorem j3_:OpR X (binaryOp .FloorDiv) (rI CDiv fun i j=>.int (i / j)):=opI fun i j _ _ _ _ _ hc q=>by
 have h1:(0:Int) < j:=hc.1
 have h2:j < 1073741824:=hc.2
 exact floordiv_int (by omega) (by rw [Int.fdiv_eq_ediv_of_nonneg i (by omega)];exact q) (.inl (PyProof.noPylong_small (by omega)))
theorem qV_:OpR X (binaryOp .Mod) (rI (fun _ j=>0 < j) fun i j=>.int (i % j)):=opI fun i j _ _ _ _ _ hc q=>by
 have h1:(0:Int) < j:=hc
 exact mod_int' (by omega) (by rw [Int.fmod_eq_emod_of_nonneg i (by omega)];exact q)
theorem qjy_:OpR X (binaryOp .Pow) (rI CPow fun i j=>.int (i ^ j.toNat)):=opI fun _ _ _ _ _ _ _ hc q=>pow_int_small hc.1 hc.2.1 hc.2.2 q
theorem v2_:OpR X (binaryOp .LShift) (rI CPow fun i j=>.int (i * 2 ^ j.toNat)):=opI fun _ _ _ _ _ _ _ hc q=>lshift_int_small hc.1 hc.2.1 hc.2.2 q
theorem zj_:OpR X (binaryOp .BitXor) (rI0 fun i j=>.int (Builtin.bitXor i j)):=opI0 fun _ _ _ _ _ _ _ q=>xor_int q
theorem unI {f:Value->Sem Value}{g:Int->Int}
  (rule:∀ (i:Int) (t:Tok) (s:Shared) (Q:Value->Shared->Prop) (E:Value->Shared->Prop),Q (.int (g i) s.toks) { s with toks:=s.toks + 1 }->wpAny (model X.prog X.w) X.A (f (.int i t)) Q E s) :
  UnR X f (rU fun i=>.int (g i)):=by
 intro pins s σ H x v Q I rx h
 obtain ⟨i,rfl,q⟩:=h
 obtain ⟨t,rfl⟩:=rx
 exact rule i t s _ _ ⟨.int (g i),H,I.tok _,⟨_,rfl⟩,q⟩
theorem qjz_:UnR X (unaryOp .USub) (rU fun i=>.int (-i)):=unI fun _ _ _ _ _ q=>neg_int q
end
def scal:V->V->Bool
 | .non,.non=>true | .non,.int _=>true | .int _,.non=>true | .non,.bl _=>true | .bl _,.non=>true | .non,.str _=>true | .str _,.non=>true
 | .int _,.int _=>true | .bl _,.bl _=>true | .str _,.str _=>true | .byt _,.byt _=>true
 | .int _,.str _=>true | .str _,.int _=>true | .bl _,.str _=>true | .str _,.bl _=>true
 | _,_=>false
def rEq:R2:=fun x y H Q=>scal x y = true/\Q (.bl (decide (x = y))) H
def rNe:R2:=fun x y H Q=>scal x y = true/\Q (.bl (!decide (x = y))) H
theorem qcg_ {i j:Int}:decide (V.int i = V.int j) = (i == j):=by
 rw [Bool.eq_iff_iff]
 simp
theorem qed_ {i j:Bool}:decide (V.bl i = V.bl j) = (i == j):=by
 rw [Bool.eq_iff_iff]
 simp
theorem qch_ {i j:Str}:decide (V.str i = V.str j) = (i == j):=by
 rw [Bool.eq_iff_iff]
 simp
theorem qci_ {i j:Array UInt8}:decide (V.byt i = V.byt j) = (i.toList == j.toList):=by
 rw [Bool.eq_iff_iff]
 cases i
 cases j
 simp
section
variable {X:Cx}{a b c:Expr}{ta tb tc:TE}{pos:Pos}
theorem qH_ {pins:List (Addr × Obj)}{σ:St}{H:Hp}{s:Shared}{Q:VK}{k k':Bool} (I:Inv X pins σ H s) (q:Q (.bl k) H) (e:k = k'):EP X pins σ Q (.bool k') s:=by
 subst e
 exact ⟨.bl k,H,I,rfl,q⟩
theorem jD_:OpR X (compareOp .Eq) rEq:=by
 intro pins s σ H x y v u Q I rx ry h
 obtain ⟨hs,q⟩:=h
 cases x with
 | non =>
  cases rx
  cases y with
  | non=>cases ry;exact PySem.EqNone.eq_none_none (qH_ I q (by simp))
  | bl j=>cases ry;exact PySem.EqNone.eq_none_bool (qH_ I q (by simp))
  | int j=>obtain ⟨t',rfl⟩:=ry;exact PySem.EqNone.eq_none_int (qH_ I q (by simp))
  | str j=>obtain ⟨t',rfl⟩:=ry;exact PySem.EqNone.eq_none_str (qH_ I q (by simp))
  | _=>exact absurd (show false = true from hs) Bool.false_ne_true
 | bl i =>
  cases rx
  cases y with
  | non=>cases ry;exact PySem.EqNone.eq_bool_none (qH_ I q (by simp))
  | bl j=>cases ry;exact eq_bool (qH_ I q qed_)
  | str j=>obtain ⟨t',rfl⟩:=ry;exact PySem.EqMixed.eq_bool_str (qH_ I q (by simp))
  | _=>exact absurd (show false = true from hs) Bool.false_ne_true
 | int i =>
  obtain ⟨t,rfl⟩:=rx
  cases y with
  | non=>cases ry;exact PySem.EqNone.eq_int_none (qH_ I q (by simp))
  | int j=>obtain ⟨t',rfl⟩:=ry;exact eq_int (qH_ I q qcg_)
  | str j=>obtain ⟨t',rfl⟩:=ry;exact PySem.EqMixed.eq_int_str (qH_ I q (by simp))
  | _=>exact absurd (show false = true from hs) Bool.false_ne_true
 | str i =>
  obtain ⟨t,rfl⟩:=rx
  cases y with
  | non=>cases ry;exact PySem.EqNone.eq_str_none (qH_ I q (by simp))
  | bl j=>cases ry;exact PySem.EqMixed.eq_str_bool (qH_ I q (by simp))
  | int j=>obtain ⟨t',rfl⟩:=ry;exact PySem.EqMixed.eq_str_int (qH_ I q (by simp))
  | str j=>obtain ⟨t',rfl⟩:=ry;exact eq_str (qH_ I q qch_)
  | _=>exact absurd (show false = true from hs) Bool.false_ne_true
 | byt i =>
  obtain ⟨t,rfl⟩:=rx
  cases y with
  | byt j=>obtain ⟨t',rfl⟩:=ry;exact PySem.W.eq_bytes (qH_ I q qci_)
  | _=>exact absurd (show false = true from hs) Bool.false_ne_true
 | _=>cases y <;> exact absurd (show false = true from hs) Bool.false_ne_true
theorem v3_:OpR X (compareOp .NotEq) rNe:=by
 intro pins s σ H x y v u Q I rx ry h
 obtain ⟨hs,q⟩:=h
 cases x with
 | non =>
  cases rx
  cases y with
  | non=>cases ry;exact PySem.EqNone.ne_none_none (qH_ I q (by simp))
  | bl j=>cases ry;exact PySem.EqNone.ne_none_bool (qH_ I q (by simp))
  | int j=>obtain ⟨t',rfl⟩:=ry;exact PySem.EqNone.ne_none_int (qH_ I q (by simp))
  | str j=>obtain ⟨t',rfl⟩:=ry;exact PySem.EqNone.ne_none_str (qH_ I q (by simp))
  | _=>exact absurd (show false = true from hs) Bool.false_ne_true
 | bl i =>
  cases rx
  cases y with
  | non=>cases ry;exact PySem.EqNone.ne_bool_none (qH_ I q (by simp))
  | bl j=>cases ry;exact ne_bool (qH_ I q (congrArg not qed_))
  | str j=>obtain ⟨t',rfl⟩:=ry;exact PySem.EqMixed.ne_bool_str (qH_ I q (by simp))
  | _=>exact absurd (show false = true from hs) Bool.false_ne_true
 | int i =>
  obtain ⟨t,rfl⟩:=rx
  cases y with
  | non=>cases ry;exact PySem.EqNone.ne_int_none (qH_ I q (by simp))
  | int j=>obtain ⟨t',rfl⟩:=ry;exact ne_int (qH_ I q (congrArg not qcg_))
  | str j=>obtain ⟨t',rfl⟩:=ry;exact PySem.EqMixed.ne_int_str (qH_ I q (by simp))
  | _=>exact absurd (show false = true from hs) Bool.false_ne_true
 | str i =>
  obtain ⟨t,rfl⟩:=rx
  cases y with
  | non=>cases ry;exact PySem.EqNone.ne_str_none (qH_ I q (by simp))
  | bl j=>cases ry;exact PySem.EqMixed.ne_str_bool (qH_ I q (by simp))
  | int j=>obtain ⟨t',rfl⟩:=ry;exact PySem.EqMixed.ne_str_int (qH_ I q (by simp))
  | str j=>obtain ⟨t',rfl⟩:=ry;exact ne_str (qH_ I q (congrArg not qch_))
  | _=>exact absurd (show false = true from hs) Bool.false_ne_true
 | byt i =>
  obtain ⟨t,rfl⟩:=rx
  cases y with
  | byt j=>obtain ⟨t',rfl⟩:=ry;exact PySem.W.ne_bytes (qH_ I q (congrArg not qci_))
  | _=>exact absurd (show false = true from hs) Bool.false_ne_true
 | _=>cases y <;> exact absurd (show false = true from hs) Bool.false_ne_true
theorem zt_:OpR X (compareOp .Lt) (rI0 fun i j=>.bl (decide (i < j))):=opB0 fun _ _ _ _ _ _ _ q=>lt_int q
theorem qk5_:OpR X (compareOp .LtE) (rI0 fun i j=>.bl (decide (i<=j))):=opB0 fun _ _ _ _ _ _ _ q=>le_int q
theorem yF_:OpR X (compareOp .Gt) (rI0 fun i j=>.bl (decide (j < i))):=opB0 fun _ _ _ _ _ _ _ q=>gt_int q
theorem qhx_:OpR X (compareOp .GtE) (rI0 fun i j=>.bl (decide (j<=i))):=opB0 fun _ _ _ _ _ _ _ q=>ge_int q
theorem z1_:OpR X (compareOp .Is) (fun x y H Q=>y = .non/\Q (.bl (decide (x = .non))) H):=by
 intro pins s σ H x y v u Q I rx ry h
 obtain ⟨rfl,q⟩:=h
 cases ry
 refine is_none_gen (qH_ I q ?_)
 cases x <;> first
  | (cases rx;rfl)
  | (obtain ⟨t,rfl⟩:=rx;rfl)
theorem zf_:OpR X (compareOp .IsNot) (fun x y H Q=>y = .non/\Q (.bl (!decide (x = .non))) H):=by
 intro pins s σ H x y v u Q I rx ry h
 obtain ⟨rfl,q⟩:=h
 cases ry
 refine isnot_none_gen (qH_ I q ?_)
 cases x <;> first
  | (cases rx;rfl)
  | (obtain ⟨t,rfl⟩:=rx;rfl)
def qmd_:HO->Bool
 | .lst _=>true
 | .ins _ _ _=>true
 | _=>false
theorem qu_ (b:Expr) {op:CmpOp} (h:op ≠ .In:=by decide) (h2:op ≠ .NotIn:=by decide):behindInMarks op b = false:=by
 have e1:(op == CmpOp.In) = false:=by cases op <;> first | rfl | exact absurd rfl h
 have e2:(op == CmpOp.NotIn) = false:=by cases op <;> first | rfl | exact absurd rfl h2
 cases b <;> simp [behindInMarks,e1,e2]
theorem yn_ {op:CmpOp}{r:R2} (ho:OpR X (compareOp op) r) (ha:PE X a ta) (hb:PE X b tb) (hm:behindInMarks op b = false):PE X (.Compare a [op] [b] pos) (tOp r ta tb):=by
 intro pins s σ H Q I h
 exact wpAny_Compare1 (binT ha hb I h fun v u s2 x y H2 I2 rx ry q=>ho pins s2 σ H2 x y v u Q I2 rx ry q) hm
def qk6_ (t:TE):TT:=fun σ H Q=>t σ H fun x H'=>∃ k,x = .bl k/\Q k H'
theorem qt_ {op:CmpOp}{r:R2} (ho:OpR X (compareOp op) r) (ha:PE X a ta) (hb:PE X b tb) (hm:behindInMarks op b = false):PT X (.Compare a [op] [b] pos) (qk6_ (tOp r ta tb)):=by
 intro pins s σ H Q I h
 refine wpAny_isTrue_Compare1 (thn (ha pins s σ H _ I h) fun v s1 ⟨x,H1,I1,r1,q1⟩=>thn (hb pins s1 σ H1 _ I1 q1) fun u s2 ⟨y,H2,I2,r2,q2⟩ =>
  thn (ho pins s2 σ H2 x y v u _ I2 r1 r2 q2) fun c s3 ⟨z,H3,I3,r3,k,e,q3⟩=>?_) hm
 subst e
 cases r3
 exact wpAny_truthy_bool ⟨H3,I3,q3⟩
def qls_ (r r':R2) (ta tb tc:TE):TE:=fun σ H Q=>ta σ H fun x H1=>tb σ H1 fun y H2=>r x y H2 fun z H3=>∃ k,z = .bl k ∧
 (if k = true then tc σ H3 fun w' H4=>r' y w' H4 Q else Q (.bl false) H3)
def TruV (K:PySem.W.Frag) (x:V) (H:Hp) (k:Bool):Prop :=
 match x with
 | .non=>k = false
 | .bl b=>k = b
 | .int i=>k = (i != 0)
 | .str y=>y.length<=sizeLine/\k = ((y.length:Int) != 0)
 | .byt y=>y.size<=sizeLine/\k = ((y.size:Int) != 0)
 | .ref p=>(∃ xs,SqL K H p xs/\k = !xs.isEmpty)\/(∃ xs,SqT K H p xs/\k = !xs.isEmpty)\/∃ kvs,H p = some (.dK kvs)/\k = !kvs.isEmpty
 | _=>False
theorem v4_:(sizeLine:Nat) < 2 ^ 63:=by rw [sizeLine_eq];decide
def qll_ (b:Expr):Prop:=∀ o i,subscripted b false o i = operate [o,i] (getItem o i)
theorem zb_ {x:V}{us:List Value} (r:Vals [x] us):∃ u,us = [u]/\RelV x u:=by
 cases r with
 | cons r1 r2=>cases r2;exact ⟨_,rfl,r1⟩
theorem zK_ {x y:V}{us:List Value} (r:Vals [x,y] us):∃ u w',us = [u,w']/\RelV x u/\RelV y w':=by
 cases r with
 | cons r1 r2 =>
  cases r2 with
  | cons r3 r4=>cases r4;exact ⟨_,_,rfl,r1,r3⟩
theorem qee_ (hc:X.calm = true):yE_ X (.builtin "max") (fun xs H Q=>∃ i j,xs = [.int i,.int j] ∧ Q (.int (if j > i then j else i)) H):=by
 intro pins s σ H xs us Q I r h
 obtain ⟨i,j,rfl,q⟩:=h
 obtain ⟨u,w',rfl,⟨t,rfl⟩,⟨t',rfl⟩⟩:=zK_ r
 refine max_two_ints (I.ok.hd hc) fun h' tk k=>⟨_,H,I.kept k,?_,q⟩
 by_cases hj:j > i
 ·rw [if_pos hj,if_pos hj];exact ⟨_,rfl⟩
 ·rw [if_neg hj,if_neg hj];exact ⟨_,rfl⟩
theorem qef_ (hc:X.calm = true):yE_ X (.builtin "min") (fun xs H Q=>∃ i j,xs = [.int i,.int j] ∧ Q (.int (if j < i then j else i)) H):=by
 intro pins s σ H xs us Q I r h
 obtain ⟨i,j,rfl,q⟩:=h
 obtain ⟨u,w',rfl,⟨t,rfl⟩,⟨t',rfl⟩⟩:=zK_ r
 refine min_two_ints (I.ok.hd hc) fun h' tk k=>⟨_,H,I.kept k,?_,q⟩
 by_cases hj:j < i
 ·rw [if_pos hj,if_pos hj];exact ⟨_,rfl⟩
 ·rw [if_neg hj,if_neg hj];exact ⟨_,rfl⟩
def LenV (K:PySem.W.Frag) (x:V) (H:Hp) (n:Nat):Prop :=
 match x with
 | .str y=>y.length<=sizeLine/\n = y.length
 | .byt y=>y.size<=sizeLine/\n = y.size
 | .ref p=>(∃ xs,SqL K H p xs/\n = xs.length)\/∃ xs,SqT K H p xs/\n = xs.length
 | _=>False
end
end L2
namespace L2
open PySem PySem.Spec PyProof.Rows
structure ObjM (h:Heap) (x dx C:Addr) (mA:Str->Option Value):Prop where
 obj:h.get? x = some (PySem.W.instObj C dx)
 ns:h.Ns1 dx mA
 ne:dx ≠ x
theorem qeg_ {h:Heap}{dx:Addr}{mA:Str->Option Value} (n:h.Ns1 dx mA):∃ od,h.get? dx = some od/\∀ name,PySem.W.lookIn name od = some (mA name):=by
 obtain ⟨o,es,ep,ho,hd,hk,_,hm⟩:=n
 refine ⟨o,ho,fun name=>?_⟩
 have e:=hm name
 unfold nsFind findBy at e
 rw [<- Array.find?_toList] at e
 unfold PySem.W.lookIn
 rw [hd]
 dsimp only
 split
 ·rename_i y q
  rw [q] at e
  exact congrArg some e
 ·rename_i q
  rw [q] at e
  have a:es.toList.any (·.refKey) = false:=by
   rw [List.any_eq_false]
   intro y hy
   obtain ⟨z,t,hkey⟩:=hk y (Array.mem_toList_iff.mp hy)
   simp [DictEntry.refKey,hkey]
  have a':¬ es.toList.any (·.refKey) = true:=by rw [a];exact Bool.false_ne_true
  rw [if_neg a']
  exact congrArg some e
theorem ObjM.look {h:Heap}{x dx C:Addr}{mA:Str->Option Value} (I:ObjM h x dx C mA):∃ od,PySem.W.InstAt h x (PySem.W.instObj C dx) C (some od)/\∀ name,PySem.W.lookIn name od = some (mA name) :=
 let ⟨od,ho,hl⟩:=qeg_ I.ns
 ⟨od,⟨I.obj,rfl,rfl,ho⟩,hl⟩
section
variable {prog:Program}{w:World}{A:Around}{E:Value->Shared->Prop}{s:Shared}{K:PySem.W.Frag}{x dx C f:Addr}{mA:Str->Option Value}{name:Str}{v:Value}
theorem qh4_ {expr:Bool}{Q:Value->Shared->Prop} (X:K.In s.heap) (I:ObjM s.heap x dx C mA) (hg:PySem.W.plainGet K C name = true) (hh:PySem.W.hasDictIn K C = true)
  (ha:PySem.W.findIn K (.ref C) name = some none) (hv:mA name = some v) (hv':PySem.W.handedIn v = true) (h:Q v { s with toks:=s.toks + 1 }) :
  wpAny (model prog w) A (getAttr (.ref x) name expr) Q E s:=by
 obtain ⟨od,J,hl⟩:=I.look
 exact PySem.W.get_value X J (PySem.W.plainGet_of hg).1 (PySem.W.findObj_own hh ha rfl (by rw [hl,hv])) hv' h
theorem qf9_ {pl:Sem Bool}{Q:Value × List Value->Shared->Prop} (X:K.In s.heap) (I:ObjM s.heap x dx C mA) (hg:PySem.W.plainGet K C name = true)
  (hf:PySem.W.findIn K (.ref C) name = some (some (.ref f))) (ht:PySem.W.isFn K (.ref f) = true) (hv:mA name = none) (h:Q (.ref f,[.ref x]) s) :
  wpAny (model prog w) A (getMethod (.ref x) name pl) Q E s:=by
 obtain ⟨od,J,hl⟩:=I.look
 exact PySem.W.method_fn X J (PySem.W.plainGet_of hg).1 (PySem.W.plainGet_of hg).2 hf (beq_iff_eq.mp ht) (by show (PySem.W.lookIn name od).map (·.isSome) = some false;rw [hl,hv];rfl) h
theorem qh5_ {ns:List Str}{Q:Unit->Shared->Prop} (X:K.In s.heap) (I:ObjM s.heap x dx C mA)
  (hs:PySem.W.findIn K (.ref C) "__setattr__" = some (some (.builtin "object.__setattr__"))) (hp:PySem.W.plainOver K C = true) (ht:PySem.W.takerIn K C name = some none) (hh:PySem.W.hasDictIn K C = true)
  (hw:PySem.Within mA ns) (hsz:ns.length<=sizeLine)
  (h:∀ h',ObjM h' x dx C (fun y=>if y = name then some v else mA y)->Heap.SameBut dx s.heap h'->Q () { s with heap:=h',toks:=s.toks + 2 }) :
  wpAny (model prog w) A (setAttr (.ref x) name v) Q E s:=by
 obtain ⟨od,J,hl⟩:=I.look
 refine PySem.W.set_plain X J hs (PySem.W.osa_open (s:={ s with toks:=s.toks + 1 }) (r:=none) X J hp ht fun b=>?_)
 obtain ⟨cd,hc,hd'⟩:=PySem.W.any_some hh
 have hx:s.heap.get? x = some ⟨.ref C,some dx,.plain,#[]⟩:=I.obj
 refine wpAny_bind (wpAny_pure (wpAny_bind (wpAny_bind (wpAny_loadPart hx (wpAny_bind (PySem.W.Looks.here (s:={ s with toks:=s.toks + 1 }) (PySem.W.looks_clsIn X hc) ?_))))))
 rw [hd']
 refine wpAny_pure (a:=some dx) (wpAny_bind (wpAny_pure (wpAny_bind ?_)))
 refine wpAny_nsSet1 (s:={ s with toks:=s.toks + 1 }) I.ns fun h' hn2 hs2=>?_
 obtain ⟨oD,esD,epD,hoD,hdD,hcD⟩:=hn2.count (PySem.Within.cons name v hw)
 refine wpAny_bind (wpAny_lookBehind hoD (by rw [hdD];exact pastItsLine_dict (Nat.le_trans hcD (by rw [List.length_cons];omega))) ?_)
 exact wpAny_pure (h _ ⟨(hs2.2 _ (Ne.symm I.ne)).trans I.obj,hn2,I.ne⟩ hs2)
theorem qga_ {R:Result->Shared->Prop}{vs:List Value}{kw:List (Str × Value)} (X:K.In s.heap) (hm:PySem.W.makesIn K C = true)
  (hi:PySem.W.findIn K (.ref C) "__init__" = some (some (.ref f))) (hf:PySem.W.typeIn K (.ref f) = some (.type "function"))
  (h:codeAny (model prog w) (A.under (.builtin "type.__call__" ⟨.ref C :: vs,kw⟩)) (.call (.ref f) ⟨.ref (s.heap.objs.size + 1) :: vs,kw⟩) (PySem.W.InitBack (s.heap.objs.size + 1) R)
   { s with heap:=(s.heap.push PySem.W.emptyDict).push (PySem.W.instObj C s.heap.objs.size) }) :
  codeAny (model prog w) A (.call (.ref C) ⟨vs,kw⟩) R s:=by
 obtain ⟨hh,g,d,t,os⟩:=s
 exact PySem.W.make_core (PySem.W.makes_of X hm) (PySem.W.looks_findIn X hi) (fun self=>PySem.W.bind_fn X self hf) (.inl rfl) h
end
def putF (f:Str) (v:V):List (Str × V)->List (Str × V)
 | []=>[(f,v)]
 | (g,x) :: r=>if g = f then (g,v) :: r else (g,x) :: putF f v r
theorem vy_ (f g:Str) (v:V):∀ fs:List (Str × V),(putF f v fs).lookup g = if g = f then some v else fs.lookup g
 | []=>by
  show List.lookup g [(f,v)] = _
  by_cases h:g = f
  ·have hb:(g == f) = true:=beq_iff_eq.mpr h
   simp only [List.lookup,hb,if_pos h]
  ·have hb:(g == f) = false:=beq_eq_false_iff_ne.mpr h
   simp only [List.lookup,hb,if_neg h]
 | (k,x) :: r=>by
  have ih:=vy_ f g v r
  rw [show putF f v ((k,x) :: r) = (if k = f then (k,v) :: r else (k,x) :: putF f v r) from rfl]
  by_cases hk:k = f
  ·rw [if_pos hk]
   by_cases h:g = k
   ·have hb:(g == k) = true:=beq_iff_eq.mpr h
    simp only [List.lookup,hb,if_pos (h.trans hk)]
   ·have hb:(g == k) = false:=beq_eq_false_iff_ne.mpr h
    simp only [List.lookup,hb,if_neg (fun e:g = f=>h (e.trans hk.symm))]
  ·rw [if_neg hk]
   by_cases h:g = k
   ·have hb:(g == k) = true:=beq_iff_eq.mpr h
    simp only [List.lookup,hb,if_neg (fun e:g = f=>hk (h.symm.trans e))]
   ·have hb:(g == k) = false:=beq_eq_false_iff_ne.mpr h
    simp only [List.lookup,hb]
    exact ih
theorem z2_ (f:Str) (v:V):∀ fs:List (Str × V),f ∈ (putF f v fs).map (·.1)/\∀ g,g ∈ fs.map (·.1)->g ∈ (putF f v fs).map (·.1)
 | []=>⟨by simp [putF],fun g h=>by simp at h⟩
 | (k,x) :: r=>by
  obtain ⟨i1,i2⟩:=z2_ f v r
  rw [show putF f v ((k,x) :: r) = (if k = f then (k,v) :: r else (k,x) :: putF f v r) from rfl]
  by_cases hk:k = f
  ·rw [if_pos hk]
   subst hk
   exact ⟨by simp,fun g h=>by simpa using h⟩
  ·rw [if_neg hk]
   refine ⟨?_,fun g h=>?_⟩
   ·rw [List.map_cons]
    exact List.mem_cons_of_mem _ i1
   ·rw [List.map_cons] at h ⊢
    rcases List.mem_cons.mp h with e | e
    ·exact List.mem_cons.mpr (.inl e)
    ·exact List.mem_cons_of_mem _ (i2 g e)
theorem vz_ (f:Str) (v:V):∀ fs:List (Str × V),(putF f v fs).length<=fs.length + 1
 | []=>by simp [putF]
 | (k,x) :: r=>by
  have ih:=vz_ f v r
  rw [show putF f v ((k,x) :: r) = (if k = f then (k,v) :: r else (k,x) :: putF f v r) from rfl]
  by_cases hk:k = f
  ·rw [if_pos hk,List.length_cons,List.length_cons];omega
  ·rw [if_neg hk,List.length_cons,List.length_cons];omega
theorem RelO.some_of {v:V}{o:Option Value} (r:RelO (some v) o):∃ u,o = some u/\RelV v u:=by
 cases o with
 | none=>exact (show False from r).elim
 | some u=>exact ⟨u,rfl,r⟩
theorem RelO.none_of {o:Option Value} (r:RelO none o):o = none:=by
 cases o with
 | none=>rfl
 | some u=>exact (show False from r).elim
theorem qeh_ {v:V}{u:Value} (r:RelV v u):PySem.W.handedIn u = true:=by
 cases v with
 | non=>cases (show u = Value.none from r);rfl
 | bl b=>cases (show u = Value.bool b from r);rfl
 | int i=>obtain ⟨t,e⟩:=(show ∃ t,u = Value.int i t from r);cases e;rfl
 | str x=>obtain ⟨t,e⟩:=(show ∃ t,u = Value.str x t from r);cases e;rfl
 | byt b=>obtain ⟨t,e⟩:=(show ∃ t,u = Value.bytes b t from r);cases e;rfl
 | flt b=>obtain ⟨t,e⟩:=(show ∃ t,u = Value.float b t from r);cases e;rfl
 | ref a=>cases (show u = Value.ref a from r);rfl
 | ty n=>cases (show u = Value.type n from r);rfl
section
variable {P:Program}{w:World}{H H':Hp}{h h':Heap}{a C dx:Addr}{fs fs':List (Str × V)}
theorem zC_ (hok:HOk P w H h) (e:H a = some (.ins C dx fs)):∃ mA,ObjM h a dx C mA/\(∀ f,RelO (fs.lookup f) (mA f))/\PySem.Within mA (fs.map (·.1))/\fs.length<=1000/\H dx = some (.own a):=by
 obtain ⟨d,z,ne,ob,mA,n,r,q⟩:=(show ObjOk P w H h a (.ins C dx fs) from hok a _ e)
 exact ⟨mA,⟨ob,n,ne⟩,r,q,z,d⟩
end
structure Cls (K:PySem.W.Frag) (C:Addr):Prop where
 pg:PySem.W.plainGet K C Str.empty = true
 hd:PySem.W.hasDictIn K C = true
 po:PySem.W.plainOver K C = true
 sa:PySem.W.findIn K (.ref C) "__setattr__" = some (some (.builtin "object.__setattr__"))
theorem Cls.get {K:PySem.W.Frag}{C:Addr} (c:Cls K C) (f:Str):PySem.W.plainGet K C f = true:=c.pg
def NoAttr (K:PySem.W.Frag) (C:Addr) (f:Str):Prop:=PySem.W.findIn K (.ref C) f = some none
theorem NoAttr.taker {K:PySem.W.Frag}{C:Addr}{f:Str} (n:NoAttr K C f):PySem.W.takerIn K C f = some none:=by
 unfold PySem.W.takerIn
 rw [show PySem.W.findIn K (.ref C) f = some none from n]
 rfl
structure Con (K:PySem.W.Frag) (C:Addr) (f:Str) (v:V) (u:Value):Prop where
 at_:PySem.W.findIn K (.ref C) f = some (some u)
 rel:RelV v u
 get:PySem.W.specialIn K u "__get__" = some none
 cp:PySem.W.copiedNames.contains f = false
structure Meth (K:PySem.W.Frag) (C:Addr) (m:Str) (f:Addr):Prop where
 at_:PySem.W.findIn K (.ref C) m = some (some (.ref f))
 fn:PySem.W.isFn K (.ref f) = true
 kp:PySem.W.keepIn K (.ref f) = true
section
variable {X:Cx}{pins:List (Addr × Obj)}{σ:St}{H:Hp}{s:Shared}{a C dx:Addr}{fs:List (Str × V)}{f:Str}{v:V}{A:Around}{E:Value->Shared->Prop}
theorem v5_ {b:Bool}{Q:Value->Shared->Prop} (I:Inv X pins σ H s) (e:H a = some (.ins C dx fs)) (c:Cls X.K C) (n:NoAttr X.K C f) (l:fs.lookup f = some v)
  (h:∀ u s',Inv X pins σ H s'->RelV v u->Q u s'):wpAny (model X.prog X.w) A (getAttr (.ref a) f b) Q E s:=by
 obtain ⟨mA,O,r,_,_,_⟩:=zC_ I.hok e
 obtain ⟨u,hu,ru⟩:=RelO.some_of (v:=v) (o:=mA f) (by rw [<- l];exact r f)
 exact qh4_ I.kIn O (c.get f) c.hd n hu (qeh_ ru) (h u _ (I.tok _) ru)
theorem v6_ {m:Str}{g:Addr}{pl:Sem Bool}{Q:Value × List Value->Shared->Prop} (I:Inv X pins σ H s) (e:H a = some (.ins C dx fs)) (c:Cls X.K C) (k:Meth X.K C m g) (l:fs.lookup m = none)
  (h:Q (.ref g,[.ref a]) s):wpAny (model X.prog X.w) A (getMethod (.ref a) m pl) Q E s:=by
 obtain ⟨mA,O,r,_,_,_⟩:=zC_ I.hok e
 have hn:mA m = none:=RelO.none_of (by rw [<- l];exact r m)
 exact qf9_ I.kIn O (c.get m) k.at_ k.fn hn h
theorem qdd_ {y:V}{u:Value}{Q:Unit->Shared->Prop} (I:Inv X pins σ H s) (e:H a = some (.ins C dx fs)) (c:Cls X.K C) (n:NoAttr X.K C f) (hl:fs.length < 1000) (ry:RelV y u)
  (h:∀ s',Inv X pins σ (upd H a (.ins C dx (putF f y fs))) s'->Q () s'):wpAny (model X.prog X.w) A (setAttr (.ref a) f u) Q E s:=by
 obtain ⟨mA,O,r,wi,_,ho⟩:=zC_ I.hok e
 have hz:(fs.map (·.1)).length<=sizeLine:=by rw [List.length_map,sizeLine_eq];omega
 refine qh5_ I.kIn O c.sa c.po n.taker c.hd wi hz fun h' O' sb=>h _ ?_
 have hd:∃ o,h'.get? dx = some o:=let ⟨o,_,_,e',_⟩:=O'.ns;⟨o,e'⟩
 refine I.write (x:=a) (e:=dx) (by rw [e];exact True.intro) (.inr ho) (fun b q hb z=>(sb.2 b hb).trans z) hd ?_
 refine ⟨by rw [qf_ O.ne];exact ho,?_,O.ne,O'.obj,_,O'.ns,fun g=>?_,fun g hg=>?_⟩
 ·have:=vz_ f y fs;omega
 ·show RelO ((putF f y fs).lookup g) (if g = f then some u else mA g)
  rw [vy_]
  by_cases q:g = f
  ·rw [if_pos q,if_pos q];exact ry
  ·rw [if_neg q,if_neg q];exact r g
 ·by_cases q:g = f
  ·rw [q];exact (z2_ f y fs).1
  ·refine (z2_ f y fs).2 g (wi g fun z=>hg ?_)
   show (if g = f then some u else mA g) = none
   rw [if_neg q];exact z
theorem Inv.made (I:Inv X pins σ H s):Inv X pins σ (upd (upd H s.heap.objs.size (.own (s.heap.objs.size + 1))) (s.heap.objs.size + 1) (.ins C s.heap.objs.size []))
  { s with heap:=(s.heap.push PySem.W.emptyDict).push (PySem.W.instObj C s.heap.objs.size) }:=by
 have e1:(s.heap.push PySem.W.emptyDict).get? s.heap.objs.size = some PySem.W.emptyDict:=Heap.get?_push_size s.heap rfl
 have e2:((s.heap.push PySem.W.emptyDict).push (PySem.W.instObj C s.heap.objs.size)).get? (s.heap.objs.size + 1) = some (PySem.W.instObj C s.heap.objs.size):=by
  have:=Heap.get?_push_size (s.heap.push PySem.W.emptyDict) (o:=PySem.W.instObj C s.heap.objs.size) rfl
  rwa [Heap.size_push] at this
 have e3:(s.heap.push PySem.W.emptyDict).Ns s.heap.objs.size (fun _=>none):=⟨PySem.W.emptyDict,#[],_,e1,rfl,(fun e he=>absurd he (by simp)),fun _=>rfl⟩
 have I1:=I.laid (a:=s.heap.objs.size) (o:=.own (s.heap.objs.size + 1)) (h':=s.heap.push PySem.W.emptyDict) (t':=s.toks) (fun b u q=>Heap.get?_push_of_some _ q) (Nat.le_refl _) ⟨_,e1⟩
 refine I1.laid (a:=s.heap.objs.size + 1) (o:=.ins C s.heap.objs.size []) (t':=s.toks) (fun b u q=>Heap.get?_push_of_some _ q) (Nat.le_of_eq (Heap.size_push _ _)) ?_
 have ne:s.heap.objs.size ≠ s.heap.objs.size + 1:=Nat.ne_of_lt (Nat.lt_succ_self _)
 refine ⟨by rw [qf_ ne,qc_],Nat.zero_le _,ne,e2,fun _=>none,(Heap.Ns1.of_empty e3).at fun o q=>Heap.get?_push_of_some _ q,fun _=>True.intro,fun y hy=>absurd rfl hy⟩
theorem qh6_ {prog:Program}{w:World}{env:Env}{e:Expr}{f:Str}{pos:Pos}{s:Shared}{Q:Value->Shared->Prop} (hb:attributeBase e f env (eval e env) = eval e env)
  (h:wpAny (model prog w) A (eval e env) (fun o s₁=>wpAny (model prog w) A (getAttr o f true) Q E s₁) E s):wpAny (model prog w) A (eval (.Attribute e f pos) env) Q E s :=
 Attribute_any_ h (by rw [arm_eval_Attribute,hb])
end
def tFld (K:PySem.W.Frag) (ta:TE) (f:Str):TE:=fun σ H Q=>ta σ H fun x H1=>∃ a C dx fs v,x = .ref a/\H1 a = some (.ins C dx fs)/\Cls K C/\NoAttr K C f/\fs.lookup f = some v/\Q v H1
def tCon (K:PySem.W.Frag) (ta:TE) (f:Str):TE:=fun σ H Q=>ta σ H fun x H1=>∃ a C dx fs v u,x = .ref a/\H1 a = some (.ins C dx fs)/\Cls K C/\Con K C f v u/\fs.lookup f = none/\Q v H1
def sFld (K:PySem.W.Frag) (ta tv:TE) (f:Str):TS:=fun D σ H=>tv σ H fun y H1=>ta σ H1 fun x H2=>∃ a C dx fs,x = .ref a/\H2 a = some (.ins C dx fs)/\Cls K C/\NoAttr K C f/\fs.length < 1000 ∧
 D.nx σ (upd H2 a (.ins C dx (putF f y fs)))
def InOp (X:Cx) (op:Operator) (rd:V->V->Hp->VK->Prop):Prop :=
 ∀ (pins:List (Addr × Obj)) (s:Shared) (σ:St) (H:Hp) (x y:V) (u v:Value) (Q:VK),Inv X pins σ H s->RelV x u->RelV y v->rd x y H Q->wpAny (model X.prog X.w) X.A (inplaceOp op u v) (EP X pins σ Q) X.xe s
def qln_ (K:PySem.W.Frag) (ta tv:TE) (rd:V->V->Hp->VK->Prop) (f:Str):TS:=fun D σ H=>ta σ H fun x H1=>∃ a C dx fs v,x = .ref a/\H1 a = some (.ins C dx fs)/\Cls K C/\NoAttr K C f/\fs.lookup f = some v ∧
 tv σ H1 fun y H2=>rd v y H2 fun z H3=>∃ dx' fs',H3 a = some (.ins C dx' fs')/\fs'.length < 1000/\D.nx σ (upd H3 a (.ins C dx' (putF f z fs')))
section
variable {X:Cx}{o e value:Expr}{f:Str}{pos pos' tpos:Pos}{ta tv:TE}
theorem qC_ (he:PE X e ta) (hb:attributeBase e f X.env (eval e X.env) = eval e X.env):PE X (.Attribute e f pos) (tFld X.K ta f):=by
 intro pins s σ H Q I h
 refine qh6_ hb (thn (he pins s σ H _ I h) fun u s1 ⟨x,H1,I1,rx,a,C,dx,fs,v,ex,ea,c,n,l,q⟩=>?_)
 subst ex
 obtain rfl:u = Value.ref a:=rx
 exact v5_ I1 ea c n l fun u' s2 I2 ru=>⟨v,H1,I2,ru,q⟩
theorem jL_ (ha:PE X o ta) (hv:PE X value tv) (hs:swapsWith value (some (.Attribute o f pos')) pos.line X.env = pure false):PS X (.Assign [.Attribute o f pos'] value pos) (sFld X.K ta tv f):=by
 intro pins s σ H D I h
 refine plainObj_wpAny_Assign_Attribute (thn (hv pins s σ H _ I h) fun u s1 ⟨y,H1,I1,ry,q⟩=>thn (ha pins s1 σ H1 _ I1 q) fun ov s2 ⟨x,H2,I2,rx,a,C,dx,fs,ex,ea,c,n,l,q2⟩=>?_) hs
 subst ex
 obtain rfl:ov = Value.ref a:=rx
 exact qdd_ I2 ea c n l ry fun s3 I3=>⟨σ,_,I3,q2⟩
def rAdd:V->V->Hp->VK->Prop:=fun x y H Q=>∃ i j,x = .int i/\y = .int j/\Q (.int (i + j)) H
def rSub:V->V->Hp->VK->Prop:=fun x y H Q=>∃ i j,x = .int i/\y = .int j/\Q (.int (i - j)) H
end
section
variable {X:Cx}{pins:List (Addr × Obj)}{σ:St}{H:Hp}{s:Shared}{A:Around}{E:Value->Shared->Prop}{Q:Value->Shared->Prop}{c:Value}{b:Bool}
inductive TyOf (K:PySem.W.Frag) (H:Hp):V->Value->Prop where
 | non:TyOf K H .non (.type "NoneType")
 | bl (x:Bool):TyOf K H (.bl x) (.type "bool")
 | int (i:Int):TyOf K H (.int i) (.type "int")
 | str (x:Str):TyOf K H (.str x) (.type "str")
 | flt (x:UInt64):TyOf K H (.flt x) (.type "float")
 | lst {a:Addr}{xs:List V} (e:H a = some (.lst xs)):TyOf K H (.ref a) (.type "list")
 | frz {a:Addr}{o:Obj}{xs:List V} (e:H a = some (.frz o (.lst xs))):TyOf K H (.ref a) (.type "list")
 | tup {a:Addr}{xs:List V} (e:H a = some (.tup xs)):TyOf K H (.ref a) (.type "tuple")
 | dK {a:Addr}{kvs:List (Key × V)} (e:H a = some (.dK kvs)):TyOf K H (.ref a) (.type "dict")
 | dT {a:Addr}{kvs:List (List Key × V)} (e:H a = some (.dT kvs)):TyOf K H (.ref a) (.type "dict")
 | ins {a C dx:Addr}{fs:List (Str × V)} (e:H a = some (.ins C dx fs)) (cl:Cls K C) (ha:PySem.W.findIn K (.ref C) "__class__" = some (some (.builtin "object.__class__")))
   (hn:PySem.W.specialIn K (.builtin "object.__class__") "__get__" = some (some (.builtin "getset_descriptor.__get__"))) (htk:PySem.W.takesIn K (.builtin "object.__class__") = some true)
   (hm:PySem.W.mroIn K C (.type "object") = some true):TyOf K H (.ref a) (.ref C)
theorem qei_ {x:V}{u t:Value} (I:Inv X pins σ H s) (rx:RelV x u) (ty:TyOf X.K H x t) (e:PySem.W.kitOne X.K t c = some b) (h:∀ tk,Q (.bool b) { s with toks:=tk }) :
  wpAny (model X.prog X.w) A (call (.builtin "isinstance") [u,c]) Q E s:=by
 cases ty with
 | non=>cases (show u = Value.none from rx);exact PySem.W.kia_one PySem.W.kitx_none I.kIn True.intro e (fun z=>nomatch z) h
 | bl y=>cases (show u = Value.bool y from rx);exact PySem.W.kia_one PySem.W.kitx_bool I.kIn True.intro e (fun z=>nomatch z) h
 | int i=>obtain ⟨t,q⟩:=(show ∃ t,u = Value.int i t from rx);cases q;exact PySem.W.kia_one PySem.W.kitx_int I.kIn True.intro e (fun z=>nomatch z) h
 | str y=>obtain ⟨t,q⟩:=(show ∃ t,u = Value.str y t from rx);cases q;exact PySem.W.kia_one PySem.W.kitx_str I.kIn True.intro e (fun z=>nomatch z) h
 | flt y=>obtain ⟨t,q⟩:=(show ∃ t,u = Value.float y t from rx);cases q;exact PySem.W.kia_one PySem.W.kitx_float I.kIn True.intro e (fun z=>nomatch z) h
 | @lst a xs ea =>
  cases (show u = Value.ref a from rx)
  obtain ⟨_,_,n,_,h1⟩:=(show ObjOk X.prog X.w H s.heap a (.lst xs) from I.hok a _ ea)
  exact PySem.W.kia_one PySem.W.kitx_list I.kIn ⟨_,h1,rfl⟩ e (fun z=>nomatch z) h
 | @frz a ob xs ea =>
  cases (show u = Value.ref a from rx)
  obtain ⟨_,_,_,n,_,h1⟩:=(show ObjOk X.prog X.w H s.heap a (.frz ob (.lst xs)) from I.hok a _ ea)
  exact PySem.W.kia_one PySem.W.kitx_list I.kIn ⟨_,h1,rfl⟩ e (fun z=>nomatch z) h
 | @tup a xs ea =>
  cases (show u = Value.ref a from rx)
  obtain ⟨_,_,_,p⟩:=(show ObjOk X.prog X.w H s.heap a (.tup xs) from I.hok a _ ea)
  obtain ⟨o,h1,h2,_⟩:=p
  exact PySem.W.kia_one PySem.W.kitx_tuple I.kIn ⟨o,h1,h2⟩ e (fun z=>nomatch z) h
 | @dK a kvs ea =>
  cases (show u = Value.ref a from rx)
  obtain ⟨_,_,vs,_,p⟩:=(show ObjOk X.prog X.w H s.heap a (.dK kvs) from I.hok a _ ea)
  obtain ⟨o,es,ep,h1,h2,_⟩:=p
  exact PySem.W.kia_one PySem.W.kitx_dict I.kIn ⟨o,h1,h2.1⟩ e (fun z=>nomatch z) h
 | @dT a kvs ea =>
  cases (show u = Value.ref a from rx)
  obtain ⟨_,_,xs,_,o,es,ep,h1,h2,_⟩:=(show ObjOk X.prog X.w H s.heap a (.dT kvs) from I.hok a _ ea)
  exact PySem.W.kia_one PySem.W.kitx_dict I.kIn ⟨o,h1,h2.1⟩ e (fun z=>nomatch z) h
 | @ins a C dx fs ea cl ha hn htk hm =>
  cases (show u = Value.ref a from rx)
  obtain ⟨mA,O,_⟩:=zC_ I.hok ea
  obtain ⟨od,J,_⟩:=O.look
  exact PySem.W.kia_one (PySem.W.kitx_own (cl.get _) cl.hd ha hn htk hm) I.kIn J e (fun z=>nomatch z) h
end
end L2
namespace L2
open PySem PySem.Spec PyProof.Rows
structure Room (k:Nat) (A:Around):Prop where
 hd:A.handled = none
 dp:A.depth + 3 * k + 5 < recursionLimit
 un:A.units + 16 * k + 200 < cLine
 gd:A.guards = some []:=by rfl
theorem Room.mono {j k:Nat}{A:Around} (r:Room k A) (h:j<=k):Room j A:=⟨r.hd,by have:=r.dp;omega,by have:=r.un;omega,r.gd⟩
theorem Room.deeper {k:Nat}{A:Around} (r:Room (k + 1) A) (env:Env):Room k (A.deeper env) :=
 ⟨r.hd,by have:=r.dp;show A.depth + 1 + 3 * k + 5 < _;omega,by have:=r.un;show A.units + 3 + 16 * k + 200 < _;omega,r.gd⟩
theorem Room.in1 {k:Nat}{A:Around} (r:Room (k + 1) A):Room k A.in1 :=
 ⟨r.hd,by have:=r.dp;show A.depth + 3 * k + 5 < _;omega,by have:=r.un;show A.units + 1 + 16 * k + 200 < _;omega,r.gd⟩
theorem qde_ {A:Around}{C:Addr}{us:List Value}{kw:List (Str × Value)}:(A.under (.builtin "type.__call__" ⟨.ref C :: us,kw⟩)).depth = A.depth + 1:=by
 first | rfl | simp [Around.under,Code.weight,Code.isCreation,Code.isGuard,Code.isCaller,Code.frames,Code.isFrame,guardIds]
theorem qdf_ {A:Around}{C:Addr}{us:List Value}{kw:List (Str × Value)}:(A.under (.builtin "type.__call__" ⟨.ref C :: us,kw⟩)).units = A.units + 1:=by
 first | rfl | simp [Around.under,Code.cUnits,Code.frames,Code.isFrame]
theorem Room.make {k:Nat}{A:Around} (r:Room (k + 1) A) (C:Addr) (us:List Value) (kw:List (Str × Value)):Room k (A.under (.builtin "type.__call__" ⟨.ref C :: us,kw⟩)) :=
 ⟨r.hd,by have:=r.dp;rw [qde_];omega,by have:=r.un;rw [qdf_];omega,by have:=r.gd;first | exact this | simp [Around.under,Code.weight,Code.isCreation,Code.isGuard,Code.isCaller,Code.frames,Code.isFrame,guardIds,this]⟩
theorem Room.depth {k:Nat}{A:Around} (r:Room k A):A.depth < recursionLimit:=by have:=r.dp;omega
theorem Room.units {k:Nat}{A:Around} (r:Room k A):A.units + 64 < cLine:=by have:=r.un;omega
def tNil:TA:=fun _ H Q=>Q [] H
def qk7_ (ta:TE) (tr:TA):TA:=fun σ H Q=>ta σ H fun x H1=>tr σ H1 fun xs H2=>Q (x :: xs) H2
section
variable {X:Cx}{e:Expr}{es:List Expr}{te:TE}{t:TA}{pos:Pos}
theorem qe_:PA X [] tNil:=fun _ _ _ _ H Q I h=>Calls.spliced_nil ⟨[],H,I,.nil,h⟩
theorem qa_ (ha:PE X e te) (hr:PA X es t) (hs:starEach (e :: es) X.env = (false,eval e X.env) :: starEach es X.env:=by rfl):PA X (e :: es) (qk7_ te t):=by
 intro pos pins s σ H Q I h
 rw [hs]
 show wpAny _ _ (spliced ((false,eval e X.env) :: backTo pos (starEach es X.env))) _ _ s
 refine Calls.spliced_cons (thn (ha pins s σ H _ I h) fun u s1 ⟨x,H1,I1,r1,q1⟩=>?_)
 exact thn (hr pos pins s1 σ H1 _ I1 q1) fun us s2 ⟨xs,H2,I2,r2,q2⟩=>⟨x :: xs,H2,I2,.cons r1 r2,q2⟩
def tTup (t:TA):TE:=fun σ H Q=>t σ H fun xs H1=>xs.length<=sizeLine/\∀ p,H1 p = none->Q (.ref p) (upd H1 p (.tup xs))
def tLst (t:TA):TE:=fun σ H Q=>t σ H fun xs H1=>xs.length<=sizeLine/\∀ p,H1 p = none->Q (.ref p) (upd H1 p (.lst xs))
theorem yB_ {x1} (h:PA X es t):PE X (.Tuple es x1 pos) (tTup t):=by
 intro pins s σ H Q I hq
 refine wpAny_Tuple_spliced (thn (h pos pins s σ H _ I hq) fun us s1 ⟨xs,H1,I1,r,z,q⟩=>⟨by rw [<- r.length];exact z,?_⟩)
 have hf:H1 s1.heap.objs.size = none:=I1.hok.fresh (Nat.le_refl _)
 refine ⟨.ref s1.heap.objs.size,upd H1 s1.heap.objs.size (.tup xs),I1.laid (t':=s1.toks) (fun b u e=>Heap.get?_push_of_some _ e) (Nat.le_refl _) ?_,rfl,q _ hf⟩
 exact ⟨z,us,r,⟨_,Heap.get?_push_size _ rfl,rfl,_,rfl⟩⟩
theorem qP_ (h:PA X es t):PE X (.List es pos) (tLst t):=by
 intro pins s σ H Q I hq
 refine wpAny_List_spliced (thn (h pos pins s σ H _ I hq) fun us s1 ⟨xs,H1,I1,r,z,q⟩=>⟨by rw [<- r.length];exact z,?_⟩)
 have hf:H1 s1.heap.objs.size = none:=I1.hok.fresh (Nat.le_refl _)
 refine ⟨.ref s1.heap.objs.size,upd H1 s1.heap.objs.size (.lst xs),I1.laid (t':=s1.toks) (fun b u e=>Heap.get?_push_of_some _ e) (Nat.le_refl _) ?_,rfl,q _ hf⟩
 exact ⟨z,us,0,r,Heap.get?_push_size _ rfl⟩
end
abbrev Sp:=List V->Hp->VK->XK->Prop
abbrev CXT:=List Env->Hp->Shared->XK->Value->Shared->Prop
structure Env0 (P:Program) (w:World) (K:PySem.W.Frag) (mg:Str->Option Value) (base:Heap) (A:Around) (outer:List Env) (s:Shared) (H:Hp):Prop where
 frames:A.frames = some outer
 mod:Mod K mg base
 bs:∀ b o,base.get? b = some o->s.heap.get? b = some o/\H b = none
 bsz:base.objs.size<=s.heap.objs.size
 funs:s.heap.FunFrames base outer
 frf:∀ b ∈ frs outer,H b = none
 hok:HOk P w H s.heap
 bare:AllBare s.gens
def CE (outer:List Env) (P:Program) (w:World) (H:Hp) (s:Shared) (Q:VK) (u:Value) (s':Shared):Prop :=
 ∃ v H',s'.os = s.os/\AllBare s'.gens/\Un (frs outer) [] H H' s.heap s'.heap/\HOk P w H' s'.heap/\RelV v u/\Q v H'
def CR (CX:CXT) (outer:List Env) (P:Program) (w:World) (H:Hp) (s:Shared) (Q:VK) (E:XK) (r:Result) (s':Shared):Prop :=
 match r with
 | .ok (.ret u)=>CE outer P w H s Q u s'
 | .ok _=>False
 | .error e=>CX outer H s E e s'
structure FnOk (P:Program) (w:World) (K:PySem.W.Frag) (mg:Str->Option Value) (base:Heap) (CX:CXT) (k:Nat) (f:Addr) (fd:FuncData) (ps:List Str) (sp:Sp):Prop where
 len:∀ vs H Q E,sp vs H Q E->vs.length = ps.length
 run:∀ (A:Around) (outer:List Env) (s:Shared) (H:Hp) (args:Args) (us:List Value) (vs:List V) (Q:VK) (E:XK),Room k A->Env0 P w K mg base A outer s H->BindsTo s fd args (ps.zip us)->Vals vs us->sp vs H Q E →
  codeAny (model P w) A (.call (.ref f) args) (CR CX outer P w H s Q E) s
theorem FnOk.mono {P:Program}{w:World}{K:PySem.W.Frag}{mg:Str->Option Value}{base:Heap}{CX:CXT}{j k:Nat}{f:Addr}{fd:FuncData}{ps:List Str}{sp:Sp} (F:FnOk P w K mg base CX j f fd ps sp) (h:j<=k) :
  FnOk P w K mg base CX k f fd ps sp:=⟨F.len,fun A outer s H args us vs Q E hr=>F.run A outer s H args us vs Q E (hr.mono h)⟩
theorem FnOk.imp {P:Program}{w:World}{K:PySem.W.Frag}{mg:Str->Option Value}{base:Heap}{CX:CXT}{k:Nat}{f:Addr}{fd:FuncData}{ps:List Str}{sp sp':Sp} (F:FnOk P w K mg base CX k f fd ps sp)
  (h:∀ vs H Q E,sp' vs H Q E->sp vs H Q E):FnOk P w K mg base CX k f fd ps sp' :=
 ⟨fun vs H Q E q=>F.len vs H Q E (h _ _ _ _ q),fun A outer s H args us vs Q E hr he hb hv hs=>F.run A outer s H args us vs Q E hr he hb hv (h _ _ _ _ hs)⟩
theorem Env0.make {P:Program}{w:World}{K:PySem.W.Frag}{mg:Str->Option Value}{base:Heap}{A:Around}{outer:List Env}{s:Shared}{H:Hp} (e:Env0 P w K mg base A outer s H) (C:Addr) (us:List Value) (kw:List (Str × Value)) :
  Env0 P w K mg base (A.under (.builtin "type.__call__" ⟨.ref C :: us,kw⟩)) outer s H:=⟨by first | exact e.frames | (simpa [Around.under,Code.envs,Code.isFrame,pushEnvs] using e.frames),e.mod,e.bs,e.bsz,e.funs,e.frf,e.hok,e.bare⟩
section
variable {X:Cx}{pins:List (Addr × Obj)}{σ:St}{H:Hp}{s s':Shared}
theorem Inv.env0 (I:Inv X pins σ H s):Env0 X.prog X.w X.K X.mg X.base X.A X.stack s H :=
 ⟨I.ok.frames,I.ok.mod,I.bs,Nat.le_trans I.ok.bsz I.sz,I.stack,I.stkFree,I.hok,I.bare⟩
theorem Inv.after {Q:VK}{u:Value} (I:Inv X pins σ H s) (h:CE X.stack X.prog X.w H s Q u s'):EP X pins σ Q u s':=by
 obtain ⟨v,H',os,bare,un,hok,r,q⟩:=h
 obtain ⟨hh,g,d,t,os'⟩:=s'
 obtain rfl:os' = s.os:=os
 exact ⟨v,H',I.call (h':=hh) (g':=g) (d':=d) (t':=t) (ch:=[]) un hok bare (fun b z=>absurd z (by simp)),r,q⟩
end
def qk8_ (sp:Sp) (dvs:List V) (E:XK) (t:TA):TE:=fun σ H Q=>t σ H fun vs H1=>sp (vs ++ dvs) H1 Q E
def qhy_ (C:Addr) (m:Str) (sp:Sp) (dvs:List V) (E:XK) (ta:TE) (t:TA):TE:=fun σ H Q=>ta σ H fun x H1=>∃ a dx fs,x = .ref a/\H1 a = some (.ins C dx fs)/\fs.lookup m = none ∧
 t σ H1 fun vs H2=>sp (x :: (vs ++ dvs)) H2 Q E
def qk9_ (C:Addr) (sp:Sp) (dvs:List V) (E:XK) (t:TA):TE:=fun σ H Q=>t σ H fun vs H1=>∀ x dx,H1 x = none->H1 dx = none->dx ≠ x →
 sp (.ref x :: (vs ++ dvs)) (upd (upd H1 dx (.own x)) x (.ins C dx [])) (fun v H2=>v = .non/\Q (.ref x) H2) E
def Binds (K:PySem.W.Frag) (fd:FuncData) (ps:List Str) (ds:List Value):Prop :=
 ∀ (s:Shared) (us:List Value),K.In s.heap->(us ++ ds).length = ps.length->BindsTo s fd ⟨us,[]⟩ (ps.zip (us ++ ds))
theorem Binds.all {K:PySem.W.Frag}{fd:FuncData}{ps:List Str} (h:∀ us:List Value,us.length = ps.length->bindArgs fd ⟨us,[]⟩ = pure (ps.zip us)):Binds K fd ps []:=fun s us _ hl=>by
 rw [List.append_nil] at hl ⊢
 exact .of_eq (h us hl)
def zk_ (CX:CXT) (X:Cx) (E:XK):Prop:=∀ (pins:List (Addr × Obj)) (σ:St) (H:Hp) (s:Shared) (e:Value) (s':Shared),Inv X pins σ H s->CX X.stack H s E e s'->X.xe e s'
section
variable {X:Cx}{CX:CXT}{k:Nat}{f C:Addr}{fd:FuncData}{ps:List Str}{sp:Sp}{dvs:List V}{ds:List Value}{E:XK}{x m:Str}{p pos apos:Pos}{e o:Expr}{es:List Expr}{ta:TE}{t:TA}
theorem qar_ {pins:List (Addr × Obj)}{σ:St}{H:Hp}{s:Shared}{Q:VK}{us:List Value}{vs:List V} (F:FnOk X.prog X.w X.K X.mg X.base CX k f fd ps sp) (hr:Room k X.A) (hb:Binds X.K fd ps ds) (hd:Vals dvs ds) (hx:zk_ CX X E)
  (I:Inv X pins σ H s) (r:Vals vs us) (h:sp (vs ++ dvs) H Q E):wpAny (model X.prog X.w) X.A (call (.ref f) us) (EP X pins σ Q) X.xe s:=by
 have r2:Vals (vs ++ dvs) (us ++ ds):=r.append hd
 have hl:(us ++ ds).length = ps.length:=by rw [<- r2.length];exact F.len _ _ _ _ h
 refine wpAny_call (codeAny_mono (F.run X.A X.stack s H ⟨us,[]⟩ (us ++ ds) (vs ++ dvs) Q E hr I.env0 (hb s us I.kIn hl) r2 h) fun r s' hq=>?_)
 cases r with
 | error e=>exact hx pins σ H s e s' I hq
 | ok fl =>
  cases fl with
  | ret u=>exact I.after hq
  | next=>exact False.elim hq
  | brk=>exact False.elim hq
  | cont=>exact False.elim hq
theorem qx_ (F:FnOk X.prog X.w X.K X.mg X.base CX k f fd ps sp) (hr:Room k X.A) (hg:Gl X x) (hm:X.mg x = some (.ref f)) (hk:PySem.W.keepIn X.K (.ref f) = true) (hb:Binds X.K fd ps ds) (hd:Vals dvs ds) (hx:zk_ CX X E)
  (ha:PA X (e :: es) t) (hdb:(x == ("__debug__" : Str)) = false:=by decide) (he:starEach (e :: es) X.env = (false,eval e X.env) :: starEach es X.env:=by rfl) (hpl:(backTo pos (starEach es X.env)).any (·.1) = false:=by rfl) :
  PE X (.Call (.Name x p) (e :: es) [] pos) (qk8_ sp dvs E t):=by
 intro pins s σ H Q I h
 refine wpAny_Call_Name_kw (ur_ I hg hm ?_ hdb)
 refine PySem.W.callWith_K (h₀:=X.base) I.ok.mod.kin hk (thn (ha pos pins s σ H _ I h) fun us s1 ⟨vs,H1,I1,r,q⟩=>⟨I1.kIn,?_⟩) he hpl
 exact qar_ F hr hb hd hx I1 r q
theorem qF_ {pl:Sem Bool} (he:PE X o ta) (c:Cls X.K C) (hm:Meth X.K C m f) (F:FnOk X.prog X.w X.K X.mg X.base CX k f fd ps sp) (hr:Room k X.A) (hb:Binds X.K fd ps ds) (hd:Vals dvs ds) (hx:zk_ CX X E) (ha:PA X (e :: es) t)
  (hst:starEach (e :: es) X.env = (false,eval e X.env) :: starEach es X.env:=by rfl) (hpl:(backTo pos (starEach es X.env)).any (·.1) = false:=by rfl)
  (ht:eval (.Call (.Attribute o m apos) (e :: es) [] pos) X.env = (do
   let ov ← eval o X.env
   standAt apos.atName
   let (f,first) ← holding [ov] (getMethod ov m pl)
   callWith pos f first (backTo pos (starEach (e :: es) X.env)) (backToKw pos (keywordEach [] X.env))):=by rfl) :
  PE X (.Call (.Attribute o m apos) (e :: es) [] pos) (qhy_ C m sp dvs E ta t):=by
 intro pins s σ H Q I h
 refine PySem.W.methodCall_KW (pl:=pl) (thn (he pins s σ H _ I h) fun u s1 ⟨x,H1,I1,rx,a,dx,fs,ex,ea,l,q⟩=>?_) ht
 subst ex
 obtain rfl:u = Value.ref a:=rx
 refine v6_ I1 ea c hm l ?_
 refine PySem.W.callWith_K (first:=[.ref a]) (h₀:=X.base) I.ok.mod.kin hm.kp (thn (ha pos pins s1 σ H1 _ I1 q) fun us s2 ⟨vs,H2,I2,r,q2⟩=>⟨I2.kIn,?_⟩) hst hpl
 exact qar_ (us:=.ref a :: us) (vs:=.ref a :: vs) F hr hb hd hx I2 (.cons rfl r) q2
theorem zL_ {pl:Sem Bool} (he:PE X o ta) (c:Cls X.K C) (hm:Meth X.K C m f) (F:FnOk X.prog X.w X.K X.mg X.base CX k f fd ps sp) (hr:Room k X.A) (hb:Binds X.K fd ps ds) (hd:Vals dvs ds) (hx:zk_ CX X E)
  (ht:eval (.Call (.Attribute o m apos) [] [] pos) X.env = (do
   let ov ← eval o X.env
   standAt apos.atName
   let (f,first) ← holding [ov] (getMethod ov m pl)
   callWith pos f first (backTo pos (starEach [] X.env)) (backToKw pos (keywordEach [] X.env))):=by rfl) :
  PE X (.Call (.Attribute o m apos) [] [] pos) (qhy_ C m sp dvs E ta tNil):=by
 intro pins s σ H Q I h
 refine PySem.W.methodCall_KW (pl:=pl) (thn (he pins s σ H _ I h) fun u s1 ⟨x,H1,I1,rx,a,dx,fs,ex,ea,l,q⟩=>?_) ht
 subst ex
 obtain rfl:u = Value.ref a:=rx
 refine v6_ I1 ea c hm l ?_
 exact PySem.W.callWith_K0 (first:=[.ref a]) I1.kIn hm.kp (qar_ (us:=[.ref a]) (vs:=[.ref a]) F hr hb hd hx I1 (.cons rfl .nil) q)
structure Mk (K:PySem.W.Frag) (C f:Addr):Prop where
 makes:PySem.W.makesIn K C = true
 init:PySem.W.findIn K (.ref C) "__init__" = some (some (.ref f))
 fn:PySem.W.isFn K (.ref f) = true
 kp:PySem.W.keepIn K (.ref C) = true
theorem qgb_ {pins:List (Addr × Obj)}{σ:St}{H:Hp}{s:Shared}{Q:VK}{us:List Value}{vs:List V} (M:Mk X.K C f) (F:FnOk X.prog X.w X.K X.mg X.base CX k f fd ps sp) (hr:Room (k + 1) X.A) (hb:Binds X.K fd ps ds) (hd:Vals dvs ds)
  (hx:zk_ CX X E) (I:Inv X pins σ H s) (r:Vals vs us)
  (h:∀ x dx,H x = none->H dx = none->dx ≠ x->sp (.ref x :: (vs ++ dvs)) (upd (upd H dx (.own x)) x (.ins C dx [])) (fun v H2=>v = .non/\Q (.ref x) H2) E) :
  wpAny (model X.prog X.w) X.A (call (.ref C) us) (EP X pins σ Q) X.xe s:=by
 have hq:=h (s.heap.objs.size + 1) s.heap.objs.size (I.hok.fresh (Nat.le_succ _)) (I.hok.fresh (Nat.le_refl _)) (Nat.ne_of_lt (Nat.lt_succ_self _))
 have I2:=Inv.made (C:=C) I
 have r2:Vals (V.ref (s.heap.objs.size + 1) :: (vs ++ dvs)) (Value.ref (s.heap.objs.size + 1) :: (us ++ ds)):=.cons rfl (r.append hd)
 have hl:(Value.ref (s.heap.objs.size + 1) :: us ++ ds).length = ps.length:=by
  have e:=r2.length
  rw [F.len _ _ _ _ hq] at e
  exact e.symm
 refine wpAny_call (qga_ (f:=f) I.kIn M.makes M.init (beq_iff_eq.mp M.fn) (codeAny_mono (F.run _ X.stack _ _ ⟨Value.ref (s.heap.objs.size + 1) :: us,[]⟩ (Value.ref (s.heap.objs.size + 1) :: (us ++ ds)) _ _ E (hr.make C us [])
  (I2.env0.make C us []) (hb _ (Value.ref (s.heap.objs.size + 1) :: us) I2.kIn hl) r2 hq) fun r s' hq'=>?_))
 cases r with
 | error e=>exact hx pins σ _ _ e s' I2 hq'
 | ok fl =>
  cases fl with
  | ret u =>
   obtain ⟨v,H',I3,rv,ev,q3⟩:=I2.after hq'
   subst ev
   exact ⟨rv,⟨V.ref (s.heap.objs.size + 1),H',I3,rfl,q3⟩⟩
  | next=>exact False.elim hq'
  | brk=>exact False.elim hq'
  | cont=>exact False.elim hq'
theorem vn_ (M:Mk X.K C f) (F:FnOk X.prog X.w X.K X.mg X.base CX k f fd ps sp) (hr:Room (k + 1) X.A) (hg:Gl X x) (hm:X.mg x = some (.ref C)) (hb:Binds X.K fd ps ds) (hd:Vals dvs ds) (hx:zk_ CX X E)
  (ha:PA X (e :: es) t) (hdb:(x == ("__debug__" : Str)) = false:=by decide) (he:starEach (e :: es) X.env = (false,eval e X.env) :: starEach es X.env:=by rfl) (hpl:(backTo pos (starEach es X.env)).any (·.1) = false:=by rfl) :
  PE X (.Call (.Name x p) (e :: es) [] pos) (qk9_ C sp dvs E t):=by
 intro pins s σ H Q I h
 refine wpAny_Call_Name_kw (ur_ I hg hm ?_ hdb)
 refine PySem.W.callWith_K (h₀:=X.base) I.ok.mod.kin M.kp (thn (ha pos pins s σ H _ I h) fun us s1 ⟨vs,H1,I1,r,q⟩=>⟨I1.kIn,?_⟩) he hpl
 exact qgb_ M F hr hb hd hx I1 r q
end
def PK (X:Cx) (kws:List Keyword) (t:TA):Prop :=
 ∀ (pos:Pos) (pins:List (Addr × Obj)) (s:Shared) (σ:St) (H:Hp) (Q:List V->Hp->Prop),Inv X pins σ H s->t σ H Q->wpAny (model X.prog X.w) X.A (evalAll ((backToKw pos (keywordEach kws X.env)).map (·.2))) (AP X pins σ Q) X.xe s
section
variable {X:Cx}{CX:CXT}{k:Nat}{f C:Addr}{fd:FuncData}{ps ks:List Str}{sp:Sp}{E:XK}{x m:Str}{p pos apos kpos:Pos}{e o:Expr}{es:List Expr}{kws:List Keyword}{te ta:TE}{t tk:TA}{nm:Option Str}
structure KBinds (K:PySem.W.Frag) (fd:FuncData) (ps ks:List Str) (g:List Value->List Value->List Value) (gV:List V->List V->List V):Prop where
 to:∀ (s:Shared) (us ws:List Value),K.In s.heap->(g us ws).length = ps.length->BindsTo s fd ⟨us,ks.zip ws⟩ (ps.zip (g us ws))
 rel:∀ {vs:List V}{us:List Value}{zs:List V}{ws:List Value},Vals vs us->Vals zs ws->Vals (gV vs zs) (g us ws)
def qlt_ (sp:Sp) (gV:List V->List V->List V) (E:XK) (t tk:TA):TE:=fun σ H Q=>t σ H fun vs H1=>tk σ H1 fun zs H2=>sp (gV vs zs) H2 Q E
variable {g:List Value->List Value->List Value}{gV:List V->List V->List V}
end
structure FnScope (N P:List Str) (sc:Scope):Prop where
 kind:sc.kind = .function
 co:sc.isCoroutine = false
 gen:sc.isGenerator = false
 nd:N.Nodup
 pre:N.take P.length = P
 par:∀ x ∈ P,sc.names.lookup x = some .local\/sc.names.lookup x = some .cell
 nofree:∀ y ∈ sc.names,y.2 ≠ .free
theorem uK_ {kindOf:Str->Option NameKind}{x:Str}:∀ {binds:List (Str × Value)}{m:Str->Option Value},(∀ v,(x,v) ∉ binds)->bindL kindOf binds m x = m x
 | [],_,_=>rfl
 | (n,v) :: r,m,h=>by
  unfold bindL
  rw [uK_ fun w hw=>h w (List.mem_cons_of_mem _ hw)]
  split
  ·have:x ≠ n:=by rintro rfl;exact h v List.mem_cons_self
   simp [this]
  ·rfl
theorem uL_ {kindOf:Str->Option NameKind}{x:Str}:∀ {binds:List (Str × Value)}{m:Str->Option Value},(∀ v,(x,v) ∉ binds)->bindC kindOf binds m x = m x
 | [],_,_=>rfl
 | (n,v) :: r,m,h=>by
  unfold bindC
  rw [uL_ fun w hw=>h w (List.mem_cons_of_mem _ hw)]
  split
  ·rfl
  ·have:x ≠ n:=by rintro rfl;exact h v List.mem_cons_self
   simp [this]
theorem uM_ {kindOf:Str->Option NameKind}{x:Str}{v:Value}:∀ {P:List Str}{vs:List Value}{i:Nat}{m:Str->Option Value},P.Nodup->P[i]? = some x->vs[i]? = some v->kindOf x = some .local →
  bindL kindOf (P.zip vs) m x = some v
 | [],_,_,_,_,h,_,_=>by simp at h
 | _ :: _,[],_,_,_,_,h,_=>by simp at h
 | p :: P,w :: vs,0,m,nd,h1,h2,hk=>by
  simp at h1 h2;subst h1;subst h2
  show bindL kindOf ((p,w) :: P.zip vs) m p = _
  unfold bindL
  rw [uK_ fun v hv=>(List.nodup_cons.mp nd).1 (List.of_mem_zip hv).1,if_pos hk]
  simp
 | p :: P,w :: vs,i + 1,m,nd,h1,h2,hk=>by
  show bindL kindOf ((p,w) :: P.zip vs) m x = _
  unfold bindL
  exact uM_ (i:=i) (List.nodup_cons.mp nd).2 (by simpa using h1) (by simpa using h2) hk
theorem uN_ {kindOf:Str->Option NameKind}{x:Str}{v:Value}:∀ {P:List Str}{vs:List Value}{i:Nat}{m:Str->Option Value},P.Nodup->P[i]? = some x->vs[i]? = some v->kindOf x ≠ some .local →
  bindC kindOf (P.zip vs) m x = some v
 | [],_,_,_,_,h,_,_=>by simp at h
 | _ :: _,[],_,_,_,_,h,_=>by simp at h
 | p :: P,w :: vs,0,m,nd,h1,h2,hk=>by
  simp at h1 h2;subst h1;subst h2
  show bindC kindOf ((p,w) :: P.zip vs) m p = _
  unfold bindC
  rw [uL_ fun v hv=>(List.nodup_cons.mp nd).1 (List.of_mem_zip hv).1,if_neg hk]
  simp
 | p :: P,w :: vs,i + 1,m,nd,h1,h2,hk=>by
  show bindC kindOf ((p,w) :: P.zip vs) m x = _
  unfold bindC
  exact uN_ (i:=i) (List.nodup_cons.mp nd).2 (by simpa using h1) (by simpa using h2) hk
def start (N:List Str) (vs:List V):St:=vs.map some ++ List.replicate (N.length - vs.length) none
def cxOf (CX:CXT) (P:Program) (w:World) (K:PySem.W.Frag) (mg:Str->Option Value) (base:Heap) (N:List Str) (qual:Str) (scope:Scope) (f:Addr) (cd:Value) (A:Around) (outer:List Env) (s:Shared) (H:Hp) (E:XK):Cx where
 prog:=P
 w:=w
 K:=K
 mg:=mg
 base:=base
 A:=A.deeper (envOfC qual scope s.heap.objs.size f cd)
 N:=N
 s₀:=s
 H₀:=H
 env:=envOfC qual scope s.heap.objs.size f cd
 outer:=outer
 stack:=envOfC qual scope s.heap.objs.size f cd :: outer
 ex:=[]
 calm:=true
 fn:=fun _=>true
 pn:=[]
 xe:=fun e s'=>wpAny (model P w) (A.deeper (envOfC qual scope s.heap.objs.size f cd)) (leaving (envOfC qual scope s.heap.objs.size f cd) e) (fun _ s''=>CX outer H s E e s'') (fun e' s''=>CX outer H s E e' s'') s'
theorem qas_ {sc:Scope}{n:Nat}{x:Str} (h:sc.names.lookup x = some .cell):∃ c,(cellsFrom n sc.names []).lookup x = some c:=by
 have q:=PySem.W.cellsFrom_some sc.names n [] (.inl h)
 exact Option.isSome_iff_exists.mp q
theorem uO_ {CX:CXT}{P:Program}{w:World}{K:PySem.W.Frag}{mg:Str->Option Value}{base:Heap}{N ps:List Str}{qual:Str}{scope:Scope}{f:Addr}{cd:Value}{A:Around}{outer:List Env}{s s1:Shared}{H:Hp}{E:XK}{us:List Value}{vs:List V}
  (S:FnScope N ps scope) (hd:A.handled = none) (e0:Env0 P w K mg base A outer s H) (hl:vs.length = ps.length) (r:Vals vs us)
  (x:InCallC s s.heap.objs.size (bindL (envOfC qual scope s.heap.objs.size f cd).kindOf (ps.zip us) fun _=>none) (cellsFrom (s.heap.objs.size + 1) scope.names []) (bindC (envOfC qual scope s.heap.objs.size f cd).kindOf (ps.zip us) fun _=>none) s1) :
  Inv (cxOf CX P w K mg base N qual scope f cd A outer s H E) [] (start N vs) H s1:=by
 have hpl:ps.length<=N.length:=by have:=congrArg List.length S.pre;rw [List.length_take] at this;omega
 obtain ⟨h1,tk,rfl,hk⟩:=x.done
 have noA:∀ b:Addr,b ∉ (cxOf CX P w K mg base N qual scope f cd A outer s H E).ex:=fun b z=>absurd (show b ∈ ([]:List Addr) from z) (by simp)
 refine ⟨⟨e0.mod,S.kind,rfl,rfl,Nat.le_refl _,fun y z c h1 h2=>?_,fun y hy=>?_,fun y c _ h=>?_,fun _=>hd,Around.frames_deeper e0.frames,.inr ⟨rfl,rfl⟩,fun b z=>absurd z (noA b),e0.bs,e0.bsz,fun b _ _=>noA b,fun b z=>absurd z (noA b),e0.funs,e0.frf⟩,
  rfl,e0.bare,Un.kept hk,⟨_,x.toInCall.ns,fun i y v h1 h2 h3=>?_⟩,fun y c h=>⟨_,x.cell y c h⟩,e0.hok.fresh (Nat.le_refl _),fun y c h=>?_,fun p hp=>absurd (show p ∈ ([]:List (Addr × Obj)) from hp) (by simp),e0.hok.kept hk,?_⟩
 ·exact name_of_addr x.apart (PySem.mem_of_lookup h1) (PySem.mem_of_lookup h2)
 ·have hy:scope.names.lookup y = some .cell\/scope.names.lookup y = some .free:=hy
  rcases hy with hy | hy
  ·exact qas_ hy
  ·exact absurd rfl (S.nofree _ (PySem.mem_of_lookup hy))
 ·exact Nat.le_of_lt (x.above y c (PySem.mem_of_lookup h))
 ·have hi:i < vs.length:=by
   unfold start at h2
   by_cases hi:i < vs.length
   ·exact hi
   ·rw [List.getElem?_append_right (by simpa using hi)] at h2
    rw [List.getElem?_replicate] at h2
    split at h2 <;> cases h2
  have ha:vs[i]? = some v:=by
   unfold start at h2
   rw [List.getElem?_append_left (by simpa using hi),List.getElem?_map] at h2
   cases e:vs[i]? with
   | none=>rw [e] at h2;cases h2
   | some a=>rw [e] at h2;cases h2;rfl
  obtain ⟨u,hu,rv⟩:=r.get ha
  have hp:ps[i]? = some y:=by
   rw [<- S.pre,List.getElem?_take_of_lt (by omega)];exact h1
  have ndP:ps.Nodup:=by rw [<- S.pre];exact S.nd.sublist (List.take_sublist _ _)
  refine ⟨u,rv,?_⟩
  rcases S.par y (List.mem_of_getElem? hp) with k | k
  ·exact .inl ⟨k,uM_ ndP hp hu k⟩
  ·obtain ⟨c,e⟩:=qas_ (n:=s.heap.objs.size + 1) k
   refine .inr ⟨.inl k,c,e,?_⟩
   have q:=x.cell y c e
   rw [uN_ ndP hp hu (by show scope.names.lookup y ≠ _;rw [k];decide)] at q
   exact q
 ·exact e0.hok.fresh (Nat.le_of_lt (x.above y c (PySem.mem_of_lookup h)))
 ·unfold start
  show _ = N.length
  rw [List.length_append,List.length_map,List.length_replicate]
  omega
theorem qhz_ {CX:CXT}{P:Program}{w:World}{K:PySem.W.Frag}{mg:Str->Option Value}{base:Heap}{k:Nat}{f:Addr}{name qual:Str}{params:Arguments}{body:List Stmt}{scope:Scope}{dV kV doc pm cdv ct oc:Value}{an od:Option Addr}
  {osl:Array (Option Value)}{N ps:List Str}{sp:Sp} (lk:K.lookup f = some ⟨oc,od,.func (PySem.W.fnOf name qual params body scope dV kV doc pm an cdv ct),osl⟩) (hcd:PySem.W.codeIn K cdv qual = true) (S:FnScope N ps scope)
  (len:∀ vs H Q E,sp vs H Q E->vs.length = ps.length)
  (hbody:∀ (A:Around) (outer:List Env) (s:Shared) (H:Hp) (vs:List V) (Q:VK) (E:XK),Room k (A.deeper (envOfC qual scope s.heap.objs.size f cdv))->sp vs H Q E →
   ∃ t,PSs (cxOf CX P w K mg base N qual scope f cdv A outer s H E) body t/\t { nx:=fun _ H'=>Q .non H',rt:=Q } (start N vs) H) :
  FnOk P w K mg base CX (k + 1) f (PySem.W.fnOf name qual params body scope dV kV doc pm an cdv ct) ps sp:=by
 refine ⟨len,fun A outer s H args us vs Q E hr e0 hb r hsp=>?_⟩
 have hl:=len _ _ _ _ hsp
 have KX:K.In s.heap:=e0.mod.kin.keeps fun b o e=>(e0.bs b o e).1
 have lim:s.heap.NoLimit:=e0.mod.nolimit.keeps fun b o e=>(e0.bs b o e).1
 have hkind:∀ y ∈ ps.zip us,scope.names.lookup y.1 = some .local\/(scope.names.lookup y.1 = some .cell/\((cellsFrom (s.heap.objs.size + 1) scope.names []).lookup y.1).isSome = true):=fun ⟨n,v⟩ hy=>by
  rcases S.par n (List.of_mem_zip hy).1 with q | q
  ·exact .inl q
  ·exact .inr ⟨q,PySem.W.cellsFrom_some _ _ _ (.inl q)⟩
 refine codeAny_call_function hr.depth (KX _ _ lk) rfl S.co S.gen rfl (PySem.W.codeRec_of KX hcd) (hb _ _ _ _ ?_)
 refine wpAny_newFunctionEnv_cells S.kind hkind fun env he s1 x=>?_
 subst he
 refine ⟨lim.keeps x.toInCall.keep,codeAny_func ?_⟩
 obtain ⟨t,ht,hq⟩:=hbody A outer s H vs Q E (hr.deeper _) hsp
 have I:Inv (cxOf CX P w K mg base N qual scope f cdv A outer s H E) [] (start N vs) H s1:=uO_ S hr.hd e0 hl r x
 refine wpAny_mono (ht [] s1 (start N vs) H _ I hq) (fun fl s' hs=>?_) fun e s' hs=>hs
 have fin:∀ {σ':St}{H':Hp}{v:V}{u:Value},Inv (cxOf CX P w K mg base N qual scope f cdv A outer s H E) [] σ' H' s'->RelV v u->Q v H'->CE outer P w H s Q u s' :=
  fun {σ' H' v u} J rv q=>⟨v,H',J.os,J.bare,J.base,J.hok,rv,q⟩
 cases fl with
 | ret u =>
  obtain ⟨v,σ',H',J,rv,q⟩:=hs
  exact fin J rv q
 | next =>
  obtain ⟨σ',H',J,q⟩:=hs
  exact fin (v:=V.non) (u:=Value.none) J rfl q
 | brk =>
  obtain ⟨_,_,_,q⟩:=hs
  exact False.elim q
 | cont =>
  obtain ⟨_,_,_,q⟩:=hs
  exact False.elim q
end L2
namespace L2
open PySem PySem.Spec PyProof.Rows
section
variable {X:Cx}{x:Str}{p pos:Pos}{e:Expr}{es:List Expr}{t:TA}{id T:String}{r:List V->Hp->VK->Prop}
def tCB (r:List V->Hp->VK->Prop) (t:TA):TE:=fun σ H Q=>t σ H fun vs H1=>r vs H1 Q
theorem qy_ (hc:yE_ X (.builtin id) r) (hg:Gl X x) (hm:X.mg x = none) (hv:bootBuiltins x = some (.builtin id)) (ha:PA X (e :: es) t) (hn:x ≠ "__name__":=by decide) (hdb:(x == ("__debug__" : Str)) = false:=by decide)
  (he:starEach (e :: es) X.env = (false,eval e X.env) :: starEach es X.env:=by rfl) (hpl:(backTo pos (starEach es X.env)).any (·.1) = false:=by rfl):PE X (.Call (.Name x p) (e :: es) [] pos) (tCB r t):=by
 intro pins s σ H Q I h
 refine wpAny_Call_Name_kw (yz_ I hg hm hv ?_ hn hdb)
 exact PyProof.Rows.callWith_builtin1 (thn (ha pos pins s σ H _ I h) fun us s1 ⟨vs,H1,I1,r1,q1⟩=>hc pins s1 σ H1 vs us Q I1 r1 q1) he hpl
theorem yj_ (hc:yE_ X (.type T) r) (hg:Gl X x) (hm:X.mg x = none) (hv:bootBuiltins x = some (.type T)) (ha:PA X (e :: es) t) (hn:x ≠ "__name__":=by decide) (hdb:(x == ("__debug__" : Str)) = false:=by decide)
  (he:starEach (e :: es) X.env = (false,eval e X.env) :: starEach es X.env:=by rfl) (hpl:(backTo pos (starEach es X.env)).any (·.1) = false:=by rfl):PE X (.Call (.Name x p) (e :: es) [] pos) (tCB r t):=by
 intro pins s σ H Q I h
 refine wpAny_Call_Name_kw (yz_ I hg hm hv ?_ hn hdb)
 exact PyProof.Rows.callWith_type1 (thn (ha pos pins s σ H _ I h) fun us s1 ⟨vs,H1,I1,r1,q1⟩=>hc pins s1 σ H1 vs us Q I1 r1 q1) he hpl
end
end L2
namespace HT
open PySem PyProof.Rows
def lexLt:List Int->List Int->Bool
 | [],[]=>false
 | [],_ :: _=>true
 | _ :: _,[]=>false
 | x :: xs,y :: ys=>if x = y then lexLt xs ys else decide (x < y)
section
open PySem.SeqAt
open PySem.AutoSeq1 (wpAny_loadPart')
open PySem.MeetsSeq PySem.MeetsSeq2 PySem.MeetsSeq3
end
section
variable {prog:Program}{w:World}{A:Around}{E:Value->Shared->Prop}{s:Shared}
def sIx (n d:Nat):Option Int->Nat
 | none=>d
 | some v=>if v < 0 then (v + (n:Int)).toNat else min v.toNat n
theorem sIx_none (n d:Nat):sIx n d none = d:=rfl
theorem sIx_nat (n d k:Nat):sIx n d (some (k:Int)) = min k n:=by
 show (if (k:Int) < 0 then ((k:Int) + (n:Int)).toNat else min (k:Int).toNat n) = min k n
 rw [if_neg (by omega),Int.toNat_natCast]
end
end HT
namespace L2
open PySem PySem.Spec PyProof.Rows
abbrev TO:=St->Hp->(Option Int->Hp->Prop)->Prop
def PO (X:Cx) (e:Option Expr) (t:TO):Prop :=
 ∀ (pins:List (Addr × Obj)) (s:Shared) (σ:St) (H:Hp) (Q:Option Int->Hp->Prop),Inv X pins σ H s->t σ H Q →
  wpAny (model X.prog X.w) X.A (evalPart e X.env) (fun u s'=>∃ o H',Inv X pins σ H' s'/\IsPart u o/\Q o H') X.xe s
def qh7_:TO:=fun _ H Q=>Q none H
def qla_ (t:TE):TO:=fun σ H Q=>t σ H fun x H1=>∃ i,x = .int i/\Q (some i) H1
section
variable {X:Cx}{e:Expr}{te:TE}{lo hi:Option Expr}{tl th:TO}{pos p2:Pos}
theorem qcj_:PO X none qh7_:=by
 intro pins s σ H Q I h
 rw [evalPart_none]
 exact wpAny_pure ⟨none,H,I,.none,h⟩
theorem qck_ (h:PE X e te):PO X (some e) (qla_ te):=by
 intro pins s σ H Q I hw
 rw [evalPart_some]
 refine thn (h pins s σ H _ I hw) fun u s1 ⟨x,H1,I1,r1,q1⟩=>?_
 obtain ⟨i,rfl,q⟩:=q1
 obtain ⟨t,rfl⟩:=r1
 exact ⟨some i,H1,I1,.int i t,q⟩
def SlR (X:Cx) (r:V->Option Int->Option Int->Hp->VK->Prop):Prop :=
 ∀ (pins:List (Addr × Obj)) (s:Shared) (σ:St) (H:Hp) (x:V) (v vl vu:Value) (lo hi:Option Int) (sl:Addr) (Q:VK),Inv X pins σ H s->RelV x v->s.heap.IsSliceOf sl vl vu .none->IsPart vl lo->IsPart vu hi->r x lo hi H Q →
  ∃ T id,typeLookup (.type T) "__getitem__" = pure (some (.builtin id)) ∧ s.TypeIs v T ∧ wpAny (model X.prog X.w) X.A (getItem v (.ref sl)) (EP X pins σ Q) X.xe s
def tSl (r:V->Option Int->Option Int->Hp->VK->Prop) (te:TE) (tl th:TO):TE:=fun σ H Q=>te σ H fun x H1=>tl σ H1 fun l H2=>th σ H2 fun u H3=>r x l u H3 Q
theorem qat_ {r:V->Option Int->Option Int->Hp->VK->Prop} (hr:SlR X r) (he:PE X e te) (hl:PO X lo tl) (hu:PO X hi th):PE X (.Subscript e (.Slice lo hi none p2) pos) (tSl r te tl th):=by
 intro pins s σ H Q I h
 refine Subscript_ (thn (he pins s σ H _ I h) fun v s1 ⟨x,H1,I1,r1,q1⟩=>?_)
 refine wpAny_Slice (thn (hl pins s1 σ H1 _ I1 q1) fun vl s2 ⟨l,H2,I2,pl,q2⟩=>thn (hu pins s2 σ H2 _ I2 q2) fun vu s3 ⟨u,H3,I3,pu,q3⟩=>?_)
 rw [evalPart_none]
 refine wpAny_pure ?_
 have I4:Inv X pins σ H3 { s3 with heap:=s3.heap.push { cls:=.type "slice",data:=.fields #[vl,vu,.none] } }:=I3.kept (t':=s3.toks) fun b ob q=>Heap.get?_push_of_some _ q
 obtain ⟨T,id,hT,ht,hg⟩:=hr pins { s3 with heap:=s3.heap.push { cls:=.type "slice",data:=.fields #[vl,vu,.none] } } σ H3 x v vl vu l u s3.heap.objs.size Q I4 r1 (Heap.IsSliceOf.new ..) pl pu q3
 show wpAny (model X.prog X.w) X.A (subscriptTail e (.Slice lo hi none p2) v (.ref s3.heap.objs.size)) (EP X pins σ Q) X.xe { s3 with heap:=s3.heap.push { cls:=.type "slice",data:=.fields #[vl,vu,.none] } }
 exact tail_any (ops:=[.ref s3.heap.objs.size,v]) ht hT hg (by with_unfolding_all rfl)
def cutV (xs:List V) (lo hi:Option Int):List V:=(xs.drop (HT.sIx xs.length 0 lo)).take (HT.sIx xs.length xs.length hi - HT.sIx xs.length 0 lo)
theorem qbx_ (xs:List V) (lo hi:Option Int):(cutV xs lo hi).length<=xs.length:=by
 unfold cutV
 rw [List.length_take,List.length_drop]
 omega
def rSlT (K:PySem.W.Frag):V->Option Int->Option Int->Hp->VK->Prop:=fun x lo hi H Q=>∃ a xs,x = .ref a/\SqT K H a xs ∧
 ¬ (HT.sIx xs.length 0 lo = 0/\HT.sIx xs.length xs.length hi = xs.length)/\∀ p,H p = none->Q (.ref p) (upd H p (.tup (cutV xs lo hi)))
def rLtT (K:PySem.W.Frag):R2:=fun x y H Q=>∃ a b ns ms,x = .ref a/\y = .ref b/\SqT K H a (ns.map V.int)/\SqT K H b (ms.map V.int)/\Q (.bl (HT.lexLt ns ms)) H
def qme_ (K:PySem.W.Frag):R2:=fun x y H Q=>∃ a b xs ys,x = .ref a/\y = .ref b/\SqT K H a xs/\SqT K H b ys/\xs ≠ []/\xs.length + ys.length<=sizeLine ∧
 (ys = []->Q (.ref a) H)/\(ys ≠ []->∀ p,H p = none->Q (.ref p) (upd H p (.tup (xs ++ ys))))
end
end L2
namespace L2
open PySem PySem.Spec PyProof.Rows
def ixN (n:Nat) (i:Int):Option Nat:=if 0<=i then (if i < n then some i.toNat else none) else if -(n:Int)<=i then some (i + n).toNat else none
def atI {α:Type} (xs:List α) (i:Int):Option α:=(ixN xs.length i).bind fun j=>xs[j]?
theorem qcl_ {n:Nat}{i:Int}{j:Nat} (h:ixN n i = some j):seqIndex? i n = some j/\j < n/\-(n:Int)<=i/\i < n:=by
 unfold ixN at h
 by_cases h0:0<=i
 ·rw [if_pos h0] at h
  by_cases h1:i < n
  ·rw [if_pos h1] at h
   have e:i.toNat = j:=Option.some.inj h
   exact ⟨by rw [seqIndex_of h0 h1,e],by omega,by omega,h1⟩
  ·rw [if_neg h1] at h;cases h
 ·rw [if_neg h0] at h
  by_cases h1:-(n:Int)<=i
  ·rw [if_pos h1] at h
   have e:(i + n).toNat = j:=Option.some.inj h
   exact ⟨by rw [seqIndex_neg (by omega) h1,e],by omega,h1,by omega⟩
  ·rw [if_neg h1] at h;cases h
theorem qcm_ {α:Type}{xs:List α}{i:Int}{v:α} (h:atI xs i = some v):∃ j,seqIndex? i xs.length = some j/\xs[j]? = some v/\j < xs.length/\-(xs.length:Int)<=i/\i < xs.length:=by
 unfold atI at h
 cases e:ixN xs.length i with
 | none=>rw [e] at h;cases h
 | some j =>
  rw [e] at h
  obtain ⟨h1,h2,h3,h4⟩:=qcl_ e
  exact ⟨j,h1,h,h2,h3,h4⟩
theorem qr_ {α:Type}{xs:List α}{j:Nat}{v:α} (h:xs[j]? = some v):atI xs (j:Int) = some v:=by
 have hj:j < xs.length:=(List.getElem?_eq_some_iff.mp h).1
 have e:ixN xs.length (j:Int) = some j:=by
  unfold ixN
  rw [if_pos (by omega),if_pos (by omega)];simp
 unfold atI;rw [e];exact h
def qh8_ (b:Expr):Prop:=∀ o i,subscripted b false o i = operate [o,i] (getItem o i)
def IxR (X:Cx) (r:R2):Prop :=
 ∀ (value slice:Expr) (pins:List (Addr × Obj)) (s:Shared) (σ:St) (H:Hp) (x y:V) (v u:Value) (Q:VK),Inv X pins σ H s->RelV x v->RelV y u->r x y H Q →
  subscripted slice false v u = operate [v,u] (getItem v u)->wpAny (model X.prog X.w) X.A (subscriptTail value slice v u) (EP X pins σ Q) X.xe s
def MtR (X:Cx) (id:String) (r:V->List V->Hp->VK->Prop):Prop :=
 ∀ (pins:List (Addr × Obj)) (s:Shared) (σ:St) (H:Hp) (x:V) (xs:List V) (v:Value) (us:List Value) (Q:VK),Inv X pins σ H s->RelV x v->Vals xs us->r x xs H Q →
  wpAny (model X.prog X.w) X.A (call (.builtin id) (v :: us)) (EP X pins σ Q) X.xe s
section
variable {X:Cx}{a b:Expr}{ta tb:TE}{pos:Pos}
theorem qz_ {r:R2} (hr:IxR X r) (ha:PE X a ta) (hb:PE X b tb) (hs:qh8_ b):PE X (.Subscript a b pos) (tOp r ta tb):=by
 intro pins s σ H Q I h
 exact Subscript_ (binT ha hb I h fun v u s2 x y H2 I2 rx ry q=>hr a b pins s2 σ H2 x y v u Q I2 rx ry q (hs _ _))
def rIxL (K:PySem.W.Frag):R2:=fun x y H Q=>∃ p xs i v,x = .ref p/\y = .int i/\SqL K H p xs/\atI xs i = some v/\Q v H
def rIxT (K:PySem.W.Frag):R2:=fun x y H Q=>∃ p xs i v,x = .ref p/\y = .int i/\SqT K H p xs/\atI xs i = some v/\Q v H
def rIxS:R2:=fun x y H Q=>∃ z i c,x = .str z/\y = .int i/\z.length<=sizeLine/\atI z.cps.toList i = some c/\Q (.str ⟨#[c]⟩) H
theorem qB_:IxR X (rIxL X.K):=by
 intro value slice pins s σ H x y v u Q I rx ry h hs
 obtain ⟨p,xs,i,z,rfl,rfl,hq,he,q⟩:=h
 cases rx
 obtain ⟨t,rfl⟩:=ry
 obtain ⟨its,r,pl,hz⟩:=I.list hq
 obtain ⟨j,h1,h2,h3,h4,h5⟩:=qcm_ he
 obtain ⟨w,ew,rw'⟩:=r.get h2
 have hl:=r.length
 have hn:=v4_
 have fin:EP X pins σ Q w s:=⟨z,H,I,rw',q⟩
 by_cases h0:0<=i
 ·have hj:i.toNat = j:=by
   rw [seqIndex_of h0 h5] at h1
   exact Option.some.inj h1
  exact item_listR pl.isList h0 (by omega) (by rw [hj];simpa using ew) fin hs
 ·have hj:(i + (its.toArray.size:Int)).toNat = j:=by
   rw [seqIndex_neg (by omega) h4] at h1
   rw [List.size_toArray,← hl]
   exact Option.some.inj h1
  exact subscriptTail_builtinR (x:=w) pl.isList.typeIs slot_list_getitem.lookup
   (wpAny_getItem_list_neg (Q:=fun r s'=>r = w/\EP X pins σ Q r s') pl.isList (by omega) (by rw [List.size_toArray] <;> omega) (by omega) (by rw [hj];simpa using ew) ⟨rfl,fin⟩) hs
theorem yL_:IxR X (rIxT X.K):=by
 intro value slice pins s σ H x y v u Q I rx ry h hs
 obtain ⟨p,xs,i,z,rfl,rfl,hq,he,q⟩:=h
 cases rx
 obtain ⟨t,rfl⟩:=ry
 obtain ⟨its,r,pl,hz⟩:=I.tuple hq
 obtain ⟨j,h1,h2,h3,h4,h5⟩:=qcm_ he
 obtain ⟨w,ew,rw'⟩:=r.get h2
 have hl:=r.length
 have hn:=v4_
 have fin:EP X pins σ Q w s:=⟨z,H,I,rw',q⟩
 exact subscriptTail_builtinR (x:=w) pl.typeIs slot_tuple_getitem.lookup
  (getItem_tuple (j:=j) (Q:=fun r s'=>r = w/\EP X pins σ Q r s') pl (by omega) (by omega) (by rw [List.size_toArray,← hl];exact h1) (by simpa using ew) ⟨rfl,fin⟩) hs
def rIx (K:PySem.W.Frag):R2:=fun x y H Q=>rIxL K x y H Q\/rIxT K x y H Q\/rIxS x y H Q
theorem qdg_ (its:List Value) (n j:Nat) (u:Value):Obj.mapSeq (·.setIfInBounds j u) { cls:=.type "list",data:=.seq its.toArray n } = { cls:=.type "list",data:=.seq (its.set j u).toArray n }:=by
 simp [Obj.mapSeq]
theorem Inv.lst {pins:List (Addr × Obj)}{σ:St}{H:Hp}{s:Shared}{p:Addr}{xs:List V} (I:Inv X pins σ H s) (h:H p = some (.lst xs)) :
  ∃ (its:List Value) (n:Nat),Vals xs its ∧ s.heap.get? p = some { cls:=.type "list",data:=.seq its.toArray n } ∧ xs.length ≤ sizeLine:=by
 obtain ⟨z,its,n,r,e⟩:=I.hok p _ h
 exact ⟨its,n,r,e,z⟩
theorem Inv.lstUpd {pins:List (Addr × Obj)}{σ:St}{H:Hp}{s:Shared}{p:Addr}{xs ys:List V}{its its':List Value}{n n':Nat}{f:Obj->Obj} (I:Inv X pins σ H s) (h:H p = some (.lst xs))
  (ho:s.heap.get? p = some { cls:=.type "list",data:=.seq its.toArray n }) (hf:f { cls:=.type "list",data:=.seq its.toArray n } = { cls:=.type "list",data:=.seq its'.toArray n' }) (r:Vals ys its') (hz:ys.length ≤ sizeLine) (t:Nat) :
  Inv X pins σ (upd H p (.lst ys)) { s with heap:=s.heap.update p f,toks:=t }:=by
 have e:(s.heap.update p f).get? p = some { cls:=.type "list",data:=.seq its'.toArray n' }:=by
  rw [Heap.get?_update_self f ho (by rw [hf] <;> rfl),hf]
 refine I.write (x:=p) (e:=p) (by rw [h];trivial) (.inl rfl) (fun b u hb q=>(Heap.get?_update_other _ _ (Ne.symm hb)).trans q) ⟨_,e⟩ ?_
 exact ⟨hz,its',n',r,e⟩
def qlb_:V->V->V->Hp->(Hp->Prop)->Prop:=fun o i v H Q=>∃ p xs k j,o = .ref p/\i = .int k/\H p = some (.lst xs)/\ixN xs.length k = some j/\Q (upd H p (.lst (xs.set j v)))
theorem jS_:PSet X qlb_:=by
 intro pins s σ H o i v ov iv u Q I ro ri rv h
 obtain ⟨p,xs,k,j,rfl,rfl,hp,hj,q⟩:=h
 cases ro
 obtain ⟨t,rfl⟩:=ri
 obtain ⟨its,n,r,ho,hz⟩:=I.lst hp
 obtain ⟨h1,h2,h3,h4⟩:=qcl_ hj
 have hl:=r.length
 have hn:=v4_
 have I':Inv X pins σ (upd H p (.lst (xs.set j v))) { s with heap:=s.heap.update p (Obj.mapSeq (·.setIfInBounds j u)) } :=
  I.lstUpd hp ho (qdg_ its n j u) (r.set rv j) (by rw [List.length_set];exact hz) s.toks
 by_cases h0:0<=k
 ·have hk:k.toNat = j:=by
   rw [seqIndex_of h0 h4] at h1
   exact Option.some.inj h1
  exact PySem.W.ki_setAt ho h0 (by omega) (by rw [List.size_toArray,← hl];exact h4) (by rw [hk];exact ⟨_,I',q⟩)
 ·have hk:(k + (its.toArray.size:Int)).toNat = j:=by
   rw [seqIndex_neg (by omega) h3] at h1
   rw [List.size_toArray,← hl]
   exact Option.some.inj h1
  exact PySem.W.ki_setBack ho (by omega) (by rw [List.size_toArray,← hl];exact h3) (by omega) (by rw [hk];exact ⟨_,I',q⟩)
theorem qau_ (lo hi:Option Int) (n:Nat):(sliceBounds lo hi none n).1 = ((HT.sIx n 0 lo:Nat):Int)/\(sliceBounds lo hi none n).2.1 = ((HT.sIx n n hi:Nat):Int)/\(sliceBounds lo hi none n).2.2 = 1:=by
 refine ⟨?_,?_,rfl⟩
 ·cases lo with
  | none=>simp [sliceBounds,HT.sIx]
  | some i =>
   simp only [sliceBounds,HT.sIx,Option.getD_none,show (1:Int) > 0 by decide,if_true]
   by_cases h:i < 0
   ·simp only [h,if_true] <;> omega
   ·simp only [h,if_false] <;> omega
 ·cases hi with
  | none=>simp [sliceBounds,HT.sIx]
  | some i =>
   simp only [sliceBounds,HT.sIx,Option.getD_none,show (1:Int) > 0 by decide,if_true]
   by_cases h:i < 0
   ·simp only [h,if_true] <;> omega
   ·simp only [h,if_false] <;> omega
theorem u7_ (its:List Value) (lo hi:Option Int):slicePick its.toArray lo hi none = ((its.drop (HT.sIx its.length 0 lo)).take (HT.sIx its.length its.length hi - HT.sIx its.length 0 lo)).toArray:=by
 obtain ⟨h1,h2,h3⟩:=qau_ lo hi its.toArray.size
 unfold slicePick
 rw [h1,h2,h3]
 simp only [sliceRange_one,pick_run,List.size_toArray] <;> rfl
def rSlL (K:PySem.W.Frag):V->Option Int->Option Int->Hp->VK->Prop:=fun x lo hi H Q=>∃ a xs,x = .ref a/\SqL K H a xs/\∀ p,H p = none->Q (.ref p) (upd H p (.lst (cutV xs lo hi)))
theorem qcn_:SlR X (rSlL X.K):=by
 intro pins s σ H x v vl vu lo hi sl Q I rx hs pl pu h
 obtain ⟨a,xs,rfl,hx,q⟩:=h
 cases rx
 obtain ⟨its,r,ht,hz⟩:=I.list hx
 have hlen:=r.length
 refine ⟨"list",_,slot_list_getitem.lookup,ht.isList.typeIs,?_⟩
 refine wpAny_getItem_list_slice ht.isList hs pl pu .none (by simp) ?_ (by rw [List.size_toArray] <;> omega)
 rw [u7_,← hlen]
 refine ⟨.ref s.heap.objs.size,_,I.laid (t':=s.toks) (o:=.lst (cutV xs lo hi)) (fun b ob q=>Heap.get?_push_of_some _ q) (Nat.le_refl _) ?_,rfl,q _ (I.hok.fresh (Nat.le_refl _))⟩
 exact ⟨Nat.le_trans (qbx_ xs lo hi) hz,_,0,(r.drop (HT.sIx xs.length 0 lo)).take (HT.sIx xs.length xs.length hi - HT.sIx xs.length 0 lo),Heap.get?_push_size _ rfl⟩
def yM_:V->Bool
 | .non=>true
 | .bl _=>true
 | .int _=>true
 | .str _=>true
 | _=>false
def eqV:V->V->Bool
 | .non,.non=>true
 | .bl a,.bl b=>a == b
 | .bl a,.int b=>(if a then 1 else 0) == b
 | .int a,.bl b=>a == (if b then 1 else 0)
 | .int a,.int b=>a == b
 | .str a,.str b=>a == b
 | _,_=>false
theorem jz_ {A:Around}{s:Shared}{y x:V}{u v:Value} (ry:RelV y u) (rx:RelV x v) (fy:yM_ y = true) (fx:yM_ x = true):SeqAt.EqAt A s u v (eqV y x):=by
 cases y with
 | non =>
  cases ry
  cases x with
  | non=>cases rx;exact SeqAt.EqAt.same _
  | bl b=>cases rx;exact SeqAt.EqAt.none_bool b
  | int b=>obtain ⟨t,rfl⟩:=rx;exact SeqAt.EqAt.none_int b t
  | str b=>obtain ⟨t,rfl⟩:=rx;exact SeqAt.EqAt.none_str b t
  | _=>exact absurd (show false = true from fx) Bool.false_ne_true
 | bl a =>
  cases ry
  cases x with
  | non=>cases rx;exact SeqAt.EqAt.bool_none a
  | bl b=>cases rx;exact SeqAt.EqAt.bool_bool a b
  | int b=>obtain ⟨t,rfl⟩:=rx;exact SeqAt.EqAt.bool_int a b t
  | str b=>obtain ⟨t,rfl⟩:=rx;exact SeqAt.EqAt.bool_str a b t
  | _=>exact absurd (show false = true from fx) Bool.false_ne_true
 | int a =>
  obtain ⟨t',rfl⟩:=ry
  cases x with
  | non=>cases rx;exact SeqAt.EqAt.int_none a t'
  | bl b=>cases rx;exact SeqAt.EqAt.int_bool a t' b
  | int b=>obtain ⟨t,rfl⟩:=rx;exact SeqAt.EqAt.int_int a t' b t
  | str b=>obtain ⟨t,rfl⟩:=rx;exact SeqAt.EqAt.int_str a t' b t
  | _=>exact absurd (show false = true from fx) Bool.false_ne_true
 | str a =>
  obtain ⟨t',rfl⟩:=ry
  cases x with
  | non=>cases rx;exact SeqAt.EqAt.str_none a t'
  | bl b=>cases rx;exact SeqAt.EqAt.str_bool a t' b
  | int b=>obtain ⟨t,rfl⟩:=rx;exact SeqAt.EqAt.str_int a t' b t
  | str b=>obtain ⟨t,rfl⟩:=rx;exact SeqAt.EqAt.str_str a t' b t
  | _=>exact absurd (show false = true from fx) Bool.false_ne_true
 | _=>exact absurd (show false = true from fy) Bool.false_ne_true
def eqU (x:V) (u:Value):Bool:=match u with
 | .none=>eqV .non x
 | .bool b=>eqV (.bl b) x
 | .int i _=>eqV (.int i) x
 | .str z _=>eqV (.str z) x
 | _=>false
theorem qej_ {x y:V}{u:Value} (r:RelV y u) (f:yM_ y = true):eqU x u = eqV y x:=by
 cases y with
 | non=>cases r;rfl
 | bl b=>cases r;rfl
 | int i=>obtain ⟨t,rfl⟩:=r;rfl
 | str z=>obtain ⟨t,rfl⟩:=r;rfl
 | _=>exact absurd (show false = true from f) Bool.false_ne_true
theorem zD_ {x:V}:∀ {xs:List V}{us:List Value},Vals xs us->xs.all yM_ = true->us.any (eqU x) = xs.any fun y=>eqV y x
 | _,_,.nil,_=>rfl
 | y :: xs,u :: us,.cons r t,f=>by
  rw [List.all_cons,Bool.and_eq_true] at f
  rw [List.any_cons,List.any_cons,qej_ r f.1,zD_ t f.2]
theorem zl_ {A:Around}{s:Shared}{x:V}{v:Value} (rx:RelV x v) (fx:yM_ x = true):∀ {xs:List V}{us:List Value},Vals xs us->xs.all yM_ = true->∀ u ∈ us,SeqAt.EqAt A s u v (eqU x u)
 | _,_,.nil,_=>fun u hu=>by cases hu
 | y :: xs,u :: us,.cons r t,f=>fun u' hu=>by
  rw [List.all_cons,Bool.and_eq_true] at f
  rcases List.mem_cons.mp hu with rfl | hu
  ·rw [qej_ r f.1];exact jz_ r rx f.1 fx
  ·exact zl_ rx fx t f.2 u' hu
def inV (x:V) (xs:List V):Bool:=xs.any fun y=>eqV y x
def rIn (K:PySem.W.Frag) (neg:Bool):R2:=fun x y H Q=>∃ p xs,y = .ref p/\(SqL K H p xs\/SqT K H p xs)/\yM_ x = true/\xs.all yM_ = true/\Q (.bl (if neg then !inV x xs else inV x xs)) H
theorem qek_:OpR X (compareOp .In) (rIn X.K false):=by
 intro pins s σ H x y v u Q I rx ry h
 obtain ⟨p,xs,rfl,hq,fx,fs,q⟩:=h
 cases ry
 rcases hq with hq | hq
 ·obtain ⟨its,r,pl,hz⟩:=I.list hq
  refine SeqAt.in_listAt (eqU x) pl.isList (fun w hw=>zl_ rx fx r fs w (by simpa using hw)) ⟨.bl _,H,I,rfl,?_⟩
  rw [show its.toArray.any (eqU x) = its.any (eqU x) by simp,zD_ r fs]
  exact q
 ·obtain ⟨its,r,pl,hz⟩:=I.tuple hq
  refine SeqAt.in_tupleAt (eqU x) pl (fun w hw=>zl_ rx fx r fs w (by simpa using hw)) ⟨.bl _,H,I,rfl,?_⟩
  rw [show its.toArray.any (eqU x) = its.any (eqU x) by simp,zD_ r fs]
  exact q
theorem z3_:OpR X (compareOp .NotIn) (rIn X.K true):=by
 intro pins s σ H x y v u Q I rx ry h
 obtain ⟨p,xs,rfl,hq,fx,fs,q⟩:=h
 cases ry
 rcases hq with hq | hq
 ·obtain ⟨its,r,pl,hz⟩:=I.list hq
  refine SeqAt.notIn_listAt (eqU x) pl.isList (fun w hw=>zl_ rx fx r fs w (by simpa using hw)) ⟨.bl _,H,I,rfl,?_⟩
  rw [show its.toArray.any (eqU x) = its.any (eqU x) by simp,zD_ r fs]
  exact q
 ·obtain ⟨its,r,pl,hz⟩:=I.tuple hq
  refine SeqAt.notIn_tupleAt (eqU x) pl (fun w hw=>zl_ rx fx r fs w (by simpa using hw)) ⟨.bl _,H,I,rfl,?_⟩
  rw [show its.toArray.any (eqU x) = its.any (eqU x) by simp,zD_ r fs]
  exact q
theorem qv_:yE_ X (.builtin "len") (fun xs H Q=>∃ p ys,xs = [.ref p] ∧ (SqL X.K H p ys ∨ SqT X.K H p ys) ∧ Q (.int ys.length) H):=by
 intro pins s σ H xs us Q I r h
 obtain ⟨p,ys,rfl,hq,q⟩:=h
 obtain ⟨u,rfl,rx⟩:=zb_ r
 cases rx
 have hn:=v4_
 rcases hq with hq | hq
 ·obtain ⟨its,r',pl,hz⟩:=I.list hq
  have hlen:=r'.length
  exact Calls.call_len_list pl.isList (by simp only [List.size_toArray] <;> omega) ⟨.int ys.length,H,I.tok _,⟨s.toks + 1,by rw [List.size_toArray,hlen]⟩,q⟩
 ·obtain ⟨its,r',pl,hz⟩:=I.tuple hq
  have hlen:=r'.length
  exact len_tuple pl (by simp only [List.size_toArray] <;> omega) ⟨.int ys.length,H,I.tok _,⟨s.toks + 1,by rw [List.size_toArray,hlen]⟩,q⟩
theorem jT_:yE_ X (.type "list") (fun xs H Q=>∃ p ys,xs = [.ref p] ∧ (SqL X.K H p ys ∨ SqT X.K H p ys) ∧ ∀ l,H l = none → Q (.ref l) (upd H l (.lst ys))):=by
 intro pins s σ H xs us Q I r h
 obtain ⟨p,ys,rfl,hq,q⟩:=h
 obtain ⟨u,rfl,rx⟩:=zb_ r
 cases rx
 have fin:∀ (its:List Value),Vals ys its->ys.length<=sizeLine->∀ (h':Heap) (c':Nat),(∀ b o',s.heap.get? b = some o'->h'.get? b = some o') →
   h'.get? s.heap.objs.size = some { cls:=.type "list",dict:=none,data:=.seq its.toArray c',slots:=#[] } → EP X pins σ Q (.ref s.heap.objs.size) { s with heap:=h' }:=fun its r' hz h' c' kp e =>
  ⟨.ref s.heap.objs.size,_,I.laid (t':=s.toks) kp (Nat.le_refl _) (show ObjOk X.prog X.w _ h' _ (.lst ys) from ⟨hz,its,c',r',e⟩),rfl,q _ (I.hok.fresh (Nat.le_refl _))⟩
 rcases hq with hq | hq
 ·obtain ⟨its,r',pl,hz⟩:=I.list hq
  have hlen:=r'.length
  obtain ⟨o,ho,hc,n,hd⟩:=pl.isList
  exact call_list_seq p (.inl rfl) ho hc hd (fun h' c' kp e=>fin its r' hz h' c' kp e) (by simp only [List.size_toArray] <;> omega)
 ·obtain ⟨its,r',pl,hz⟩:=I.tuple hq
  have hlen:=r'.length
  obtain ⟨o,ho,hc,n,hd⟩:=pl
  exact call_list_seq p (.inr rfl) ho hc hd (fun h' c' kp e=>fin its r' hz h' c' kp e) (by simp only [List.size_toArray] <;> omega)
def tyV (K:PySem.W.Frag) (T:String) (x:V) (H:Hp):Prop:=match x with
 | .str _=>T = "str"
 | .int _=>T = "int"
 | .ref p=>(T = "list" ∧ ∃ xs,SqL K H p xs) ∨ (T = "tuple" ∧ ∃ o,K.lookup p = some o ∧ o.cls = .type "tuple" ∧ o.dict = none) ∨
   (T = "dict" ∧ ((∃ kvs,H p = some (.dK kvs)) ∨ ∃ kvs,H p = some (.dT kvs))) ∨ (T = "set" ∧ ∃ S n,H p = some (.set S n))
 | _=>False
theorem qel_ {pins:List (Addr × Obj)}{σ:St}{H:Hp}{s:Shared}{T:String}{x:V}{v:Value} (I:Inv X pins σ H s) (r:RelV x v) (ty:tyV X.K T x H) :
  s.TypeIs v T/\∀ a,v = .ref a->∃ ob,s.heap.get? a = some ob/\ob.dict = none:=by
 cases x with
 | str z =>
  obtain ⟨t,rfl⟩:=r
  cases (show T = "str" from ty)
  exact ⟨typeIs_str s z t,fun _ e=>nomatch e⟩
 | int i =>
  obtain ⟨t,rfl⟩:=r
  cases (show T = "int" from ty)
  exact ⟨typeIs_int s i t,fun _ e=>nomatch e⟩
 | ref p =>
  cases r
  rcases ty with ⟨rfl,xs,hq⟩ | ⟨rfl,o,hk,hc,hd⟩ | ⟨rfl,hk⟩ | ⟨rfl,S,n,hk⟩
  ·obtain ⟨its,_,pl,_⟩:=I.list hq
   refine ⟨pl.isList.typeIs,fun a e=>?_⟩
   cases e
   obtain ⟨o,n,e,c,hd,_⟩:=pl
   exact ⟨o,e,hd⟩
  ·refine ⟨⟨o,I.kIn p o hk,hc⟩,fun a e=>?_⟩
   cases e
   exact ⟨o,I.kIn _ o hk,hd⟩
  ·have z:∃ o,s.heap.get? p = some o/\o.ExactDict:=by
    rcases hk with ⟨kvs,hk⟩ | ⟨kvs,hk⟩
    ·obtain ⟨_,_,_,_,o,_,_,e,ex,_⟩:=I.hok p _ hk
     exact ⟨o,e,ex⟩
    ·obtain ⟨_,_,_,_,o,_,_,e,ex,_⟩:=I.hok p _ hk
     exact ⟨o,e,ex⟩
   obtain ⟨o,e,ex⟩:=z
   refine ⟨⟨o,e,ex.1⟩,fun a e2=>?_⟩
   cases e2
   exact ⟨o,e,ex.2.1⟩
  ·obtain ⟨o,_,_,_,e,ex,_⟩:=I.hok p _ hk
   refine ⟨⟨o,e,ex.1⟩,fun a e2=>?_⟩
   cases e2
   exact ⟨o,e,ex.2.1⟩
 | _=>exact False.elim ty
def tBM0 (K:PySem.W.Frag) (T:String) (r:V->List V->Hp->VK->Prop) (to:TE):TE:=fun σ H Q=>to σ H fun x H1=>tyV K T x H1/\r x [] H1 Q
def tBM (K:PySem.W.Frag) (T:String) (r:V->List V->Hp->VK->Prop) (to:TE) (t:TA):TE:=fun σ H Q=>to σ H fun x H1=>tyV K T x H1/\t σ H1 fun xs H2=>r x xs H2 Q
variable {o e:Expr}{es:List Expr}{to:TE}{t:TA}{name:Str}{apos cpos:Pos}{T id:String}{r:V->List V->Hp->VK->Prop}
theorem z4_ (pa:PlainAttrs T) (slot:Slot T name id) (hty:typeOf (.builtin id) = pure (.type "method_descriptor")) (hm:MtR X id r) (ho:PE X o to)
  (hbase:attributeBase o name X.env (eval o X.env) = eval o X.env:=by rfl) (hline:(apos.endLine == cpos.line) = true:=by rfl):PE X (.Call (.Attribute o name apos) [] [] cpos) (tBM0 X.K T r to):=by
 intro pins s σ H Q I h
 refine wpAny_Call_method0_late hbase hline (thn (ho pins s σ H _ I h) fun v s1 ⟨x,H1,I1,r1,ty,q1⟩=>?_)
 obtain ⟨h1,h2⟩:=qel_ I1 r1 ty
 exact ⟨T,id,pa,slot,hty,h1,h2,Calls.callWith_builtin rfl (PySem.evalArgs_none (hm pins s1 σ H1 x [] v [] Q I1 r1 .nil q1))⟩
theorem jW_ (pa:PlainAttrs T) (slot:Slot T name id) (hty:typeOf (.builtin id) = pure (.type "method_descriptor")) (hm:MtR X id r) (ho:PE X o to) (ha:PA X (e :: es) t)
  (hbase:attributeBase o name X.env (eval o X.env) = eval o X.env:=by rfl)
  (hfew:((backTo cpos (starEach (e :: es) X.env)).all (fun x=>!x.1) && (backToKw cpos (keywordEach [] X.env)).all (fun x=>x.1.isSome)
   && decide ((e :: es).length + ([]:List Keyword).length + (if ([]:List Keyword).isEmpty then 0 else 1) < 30)) = true:=by rfl)
  (hline:(apos.endLine == cpos.line) = true:=by rfl) (hs:starEach (e :: es) X.env = (false,eval e X.env) :: starEach es X.env:=by rfl) (hplain:(backTo cpos (starEach es X.env)).any (·.1) = false:=by rfl) :
  PE X (.Call (.Attribute o name apos) (e :: es) [] cpos) (tBM X.K T r to t):=by
 intro pins s σ H Q I h
 refine wpAny_Call_method_late hbase hfew hline rfl (thn (ho pins s σ H _ I h) fun v s1 ⟨x,H1,I1,r1,ty,q1⟩=>?_)
 obtain ⟨h1,h2⟩:=qel_ I1 r1 ty
 refine ⟨T,id,pa,slot,hty,h1,h2,?_⟩
 have hA:=ha cpos pins s1 σ H1 _ I1 q1
 rw [hs] at hA ⊢
 refine Calls.callWith_builtin (by show (false || (backTo cpos (starEach es X.env)).any (·.1)) = false;rw [hplain] <;> rfl) (Calls.evalArgs_plain ?_)
 exact thn hA fun us s2 ⟨vs,H2,I2,r2,q2⟩=>hm pins s2 σ H2 x vs v us Q I2 r1 r2 q2
end
end L2
namespace L2
open PySem PySem.Spec PyProof.Rows
def MtM (X:Cx) (id:String) (r:V->List V->Hp->VK->Prop):Prop :=
 ∀ (pins:List (Addr × Obj)) (s:Shared) (σ:St) (H:Hp) (x:V) (xs:List V) (v:Value) (us:List Value) (Q:VK),Inv X pins σ H s->RelV x v->Vals xs us->r x xs H Q →
  wpAny (model X.prog X.w) X.A (call (.builtin id) (v :: us)) (EP X pins σ Q) X.xe s
theorem Vals.one:∀ {x:V}{us:List Value},Vals [x] us->∃ u,us = [u]/\RelV x u
 | _,_,.cons r .nil=>⟨_,rfl,r⟩
theorem Vals.rep {xs:List V}{us:List Value} (h:Vals xs us):∀ k:Nat,Vals (List.replicate k xs).flatten (List.replicate k us).flatten
 | 0=>.nil
 | k + 1=>by
  rw [List.replicate_succ,List.replicate_succ,List.flatten_cons,List.flatten_cons]
  exact Vals.append h (Vals.rep h k)
theorem uP_ (its:List Value):∀ (k:Nat) (acc:List Value),
  List.foldl (fun x1 x2=>x1 ++ x2) acc.toArray (List.replicate k its.toArray) = (acc ++ (List.replicate k its).flatten).toArray
 | 0,acc=>by simp
 | k + 1,acc=>by
  have e:acc.toArray ++ its.toArray = (acc ++ its).toArray:=by simp
  have e2:(acc ++ its) ++ (List.replicate k its).flatten = acc ++ (List.replicate (k + 1) its).flatten:=by
   rw [List.replicate_succ,List.flatten_cons,List.append_assoc]
  rw [<- e2,← uP_ its k (acc ++ its),← e,List.replicate_succ,List.foldl_cons]
section
variable {X:Cx}{pins:List (Addr × Obj)}{σ:St}{H:Hp}{s:Shared}{l b:Addr}{xs ys zs:List V}
theorem Inv.lset {its its':List Value}{n:Nat}{f:Array Value->Array Value}{t':Nat} (I:Inv X pins σ H s) (hH:H l = some (.lst xs))
  (e:s.heap.get? l = some { cls:=.type "list",data:=.seq its.toArray n }) (hf:f its.toArray = its'.toArray) (hv:Vals ys its') (hz:ys.length ≤ sizeLine) :
  Inv X pins σ (upd H l (.lst ys)) { s with heap:=s.heap.update l (Obj.mapSeq f),toks:=t' }:=by
 have q:=PySem.IsL.update e f
 rw [hf] at q
 refine I.write (x:=l) (e:=l) (by rw [hH];exact trivial) (.inl rfl) (fun b' u hb hu=>(Heap.get?_update_other s.heap (Obj.mapSeq f) (Ne.symm hb)).trans hu) ⟨_,q⟩ ?_
 exact ⟨hz,its',_,hv,q⟩
theorem Inv.lnew {its:List Value}{t':Nat} (I:Inv X pins σ H s) (hv:Vals ys its) (hz:ys.length<=sizeLine) :
  Inv X pins σ (upd H s.heap.objs.size (.lst ys)) { s with heap:=s.heap.push { cls:=.type "list",data:=.seq its.toArray },toks:=t' } :=
 I.laid (fun _ _ q=>Heap.get?_push_of_some _ q) (Nat.le_refl _) ⟨hz,its,0,hv,Heap.get?_push_size _ rfl⟩
theorem Inv.fresh (I:Inv X pins σ H s):H s.heap.objs.size = none:=I.hok.fresh (Nat.le_refl _)
theorem Inv.lstM (I:Inv X pins σ H s) (hH:H l = some (.lst xs)):xs.length ≤ sizeLine ∧ ∃ (its:List Value) (n:Nat),Vals xs its ∧ xs.length = its.length ∧ s.heap.get? l = some { cls:=.type "list",data:=.seq its.toArray n }:=by
 obtain ⟨z,its,n,r,e⟩:=I.hok l _ hH
 exact ⟨z,its,n,r,r.length,e⟩
theorem qgc_ {n:Nat} (h:n<=sizeLine):Builtin.List.listTooLong n = false:=by
 unfold Builtin.List.listTooLong
 exact decide_eq_false (by omega)
end
section
variable {X:Cx}
def qh9_:V->List V->Hp->VK->Prop:=fun x vs H Q=>∃ l xs y,x = .ref l/\vs = [y]/\H l = some (.lst xs)/\xs.length < sizeLine/\Q .non (upd H l (.lst (xs ++ [y])))
theorem qQ_:MtM X "list.append" qh9_:=by
 intro pins s σ H x vs v us Q I rx rv h
 obtain ⟨l,xs,y,rfl,rfl,hH,hz,q⟩:=h
 cases rx
 obtain ⟨u,rfl,ru⟩:=rv.one
 obtain ⟨z,its,n,r,hl,e⟩:=I.lstM hH
 refine call_meets F.slot_list_append ⟨_,e,rfl⟩ F.entry_list_append (F.args_list_append_2 _ _) (PySem.list_append l its.toArray n u (by rw [List.size_toArray];omega)) ⟨e,?_⟩
 refine ⟨.non,_,I.lset (its':=its ++ [u]) hH e (by simp) (r.append (.cons ru .nil)) ?_,rfl,q⟩
 rw [List.length_append,List.length_singleton]
 omega
def qlo_:V->List V->Hp->VK->Prop:=fun x vs H Q=>∃ l b xs zs,x = .ref l/\vs = [.ref b]/\H l = some (.lst xs)/\H b = some (.lst zs)/\xs.length + zs.length<=sizeLine/\Q .non (upd H l (.lst (xs ++ zs)))
def rPop:V->List V->Hp->VK->Prop:=fun x vs H Q=>∃ l xs y,x = .ref l/\vs = []/\H l = some (.lst xs)/\xs[xs.length - 1]? = some y/\Q y (upd H l (.lst xs.dropLast))
def qlu_:V->List V->Hp->VK->Prop:=fun x vs H Q=>∃ l xs i k y,x = .ref l/\vs = [.int i]/\H l = some (.lst xs)/\-(2 ^ 63)<=i/\i < 2 ^ 63/\seqIndex? i xs.length = some k/\xs[k]? = some y/\Q y (upd H l (.lst (xs.eraseIdx k)))
def qlm_:V->List V->Hp->VK->Prop:=fun x vs H Q=>∃ l xs,x = .ref l/\vs = []/\H l = some (.lst xs)/\Q .non (upd H l (.lst xs.reverse))
def qlv_:V->List V->Hp->VK->Prop:=fun x vs H Q=>∃ l xs,x = .ref l/\vs = []/\H l = some (.lst xs)/\Q .non (upd H l (.lst []))
def rCat:R2:=fun x y H Q=>∃ l b xs zs,x = .ref l/\y = .ref b/\H l = some (.lst xs)/\H b = some (.lst zs)/\xs.length + zs.length<=sizeLine/\∀ p,H p = none->Q (.ref p) (upd H p (.lst (xs ++ zs)))
theorem v7_:OpR X (binaryOp .Add) rCat:=by
 intro pins s σ H x y v u Q I rx ry h
 obtain ⟨l,b,xs,zs,rfl,rfl,hH,hB,hz,q⟩:=h
 cases rx
 cases ry
 obtain ⟨z,its,n,r,hl,e⟩:=I.lstM hH
 obtain ⟨z2,its2,n2,r2,hl2,e2⟩:=I.lstM hB
 refine PySem.P.add_list e e2 ?_ (by rw [List.size_toArray,List.size_toArray];omega)
 have ea:its.toArray ++ its2.toArray = (its ++ its2).toArray:=by simp
 rw [ea]
 exact ⟨.ref _,_,I.lnew (t':=s.toks) (r.append r2) (by rw [List.length_append];omega),rfl,q _ I.fresh⟩
def rRep:R2:=fun x y H Q=>∃ l k xs,x = .ref l/\y = .int k/\H l = some (.lst xs)/\-(2 ^ 63)<=k/\k < 2 ^ 63/\xs.length * k.toNat<=sizeLine ∧
 ∀ p,H p = none->Q (.ref p) (upd H p (.lst (List.replicate k.toNat xs).flatten))
theorem qia_ {α:Type} (xs:List α) (k:Nat):(List.replicate k xs).flatten.length = k * xs.length:=by
 induction k with
 | zero=>simp
 | succ k ih=>rw [List.replicate_succ,List.flatten_cons,List.length_append,ih,Nat.succ_mul,Nat.add_comm]
theorem zE_:OpR X (binaryOp .Mult) rRep:=by
 intro pins s σ H x y v u Q I rx ry h
 obtain ⟨l,k,xs,rfl,rfl,hH,h1,h2,hz,q⟩:=h
 cases rx
 obtain ⟨t,rfl⟩:=ry
 obtain ⟨z,its,n,r,hl,e⟩:=I.lstM hH
 have hlen:its.toArray.size * k.toNat<=sizeLine:=by rw [List.size_toArray,← hl];exact hz
 have hcap:¬ its.toArray.size * k.toNat > (2 ^ 63 - 1) / 8:=by
  have:(sizeLine:Nat)<=(2 ^ 63 - 1) / 8:=by decide
  omega
 have hfit:¬ (!Builtin.List.listFitsIndex k) = true:=by
  rw [fitsIndex_both h1 h2]
  exact Bool.false_ne_true
 have hlong:¬ Builtin.List.listTooLong (its.toArray.size * k.toNat) = true:=by
  rw [qgc_ hlen]
  exact Bool.false_ne_true
 have hnew:List.foldl (fun x1 x2=>x1 ++ x2) #[] (List.replicate (if its.toArray.isEmpty = true then 0 else k.toNat) its.toArray) = (List.replicate k.toNat its).flatten.toArray:=by
  have f0:∀ m:Nat,List.foldl (fun x1 x2=>x1 ++ x2) #[] (List.replicate m its.toArray) = (List.replicate m its).flatten.toArray:=fun m=>by
   have:=uP_ its m []
   rw [List.nil_append] at this
   exact this
  rw [f0]
  cases its with
  | nil=>simp
  | cons a r'=>rw [if_neg (by simp)]
 refine wpAny_binaryOp_repeat_ref (T:="list") (U:="int") (by decide) ⟨_,e,rfl⟩ (fun s'=>typeIs_int s' k t) noFill_list_mul F.fills_int_mul F.slot_int_rmul repeat_list F.slot_int_index.lookup
  (call_meets F.slot_int_rmul (typeIs_int s k t) F.entry_int_rmul (F.args_int_rmul_2 _ _) (int___rmul___int_list k t l its.toArray n)
   ⟨e,rfl,⟨_,e,rfl⟩,call_meets F.slot_list_mul ⟨_,e,rfl⟩ F.entry_list_mul (F.args_list_mul_2 _ _) (AutoListH.list___mul___list_int_3 l its.toArray n k t hfit hcap hlong) ⟨e,?_⟩⟩)
 rw [hnew]
 exact ⟨.ref _,_,I.lnew (t':=s.toks) (r.rep k.toNat) (by rw [qia_,Nat.mul_comm];exact hz),rfl,q _ I.fresh⟩
end
section
variable {prog:Program}{w:World}{A:Around}{E:Value->Shared->Prop}{s:Shared}
end
section
variable {X:Cx}
end
end L2
namespace Att
open PySem PySem.W PySem.Calls PyProof.Rows
theorem v8_ {P:Params}{h:Heap}:∀ (ns:List Int) (vs:List Value),WellAll P h vs (ns.map WData.int)->IntsAre vs ns:=by
 intro ns
 induction ns with
 | nil =>
  intro vs w
  rw [List.map_nil] at w
  cases w
  exact .nil
 | cons n ns ih =>
  intro vs w
  rw [List.map_cons] at w
  cases w with
  | cons a b =>
   cases a
   exact .cons _ _ (ih _ b)
theorem qem_ {l:OpenLaw}{n:Nat} (hn:l.most = some n) {P:Params}{h:Heap}{args:List WData}{vals:List Value}
  (hpre:l.row.toRowW.claim.pre args = true) (hwl:WellAll P h vals args) :
  ∃ a vs ns,vals = [Value.ref a] ∧ args = [WData.list (ns.map WData.int)] ∧ h.get? a = some { cls:=.type "list",data:=.seq vs.toArray } ∧ IntsAre vs ns ∧ ns.length ≤ n:=by
 have hsh:WShape.hasAll [] args [.list .int] = true:=(pre_splitW hpre).1
 have hc:l.pre.holds [] { args:=args } = true:=(pre_splitW hpre).2
 obtain ⟨d,r,rfl,h1,h2⟩:=hasAllW_cons hsh
 obtain rfl:=hasAllW_nil h2
 obtain ⟨xs,rfl,h3⟩:=hasW_list h1
 obtain ⟨ns,rfl⟩:=items_int h3
 have hlen:ns.length<=n:=by
  unfold OpenLaw.pre at hc
  have h4:(WTm.not (.lt (.lit (.int (n:Int))) (.len (.arg 0)))).holds [] { args:=[.list (ns.map .int)] } = true:=by
   have h4:=(holds_andW hc).1
   rw [hn] at h4
   exact h4
  have h5:=condW_of h4 (w_not (w_lt w_lit (w_len_list (w_arg rfl))))
  rw [List.length_map] at h5
  refine Nat.le_of_not_lt fun q=>?_
  have q':(n:Int) < ((ns.length:Nat):Int):=by omega
  first
   | (rw [decide_eq_true q'] at h5;exact absurd h5 (by decide))
   | (simp at h5;omega)
 cases hwl with
 | cons w1 w2 =>
  cases w2
  cases w1 with
  | list ho hall=>exact ⟨_,_,ns,rfl,rfl,ho,v8_ ns _ hall,hlen⟩
theorem qen_ (l:OpenLaw) (args:List WData):l.row.toRowW.claim.post args (.bool true) args = true :=
 postW_of (r:=l.row.toRowW) (X:=(true == true))
  (show WShape.has [] (.bool true) .bool = true by first | rfl | decide | simp [WShape.has,WShape.arms,WShape.armsAll])
  (show (WTm.eq .res (.lit (.bool true))).value [] { args:=args,res:=some (.bool true),after:=args } = some (.bool (true == true)) from w_eq_bool (w_res rfl) w_lit) rfl
theorem attach_call {l:OpenLaw}{n:Nat}{q:Program}{loose:List Str}{XP:(Str->Option Value)->Heap->Prop}{YP:World->Heap->Prop}{d:DefRec}
  (hn:l.most = some n) (hdf:d.params.defaults = [])
  (call:∀ (w:World) (s₀ s₁:Shared) (mg mb:Str->Option Value) (fa:Addr) (o:Obj) (pm cd doc:Value) (a:Addr) (vs:List Value) (ns:List Int),
   Ground q loose [] XP w s₀ mg mb s₁.heap->YP w s₁.heap →
   s₁.heap.get? fa = some o->o.data = .func (docDef d.name d.params d.body d.scope pm cd doc)->s₁.heap.CodeRec cd d.name->mg d.name = some (.ref fa) →
   s₁.heap.get? a = some { cls:=.type "list",data:=.seq vs.toArray } → IntsAre vs ns → ns.length ≤ n → s₁.gens = #[] →
   codeAny (model l.prog w) callerA (.call (.ref fa) ⟨[.ref a],[]⟩) (fun r s'=>r = .ok (.ret (.bool true))/\OldK s₁.heap s'.heap/\s'.os = s₁.os/\AllBare s'.gens) s₁) :
  WalkO q loose XP YP l.row.toRowW d [] (fun f vs=>PySem.call f vs):=by
 intro w s₀ s₁ mg mb G Y fa o pm cd doc dV kV ho hd hcd hD hmg hg args vals as hpre hlay hrd hwl hlo
 obtain rfl:dV = .none:=Dflts.none hD hdf
 obtain rfl:kV = .none:=Dflts.noKw hD
 obtain ⟨a,vs,ns,rfl,rfl,hobj,hints,hlen⟩:=qem_ hn hpre hwl
 refine enter_call (codeAny_mono (call w s₀ s₁ mg mb fa o pm cd doc a vs ns G Y ho (fd_plain hd) hcd hmg hobj hints hlen hg) fun r s' hq=>?_)
 obtain ⟨rfl,h2,h3,h4⟩:=hq
 exact ⟨.inl ⟨.bool true,.bool true,[],rfl,fun _=>rfl,.bool true,qen_ l _,fun _=>⟨List.Pairwise.nil,fun _ hm=>(nomatch hm)⟩⟩,h2,h3,h4⟩
section
variable {prog:Program}{w:World}{A:Around}{E:Value->Shared->Prop}{s:Shared}{K:Frag}
def qlw_ (h:Heap):Heap:={ h with objs:=#[] }
def qlx_ (h:Heap) (L d:Addr):List (Addr × Obj):=(List.range h.objs.size).filterMap fun a=>if a = L\/a = d then none else (h.get? a).map fun o=>(a,o)
end
end Att
namespace L2
open PySem PySem.Spec PyProof.Rows
theorem uQ_:∀ {vs:List Value}{ns:List Int},IntsAre vs ns->Vals (ns.map V.int) vs
 | _,_,.nil=>.nil
 | _,_,.cons n t h=>.cons ⟨t,rfl⟩ (uQ_ h)
def Only (H:Hp):Prop:=∀ b,H b = none\/∃ o xs,H b = some (.frz o (.lst xs))
end L2
namespace L2
open PySem PySem.Spec PyProof.Rows
abbrev KOf {K:PySem.W.Frag}{h:Heap} (_:K.In h):PySem.W.Frag:=K
end L2
namespace L2
open PySem PySem.Spec PyProof.Rows
def qI_ (s:Stmt) (j:Nat):Stmt:=match s with
 | .ClassDef _ _ _ body _ _ _ _ _ _ _=>body.getD j (.Pass ⟨0,0,0,0⟩)
 | _=>.Pass ⟨0,0,0,0⟩
def qi_ (s:Stmt):Arguments:=match s with
 | .FunctionDef _ a _ _ _ _ _ _ _ _=>a
 | _=>{ posonlyargs:=[],args:=[],vararg:=none,kwonlyargs:=[],kw_defaults:=[],kwarg:=none,defaults:=[] }
def qh_ (s:Stmt):List Stmt:=match s with
 | .FunctionDef _ _ b _ _ _ _ _ _ _=>b
 | _=>[]
def qb_ (s:Stmt):Scope:=match s with
 | .FunctionDef _ _ _ _ _ _ sc _ _ _=>sc
 | _=>{ kind:=.function,names:=[],isGenerator:=false,isCoroutine:=false }
abbrev CX0:CXT:=fun _ _ _ _ _ _=>False
abbrev E0:XK:=fun _ _ _=>False
theorem qp_ {X:Cx}:zk_ CX0 X E0:=fun _ _ _ _ _ _ _ h=>h.elim
structure Fun (K:PySem.W.Frag) (x qual:Str) (st:Stmt) (f:Addr) (fd:FuncData):Prop where
 ex:∃ (oc:Value) (od:Option Addr) (kV doc pm:Value) (an:Option Addr) (cdv ct:Value) (osl:Array (Option Value)),
  fd = PySem.W.fnOf x qual (qi_ st) (qh_ st) (qb_ st) .none kV doc pm an cdv ct/\K.lookup f = some ⟨oc,od,.func fd,osl⟩/\PySem.W.codeIn K cdv qual = true
 kp:PySem.W.keepIn K (.ref f) = true
section
variable {P:Program}{w:World}{K:PySem.W.Frag}{mg:Str->Option Value}{base:Heap}
theorem Fun.ok {x qual:Str}{st:Stmt}{f:Addr}{fd:FuncData}{N ps:List Str}{k:Nat}{sp:Sp} (F:Fun K x qual st f fd) (S:FnScope N ps (qb_ st)) (len:∀ vs H Q E,sp vs H Q E->vs.length = ps.length)
  (hbody:∀ (cdv:Value) (A:Around) (outer:List Env) (s:Shared) (H:Hp) (vs:List V) (Q:VK) (E:XK),Room k (A.deeper (envOfC qual (qb_ st) s.heap.objs.size f cdv))->sp vs H Q E →
   ∃ t,PSs (cxOf CX0 P w K mg base N qual (qb_ st) f cdv A outer s H E).nox (qh_ st) t/\t { nx:=fun _ H'=>Q .non H',rt:=Q } (start N vs) H):FnOk P w K mg base CX0 (k + 1) f fd ps sp:=by
 obtain ⟨oc,od,kV,doc,pm,an,cdv,ct,osl,rfl,lk,hcd⟩:=F.ex
 refine qhz_ lk hcd S len fun A outer s H vs Q E hr hsp=>?_
 obtain ⟨t,h,q⟩:=hbody cdv A outer s H vs Q E hr hsp
 exact ⟨t,h.nox,q⟩
theorem Fun.binds {x qual:Str}{st:Stmt}{f:Addr}{fd:FuncData}{ps:List Str} (F:Fun K x qual st f fd)
  (h:∀ (kV doc pm:Value) (an:Option Addr) (cdv ct:Value) (us:List Value),us.length = ps.length->bindArgs (PySem.W.fnOf x qual (qi_ st) (qh_ st) (qb_ st) .none kV doc pm an cdv ct) ⟨us,[]⟩ = pure (ps.zip us)):Binds K fd ps []:=by
 obtain ⟨oc,od,kV,doc,pm,an,cdv,ct,osl,rfl,lk,hcd⟩:=F.ex
 exact .all (h kV doc pm an cdv ct)
theorem qw_ {x qual:Str}{st:Stmt}{f:Addr}{oc:Value}{od an:Option Addr}{osl:Array (Option Value)}{kV doc pm cdv ct:Value} (l:K.lookup f = some ⟨oc,od,.func (PySem.W.fnOf x qual (qi_ st) (qh_ st) (qb_ st) .none kV doc pm an cdv ct),osl⟩)
  (c:PySem.W.codeIn K cdv qual = true) (k:PySem.W.keepIn K (.ref f) = true):Fun K x qual st f (PySem.W.fnOf x qual (qi_ st) (qh_ st) (qb_ st) .none kV doc pm an cdv ct):=⟨⟨oc,od,kV,doc,pm,an,cdv,ct,osl,rfl,l,c⟩,k⟩
end
theorem qeo_ {n:Nat} (h:n<=1000):n < sizeLine:=Nat.lt_of_le_of_lt h (by decide)
section
variable {X:Cx}
theorem pv (i:Nat) {x:Str}{pos:Pos} (hN:X.N[i]? = some x:=by rfl) (hv:Vis X.env.scope x:=by first | exact Or.inl rfl | exact Or.inr (Or.inl rfl) | exact Or.inr (Or.inr rfl)) (hd:(x == ("__debug__" : Str)) = false:=by decide)
  (hcd:(x == ("__classdict__" : Str)) = false:=by decide):PE X (.Name x pos) (tVar i):=qjs_ hN hv hd hcd
end
theorem iteF {A B:Prop} (h:B):if false = true then A else B:=by
 rw [if_neg Bool.false_ne_true]
 exact h
theorem iteT {A B:Prop} (h:A):if true = true then A else B:=by
 rw [if_pos rfl]
 exact h
theorem ite2 {c A B:Prop} [Decidable c] (h1:c->A) (h2:¬ c->B):if c then A else B:=by
 by_cases h:c
 ·rw [if_pos h]
  exact h1 h
 ·rw [if_neg h]
  exact h2 h
def Same (H H':Hp):Prop:=∀ b o,H b = some o->H' b = some o
theorem Same.refl (H:Hp):Same H H:=fun _ _ h=>h
theorem Same.trans {H H1 H2:Hp} (a:Same H H1) (b:Same H1 H2):Same H H2:=fun c o h=>b c o (a c o h)
theorem Same.free {H H':Hp} (e:Same H H') {l:Addr} (h:H' l = Option.none):H l = Option.none:=by
 cases q:H l with
 | none=>rfl
 | some o =>
  rw [e l o q] at h
  cases h
theorem Same.seq {K:PySem.W.Frag}{H H':Hp}{a:Addr}{xs:List V} (e:Same H H') (h:SqL K H a xs):SqL K H' a xs:=by
 rcases h with (h | ⟨o,h⟩) | h
 ·exact .inl (.inl (e _ _ h))
 ·exact .inl (.inr ⟨o,e _ _ h⟩)
 ·exact .inr h
end L2
namespace GF
theorem two_mul_xor (a b:Nat):2 * (a ^^^ b) = (2 * a) ^^^ (2 * b):=by
 apply Nat.eq_of_testBit_eq
 intro i
 rw [Nat.testBit_xor]
 cases i with
 | zero=>simp [Nat.testBit_zero]
 | succ i=>simp [Nat.testBit_succ]
theorem vA_ (a b:Nat):(a ^^^ b) / 2 = (a / 2) ^^^ (b / 2):=by
 apply Nat.eq_of_testBit_eq
 intro i
 rw [Nat.testBit_xor,← Nat.testBit_succ,← Nat.testBit_succ,← Nat.testBit_succ,Nat.testBit_xor]
theorem vB_ (a b:Nat):(a ^^^ b) % 2 = (a % 2 + b % 2) % 2:=by
 have h:=Nat.testBit_xor a b 0
 simp only [Nat.testBit_zero] at h
 rcases Nat.mod_two_eq_zero_or_one a with ha | ha <;> rcases Nat.mod_two_eq_zero_or_one b with hb | hb <;>
  rcases Nat.mod_two_eq_zero_or_one (a ^^^ b) with hc | hc <;> simp_all
theorem xor4 (a b c d:Nat):(a ^^^ b) ^^^ (c ^^^ d) = (a ^^^ c) ^^^ (b ^^^ d):=by
 rw [Nat.xor_assoc,Nat.xor_assoc,← Nat.xor_assoc b c d,Nat.xor_comm b c,Nat.xor_assoc c b d]
def dbl (r w x:Nat):Nat:=if 2 ^ w<=2 * x then (2 * x) ^^^ r else 2 * x
structure Rule (r w:Nat):Prop where
 lo:2 ^ w<=r
 hi:r < 2 ^ (w + 1)
theorem zF_ {w x:Nat} (h:x < 2 ^ (w + 1)):(2 ^ w<=x) ↔ x.testBit w = true:=by
 constructor
 ·intro h1
  rw [Nat.testBit_eq_decide_div_mod_eq]
  have:x / 2 ^ w = 1:=by
   apply Nat.div_eq_of_lt_le
   ·omega
   ·rw [Nat.pow_succ] at h;omega
  rw [this];rfl
 ·intro h1
  exact Nat.ge_two_pow_of_testBit h1
theorem qep_ {w x:Nat} (h:x < 2 ^ (w + 1)) (hb:x.testBit w = false):x < 2 ^ w:=by
 refine Nat.lt_of_not_le fun q=>?_
 rw [(zF_ h).mp q] at hb
 cases hb
variable {r w:Nat}
theorem dbl_lt (R:Rule r w) {x:Nat} (hx:x < 2 ^ w):dbl r w x < 2 ^ w:=by
 unfold dbl
 have h2:2 * x < 2 ^ (w + 1):=by rw [Nat.pow_succ];omega
 split
 ·rename_i h
  refine qep_ (Nat.xor_lt_two_pow h2 R.hi) ?_
  rw [Nat.testBit_xor,(zF_ h2).mp h,(zF_ R.hi).mp R.lo]
  rfl
 ·omega
theorem qav_ {x:Nat} (hx:x < 2 ^ w):dbl r w x = (2 * x) ^^^ (bif (2 * x).testBit w then r else 0):=by
 have h2:2 * x < 2 ^ (w + 1):=by rw [Nat.pow_succ];omega
 unfold dbl
 split
 ·rename_i h
  rw [(zF_ h2).mp h]
  rfl
 ·rename_i h
  cases e:(2 * x).testBit w
  ·simp
  ·exact absurd ((zF_ h2).mpr e) h
theorem qco_ (R:Rule r w) {a b:Nat} (ha:a < 2 ^ w) (hb:b < 2 ^ w):dbl r w (a ^^^ b) = dbl r w a ^^^ dbl r w b:=by
 rw [qav_ (Nat.xor_lt_two_pow ha hb),qav_ ha,qav_ hb,two_mul_xor,Nat.testBit_xor,xor4]
 congr 1
 cases (2 * a).testBit w <;> cases (2 * b).testBit w <;> simp
theorem zm_:dbl r w 0 = 0:=by
 unfold dbl
 have:0 < 2 ^ w:=Nat.two_pow_pos w
 rw [if_neg (by omega)]
def tm (r w a b:Nat):Nat:=if b = 0 then 0 else (if b % 2 = 1 then a else 0) ^^^ tm r w (dbl r w a) (b / 2)
termination_by b
decreasing_by omega
theorem tm_zero (a:Nat):tm r w a 0 = 0:=by rw [tm];simp
theorem tm_step (a b:Nat):tm r w a b = (if b % 2 = 1 then a else 0) ^^^ tm r w (dbl r w a) (b / 2):=by
 by_cases h:b = 0
 ·subst h
  rw [tm_zero]
  simp [tm_zero]
 ·rw [tm];simp [h]
theorem tm_lt (R:Rule r w):∀ {b a:Nat},a < 2 ^ w->tm r w a b < 2 ^ w:=by
 intro b
 induction b using Nat.strongRecOn with
 | _ b ih =>
  intro a ha
  by_cases h:b = 0
  ·subst h;rw [tm_zero];exact Nat.two_pow_pos w
  ·rw [tm_step]
   refine Nat.xor_lt_two_pow ?_ (ih (b / 2) (by omega) (dbl_lt R ha))
   split
   ·exact ha
   ·exact Nat.two_pow_pos w
theorem yC_ (R:Rule r w):∀ {b a c:Nat},a < 2 ^ w->c < 2 ^ w->tm r w (a ^^^ c) b = tm r w a b ^^^ tm r w c b:=by
 intro b
 induction b using Nat.strongRecOn with
 | _ b ih =>
  intro a c ha hc
  by_cases h:b = 0
  ·subst h;simp [tm_zero]
  ·rw [tm_step,tm_step a,tm_step c,qco_ R ha hc,ih (b / 2) (by omega) (dbl_lt R ha) (dbl_lt R hc),xor4]
   congr 1
   split <;> simp
theorem y3_ (R:Rule r w):∀ {b a:Nat},a < 2 ^ w->tm r w (dbl r w a) b = dbl r w (tm r w a b):=by
 intro b
 induction b using Nat.strongRecOn with
 | _ b ih =>
  intro a ha
  by_cases h:b = 0
  ·subst h;simp [tm_zero,zm_]
  ·have hz:(if b % 2 = 1 then a else 0) < 2 ^ w:=by
    split
    ·exact ha
    ·exact Nat.two_pow_pos w
   rw [tm_step,tm_step a,qco_ R hz (tm_lt R (dbl_lt R ha)),ih (b / 2) (by omega) (dbl_lt R ha)]
   congr 1
   split <;> simp [zm_]
theorem tm_xor_right:∀ {b c a:Nat},tm r w a (b ^^^ c) = tm r w a b ^^^ tm r w a c:=by
 intro b
 induction b using Nat.strongRecOn with
 | _ b ih =>
  intro c a
  by_cases h:b = 0
  ·subst h;simp [tm_zero]
  ·rw [tm_step a (b ^^^ c),tm_step a b,tm_step a c,vA_,ih (b / 2) (by omega),xor4]
   congr 1
   rw [vB_]
   rcases Nat.mod_two_eq_zero_or_one b with hb | hb <;> rcases Nat.mod_two_eq_zero_or_one c with hc | hc <;> simp [hb,hc]
abbrev ev (r w x:Nat):Nat:=tm r w 1 x
theorem qib_ (hw':1 < w):dbl r w 1 = 2:=by
 unfold dbl
 have:2 ^ 2<=2 ^ w:=Nat.pow_le_pow_right (by decide) hw'
 rw [if_neg (by omega)]
theorem one_lt (hw:1 < w):1 < 2 ^ w:=by
 have:2 ^ 2<=2 ^ w:=Nat.pow_le_pow_right (by decide) hw
 omega
theorem zn_ (a x:Nat) (R:Rule r w) (ha:a < 2 ^ w):tm r w a x = (if x % 2 = 1 then a else 0) ^^^ dbl r w (tm r w a (x / 2)):=by
 rw [tm_step,y3_ R ha]
theorem qic_ (R:Rule r w) (hw:1 < w):∀ {k x:Nat},k<=w->x < 2 ^ k->ev r w x = x:=by
 intro k
 induction k with
 | zero =>
  intro x _ hx
  have:x = 0:=by simpa using hx
  subst this
  exact tm_zero 1
 | succ k ih =>
  intro x hk hx
  have hx2:x / 2 < 2 ^ k:=by rw [Nat.pow_succ] at hx;omega
  have hk2:2 ^ k<=2 ^ (w - 1):=Nat.pow_le_pow_right (by decide) (by omega)
  have hww:2 * 2 ^ (w - 1) = 2 ^ w:=by rw [Nat.mul_comm,← Nat.pow_succ];congr 1;omega
  have h1:ev r w (x / 2) = x / 2:=ih (by omega) hx2
  unfold ev at h1 ⊢
  have hd:dbl r w (x / 2) = 2 * (x / 2):=by
   unfold dbl
   rw [if_neg (by omega)]
  rw [zn_ 1 x R (one_lt hw),h1,hd]
  rcases Nat.mod_two_eq_zero_or_one x with h | h
  ·rw [if_neg (by omega),Nat.zero_xor];omega
  ·rw [if_pos h]
   apply Nat.eq_of_testBit_eq
   intro i
   rw [Nat.testBit_xor]
   cases i with
   | zero=>simp [Nat.testBit_zero,h]
   | succ i=>simp [Nat.testBit_succ]
theorem one_tm (R:Rule r w) (hw:1 < w) {x:Nat} (hx:x < 2 ^ w):tm r w 1 x = x:=qic_ R hw (Nat.le_refl w) hx
theorem tm_one (a:Nat):tm r w a 1 = a:=by
 rw [tm_step];simp [tm_zero]
theorem qj0_ (a:Nat):tm r w a 2 = dbl r w a:=by
 rw [tm_step];simp [tm_one]
theorem tm_comm (R:Rule r w) (hw:1 < w) {a b:Nat} (ha:a < 2 ^ w) (hb:b < 2 ^ w):tm r w a b = tm r w b a:=by
 have key:∀ x y:Nat,tm r w (ev r w x) y = tm r w (ev r w y) x:=by
  intro x
  induction x using Nat.strongRecOn with
  | _ x ih =>
   intro y
   by_cases h:x = 0
   ·subst h
    show tm r w (tm r w 1 0) y = tm r w (ev r w y) 0
    rw [tm_zero,tm_zero]
    have:∀ y,tm r w 0 y = 0:=by
     intro y
     induction y using Nat.strongRecOn with
     | _ y ihy =>
      by_cases hy:y = 0
      ·subst hy;exact tm_zero 0
      ·rw [tm_step,zm_,ihy (y / 2) (by omega)];simp
    exact this y
   ·have e1:ev r w x = (if x % 2 = 1 then 1 else 0) ^^^ dbl r w (ev r w (x / 2)):=zn_ 1 x R (one_lt hw)
    have l1:ev r w (x / 2) < 2 ^ w:=tm_lt R (one_lt hw)
    have l2:(if x % 2 = 1 then 1 else 0) < 2 ^ w:=by
     split
     ·exact one_lt hw
     ·exact Nat.two_pow_pos w
    have ly:ev r w y < 2 ^ w:=tm_lt R (one_lt hw)
    rw [e1,yC_ R l2 (dbl_lt R l1),y3_ R l1,ih (x / 2) (by omega) y,zn_ (ev r w y) x R ly]
    congr 1
    split
    ·rfl
    ·have:∀ y,tm r w 0 y = 0:=by
      intro y
      induction y using Nat.strongRecOn with
      | _ y ihy =>
       by_cases hy:y = 0
       ·subst hy;exact tm_zero 0
       ·rw [tm_step,zm_,ihy (y / 2) (by omega)];simp
     exact this y
 have h:=key a b
 rw [show ev r w a = a from one_tm R hw ha,show ev r w b = b from one_tm R hw hb] at h
 exact h
theorem zero_tm (y:Nat):tm r w 0 y = 0:=by
 induction y using Nat.strongRecOn with
 | _ y ihy =>
  by_cases hy:y = 0
  ·subst hy;exact tm_zero 0
  ·rw [tm_step,zm_,ihy (y / 2) (by omega)];simp
theorem qaw_ (R:Rule r w) (hw:1 < w) {a z:Nat} (ha:a < 2 ^ w) (hz:z < 2 ^ w):tm r w a (dbl r w z) = dbl r w (tm r w a z):=by
 rw [tm_comm R hw ha (dbl_lt R hz),y3_ R hz,tm_comm R hw hz ha]
theorem tm_assoc (R:Rule r w) (hw:1 < w) {a b:Nat} (ha:a < 2 ^ w) (hb:b < 2 ^ w):∀ c,tm r w (tm r w a b) c = tm r w a (tm r w b c):=by
 intro c
 induction c using Nat.strongRecOn with
 | _ c ih =>
  by_cases h:c = 0
  ·subst h;simp [tm_zero]
  ·rw [zn_ _ c R (tm_lt R ha),zn_ b c R hb,tm_xor_right,qaw_ R hw ha (tm_lt R hb),ih (c / 2) (by omega)]
   congr 1
   split
   ·rfl
   ·exact (tm_zero a).symm
end GF
namespace GF
theorem qby_ (a b:Nat):(a &&& b) / 2 = (a / 2) &&& (b / 2):=by
 apply Nat.eq_of_testBit_eq
 intro i
 rw [Nat.testBit_and,← Nat.testBit_succ,← Nat.testBit_succ,← Nat.testBit_succ,Nat.testBit_and]
theorem qbz_ (a b:Nat):(a &&& b) % 2 = (a % 2) * (b % 2):=by
 have h:=Nat.testBit_and a b 0
 simp only [Nat.testBit_zero] at h
 rcases Nat.mod_two_eq_zero_or_one a with ha | ha <;> rcases Nat.mod_two_eq_zero_or_one b with hb | hb <;>
  rcases Nat.mod_two_eq_zero_or_one (a &&& b) with hc | hc <;> simp_all
theorem xor_add_and:∀ (a b:Nat),(a ^^^ b) + 2 * (a &&& b) = a + b:=by
 intro a
 induction a using Nat.strongRecOn with
 | _ a ih =>
  intro b
  by_cases h:a = 0
  ·subst h;simp
  ·have h1:=ih (a / 2) (by omega) (b / 2)
   have e1:=vA_ a b
   have e2:=qby_ a b
   have m1:=vB_ a b
   have m2:=qbz_ a b
   rcases Nat.mod_two_eq_zero_or_one a with ha | ha <;> rcases Nat.mod_two_eq_zero_or_one b with hb | hb <;> rw [ha,hb] at m1 m2 <;> omega
variable {r w:Nat}
structure Sum1 (r w a b i f:Nat):Prop where
 lt:f < 2 ^ (2 * w - 1)
 ev:ev r w f = tm r w a (b % 2 ^ i)
structure Sum2 (r w p i f:Nat):Prop where
 lt:f < 2 ^ (2 * w - 1 - i)
 ev:ev r w f = p
end GF
namespace GF
def it (r w:Nat):Nat->Nat
 | 0=>1
 | n + 1=>dbl r w (it r w n)
structure Good (r w:Nat):Prop where
 rule:Rule r w
 w4:4<=w
 w8:w<=8
 odd:r % 2 = 1
 lo16:16<=r
 hi511:r<=511
 back:it r w (2 ^ w - 1) = 1
 first:∀ n,1<=n->n < 2 ^ w - 1->it r w n ≠ 1
theorem Good.w1 {r w:Nat} (g:Good r w):1 < w:=Nat.lt_of_lt_of_le (by decide) g.w4
theorem Good.top16 {r w:Nat} (g:Good r w):16<=2 ^ w:=Nat.pow_le_pow_right (n:=2) (by decide) g.w4
theorem Good.top256 {r w:Nat} (g:Good r w):2 ^ w<=256:=Nat.pow_le_pow_right (n:=2) (by decide) g.w8
theorem Good.last1 {r w:Nat} (g:Good r w):1<=2 ^ w - 1:=by
 have:=g.top16
 omega
theorem it_lt {r w:Nat} (R:Rule r w) (hw:1 < w):∀ n,it r w n < 2 ^ w
 | 0=>one_lt hw
 | n + 1=>dbl_lt R (it_lt R hw n)
def yk_ (r w:Nat):Nat->Nat->Nat->Option Nat
 | 0,_,_=>none
 | fuel + 1,x,n=>if x = 1 then some n else yk_ r w fuel (dbl r w x) (n + 1)
theorem us_ {r w:Nat}:∀ {fuel n m:Nat},yk_ r w fuel (it r w n) n = some m->it r w m = 1/\∀ k,n<=k->k < m->it r w k ≠ 1:=by
 intro fuel
 induction fuel with
 | zero=>intro n m h;cases h
 | succ fuel ih =>
  intro n m h
  unfold yk_ at h
  split at h
  ·rename_i e
   cases h
   exact ⟨e,fun k h1 h2=>absurd h2 (by omega)⟩
  ·rename_i e
   obtain ⟨h1,h2⟩:=ih (n:=n + 1) h
   refine ⟨h1,fun k a b=>?_⟩
   by_cases q:k = n
   ·subst q;exact e
   ·exact h2 k (by omega) b
def rules:List Nat:=[19,25,37,41,47,55,59,61,67,91,97,103,109,115,131,137,143,145,157,167,171,185,191,193,
 203,211,213,229,239,241,247,253,285,299,301,333,351,355,357,361,369,391,397,425,451,463,487,501]
def chk (r:Nat):Bool:=decide (16<=r) && decide (r<=511) && decide (r % 2 = 1) && decide (4<=r.log2) && decide (r.log2<=8) && decide (2 ^ r.log2<=r) && decide (r < 2 ^ (r.log2 + 1)) &&
 decide (yk_ r r.log2 600 2 1 = some (2 ^ r.log2 - 1))
theorem qeq_:rules.all chk = true:=by decide +kernel
theorem qb0_ {r:Nat} (h:chk r = true):Good r r.log2:=by
 unfold chk at h
 simp only [Bool.and_eq_true,decide_eq_true_eq] at h
 obtain ⟨⟨⟨⟨⟨⟨⟨h1,h2⟩,h3⟩,h4⟩,h5⟩,h6⟩,h7⟩,h8⟩:=h
 have e:it r r.log2 1 = 2:=qib_ (by omega)
 have h9:yk_ r r.log2 600 (it r r.log2 1) 1 = some (2 ^ r.log2 - 1):=by rw [e];exact h8
 obtain ⟨b1,b2⟩:=us_ h9
 exact ⟨⟨h6,h7⟩,h4,h5,h3,h1,h2,b1,b2⟩
def ruleOf (c:Int):Nat:=rules.getD (c % 48).toNat 19
theorem qb1_ (c:Int):Good (ruleOf c) (ruleOf c).log2:=by
 apply qb0_
 have h:=List.all_eq_true.mp qeq_
 apply h
 unfold ruleOf
 have hl:rules.length = 48:=rfl
 have h1:(c % 48).toNat < rules.length:=by rw [hl];omega
 rw [List.getD_eq_getElem?_getD,List.getElem?_eq_getElem h1]
 exact List.getElem_mem h1
end GF
namespace GF
def mask (r w:Nat):Nat->Nat->Nat->Nat
 | 0,_,acc=>acc
 | fuel + 1,x,acc=>mask r w fuel (dbl r w x) (acc ||| 2 ^ x)
theorem qgd_ {r w:Nat}:∀ {fuel n acc b:Nat},(mask r w fuel (it r w n) acc).testBit b = true->acc.testBit b = true\/∃ k,it r w k = b:=by
 intro fuel
 induction fuel with
 | zero=>intro n acc b h;exact .inl h
 | succ fuel ih =>
  intro n acc b h
  rcases ih (n:=n + 1) h with q | q
  ·rw [Nat.testBit_or,Nat.testBit_two_pow,Bool.or_eq_true] at q
   rcases q with q | q
   ·exact .inl q
   ·exact .inr ⟨n,of_decide_eq_true q⟩
  ·exact .inr q
theorem qdh_:rules.all (fun r=>decide (mask r r.log2 (2 ^ r.log2 - 1) 1 0 = 2 ^ 2 ^ r.log2 - 2)) = true:=by decide +kernel
theorem qid_ {N b:Nat} (h0:0 < b) (h:b < N):(2 ^ N - 2).testBit b = true:=by
 obtain ⟨M,rfl⟩:∃ M,N = M + 1:=⟨N - 1,by omega⟩
 obtain ⟨c,rfl⟩:∃ c,b = c + 1:=⟨b - 1,by omega⟩
 have e:(2 ^ (M + 1) - 2) / 2 = 2 ^ M - 1:=by rw [Nat.pow_succ];omega
 rw [Nat.testBit_succ,e,Nat.testBit_two_pow_sub_one]
 exact decide_eq_true (by omega)
structure Full (r w:Nat):Prop extends Good r w where
 all:∀ x,0 < x->x < 2 ^ w->∃ n,it r w n = x
theorem ruleOf_full (c:Int):Full (ruleOf c) (ruleOf c).log2:=by
 refine ⟨qb1_ c,fun x h0 h=>?_⟩
 have hm:ruleOf c ∈ rules:=by
  unfold ruleOf
  have hl:rules.length = 48:=rfl
  have h1:(c % 48).toNat < rules.length:=by rw [hl];omega
  rw [List.getD_eq_getElem?_getD,List.getElem?_eq_getElem h1]
  exact List.getElem_mem h1
 have q:=of_decide_eq_true (List.all_eq_true.mp qdh_ _ hm)
 have b:=qid_ h0 h
 rw [<- q] at b
 rcases qgd_ (n:=0) b with z | z
 ·rw [Nat.zero_testBit] at z;cases z
 ·exact z
variable {r w:Nat}
theorem qb2_ (g:Good r w) {x:Nat} (hx:x < 2 ^ w) (h:dbl r w x = 0):x = 0:=by
 unfold dbl at h
 split at h
 ·have e:2 * x = r:=by
   have:=congrArg (· ^^^ r) h
   simp only [Nat.zero_xor,Nat.xor_assoc,Nat.xor_self,Nat.xor_zero] at this
   exact this
  have:=g.odd
  omega
 ·omega
theorem v9_ (g:Good r w) {y:Nat} (hy:y < 2 ^ w):∀ n,tm r w (it r w n) y = 0->y = 0
 | 0,h=>by rw [show it r w 0 = 1 from rfl,one_tm g.rule g.w1 hy] at h;exact h
 | n + 1,h=>by
  rw [show it r w (n + 1) = dbl r w (it r w n) from rfl,y3_ g.rule (it_lt g.rule g.w1 n)] at h
  exact v9_ g hy n (qb2_ g (tm_lt g.rule (it_lt g.rule g.w1 n)) h)
theorem tm_eq_zero (g:Full r w) {x y:Nat} (hx:x < 2 ^ w) (hy:y < 2 ^ w):tm r w x y = 0 ↔ (x = 0\/y = 0):=by
 constructor
 ·intro h
  by_cases h0:x = 0
  ·exact .inl h0
  ·obtain ⟨n,rfl⟩:=g.all x (by omega) hx
   exact .inr (v9_ g.toGood hy n h)
 ·rintro (rfl | rfl)
  ·exact zero_tm y
  ·exact tm_zero x
def pw (r w x:Nat):Nat->Nat
 | 0=>1
 | n + 1=>tm r w (pw r w x n) x
theorem pw_lt (g:Good r w) {x:Nat} (hx:x < 2 ^ w):∀ n,pw r w x n < 2 ^ w
 | 0=>one_lt g.w1
 | n + 1=>tm_lt g.rule (pw_lt g hx n)
theorem pw_add (g:Good r w) {x:Nat} (hx:x < 2 ^ w) (m:Nat):∀ n,pw r w x (m + n) = tm r w (pw r w x m) (pw r w x n)
 | 0=>by rw [Nat.add_zero,show pw r w x 0 = 1 from rfl,tm_one]
 | n + 1=>by
  rw [<- Nat.add_assoc]
  show tm r w (pw r w x (m + n)) x = tm r w (pw r w x m) (tm r w (pw r w x n) x)
  rw [pw_add g hx m n,tm_assoc g.rule g.w1 (pw_lt g hx m) (pw_lt g hx n)]
theorem pw_one (x:Nat) (g:Good r w) (hx:x < 2 ^ w):pw r w x 1 = x:=by
 show tm r w 1 x = x
 exact one_tm g.rule g.w1 hx
theorem ua_ (g:Good r w) {x:Nat} (hx:x < 2 ^ w) (m:Nat):∀ n,pw r w (pw r w x m) n = pw r w x (m * n)
 | 0=>by rw [Nat.mul_zero];rfl
 | n + 1=>by
  rw [Nat.mul_succ,pw_add g hx]
  show tm r w (pw r w (pw r w x m) n) (pw r w x m) = _
  rw [ua_ g hx m n]
theorem qdi_ (g:Good r w):∀ n,it r w n = pw r w 2 n
 | 0=>rfl
 | n + 1=>by
  show dbl r w (it r w n) = tm r w (pw r w 2 n) 2
  rw [qdi_ g n,qj0_]
theorem two_lt (g:Good r w):2 < 2 ^ w:=by have:=g.top16;omega
theorem qer_ (g:Good r w):∀ n,pw r w 1 n = 1
 | 0=>rfl
 | n + 1=>by
  show tm r w (pw r w 1 n) 1 = 1
  rw [qer_ g n,tm_one]
theorem qie_ (g:Full r w) {x:Nat} (h0:0 < x) (hx:x < 2 ^ w):pw r w x (2 ^ w - 1) = 1:=by
 obtain ⟨n,rfl⟩:=g.all x h0 hx
 rw [qdi_ g.toGood,ua_ g.toGood (two_lt g.toGood),Nat.mul_comm,← ua_ g.toGood (two_lt g.toGood),← qdi_ g.toGood,g.back,qer_ g.toGood]
theorem pw_back (g:Full r w) {x:Nat} (h0:0 < x) (hx:x < 2 ^ w):tm r w x (pw r w x (2 ^ w - 1 - 1)) = 1:=by
 have h:=qie_ g h0 hx
 have e:2 ^ w - 1 = 1 + (2 ^ w - 1 - 1):=by have:=g.top16;omega
 rw [e,pw_add g.toGood hx,pw_one x g.toGood hx] at h
 exact h
theorem pw_half (g:Good r w) {x:Nat} (hx:x < 2 ^ w) (n:Nat):pw r w (tm r w x x) n = pw r w x (2 * n):=by
 have e:tm r w x x = pw r w x 2:=by
  show _ = tm r w (tm r w 1 x) x
  rw [one_tm g.rule g.w1 hx]
 rw [e,ua_ g hx]
def prod (r w:Nat) (row:List Nat):Nat:=row.foldl (fun f x=>tm r w f x) 1
end GF
namespace GF
variable {r w:Nat}
theorem qb3_ {i j:Nat} (h:i ^^^ j = 0):i = j:=by
 have:=congrArg (· ^^^ j) h
 simp only [Nat.xor_assoc,Nat.xor_self,Nat.xor_zero,Nat.zero_xor] at this
 exact this
theorem tm_inj (g:Full r w) {x i j:Nat} (h0:x ≠ 0) (hx:x < 2 ^ w) (hi:i < 2 ^ w) (hj:j < 2 ^ w) (h:tm r w x i = tm r w x j):i = j:=by
 have e:tm r w x (i ^^^ j) = 0:=by rw [tm_xor_right,h,Nat.xor_self]
 rcases (tm_eq_zero g hx (Nat.xor_lt_two_pow hi hj)).mp e with z | z
 ·exact absurd z h0
 ·exact qb3_ z
end GF
namespace GF
def join (w:Nat):List Nat->Nat
 | []=>0
 | x :: xs=>join w xs * 2 ^ w + x
def syms (w:Nat):Nat->Nat->List Nat
 | 0,_=>[]
 | n + 1,b=>b % 2 ^ w :: syms w n (b / 2 ^ w)
theorem syms_length (w:Nat):∀ (n b:Nat),(syms w n b).length = n
 | 0,_=>rfl
 | n + 1,b=>by rw [syms,List.length_cons,syms_length w n]
theorem qcp_ {w:Nat}:∀ {n b x:Nat},x ∈ syms w n b->x < 2 ^ w
 | 0,b,x,h=>by simp [syms] at h
 | n + 1,b,x,h=>by
  rw [syms] at h
  rcases List.mem_cons.mp h with e | h
  ·rw [e];exact Nat.mod_lt _ (Nat.two_pow_pos w)
  ·exact qcp_ h
theorem uR_ {w:Nat}:∀ {row:List Nat},(∀ x ∈ row,x < 2 ^ w)->syms w row.length (join w row) = row
 | [],_=>rfl
 | x :: row,h=>by
  have hx:x < 2 ^ w:=h x List.mem_cons_self
  rw [List.length_cons,syms,join]
  have e1:(join w row * 2 ^ w + x) % 2 ^ w = x:=by rw [Nat.mul_comm,Nat.mul_add_mod,Nat.mod_eq_of_lt hx]
  have e2:(join w row * 2 ^ w + x) / 2 ^ w = join w row:=by
   rw [Nat.mul_comm,Nat.mul_add_div (Nat.two_pow_pos w),Nat.div_eq_of_lt hx,Nat.add_zero]
  rw [e1,e2,uR_ fun y hy=>h y (List.mem_cons_of_mem _ hy)]
theorem qcq_ {w:Nat}:∀ {row:List Nat},(∀ x ∈ row,x < 2 ^ w)->join w row < (2 ^ w) ^ row.length
 | [],_=>by simp [join]
 | x :: row,h=>by
  have hx:x < 2 ^ w:=h x List.mem_cons_self
  have ih:=qcq_ (row:=row) fun y hy=>h y (List.mem_cons_of_mem _ hy)
  rw [join,List.length_cons,Nat.pow_succ]
  have:(join w row + 1) * 2 ^ w<=(2 ^ w) ^ row.length * 2 ^ w:=Nat.mul_le_mul_right _ ih
  rw [Nat.add_mul,Nat.one_mul] at this
  omega
theorem uS_ {w:Nat}:∀ {n b:Nat},b < (2 ^ w) ^ n->join w (syms w n b) = b
 | 0,b,h=>by
  have:b = 0:=by simpa using h
  rw [this];rfl
 | n + 1,b,h=>by
  rw [syms,join,uS_ (n:=n) (b:=b / 2 ^ w)]
  ·rw [Nat.mul_comm];exact Nat.div_add_mod b (2 ^ w)
  ·rw [Nat.pow_succ] at h
   exact Nat.div_lt_of_lt_mul (by rw [Nat.mul_comm];exact h)
theorem ub_ (w:Nat):∀ (n:Nat) (f:Nat->Nat),f 0 = 0->join w ((syms w n 0).map f) = 0
 | 0,_,_=>rfl
 | n + 1,f,h=>by
  rw [syms,Nat.zero_mod,Nat.zero_div,List.map_cons,join,ub_ w n f h,h]
  simp
theorem uc_ {w x y a b:Nat} (hx:x < 2 ^ w) (hy:y < 2 ^ w):(a * 2 ^ w + x) ^^^ (b * 2 ^ w + y) = (a ^^^ b) * 2 ^ w + (x ^^^ y):=by
 apply Nat.eq_of_testBit_eq
 intro i
 rw [Nat.testBit_xor,Nat.mul_comm a,Nat.mul_comm b,Nat.mul_comm (a ^^^ b),Nat.testBit_two_pow_mul_add _ hx,Nat.testBit_two_pow_mul_add _ hy,Nat.testBit_two_pow_mul_add _ (Nat.xor_lt_two_pow hx hy)]
 split
 ·rw [Nat.testBit_xor]
 ·rw [Nat.testBit_xor]
theorem qax_ {w:Nat}:∀ {n:Nat}{f g:Nat->Nat}{b c:Nat},(∀ x,f x < 2 ^ w)->(∀ x,g x < 2 ^ w) →
  join w ((syms w n b).map f) ^^^ join w ((syms w n c).map g) = join w (List.zipWith (fun x y=>f x ^^^ g y) (syms w n b) (syms w n c))
 | 0,_,_,_,_,_,_=>by simp [syms,join]
 | n + 1,f,g,b,c,hf,hg=>by
  rw [syms,syms,List.map_cons,List.map_cons,List.zipWith_cons_cons,join,join,join,uc_ (hf _) (hg _),qax_ hf hg]
theorem qay_ {w:Nat}:∀ {n b k:Nat},k < n->(syms w n b)[k]? = some (b / (2 ^ w) ^ k % 2 ^ w)
 | 0,_,_,h=>absurd h (Nat.not_lt_zero _)
 | n + 1,b,0,_=>by rw [syms,Nat.pow_zero,Nat.div_one];rfl
 | n + 1,b,k + 1,h=>by
  rw [syms,List.getElem?_cons_succ,qay_ (by omega),Nat.div_div_eq_div_mul,Nat.pow_succ,Nat.mul_comm ((2 ^ w) ^ k)]
theorem qaz_ {w:Nat}:∀ {n b c:Nat},syms w n (b ^^^ c) = List.zipWith (fun x y=>x ^^^ y) (syms w n b) (syms w n c)
 | 0,_,_=>rfl
 | n + 1,b,c=>by
  rw [syms,syms,syms,List.zipWith_cons_cons]
  congr 1
  ·apply Nat.eq_of_testBit_eq
   intro i
   rw [Nat.testBit_xor,Nat.testBit_mod_two_pow,Nat.testBit_mod_two_pow,Nat.testBit_mod_two_pow,Nat.testBit_xor]
   by_cases h:i < w <;> simp [h]
  ·have e:(b ^^^ c) / 2 ^ w = b / 2 ^ w ^^^ c / 2 ^ w:=by
    apply Nat.eq_of_testBit_eq
    intro i
    rw [Nat.testBit_xor,Nat.testBit_div_two_pow,Nat.testBit_div_two_pow,Nat.testBit_div_two_pow,Nat.testBit_xor]
   rw [e,qaz_]
end GF
namespace GF
def sumB (r w n:Nat) (ps:List (Nat × Nat)):Nat:=ps.foldl (fun t p=>t ^^^ join w ((syms w n p.2).map (tm r w p.1))) 0
def dg (r w:Nat) (ps:List (Nat × Nat)) (k:Nat):Nat:=ps.foldl (fun t p=>t ^^^ tm r w (p.2 / (2 ^ w) ^ k % 2 ^ w) p.1) 0
theorem z5_ {α:Type} (F:α->Nat):∀ (ps:List α) (t:Nat),ps.foldl (fun t p=>t ^^^ F p) t = t ^^^ ps.foldl (fun t p=>t ^^^ F p) 0
 | [],t=>by simp
 | p :: ps,t=>by
  rw [List.foldl_cons,List.foldl_cons,z5_ F ps (t ^^^ F p),z5_ F ps (0 ^^^ F p),Nat.zero_xor,Nat.xor_assoc]
theorem sumB_append (r w n:Nat) (ps qs:List (Nat × Nat)):sumB r w n (ps ++ qs) = sumB r w n ps ^^^ sumB r w n qs:=by
 unfold sumB
 rw [List.foldl_append,z5_ (fun p:Nat × Nat=>join w ((syms w n p.2).map (tm r w p.1))) qs]
theorem syms_range (w n b:Nat):syms w n b = (List.range n).map fun k=>b / (2 ^ w) ^ k % 2 ^ w:=by
 apply List.ext_getElem?
 intro k
 by_cases h:k < n
 ·rw [qay_ h,List.getElem?_map,List.getElem?_range h]
  rfl
 ·rw [List.getElem?_eq_none (by rw [syms_length];omega),List.getElem?_eq_none (by simp;omega)]
theorem uT_ {w:Nat}{f g:Nat->Nat}:∀ (ks:List Nat),(∀ k,f k < 2 ^ w)->(∀ k,g k < 2 ^ w)->join w (ks.map f) ^^^ join w (ks.map g) = join w (ks.map fun k=>f k ^^^ g k)
 | [],_,_=>by simp [join]
 | k :: ks,hf,hg=>by
  rw [List.map_cons,List.map_cons,List.map_cons,join,join,join,uc_ (hf k) (hg k),uT_ ks hf hg]
theorem uU_ (w:Nat):∀ (ks:List Nat),join w (ks.map fun _=>0) = 0
 | []=>rfl
 | k :: ks=>by rw [List.map_cons,join,uU_ w ks];simp
theorem join_snoc (w:Nat):∀ (xs:List Nat) (x:Nat),join w (xs ++ [x]) = join w xs + x * (2 ^ w) ^ xs.length
 | [],x=>by simp [join]
 | y :: xs,x=>by
  rw [List.cons_append,join,join_snoc w xs,join,List.length_cons,Nat.pow_succ,Nat.add_mul,Nat.mul_assoc]
  omega
theorem sumB_snoc (r w n:Nat) (ps:List (Nat × Nat)) (p:Nat × Nat):sumB r w n (ps ++ [p]) = sumB r w n ps ^^^ join w ((syms w n p.2).map (tm r w p.1)):=by
 unfold sumB
 rw [List.foldl_append]
 rfl
end GF
namespace GF
variable {r w:Nat}
def dot (r w:Nat):Nat->(Nat->Nat)->(Nat->Nat)->Nat
 | 0,_,_=>0
 | n + 1,a,x=>dot r w n a x ^^^ tm r w (a n) (x n)
theorem dot_lt (R:Rule r w) {a x:Nat->Nat}:∀ n,(∀ k,k < n->a k < 2 ^ w)->dot r w n a x < 2 ^ w
 | 0,_=>Nat.two_pow_pos w
 | n + 1,h=>Nat.xor_lt_two_pow (dot_lt R n fun k hk=>h k (Nat.lt_succ_of_lt hk)) (tm_lt R (h n (Nat.lt_succ_self n)))
theorem dot_congr {a b x y:Nat->Nat}:∀ n,(∀ k,k < n->a k = b k/\x k = y k)->dot r w n a x = dot r w n b y
 | 0,_=>rfl
 | n + 1,h=>by
  rw [dot,dot,dot_congr n fun k hk=>h k (Nat.lt_succ_of_lt hk),(h n (Nat.lt_succ_self n)).1,(h n (Nat.lt_succ_self n)).2]
theorem vI_ (a:Nat->Nat):∀ n,dot r w n a (fun _=>0) = 0
 | 0=>rfl
 | n + 1=>by rw [dot,vI_ a n,tm_zero];rfl
theorem vo_ {a x:Nat->Nat}{p v:Nat} (hx:x p = 0):∀ n,dot r w n a (fun k=>if k = p then v else x k) = dot r w n a x ^^^ (if p < n then tm r w (a p) v else 0)
 | 0=>by
  rw [if_neg (Nat.not_lt_zero p),dot,dot]
  rfl
 | n + 1=>by
  rw [dot,dot,vo_ hx n]
  by_cases e:n = p
  ·subst e
   rw [if_neg (Nat.lt_irrefl n),if_pos rfl,if_pos (Nat.lt_succ_self n),hx,tm_zero,Nat.xor_zero]
  ·rw [if_neg e]
   by_cases h:p < n
   ·rw [if_pos h,if_pos (Nat.lt_succ_of_lt h),Nat.xor_assoc,Nat.xor_assoc,Nat.xor_comm (tm r w (a p) v)]
   ·rw [if_neg h,if_neg (by omega),Nat.xor_zero,Nat.xor_zero]
theorem dot_add (R:Rule r w) {a b x:Nat->Nat}:∀ n,(∀ k,k < n->a k < 2 ^ w/\b k < 2 ^ w)->dot r w n (fun k=>a k ^^^ b k) x = dot r w n a x ^^^ dot r w n b x
 | 0,_=>by rw [dot,dot,dot];rfl
 | n + 1,h=>by
  rw [dot,dot,dot,dot_add R n fun k hk=>h k (Nat.lt_succ_of_lt hk),yC_ R (h n (Nat.lt_succ_self n)).1 (h n (Nat.lt_succ_self n)).2]
  exact xor4 _ _ _ _
theorem dot_scale (R:Rule r w) (hw:1 < w) {a x:Nat->Nat}{c:Nat} (hc:c < 2 ^ w):∀ n,(∀ k,k < n->a k < 2 ^ w/\x k < 2 ^ w)->dot r w n (fun k=>tm r w (a k) c) x = tm r w (dot r w n a x) c
 | 0,_=>(zero_tm c).symm
 | n + 1,h=>by
  have hn:=h n (Nat.lt_succ_self n)
  have ih:=dot_scale R hw hc n fun k hk=>h k (Nat.lt_succ_of_lt hk)
  rw [dot,dot,ih,yC_ R (dot_lt R n fun k hk=>(h k (Nat.lt_succ_of_lt hk)).1) (tm_lt R hn.1)]
  congr 1
  rw [tm_assoc R hw hn.1 hc,tm_comm R hw hc hn.2,← tm_assoc R hw hn.1 hn.2]
theorem yN_ (R:Rule r w) (hw:1 < w) {a x:Nat->Nat}{c:Nat}:∀ n,(∀ k,k < n->a k < 2 ^ w/\x k < 2 ^ w)->dot r w n a (fun k=>tm r w (x k) c) = tm r w (dot r w n a x) c
 | 0,_=>(zero_tm c).symm
 | n + 1,h=>by
  have hn:=h n (Nat.lt_succ_self n)
  have ih:=yN_ R hw (c:=c) n fun k hk=>h k (Nat.lt_succ_of_lt hk)
  rw [dot,dot,ih,yC_ R (dot_lt R n fun k hk=>(h k (Nat.lt_succ_of_lt hk)).1) (tm_lt R hn.1),tm_assoc R hw hn.1 hn.2]
theorem qa0_ {a x y:Nat->Nat}:∀ n,dot r w n a (fun k=>x k ^^^ y k) = dot r w n a x ^^^ dot r w n a y
 | 0=>by rw [dot,dot,dot];rfl
 | n + 1=>by
  rw [dot,dot,dot,qa0_ n,tm_xor_right]
  exact xor4 _ _ _ _
structure Tab (r w N M:Nat) (L:Nat->Nat->Nat) (T:Nat->Nat->Nat):Prop where
 lt:∀ i k,i < M->k < N + M->T i k < 2 ^ w
 of:∀ i k,i < M->k < N->T i k = dot r w M (fun j=>L j k) (fun j=>T i (N + j))
 keep:∀ x:Nat->Nat,(∀ k,k < N->x k < 2 ^ w)->(∀ i,i < M->dot r w N (T i) x = 0)->∀ j,j < M->dot r w N (L j) x = 0
def swapT (T:Nat->Nat->Nat) (h f:Nat):Nat->Nat->Nat:=fun i=>if i = h then T f else if i = f then T h else T i
def clearT (r w:Nat) (T:Nat->Nat->Nat) (h p c:Nat):Nat->Nat->Nat:=fun i k=>if i = h then tm r w (T h k) c else T i k ^^^ tm r w (tm r w (T h k) c) (T i p)
theorem vJ_ {T:Nat->Nat->Nat}{h f M i:Nat} (hh:h < M) (hf:f < M) (hi:i < M):∃ j,j < M/\swapT T h f i = T j:=by
 unfold swapT
 by_cases e:i = h
 ·exact ⟨f,hf,by rw [if_pos e]⟩
 ·by_cases e2:i = f
  ·exact ⟨h,hh,by rw [if_neg e,if_pos e2]⟩
  ·exact ⟨i,hi,by rw [if_neg e,if_neg e2]⟩
theorem Tab.swap {N M:Nat}{L T:Nat->Nat->Nat} (t:Tab r w N M L T) {h f:Nat} (hh:h < M) (hf:f < M):Tab r w N M L (swapT T h f):=by
 refine ⟨fun i k hi hk=>?_,fun i k hi hk=>?_,fun x hx hz=>t.keep x hx fun i hi=>?_⟩
 ·obtain ⟨j,hj,e⟩:=vJ_ (T:=T) hh hf hi
  rw [e]
  exact t.lt j k hj hk
 ·obtain ⟨j,hj,e⟩:=vJ_ (T:=T) hh hf hi
  rw [e]
  exact t.of j k hj hk
 ·by_cases e:i = h
  ·have:=hz f hf
   unfold swapT at this
   by_cases e2:f = h
   ·rw [if_pos e2,e2] at this
    rw [e]
    exact this
   ·rw [if_neg e2,if_pos rfl] at this
    rw [e]
    exact this
  ·by_cases e2:i = f
   ·have:=hz h hh
    unfold swapT at this
    rw [if_pos rfl] at this
    rw [e2]
    exact this
   ·have:=hz i hi
    unfold swapT at this
    rw [if_neg e,if_neg e2] at this
    exact this
theorem Tab.clear {N M:Nat}{L T:Nat->Nat->Nat} (g:Full r w) (t:Tab r w N M L T) (hL:∀ j k,j < M->k < N->L j k < 2 ^ w) {h p c:Nat} (hh:h < M) (hp:p < N) (hc:c < 2 ^ w) (hc0:c ≠ 0):Tab r w N M L (clearT r w T h p c):=by
 have R:=g.rule
 have hw:=g.w1
 refine ⟨fun i k hi hk=>?_,fun i k hi hk=>?_,fun x hx hz=>t.keep x hx ?_⟩
 ·unfold clearT
  by_cases e:i = h
  ·rw [if_pos e]
   exact tm_lt R (t.lt h k hh hk)
  ·rw [if_neg e]
   exact Nat.xor_lt_two_pow (t.lt i k hi hk) (tm_lt R (tm_lt R (t.lt h k hh hk)))
 ·unfold clearT
  by_cases e:i = h
  ·simp only [if_pos e]
   rw [t.of h k hh hk,← yN_ R hw M fun j hj=>⟨hL j k hj hk,t.lt h (N + j) hh (by omega)⟩]
  ·simp only [if_neg e]
   rw [qa0_,yN_ R hw M fun j hj=>⟨hL j k hj hk,tm_lt R (t.lt h (N + j) hh (by omega))⟩,yN_ R hw M fun j hj=>⟨hL j k hj hk,t.lt h (N + j) hh (by omega)⟩,← t.of i k hi hk,← t.of h k hh hk]
 ·have hTN:∀ i k,i < M->k < N->T i k < 2 ^ w:=fun i k hi hk=>t.lt i k hi (by omega)
  have hd:∀ i,i < M->dot r w N (T i) x < 2 ^ w:=fun i hi=>dot_lt R N fun k hk=>hTN i k hi hk
  have h1:dot r w N (T h) x = 0:=by
   have z:=hz h hh
   have e:dot r w N (clearT r w T h p c h) x = tm r w (dot r w N (T h) x) c:=by
    rw [<- dot_scale R hw hc N fun k hk=>⟨hTN h k hh hk,hx k hk⟩]
    exact dot_congr N fun k _=>⟨by unfold clearT;rw [if_pos rfl],rfl⟩
   rw [e] at z
   rcases (tm_eq_zero g (hd h hh) hc).mp z with y | y
   ·exact y
   ·exact absurd y hc0
  intro i hi
  by_cases e:i = h
  ·rw [e]
   exact h1
  ·have z:=hz i hi
   have e2:dot r w N (clearT r w T h p c i) x = dot r w N (T i) x ^^^ tm r w (tm r w (dot r w N (T h) x) c) (T i p):=by
    rw [<- dot_scale R hw hc N fun k hk=>⟨hTN h k hh hk,hx k hk⟩,← dot_scale R hw (hTN i p hi hp) N fun k hk=>⟨tm_lt R (hTN h k hh hk),hx k hk⟩,← dot_add R N fun k hk=>⟨hTN i k hi hk,tm_lt R (tm_lt R (hTN h k hh hk))⟩]
    exact dot_congr N fun k _=>⟨by unfold clearT;rw [if_neg e],rfl⟩
   rw [e2,h1,zero_tm,zero_tm,Nat.xor_zero] at z
   exact z
structure Piv (N M:Nat) (T:Nat->Nat->Nat) (hs:List Nat) (Z:Nat->Prop):Prop where
 hl:hs.length<=M
 lt:∀ t p:Nat,hs[t]? = some p->p < N
 one:∀ t p:Nat,hs[t]? = some p->∀ i,i < M->T i p = if i = t then 1 else 0
 zero:∀ k,Z k->∀ i,hs.length<=i->i < M->T i k = 0
section
variable {N M:Nat}{L T:Nat->Nat->Nat}{hs:List Nat}{Z:Nat->Prop}{p c f:Nat}
theorem Piv.start:Piv N M T [] (fun _=>False):=⟨Nat.zero_le _,fun t p h=>by simp at h,fun t p h=>by simp at h,fun k z=>z.elim⟩
theorem Piv.weaken {Z':Nat->Prop} (h:Piv N M T hs Z) (e:∀ k,Z' k->Z k):Piv N M T hs Z':=⟨h.hl,h.lt,h.one,fun k z=>h.zero k (e k z)⟩
theorem Piv.skip (h:Piv N M T hs Z) (hz:∀ i,hs.length<=i->i < M->T i p = 0):Piv N M T hs (fun k=>Z k\/k = p) :=
 ⟨h.hl,h.lt,h.one,fun k z=>z.elim (h.zero k) fun e=>by rw [e];exact hz⟩
theorem Piv.step (g:Full r w) (h:Piv N M T hs Z) (t:Tab r w N M L T) (hp:p < N) (hf:hs.length<=f) (hfM:f < M) (hc:c < 2 ^ w) (hinv:tm r w (T f p) c = 1) :
  Piv N M (clearT r w (swapT T hs.length f) hs.length p c) (hs ++ [p]) (fun k=>Z k\/k = p):=by
 have R:=g.rule
 have hw:=g.w1
 have hhM:hs.length < M:=by omega
 have T1h:swapT T hs.length f hs.length = T f:=by unfold swapT;rw [if_pos rfl]
 have ge:∀ i,hs.length<=i->i < M->∃ j,hs.length<=j/\j < M/\swapT T hs.length f i = T j:=fun i h1 h2=>by
  unfold swapT
  by_cases e:i = hs.length
  ·exact ⟨f,hf,hfM,by rw [if_pos e]⟩
  ·by_cases e2:i = f
   ·exact ⟨hs.length,Nat.le_refl _,hhM,by rw [if_neg e,if_pos e2]⟩
   ·exact ⟨i,h1,h2,by rw [if_neg e,if_neg e2]⟩
 have lo:∀ i,i < hs.length->swapT T hs.length f i = T i:=fun i h1=>by
  unfold swapT
  rw [if_neg (by omega),if_neg (by omega)]
 have col:∀ k,(∀ i,hs.length<=i->i < M->T i k = 0)->∀ i,i < M->clearT r w (swapT T hs.length f) hs.length p c i k = if i < hs.length then T i k else 0:=fun k hz i hi=>by
  unfold clearT
  rw [T1h,hz f hf hfM,zero_tm,zero_tm]
  by_cases e:i = hs.length
  ·rw [if_pos e,if_neg (by omega)]
  ·rw [if_neg e,Nat.xor_zero]
   by_cases e2:i < hs.length
   ·rw [if_pos e2,lo i e2]
   ·obtain ⟨j,j1,j2,ej⟩:=ge i (by omega) hi
    rw [if_neg e2,ej,hz j j1 j2]
 have colp:∀ i,i < M->clearT r w (swapT T hs.length f) hs.length p c i p = if i = hs.length then 1 else 0:=fun i hi=>by
  unfold clearT
  rw [T1h,hinv]
  by_cases e:i = hs.length
  ·rw [if_pos e,if_pos e]
  ·obtain ⟨j,j2,ej⟩:=vJ_ (T:=T) (h:=hs.length) (f:=f) hhM hfM hi
   rw [if_neg e,if_neg e,ej,one_tm R hw (t.lt j p j2 (by omega)),Nat.xor_self]
 refine ⟨by rw [List.length_append];simp;omega,fun t' q e=>?_,fun t' q e i hi=>?_,fun k z i h1 h2=>?_⟩
 ·rw [List.getElem?_append] at e
  split at e
  ·exact h.lt t' q e
  ·have:q = p:=by
    cases ht:t' - hs.length with
    | zero=>rw [ht] at e;simpa using e.symm
    | succ m=>rw [ht] at e;simp at e
   rw [this]
   exact hp
 ·rw [List.getElem?_append] at e
  split at e
  ·rename_i hlt
   have hz:∀ i,hs.length<=i->i < M->T i q = 0:=fun i h1 h2=>by
    rw [h.one t' q e i h2,if_neg (by omega)]
   rw [col q hz i hi]
   by_cases e2:i < hs.length
   ·rw [if_pos e2]
    exact h.one t' q e i hi
   ·rw [if_neg e2,if_neg (by omega)]
  ·rename_i hge
   have ht:t' = hs.length/\q = p:=by
    cases ht:t' - hs.length with
    | zero=>rw [ht] at e;exact ⟨by omega,by simpa using e.symm⟩
    | succ m=>rw [ht] at e;simp at e
   rw [ht.2,ht.1]
   exact colp i hi
 ·rw [List.length_append] at h1
  have h1':hs.length < i:=by simp at h1;omega
  rcases z with z | z
  ·rw [col k (h.zero k z) i h2,if_neg (by omega)]
  ·rw [z,colp i h2,if_neg (by omega)]
theorem reckoned_ok (g:Full r w) (t:Tab r w N M L T) (hL:∀ j k,j < M->k < N->L j k < 2 ^ w) (h:Piv N M T hs Z) (hf:hs.length<=f) (hfM:f < M) (hp:p < N) (hinv:tm r w (T f p) c = 1) :
  (dot r w M (fun j=>L j p) (fun j=>tm r w (T f (N + j)) c) = 1)/\∀ k,k < N->Z k->dot r w M (fun j=>L j k) (fun j=>tm r w (T f (N + j)) c) = 0:=by
 have R:=g.rule
 have e:∀ k,k < N->dot r w M (fun j=>L j k) (fun j=>tm r w (T f (N + j)) c) = tm r w (T f k) c:=fun k hk=>by
  rw [yN_ R g.w1 M fun j hj=>⟨hL j k hj hk,t.lt f (N + j) hfM (by omega)⟩,← t.of f k hfM hk]
 refine ⟨by rw [e p hp];exact hinv,fun k hk z=>?_⟩
 rw [e k hk,h.zero k z f hf hfM,zero_tm]
def makeX (T:Nat->Nat->Nat) (hs:List Nat) (p:Nat):Nat->Nat->Nat
 | 0=>fun k=>if k = p then 1 else 0
 | t + 1=>fun k=>if k = hs.getD t 0 then T t p else makeX T hs p t k
theorem makeX_none {k:Nat} (hkp:k ≠ p):∀ t,t<=hs.length->(∀ s,s < t->hs.getD s 0 ≠ k)->makeX T hs p t k = 0
 | 0,_,_=>by unfold makeX;rw [if_neg hkp]
 | t + 1,ht,h=>by
  unfold makeX
  rw [if_neg (fun z=>h t (Nat.lt_succ_self t) z.symm)]
  exact makeX_none hkp t (by omega) fun s hs'=>h s (by omega)
theorem makeX_place:∀ t,t<=hs.length->(∀ s,s < t->hs.getD s 0 ≠ p)->makeX T hs p t p = 1
 | 0,_,_=>by unfold makeX;rw [if_pos rfl]
 | t + 1,ht,h=>by
  unfold makeX
  rw [if_neg (fun z=>h t (Nat.lt_succ_self t) z.symm)]
  exact makeX_place t (by omega) fun s hs'=>h s (by omega)
theorem getD_at {t:Nat} (h:t < hs.length):hs[t]? = some (hs.getD t 0):=by
 rw [List.getD_eq_getElem?_getD,List.getElem?_eq_getElem h]
 rfl
theorem qa1_ (g:Full r w) (t:Tab r w N M L T) (h:Piv N M T hs Z) (hp:p < N) (hnp:∀ s,s < hs.length->hs.getD s 0 ≠ p) {i:Nat} (hi:i < M):∀ q,q<=hs.length->dot r w N (T i) (makeX T hs p q) = T i p ^^^ (if i < q then T i p else 0)
 | 0,_=>by
  rw [if_neg (Nat.not_lt_zero i),Nat.xor_zero]
  have e:dot r w N (T i) (fun k=>if k = p then 1 else (fun _=>0) k) = _:=vo_ (x:=fun _=>0) (p:=p) (v:=1) rfl N
  rw [vI_,Nat.zero_xor,if_pos hp,tm_one] at e
  exact e
 | q + 1,hq=>by
  have R:=g.rule
  have hq':q < hs.length:=hq
  have dup:∀ s,s < q->hs.getD s 0 ≠ hs.getD q 0:=fun s hs' z=>by
   have a1:=h.one s _ (getD_at (by omega)) s (by have:=h.hl;omega)
   have a2:=h.one q _ (getD_at hq') s (by have:=h.hl;omega)
   rw [z,a2,if_pos rfl,if_neg (by omega)] at a1
   exact absurd a1 (by decide)
  have e:dot r w N (T i) (makeX T hs p (q + 1)) = _:=vo_ (x:=makeX T hs p q) (p:=hs.getD q 0) (v:=T q p) (makeX_none (hnp q hq') q (by omega) dup) N
  rw [if_pos (h.lt q _ (getD_at hq')),qa1_ g t h hp hnp hi q (by omega),h.one q _ (getD_at hq') i hi] at e
  rw [e]
  by_cases z:i = q
  ·subst z
   rw [if_pos rfl,if_neg (Nat.lt_irrefl i),if_pos (Nat.lt_succ_self i),one_tm R g.w1 (t.lt i p hi (by omega)),Nat.xor_zero]
  ·rw [if_neg z,zero_tm,Nat.xor_zero]
   by_cases z2:i < q
   ·rw [if_pos z2,if_pos (by omega)]
   ·rw [if_neg z2,if_neg (by omega)]
theorem makeX_lt (g:Full r w) (t:Tab r w N M L T) (h:Piv N M T hs Z) (hp:p < N) (k:Nat):∀ q,q<=hs.length->makeX T hs p q k < 2 ^ w
 | 0,_=>by
  have:=g.top16
  unfold makeX
  split <;> omega
 | q + 1,hq=>by
  unfold makeX
  split
  ·exact t.lt q p (by have:=h.hl;omega) (by omega)
  ·exact makeX_lt g t h hp k q (by omega)
theorem free_ok (g:Full r w) (t:Tab r w N M L T) (h:Piv N M T hs Z) (hp:p < N) (hnp:∀ s,s < hs.length->hs.getD s 0 ≠ p) (hz:∀ i,hs.length<=i->i < M->T i p = 0):∀ j,j < M->dot r w N (L j) (makeX T hs p hs.length) = 0:=by
 refine t.keep _ (fun k _=>makeX_lt g t h hp k _ (Nat.le_refl _)) fun i hi=>?_
 rw [qa1_ g t h hp hnp hi _ (Nat.le_refl _)]
 by_cases z:i < hs.length
 ·rw [if_pos z,Nat.xor_self]
 ·rw [if_neg z,hz i (by omega) hi]
  rfl
theorem Tab.start (g:Full r w) (hL:∀ j k,j < M->k < N->L j k < 2 ^ w) (h1:∀ i k,i < M->k < N->T i k = L i k) (h2:∀ i j,i < M->j < M->T i (N + j) = if j = i then 1 else 0):Tab r w N M L T:=by
 have t16:=g.top16
 refine ⟨fun i k hi hk=>?_,fun i k hi hk=>?_,fun x hx hz j hj=>?_⟩
 ·by_cases e:k < N
  ·rw [h1 i k hi e]
   exact hL i k hi e
  ·obtain ⟨j,rfl⟩:∃ j,k = N + j:=⟨k - N,by omega⟩
   rw [h2 i j hi (by omega)]
   split <;> omega
 ·have e:dot r w M (fun j=>L j k) (fun j=>if j = i then 1 else (fun _=>0) j) = _:=vo_ (x:=fun _=>0) (p:=i) (v:=1) rfl M
  rw [vI_,Nat.zero_xor,if_pos hi,tm_one] at e
  rw [h1 i k hi hk,← e]
  exact (dot_congr M fun j hj=>⟨rfl,(h2 i j hi hj).symm⟩)
 ·rw [<- hz j hj]
  exact dot_congr N fun k hk=>⟨(h1 j k hj hk).symm,rfl⟩
end
end GF
namespace GF
structure Odd (r w n:Nat):Prop where
 rule:Rule r w
 w4:4<=w
 w8:w<=8
 odd:r % 2 = 1
 lo16:16<=r
 hi511:r<=511
 n1:1<=n
 n255:n<=255
 back:it r w n = 1
 first:∀ k,1<=k->k < n->it r w k ≠ 1
def oddN (r:Nat):Nat:=(yk_ r r.log2 600 2 1).getD 0
def qly_ (r:Nat):Bool:=decide (r < 16) || decide (r % 2 = 0) || (decide (4<=r.log2) && decide (r.log2<=8) && decide (2 ^ r.log2<=r) && decide (r < 2 ^ (r.log2 + 1)) &&
 decide (yk_ r r.log2 600 2 1 = some (oddN r)) && decide (1<=oddN r) && decide (oddN r<=255))
end GF
namespace GF
variable {r w:Nat}
def sc (r w n f b:Nat):Nat:=join w ((syms w n b).map (tm r w f))
theorem qlc_ (R:Rule r w) {n f b:Nat} (hf:f < 2 ^ w):sc r w n f b < (2 ^ w) ^ n:=by
 unfold sc
 have:=qcq_ (w:=w) (row:=(syms w n b).map (tm r w f)) fun x hx=>by
  obtain ⟨y,_,rfl⟩:=List.mem_map.mp hx
  exact tm_lt R hf
 rw [List.length_map,syms_length] at this
 exact this
theorem qj1_ (R:Rule r w) {n f b c:Nat} (hf:f < 2 ^ w):sc r w n f (b ^^^ c) = sc r w n f b ^^^ sc r w n f c:=by
 unfold sc
 rw [qax_ (fun x=>tm_lt R hf) (fun x=>tm_lt R hf),qaz_,List.map_zipWith]
 congr 2
 funext x y
 exact tm_xor_right
theorem sc_zero {n b:Nat}:sc r w n 0 b = 0:=by
 unfold sc
 have:(syms w n b).map (tm r w 0) = (List.range n).map fun _=>0:=by
  rw [syms_range,List.map_map]
  exact List.map_congr_left fun k _=>zero_tm _
 rw [this,uU_]
theorem ud_ {n f:Nat}:sc r w n f 0 = 0:=ub_ w n _ (tm_zero f)
theorem sc_one (R:Rule r w) (hw:1 < w) {n b:Nat} (hb:b < (2 ^ w) ^ n):sc r w n 1 b = b:=by
 unfold sc
 have:(syms w n b).map (tm r w 1) = syms w n b:=by
  conv=>rhs;rw [<- List.map_id (syms w n b)]
  exact List.map_congr_left fun x hx=>one_tm R hw (qcp_ hx)
 rw [this,uS_ hb]
theorem uV_ {n:Nat} (p:Nat × Nat) (ps:List (Nat × Nat)):sumB r w n (p :: ps) = sc r w n p.1 p.2 ^^^ sumB r w n ps:=by
 rw [show p :: ps = [p] ++ ps from rfl,sumB_append]
 congr 1
 exact Nat.zero_xor _
theorem qa2_ {n:Nat}:sumB r w n [] = 0:=rfl
theorem sumB_lt (R:Rule r w) {n:Nat}:∀ {fs bs:List Nat},(∀ f ∈ fs,f < 2 ^ w)->sumB r w n (fs.zip bs) < (2 ^ w) ^ n
 | [],bs,_=>by
  rw [List.zip_nil_left,qa2_]
  exact Nat.pow_pos (Nat.two_pow_pos w)
 | _ :: _,[],_=>by
  rw [List.zip_nil_right,qa2_]
  exact Nat.pow_pos (Nat.two_pow_pos w)
 | f :: fs,b :: bs,h=>by
  rw [List.zip_cons_cons,uV_,← Nat.pow_mul]
  refine Nat.xor_lt_two_pow ?_ ?_
  ·rw [Nat.pow_mul];exact qlc_ R (h f List.mem_cons_self)
  ·rw [Nat.pow_mul];exact sumB_lt R fun x hx=>h x (List.mem_cons_of_mem _ hx)
theorem sumB_unit (R:Rule r w) (hw:1 < w) {n t:Nat}:∀ (M s:Nat) (bs:List Nat),bs.length = M->(∀ b ∈ bs,b < (2 ^ w) ^ n)->sumB r w n (((List.range M).map fun j=>if j + s = t then 1 else 0).zip bs) = if s<=t/\t < s + M then bs.getD (t - s) 0 else 0
 | 0,s,bs,_,_=>by
  rw [if_neg (by omega)]
  rfl
 | M + 1,s,[],hl,_=>by simp at hl
 | M + 1,s,b :: bs,hl,h=>by
  have ih:=sumB_unit R hw (n:=n) (t:=t) M (s + 1) bs (by simpa using hl) fun x hx=>h x (List.mem_cons_of_mem _ hx)
  rw [List.range_succ_eq_map,List.map_cons,List.map_map,List.zip_cons_cons,uV_]
  have e:((fun j=>if j + s = t then 1 else 0) ∘ Nat.succ) = fun j=>if j + (s + 1) = t then 1 else 0:=by
   funext j
   show (if j + 1 + s = t then 1 else 0) = _
   rw [show j + 1 + s = j + (s + 1) by omega]
  rw [e,ih]
  dsimp only
  by_cases z:s = t
  ·subst z
   rw [if_pos (by omega),if_neg (by omega),if_pos (by omega),Nat.xor_zero,Nat.sub_self,sc_one R hw (h b List.mem_cons_self)]
   rfl
  ·rw [if_neg (by omega),sc_zero,Nat.zero_xor]
   by_cases y:s + 1<=t/\t < s + 1 + M
   ·rw [if_pos y,if_pos (by omega)]
    rw [show t - s = (t - (s + 1)) + 1 by omega]
    rfl
   ·rw [if_neg y,if_neg (by omega)]
end GF
namespace GF
variable {r w:Nat}
def xsum:Nat->(Nat->Nat)->Nat
 | 0,_=>0
 | n + 1,F=>xsum n F ^^^ F n
theorem zM_ {F G:Nat->Nat}:∀ n,(∀ k,k < n->F k = G k)->xsum n F = xsum n G
 | 0,_=>rfl
 | n + 1,h=>by rw [xsum,xsum,zM_ n fun k hk=>h k (Nat.lt_succ_of_lt hk),h n (Nat.lt_succ_self n)]
theorem xsum_xor (F G:Nat->Nat):∀ n,xsum n (fun k=>F k ^^^ G k) = xsum n F ^^^ xsum n G
 | 0=>(Nat.xor_self 0).symm
 | n + 1=>by rw [xsum,xsum,xsum,xsum_xor F G n];exact xor4 _ _ _ _
theorem uW_:∀ n,xsum n (fun _=>0) = 0
 | 0=>rfl
 | n + 1=>by rw [xsum,uW_ n];rfl
theorem xsum_single {n p:Nat}{F:Nat->Nat} (hp:p < n) (h:∀ k,k < n->k ≠ p->F k = 0):xsum n F = F p:=by
 have key:∀ m,m<=n->xsum m F = if p < m then F p else 0:=by
  intro m
  induction m with
  | zero=>intro _;rw [if_neg (Nat.not_lt_zero _)];rfl
  | succ m ih =>
   intro hm
   rw [xsum,ih (by omega)]
   by_cases z:m = p
   ·subst z
    rw [if_neg (Nat.lt_irrefl _),if_pos (Nat.lt_succ_self _),Nat.zero_xor]
   ·rw [h m (by omega) z,Nat.xor_zero]
    by_cases y:p < m
    ·rw [if_pos y,if_pos (by omega)]
    ·rw [if_neg y,if_neg (by omega)]
 rw [key n (Nat.le_refl _),if_pos hp]
theorem qj2_ (R:Rule r w) {n f g b:Nat} (hf:f < 2 ^ w) (hg:g < 2 ^ w):sc r w n (f ^^^ g) b = sc r w n f b ^^^ sc r w n g b:=by
 unfold sc
 rw [syms_range,List.map_map,List.map_map,List.map_map]
 refine Eq.trans ?_ (uT_ (f:=tm r w f ∘ fun k=>b / (2 ^ w) ^ k % 2 ^ w) (g:=tm r w g ∘ fun k=>b / (2 ^ w) ^ k % 2 ^ w) _ (fun k=>tm_lt R hf) (fun k=>tm_lt R hg)).symm
 congr 1
 exact List.map_congr_left fun k _=>yC_ R hf hg
theorem qld_ (R:Rule r w) (hw:1 < w) {n f g b:Nat} (hf:f < 2 ^ w) (hg:g < 2 ^ w):sc r w n f (sc r w n g b) = sc r w n (tm r w f g) b:=by
 unfold sc
 have h:=uR_ (w:=w) (row:=(syms w n b).map (tm r w g)) fun x hx=>by
  obtain ⟨y,_,rfl⟩:=List.mem_map.mp hx
  exact tm_lt R hg
 rw [List.length_map,syms_length] at h
 rw [h,List.map_map]
 congr 1
 exact List.map_congr_left fun d _=>(tm_assoc R hw hf hg d).symm
theorem qcr_ (R:Rule r w) {n f:Nat} (hf:f < 2 ^ w) (F:Nat->Nat):∀ m,sc r w n f (xsum m F) = xsum m (fun k=>sc r w n f (F k))
 | 0=>ud_
 | m + 1=>by rw [xsum,xsum,qj1_ R hf,qcr_ R hf F m]
theorem sumB_range {n:Nat} (f x:Nat->Nat):∀ (m:Nat),sumB r w n (((List.range m).map f).zip ((List.range m).map x)) = xsum m (fun k=>sc r w n (f k) (x k))
 | 0=>rfl
 | m + 1=>by
  rw [List.range_succ,List.map_append,List.map_append,List.zip_append (by rw [List.length_map,List.length_map]),sumB_append,sumB_range f x m,xsum]
  congr 1
  exact Nat.zero_xor _
theorem list_range (X:List Nat):X = (List.range X.length).map fun k=>X.getD k 0:=by
 apply List.ext_getElem?
 intro k
 rw [List.getElem?_map]
 by_cases h:k < X.length
 ·rw [List.getElem?_range h,List.getElem?_eq_getElem h]
  show some _ = some (X.getD k 0)
  rw [List.getD_eq_getElem?_getD,List.getElem?_eq_getElem h]
  rfl
 ·rw [List.getElem?_eq_none (by omega),List.getElem?_eq_none (by rw [List.length_range];omega)]
  rfl
theorem sumB_filter {n:Nat} (b:Nat->Bool) (f x:Nat->Nat):∀ m,sumB r w n (((List.range m).filter b).map fun k=>(f k,x k)) = xsum m (fun k=>if b k = true then sc r w n (f k) (x k) else 0)
 | 0=>rfl
 | m + 1=>by
  rw [List.range_succ,List.filter_append,List.map_append,sumB_append,sumB_filter b f x m,xsum]
  congr 1
  by_cases z:b m = true
  ·rw [List.filter_cons_of_pos z,List.filter_nil,if_pos z]
   exact Nat.zero_xor _
  ·rw [List.filter_cons_of_neg z,List.filter_nil,if_neg z]
   rfl
theorem lines_zero (R:Rule r w) (hw:1 < w) {n m:Nat}{e:Nat->Nat->Nat}{x y:Nat->Nat}:∀ (M:Nat),(∀ t j,t < M->j < m->e t j < 2 ^ w)->(∀ t,t < M->y t < 2 ^ w)->(∀ t,t < M->xsum m (fun j=>sc r w n (e t j) (x j)) = 0)->xsum m (fun j=>sc r w n (dot r w M (fun t=>e t j) y) (x j)) = 0
 | 0,_,_,_=>by
  have:xsum m (fun j=>sc r w n (dot r w 0 (fun t=>e t j) y) (x j)) = xsum m (fun _=>0):=zM_ m fun j _=>sc_zero
  rw [this,uW_]
 | M + 1,he,hy,h0=>by
  have ih:=lines_zero R hw M (fun t j ht hj=>he t j (Nat.lt_succ_of_lt ht) hj) (fun t ht=>hy t (Nat.lt_succ_of_lt ht)) fun t ht=>h0 t (Nat.lt_succ_of_lt ht)
  have e1:xsum m (fun j=>sc r w n (dot r w (M + 1) (fun t=>e t j) y) (x j)) = xsum m (fun j=>sc r w n (dot r w M (fun t=>e t j) y) (x j) ^^^ sc r w n (y M) (sc r w n (e M j) (x j))):=zM_ m fun j hj=>by
   have hm:=he M j (Nat.lt_succ_self M) hj
   have hyM:=hy M (Nat.lt_succ_self M)
   rw [dot,qj2_ R (dot_lt R M fun t ht=>he t j (Nat.lt_succ_of_lt ht) hj) (tm_lt R hm),qld_ R hw hyM hm,tm_comm R hw hyM hm]
  rw [e1,xsum_xor,ih,Nat.zero_xor,← qcr_ R (hy M (Nat.lt_succ_self M)),h0 M (Nat.lt_succ_self M),ud_]
end GF
set_option linter.all false
set_option maxRecDepth 100000
namespace L2
open PySem PySem.Spec PyProof.Rows
section
variable {X:Cx}
theorem y5_:MtR X "int.bit_length" (fun x xs H Q=>∃ i,x = .int i ∧ xs = [] ∧ Q (.int ((Builtin.Int.intBits i:Nat):Int)) H):=by
 intro pins s σ H x xs v us Q I rx rs h
 obtain ⟨i,rfl,rfl,q⟩:=h
 obtain ⟨t,rfl⟩:=rx
 cases rs
 exact call_int_bit_length ⟨.int _,H,I.tok _,⟨_,rfl⟩,q⟩
theorem zN_:yE_ X (.builtin "isinstance") (fun xs H Q=>∃ x c t b,xs = [x,.ty c] ∧ TyOf X.K H x t ∧ PySem.W.kitOne X.K t (.type c) = some b ∧ Q (.bl b) H):=by
 intro pins s σ H xs us Q I r h
 obtain ⟨x,c,t,b,rfl,ty,e,q⟩:=h
 obtain ⟨u,w',rfl,ru,rw'⟩:=zK_ r
 cases (show w' = Value.type c from rw')
 exact qei_ I ru ty e fun tk=>⟨.bl b,H,I.tok tk,rfl,q⟩
end
theorem vK_ (K:PySem.W.Frag) (c:String):PySem.W.kitOne K (.type c) (.type c) = some true:=by
 unfold PySem.W.kitOne
 rw [if_pos (by exact beq_self_eq_true _)]
theorem qj3_ {K:PySem.W.Frag}{t c:String}{b:Bool} (h0:(Value.type t == Value.type c) = false) (h1:PySem.W.kitMeta c = true) (h2:(PySem.fastBuiltinMro t).map (fun l=>l.contains (Value.type c)) = some b):PySem.W.kitOne K (.type t) (.type c) = some b:=by
 unfold PySem.W.kitOne
 rw [if_neg (by rw [h0];exact Bool.false_ne_true)]
 show (if PySem.W.kitMeta c = true then PySem.W.subIn K (.type t) (.type c) else none) = some b
 rw [if_pos h1]
 exact h2
theorem qa3_ (K:PySem.W.Frag):PySem.W.kitOne K (.type "int") (.type "bool") = some false:=qj3_ (by decide +kernel) (by decide +kernel) (by decide +kernel)
theorem qdj_ (a b:Nat):Builtin.bitAnd (a:Int) (b:Int) = ((a &&& b:Nat):Int):=by
 unfold Builtin.bitAnd
 rw [decide_eq_true (Int.natCast_nonneg a),decide_eq_true (Int.natCast_nonneg b)]
 simp
theorem j7_ (a b:Nat):Builtin.bitXor (a:Int) (b:Int) = ((a ^^^ b:Nat):Int):=by
 have h:=PyProof.Rows.bitXor_and (a:Int) (b:Int)
 rw [h,qdj_]
 have:=GF.xor_add_and a b
 omega
theorem yg_ {r w:Nat} (h1:2 ^ w<=r) (h2:r < 2 ^ (w + 1)):Builtin.Int.intBits (r:Int) = w + 1:=by
 unfold Builtin.Int.intBits
 have hr:0 < r:=Nat.lt_of_lt_of_le (Nat.two_pow_pos w) h1
 have:((r:Int) == 0) = false:=beq_eq_false_iff_ne.mpr (by omega)
 rw [this]
 have e:(r:Int).natAbs = r:=Int.natAbs_natCast r
 rw [e]
 have:r.log2 = w:=(Nat.log2_eq_iff (by omega)).mpr ⟨h1,h2⟩
 simp [this]
end L2
set_option linter.all false
set_option maxRecDepth 100000
namespace L2
open PySem PySem.Spec PyProof.Rows
def Itv (K:PySem.W.Frag) (a:Addr) (xs:List V):It :=
 ⟨fun i H=>SqL K H a xs/\i < xs.length,fun i H x H'=>H' = H/\xs[xs.length - 1 - i]? = some x,fun i _=>i = xs.length⟩
theorem qge_ {P:Program}{w:World}{K:PySem.W.Frag}{tg:Expr} (a it:Addr) (xs:List V):Turn P w K tg (Itv K a xs) [it] it (fun i h=>h.IsRevIter it a ((xs.length:Int) - 1 - (i:Int))) where
 mem:=by simp
 obj:=fun i h st b hb=>by
  have e:b = it:=by simpa using hb
  subst e
  obtain ⟨o,e,c,d⟩:=st
  exact ⟨o,e,fun v z=>by rw [d] at z;cases z⟩
 keep:=fun i h h' st k=>st.at fun o e=>k it (by simp) o e
 item:=by
  intro X hP hw hK hc i pins s σ H E I hf st hg
  subst hP hw hK
  obtain ⟨hq,hi⟩:=hg
  obtain ⟨its,rv,p,hz⟩:=I.list hq
  have hx:xs[xs.length - 1 - i]? = some (xs[xs.length - 1 - i]'(by omega)):=List.getElem?_eq_getElem (by omega)
  obtain ⟨u,hu,ru⟩:=rv.get hx
  obtain ⟨f0,f1,f2,f3,f4,f5⟩:=hf it (by simp)
  have e:(xs.length:Int) - 1 - (i:Int) = ((xs.length - 1 - i:Nat):Int):=by omega
  rw [e] at st
  refine wpAny_pyNext_rev_item st p.isList (x:=u) (by simpa using hu) fun h' st' sb=>?_
  have e2:((xs.length - 1 - i:Nat):Int) - 1 = (xs.length:Int) - 1 - ((i + 1:Nat):Int):=by omega
  rw [e2] at st'
  have I1:Inv X pins σ H { s with heap:=h' }:=I.turned (t':=s.toks) (fun b o hb e=>(sb.2 b hb).trans e) f0 f1 f3 f4 f5
  obtain ⟨o,e,c,d⟩:=id st'
  exact ⟨u,rfl,qal_ (s:={ s with heap:=h' }) e c d (by decide) ⟨_,H,I1,ru,⟨rfl,hx⟩,st',fun b hb=>(hf b hb).1⟩⟩
 done:=by
  intro X hP hw hK hc i pins s σ H E I hf st hg
  subst hP hw hK
  have hg:i = xs.length:=hg
  obtain ⟨f0,f1,f2,f3,f4,f5⟩:=hf it (by simp)
  have e:(xs.length:Int) - 1 - (i:Int) = -1:=by omega
  rw [e] at st
  exact wpAny_pyNext_rev_end (I.ok.hd hc) st fun h' eb=>⟨rfl,I.turned (t':=s.toks) (fun b o hb e=>eb b o hb e) f0 f1 f3 f4 f5⟩
 self:=fun _ _ _ _ _ st h=>wpAny_pyIter_revIter st h
section
variable {X:Cx}{tg:Expr}
def iRev (K:PySem.W.Frag) (ta:TA):TI:=fun σ H R=>ta σ H fun vs H1=>∃ l xs,vs = [.ref l]/\SqL K H1 l xs/\R (Itv K l xs) H1
theorem u8_:bootBuiltins "reversed" = some (.type "reversed"):=by decide +kernel
theorem qj4_ {a:Expr}{ta:TA}{p pos:Pos} (hg:Gl X "reversed") (hm:X.mg "reversed" = none) (ha:PA X [a] ta) (hs:starEach [a] X.env = [(false,eval a X.env)]:=by rfl):PI X tg (.Call (.Name "reversed" p) [a] [] pos) (iRev X.K ta):=by
 intro pins s σ H R I h
 refine Call_ (yz_ I hg hm u8_ (PyProof.Rows.callWith_type1 (thn (ha pos pins s σ H _ I h) fun us s1 ⟨vs,H1,I1,r1,q1⟩=>?_) hs rfl))
 obtain ⟨l,xs,e,hq,q⟩:=q1
 subst e
 obtain ⟨u,rfl,ru⟩:=zb_ r1
 cases ru
 obtain ⟨its,rv,pl,hz⟩:=I1.list hq
 refine call_reversed_list pl.isList ?_
 have hsz:((its.toArray.size:Nat):Int) - 1 = (xs.length:Int) - 1 - ((0:Nat):Int):=by rw [List.size_toArray,← rv.length];omega
 have st:(s1.heap.push (revObj l ((its.toArray.size:Int) - 1))).IsRevIter s1.heap.objs.size l ((xs.length:Int) - 1 - ((0:Nat):Int)):=by
  rw [<- hsz]
  exact ⟨_,Heap.get?_push_size _ rfl,rfl,rfl⟩
 refine wpAny_pyIter_revIter st ?_
 refine ⟨s1.heap.objs.size,[s1.heap.objs.size],_,_,H1,rfl,I1.kept (t':=s1.toks) fun b o e=>Heap.get?_push_of_some _ e,qge_ l _ xs,st,fun b hb=>?_,q⟩
 have e:b = s1.heap.objs.size:=by simpa using hb
 subst e
 exact I1.fpOk (Nat.le_refl _) (I1.hok.fresh (Nat.le_refl _))
end
theorem qif_ {K:PySem.W.Frag}{a:Addr}{xs:List V}{g:TG}{tb:TS}{D:Ends}{σ:St}{H:Hp} (Pv:Nat->St->Hp->Prop) (h0:Pv 0 σ H) (hl:∀ i σ H,i<=xs.length->Pv i σ H->SqL K H a xs)
  (hs:∀ i x σ H,i < xs.length->xs[xs.length - 1 - i]? = some x->Pv i σ H->g x σ H fun σ2 H2=>tb { D with nx:=Pv (i + 1),ct:=Pv (i + 1),bk:=D.nx } σ2 H2) (hd:∀ σ H,Pv xs.length σ H->D.nx σ H) :
  ∃ W:Nat->Nat->St->Hp->Prop,(∃ m,W 0 m σ H)/\∀ i m σ H,W i m σ H →
   ((Itv K a xs).stop i H/\D.nx σ H)\/((Itv K a xs).go i H/\∃ N:St->Hp->Prop,(∀ σ' H',N σ' H'->∃ m',m' < m/\W (i + 1) m' σ' H')/\∀ x H',(Itv K a xs).yld i H x H'->g x σ H' fun σ2 H2=>tb { D with nx:=N,ct:=N,bk:=D.nx } σ2 H2):=by
 refine ⟨fun i m σ H=>m = xs.length - i/\i<=xs.length/\Pv i σ H,⟨xs.length,by simp,Nat.zero_le _,h0⟩,?_⟩
 rintro i m σ H ⟨rfl,hi,p⟩
 have q:=hl i σ H hi p
 by_cases hlt:i < xs.length
 ·refine .inr ⟨⟨q,hlt⟩,Pv (i + 1),fun σ' H' p'=>⟨xs.length - (i + 1),by omega,rfl,hlt,p'⟩,fun x H' y=>?_⟩
  obtain ⟨e,y⟩:=y
  subst e
  exact hs i x σ _ hlt y p
 ·have e:i = xs.length:=by omega
  exact .inl ⟨e,hd σ H (e ▸ p)⟩
end L2
set_option linter.all false
set_option maxRecDepth 100000
set_option maxHeartbeats 1000000
namespace L2
open PySem PySem.Spec PyProof.Rows
theorem zO_ {env:Env}:∀ (names:List (Str × NameKind)) (acc:List (Str × Addr)),(∀ n,(n,NameKind.free) ∈ names->∃ c,env.cells.lookup n = some c)->(∀ n c,acc.lookup n = some c->env.cells.lookup n = some c) →
  ∃ cl:List (Str × Addr),(forIn names acc (fun x r=>match x with
    | (name,kind)=>if (kind == NameKind.free) = true then do
      let c ← cellOf env name
      pure (ForInStep.yield ((name,c) :: r))
     else pure (ForInStep.yield r)):Sem (List (Str × Addr))) = pure cl/\(∀ n c,cl.lookup n = some c->env.cells.lookup n = some c) ∧
   ∀ n,((n,NameKind.free) ∈ names\/(acc.lookup n).isSome = true)->(cl.lookup n).isSome = true
 | [],acc,_,h=>⟨acc,rfl,h,fun n q=>q.elim (fun z=>by simp at z) id⟩
 | (n,k) :: r,acc,hf,h=>by
  rw [List.forIn_cons]
  by_cases hk:k = .free
  ·subst hk
   obtain ⟨c,hc⟩:=hf n List.mem_cons_self
   have e:cellOf env n = pure c:=by unfold cellOf;rw [hc]
   obtain ⟨cl,h1,h2,h3⟩:=zO_ r ((n,c) :: acc) (fun m hm=>hf m (List.mem_cons_of_mem _ hm)) (fun m d hm=>by
    rw [List.lookup_cons] at hm
    cases q:(m == n) with
    | true=>rw [q] at hm;cases hm;rw [eq_of_beq q];exact hc
    | false=>rw [q] at hm;exact h m d hm)
   refine ⟨cl,?_,h2,fun m hm=>h3 m ?_⟩
   ·show ((if (NameKind.free == NameKind.free) = true then _ else _) >>= _) = _
    rw [if_pos (by decide),e]
    exact h1
   ·rcases hm with hm | hm
    ·rcases List.mem_cons.mp hm with z | z
     ·cases z
      exact .inr (by rw [List.lookup_cons,beq_self_eq_true];rfl)
     ·exact .inl z
    ·refine .inr ?_
     rw [List.lookup_cons]
     cases q:(m == n) with
     | true=>rfl
     | false=>exact hm
  ·have hb:(k == NameKind.free) = false:=by simpa using hk
   obtain ⟨cl,h1,h2,h3⟩:=zO_ r acc (fun m hm=>hf m (List.mem_cons_of_mem _ hm)) h
   refine ⟨cl,?_,h2,fun m hm=>h3 m ?_⟩
   ·show ((if (k == NameKind.free) = true then _ else _) >>= _) = _
    rw [if_neg (by rw [hb];exact Bool.false_ne_true)]
    exact h1
   ·rcases hm with hm | hm
    ·rcases List.mem_cons.mp hm with z | z
     ·cases z
      exact absurd rfl hk
     ·exact .inl z
    ·exact .inr hm
theorem qdk_ {env:Env}{scope:Scope} (hf:∀ n,(n,NameKind.free) ∈ scope.names->∃ c,env.cells.lookup n = some c) :
  ∃ cl:List (Str × Addr),closureFor scope env = pure cl/\(∀ n c,cl.lookup n = some c->env.cells.lookup n = some c)/\∀ n,(n,NameKind.free) ∈ scope.names->(cl.lookup n).isSome = true:=by
 obtain ⟨cl,h1,h2,h3⟩:=zO_ scope.names [] hf (fun n c h=>by simp at h)
 refine ⟨cl,?_,h2,fun n h=>h3 n (.inl h)⟩
 unfold closureFor
 have:(forIn scope.names ([]:List (Str × Addr)) (fun x r=>match x with
    | (name,kind)=>if (kind == NameKind.free) = true then do
      let c ← cellOf env name
      pure (ForInStep.yield ((name,c) :: r))
     else pure (ForInStep.yield r)):Sem (List (Str × Addr))) = pure cl:=h1
 first
  | exact this
  | (rw [show ∀ x:Sem (List (Str × Addr)),(x >>= fun cs=>pure cs) = x from fun x=>by simp];exact this)
  | (simp only [bind_pure];exact this)
theorem yV_ {env:Env}:∀ (names:List (Str × NameKind)) (x:Str),
  (names.map fun (n,k)=>if (k == NameKind.free && env.scope.kind == .function && env.kindOf n == some .cell) = true then (n,NameKind.cell) else (n,k)).lookup x =
   (names.lookup x).map fun k=>if (k == NameKind.free && env.scope.kind == .function && env.kindOf x == some .cell) = true then NameKind.cell else k
 | [],x=>rfl
 | (n,k) :: r,x=>by
  have ih:=yV_ (env:=env) r x
  show List.lookup x ((if (k == NameKind.free && env.scope.kind == .function && env.kindOf n == some .cell) = true then (n,NameKind.cell) else (n,k)) :: _) = _
  cases q:(x == n) with
  | true =>
   have e:=eq_of_beq q
   subst e
   by_cases hc:(k == NameKind.free && env.scope.kind == .function && env.kindOf x == some .cell) = true
   ·rw [if_pos hc]
    simp only [List.lookup_cons,q,Option.map_some,if_pos hc]
   ·rw [if_neg hc]
    simp only [List.lookup_cons,q,Option.map_some,if_neg hc]
  | false =>
   by_cases hc:(k == NameKind.free && env.scope.kind == .function && env.kindOf n == some .cell) = true
   ·rw [if_pos hc]
    simp only [List.lookup_cons,q]
    exact ih
   ·rw [if_neg hc]
    simp only [List.lookup_cons,q]
    exact ih
def qes_ (N:List Str) (osc sc:Scope) (cap:List Nat) (own:List Str):Bool :=
 (sc.kind == .function) && sc.names.all (fun y=>(y.2 != .cell) && ((y.2 != .local) || (sc.names.lookup y.1 == some .local)) && ((y.2 != .free) || ((sc.names.lookup y.1 == some .free) && ((osc.names.lookup y.1 == some .cell) || (osc.names.lookup y.1 == some .free))))) &&
  cap.all (fun i=>match N[i]? with | some x=>sc.names.lookup x == some .free | none=>false) && own.all (fun x=>sc.names.lookup x == some .local) && decide ((cap.map (fun i=>N.getD i Str.empty) ++ own).Nodup)
structure CompOk (N:List Str) (osc sc:Scope) (cap:List Nat) (own:List Str):Prop where
 kind:sc.kind = .function
 nocell:∀ y ∈ sc.names,y.2 ≠ .cell
 locs:∀ y ∈ sc.names,y.2 = .local->sc.names.lookup y.1 = some .local
 free1:∀ y ∈ sc.names,y.2 = .free->sc.names.lookup y.1 = some .free
 frees:∀ y ∈ sc.names,y.2 = .free->osc.names.lookup y.1 = some .cell\/osc.names.lookup y.1 = some .free
 capf:∀ i ∈ cap,∃ x,N[i]? = some x/\sc.names.lookup x = some .free
 owns:∀ x ∈ own,sc.names.lookup x = some .local
 nd:(cap.map (fun i=>N.getD i Str.empty) ++ own).Nodup
theorem CompOk.of {N:List Str}{osc sc:Scope}{cap:List Nat}{own:List Str} (h:qes_ N osc sc cap own = true):CompOk N osc sc cap own:=by
 unfold qes_ at h
 simp only [Bool.and_eq_true] at h
 obtain ⟨⟨⟨⟨h1,h2⟩,h3⟩,h4⟩,h5⟩:=h
 have all:=List.all_eq_true.mp h2
 refine ⟨eq_of_beq h1,fun y hy=>?_,fun y hy e=>?_,fun y hy e=>?_,fun y hy e=>?_,fun i hi=>?_,fun x hx=>?_,of_decide_eq_true h5⟩
 ·have q:=all y hy
  simp only [Bool.and_eq_true] at q
  intro e
  rw [e] at q
  exact absurd q.1.1 (by decide)
 ·have q:=all y hy
  simp only [Bool.and_eq_true,Bool.or_eq_true] at q
  rcases q.1.2 with z | z
  ·rw [e] at z;exact absurd z (by decide)
  ·exact eq_of_beq z
 ·have q:=all y hy
  simp only [Bool.and_eq_true,Bool.or_eq_true] at q
  rcases q.2 with z | z
  ·rw [e] at z;exact absurd z (by decide)
  ·exact eq_of_beq z.1
 ·have q:=all y hy
  simp only [Bool.and_eq_true,Bool.or_eq_true] at q
  rcases q.2 with z | z
  ·rw [e] at z;exact absurd z (by decide)
  ·exact z.2.imp eq_of_beq eq_of_beq
 ·have q:=List.all_eq_true.mp h3 i hi
  cases e:N[i]? with
  | none=>rw [e] at q;cases q
  | some x=>rw [e] at q;exact ⟨x,rfl,eq_of_beq q⟩
 ·exact eq_of_beq (List.all_eq_true.mp h4 x hx)
abbrev vp_ (N:List Str) (cap:List Nat) (own:List Str):List Str:=cap.map (fun i=>N.getD i Str.empty) ++ own
abbrev y6_ (σ:St) (cap:List Nat) (own:List Str):St:=cap.map (fun i=>(σ[i]?).join) ++ own.map fun _=>none
def yl_ (X:Cx) (sc:Scope) (cl:List (Str × Addr)) (C:Addr) (cap:List Nat) (own:List Str) (s₀:Shared) (H₀:Hp) (ex:List Addr):Cx :=
 { X with N:=vp_ X.N cap own,s₀:=s₀,H₀:=H₀,env:=compEnvC sc cl C X.env,outer:=X.stack,stack:=X.stack,ex:=ex,fn:=fun _=>false,pn:=[],xe:=fun _ _=>False }
section
variable {X:Cx}{pins:List (Addr × Obj)}{σ:St}{H:Hp}{s:Shared}{sc:Scope}{cl:List (Str × Addr)}{cap:List Nat}{own:List Str}
theorem qa4_ (S:CompOk X.N X.env.scope sc cap own) {x:Str}{C:Addr} (h:(compEnvC sc cl C X.env).kindOf x = some .cell\/(compEnvC sc cl C X.env).kindOf x = some .free):(x,NameKind.free) ∈ sc.names:=by
 have e:(compEnvC sc cl C X.env).kindOf x = (sc.names.lookup x).map fun k=>if (k == NameKind.free && X.env.scope.kind == .function && X.env.kindOf x == some .cell) = true then NameKind.cell else k:=yV_ sc.names x
 rw [e] at h
 cases q:sc.names.lookup x with
 | none=>rw [q] at h;rcases h with z | z <;> cases z
 | some k =>
  have hm:=PySem.mem_of_lookup q
  have hk:k = .free:=by
   rw [q] at h
   simp only [Option.map_some,Option.some.injEq] at h
   by_cases c:(k == NameKind.free && X.env.scope.kind == .function && X.env.kindOf x == some .cell) = true
   ·simp only [Bool.and_eq_true] at c
    exact eq_of_beq c.1.1
   ·rw [if_neg c] at h
    rcases h with z | z
    ·exact absurd z (S.nocell _ hm)
    ·exact z
  rw [hk] at hm
  exact hm
theorem qet_ (S:CompOk X.N X.env.scope sc cap own) {x:Str}{C:Addr} (h:sc.names.lookup x = some .free):(compEnvC sc cl C X.env).kindOf x = some .cell\/(compEnvC sc cl C X.env).kindOf x = some .free:=by
 have e:(compEnvC sc cl C X.env).kindOf x = (sc.names.lookup x).map fun k=>if (k == NameKind.free && X.env.scope.kind == .function && X.env.kindOf x == some .cell) = true then NameKind.cell else k:=yV_ sc.names x
 rw [e,h]
 simp only [Option.map_some,Option.some.injEq]
 split
 ·exact .inl rfl
 ·exact .inr rfl
theorem Inv.block {h':Heap}{fp:List Addr}{t':Nat} (I:Inv X pins σ H s) (S:CompOk X.N X.env.scope sc cap own) (hc1:∀ n c,cl.lookup n = some c->X.env.cells.lookup n = some c) (hc2:∀ n,(n,NameKind.free) ∈ sc.names->(cl.lookup n).isSome = true)
  (hf:∀ b ∈ fp,FpOk X pins H b) (hlt:∀ b ∈ fp,b < s.heap.objs.size) {m:Str->Option Value} (hn:h'.Ns s.heap.objs.size m) (k:∀ b u,s.heap.get? b = some u->h'.get? b = some u) :
  Inv (yl_ X sc cl s.heap.objs.size cap own s H fp) [] (y6_ σ cap own) H { s with heap:=h',toks:=t' }:=by
 refine ⟨⟨I.mod,S.kind,I.ok.glob,I.ok.blt,Nat.le_refl _,fun x y c a b=>I.ok.inj x y c (hc1 x c a) (hc1 y c b),fun x hx=>?_,fun x c z=>absurd z (by show ¬ (false = true);decide),I.ok.hd,I.ok.frames,.inl rfl,fun b hb=>⟨Nat.ne_of_lt (hlt b hb),fun x c e=>(hf b hb).2.2.2.2.1 x c (hc1 x c e)⟩,I.bs,Nat.le_trans I.ok.bsz I.sz,fun b o e hb=>?_,fun b hb z=>?_,I.stack,I.stkFree⟩,
  rfl,I.bare,Un.kept k,⟨m,hn,fun i x v e1 e2 e3=>?_⟩,fun x c e=>?_,I.hok.fresh (Nat.le_refl _),fun x c e=>I.freeC x c (hc1 x c e),fun p hp=>absurd hp (by show p ∉ ([] ++ []:List (Addr × Obj));simp),I.hok.kept k,?_⟩
 ·have hm:=qa4_ S hx
  exact Option.isSome_iff_exists.mp (hc2 x hm)
 ·rcases (hf b hb).2.2.2.1 with z | z
  ·exact I.ok.noex b o e z
  ·exact absurd (Nat.lt_of_lt_of_le (Heap.lt_size (I.ok.bs b o e).1) z) (Nat.lt_irrefl _)
 ·rcases List.mem_cons.mp (I.stkSub b z) with q | q
  ·exact (hf b hb).2.1 q
  ·exact (hf b hb).2.2.1 q
 ·by_cases hi:i < cap.length
  ·have e1':(vp_ X.N cap own)[i]? = some x:=e1
   have e2':(y6_ σ cap own)[i]? = some (some v):=e2
   rw [vp_,List.getElem?_append_left (by simpa using hi),List.getElem?_map,List.getElem?_eq_getElem hi] at e1'
   rw [y6_,List.getElem?_append_left (by simpa using hi),List.getElem?_map,List.getElem?_eq_getElem hi] at e2'
   simp only [Option.map_some,Option.some.injEq] at e1' e2'
   obtain ⟨y,hy,hl⟩:=S.capf _ (List.getElem_mem hi)
   have exy:x = y:=by
    rw [<- e1',List.getD_eq_getElem?_getD,hy];rfl
   subst exy
   have ev:σ[cap[i]]? = some (some v):=by
    cases q:σ[cap[i]]? with
    | none=>rw [q] at e2';cases e2'
    | some o=>rw [q] at e2';exact congrArg some e2'
   obtain ⟨m0,hn0,hl0⟩:=I.loc
   have hm:=PySem.mem_of_lookup hl
   have hko:=S.frees _ hm rfl
   obtain ⟨u,ru,lk⟩:=hl0 _ x v hy ev (hko.elim (fun z=>.inr (.inl z)) fun z=>.inr (.inr z))
   refine ⟨u,ru,.inr ⟨qet_ S hl,?_⟩⟩
   obtain ⟨c,hc⟩:=Option.isSome_iff_exists.mp (hc2 x hm)
   refine ⟨c,hc,?_⟩
   rcases lk with ⟨z,_⟩ | ⟨_,c',hc',q⟩
   ·have z':X.env.scope.names.lookup x = some .local:=z
    rcases hko with w | w <;> (rw [z'] at w;cases w)
   ·have:=hc1 x c hc
    rw [hc'] at this
    cases this
    obtain ⟨o,ho,hd⟩:=q
    exact ⟨o,k _ o ho,hd⟩
  ·have e2':(y6_ σ cap own)[i]? = some (some v):=e2
   rw [y6_,List.getElem?_append_right (by simpa using hi),List.getElem?_map] at e2'
   cases q:own[i - (cap.map fun i=>(σ[i]?).join).length]? with
   | none=>rw [q] at e2';cases e2'
   | some o=>rw [q] at e2';cases e2'
 ·obtain ⟨v,o,ho,hd⟩:=I.cell x c (hc1 x c e)
  exact ⟨v,o,k c o ho,hd⟩
 ·show (y6_ σ cap own).length = (vp_ X.N cap own).length
  simp [y6_,vp_]
def PTs (X:Cx) (ifs:List Expr) (t:TT):Prop :=
 ∀ (pins:List (Addr × Obj)) (s:Shared) (σ:St) (H:Hp) (Q:Bool->Hp->Prop),Inv X pins σ H s->t σ H Q →
  wpAny (model X.prog X.w) X.A (forIn ifs true fun c r=>if r = true then do let ok ← isTrue c X.env (eval c X.env);pure (ForInStep.yield ok) else pure (ForInStep.yield r)) (TP X pins σ Q) X.xe s
def jE_:TT:=fun _ H Q=>Q true H
theorem jw_:PTs X [] jE_:=fun _ _ _ H _ I h=>wpAny_tests_nil ⟨H,I,h⟩
theorem ut_ {c:Expr}{t:TT} (h:PT X c t):PTs X [c] t:=fun pins s σ H Q I q=>wpAny_tests_one (h pins s σ H Q I q)
end
theorem qeu_ {prog:Program}{w:World}{A:Around}{R:Result->Shared->Prop}{s:Shared}{elt target iter:Expr}{ifs:List Expr}{scope:Scope}{pos:Pos}{it acc:Value}{env:Env} (I:Nat->Shared->Prop)
  (turn:∀ n s,I n s->wpAny (model prog w) A (pyNext it) (fun r s₁=>match r with
   | none=>R (.ok .next) s₁
   | some v=>wpAny (model prog w) A (letOwnedTupleGo target it v) (fun _ s₁=>wpAny (model prog w) A (assign target env v) (fun _ s₂ =>
     wpAny (model prog w) A (forIn ifs true fun c r=>if r = true then do let ok ← isTrue c env (eval c env);pure (ForInStep.yield ok) else pure (ForInStep.yield r)) (fun ok s₃ =>
      if ok = true then wpAny (model prog w) A (eval elt env) (fun x s₄ =>
       wpAny (model prog w) A (call (.builtin "list.append") [acc,x]) (fun _ s₅=>∃ m,m < n ∧ I m s₅) (fun _ _=>False) s₄) (fun _ _=>False) s₃
      else ∃ m,m < n/\I m s₃) (fun _ _=>False) s₂) (fun _ _=>False) s₁) (fun _ _=>False) s₁) (fun _ _=>False) s)
  (n:Nat) (h:I n s) :
  codeAny (model prog w) A (.compLoop (.ListComp elt [⟨target,iter,ifs,0⟩] scope pos) 0 it acc env) R s:=by
 refine codeAny_loop rfl I (fun n s hI=>?_) n h
 show wpAny _ A ((compTurn (.ListComp elt [⟨target,iter,ifs,0⟩] scope pos) 0 it acc env).onRaise (fun x=>do noteFrame x env;theTreesLotGoes x)) _ _ s
 refine wpAny_noted ?_
 rw [compTurn_list]
 refine wpAny_noRaise ?_
 refine wpAny_bind (wpAny_standAt (wpAny_bind (wpAny_mono (turn n s hI) (fun r s₁ h₁=>?_) fun _ _ h'=>h')))
 cases r with
 | none=>exact wpAny_pure h₁
 | some v =>
  refine wpAny_bind (wpAny_mono h₁ (fun _ s₁ h₁=>?_) fun _ _ h'=>h')
  refine wpAny_bind (wpAny_mono h₁ (fun _ s₂ h₂=>wpAny_bind (wpAny_mono h₂ (fun ok s₃ h₃=>?_) fun _ _ h'=>h')) fun _ _ h'=>h')
  cases ok with
  | false=>exact wpAny_pure ⟨rfl,h₃⟩
  | true =>
   exact wpAny_bind (wpAny_bind (wpAny_mono h₃ (fun x s₄ h₄=>wpAny_bind (wpAny_mono h₄ (fun _ s₅ h₅=>wpAny_pure (wpAny_pure ⟨rfl,h₅⟩)) fun _ _ h'=>h')) fun _ _ h'=>h'))
def jp_ (J:It) (g:TG) (tt:TT) (te:TE) (σ0:St) (H1:Hp) (D:Addr) (Q:Hp->Prop):Prop :=
 ∃ W:Nat->Nat->List V->St->Hp->Prop,(∃ m,W 0 m [] σ0 (upd H1 D (.lst [])))/\∀ i m ys σ H,W i m ys σ H->H D = some (.lst ys) ∧
  ((J.stop i H/\Q H)\/(J.go i H/\∀ x H',J.yld i H x H'->g x σ H' fun σ2 H2=>tt σ2 H2 fun b H3 =>
   if b = true then te σ2 H3 fun v H4=>H4 D = some (.lst ys)/\ys.length < sizeLine/\∃ m',m' < m/\W (i + 1) m' (ys ++ [v]) σ2 (upd H4 D (.lst (ys ++ [v])))
   else ∃ m',m' < m/\W (i + 1) m' ys σ2 H3))
def qdl_ (cap:List Nat) (own:List Str) (wi:TI) (g:TG) (tt:TT) (te:TE):TE:=fun σ H Q=>wi σ H fun J H1=>∀ D,H1 D = none->jp_ J g tt te (y6_ σ cap own) H1 D (fun H'=>Q (.ref D) H')
section
variable {X:Cx}{sc:Scope}{cap:List Nat}{own:List Str}{tg iter elt:Expr}{ifs:List Expr}{pos:Pos}{wi:TI}{g:TG}{tt:TT}{te:TE}
theorem uX_ {use:Option (Value->Sem Unit)}{ppos:Pos}{pins:List (Addr × Obj)}{s:Shared}{σ:St}{H:Hp}{Q:V->Hp->Prop}{R:Value->Shared->Prop} (hc:X.calm = true) (S:CompOk X.N X.env.scope sc cap own) (hi:PI X tg iter wi)
  (hg:∀ cl C s₀ H₀ ex,PG (yl_ X sc cl C cap own s₀ H₀ ex) tg g) (ht:∀ cl C s₀ H₀ ex,PTs (yl_ X sc cl C cap own s₀ H₀ ex) ifs tt) (he:∀ cl C s₀ H₀ ex,PE (yl_ X sc cl C cap own s₀ H₀ ex) elt te)
  (hs:∀ x,foldedSetIterable iter X.env x = pure x) (I:Inv X pins σ H s) (h:qdl_ cap own wi g tt te σ H Q)
  (fin:∀ (D C:Addr) (H':Hp) (s':Shared) (m:Str->Option Value),Inv X pins σ H' s'->s'.heap.Ns C m->FpOk X pins H' C->Q (.ref D) H'->compPost (model X.prog X.w) X.A X.xe use R (.ref D) C (.ok .next) s') :
  wpAny (model X.prog X.w) X.A (comprehension (.ListComp elt [⟨tg,iter,ifs,0⟩] sc pos) sc X.env ppos (newList []) false (eval iter X.env) use) R X.xe s:=by
 obtain ⟨cl,hclos,hc1,hc2⟩:=qdk_ (env:=X.env) (scope:=sc) fun n hn=>X.env.cells.lookup n |> fun _=>I.ok.has n (S.frees _ hn rfl)
 refine wpAny_comprehension_free (use:=use) rfl hs hclos S.kind S.locs (thn (hi pins s σ H _ I h) fun v s1 h1=>thn h1 fun itv s2 h2=>?_)
 obtain ⟨it,fp,tn,J,H2,rfl,I2,T,st2,f2,q⟩:=h2
 refine wpAny_newObj_type ?_
 obtain ⟨D,hD⟩:∃ D,D = s2.heap.objs.size:=⟨_,rfl⟩
 have hfr:H2 D = none:=by rw [hD];exact I2.hok.fresh (Nat.le_refl _)
 have I3:Inv X pins σ (upd H2 D (.lst [])) { s2 with heap:=s2.heap.push { cls:=.type "list",dict:=none,data:=.seq ([]:List Value).toArray } }:=by
  rw [hD]
  exact I2.laid (t':=s2.toks) (fun b u e=>Heap.get?_push_of_some _ e) (Nat.le_refl _) ⟨Nat.zero_le _,[],_,.nil,Heap.get?_push_size _ rfl⟩
 have fpne:∀ b ∈ fp,b ≠ D:=fun b hb z=>by
  obtain ⟨o,ho,_⟩:=T.obj _ _ st2 b hb
  exact absurd (Heap.lt_size ho) (by rw [z,hD];exact Nat.lt_irrefl _)
 have f3:∀ b ∈ fp,FpOk X pins (upd H2 D (.lst [])) b:=fun b hb=>⟨by rw [qf_ (fpne b hb)];exact (f2 b hb).1,(f2 b hb).2⟩
 have st3:tn 0 (s2.heap.push { cls:=.type "list",dict:=none,data:=.seq ([]:List Value).toArray }):=T.keep _ _ _ st2 fun b _ o e=>Heap.get?_push_of_some _ e
 rw [<- hD]
 obtain ⟨W,⟨m0,w0⟩,turn⟩:=q D hfr
 generalize hs3:({ s2 with heap:=s2.heap.push { cls:=.type "list",dict:=none,data:=.seq ([]:List Value).toArray } }:Shared) = s3 at I3 ⊢
 have st3':tn 0 s3.heap:=by rw [<- hs3];exact st3
 refine wpAny_newFunctionEnv S.nocell (by intro y hy;simp at hy) (fun h1 hns hsb=>?_) S.kind
 have hk:∀ b u,s3.heap.get? b = some u->h1.get? b = some u:=fun b u e=>hsb.extBut b u (Nat.ne_of_lt (Heap.lt_size e)) (Heap.get?_push_of_some _ e)
 have fplt:∀ b ∈ fp,b < s3.heap.objs.size:=fun b hb=>by
  obtain ⟨o,ho,_⟩:=T.obj _ _ st3' b hb
  exact Heap.lt_size ho
 have I4:=I3.block (t':=s3.toks + ([]:List (Str × Value)).length) S hc1 hc2 f3 fplt hns hk
 have fC:∀ H',H' s3.heap.objs.size = none->FpOk X pins H' s3.heap.objs.size:=fun H' hn=>I3.fpOk (Nat.le_refl _) hn
 obtain ⟨C,hC⟩:∃ C,C = s3.heap.objs.size:=⟨_,rfl⟩
 rw [<- hC] at I4 fC
 rw [<- hC]
 obtain ⟨Xc,hXc⟩:∃ Xc,Xc = yl_ X sc cl C cap own s3 (upd H2 D (.lst [])) fp:=⟨_,rfl⟩
 rw [<- hXc] at I4
 have gX:PG Xc tg g:=hXc ▸ hg cl C s3 _ fp
 have tX:PTs Xc ifs tt:=hXc ▸ ht cl C s3 _ fp
 have eX:PE Xc elt te:=hXc ▸ he cl C s3 _ fp
 have x1:Xc.prog = X.prog:=by rw [hXc];rfl
 have x2:Xc.w = X.w:=by rw [hXc];rfl
 have x3:Xc.K = X.K:=by rw [hXc];rfl
 have x4:Xc.calm = true:=by rw [hXc];exact hc
 have x5:Xc.A = X.A:=by rw [hXc];rfl
 have x6:Xc.env = compEnvC sc cl C X.env:=by rw [hXc];rfl
 have x7:Xc.xe = fun _ _=>False:=by rw [hXc];rfl
 have stat:∀ {H':Hp},(∀ b ∈ fp,H' b = none)->∀ b ∈ fp,FpOk Xc [] H' b:=fun hn b hb=>by
  rw [hXc]
  refine ⟨hn b hb,?_,?_,.inl hb,fun x c e=>(f3 b hb).2.2.2.2.1 x c (hc1 x c e),fun p hp=>absurd hp (by show p ∉ ([] ++ []:List (Addr × Obj));simp)⟩
  ·show b ≠ C
   rw [hC]
   exact Nat.ne_of_lt (fplt b hb)
  ·intro z
   rcases List.mem_cons.mp (I3.stkSub b z) with q | q
   ·exact (f3 b hb).2.1 q
   ·exact (f3 b hb).2.2.1 q
 have st4:tn 0 h1:=T.keep _ _ _ st3' fun b _ o e=>hk b o e
 have loop:∀ s4:Shared,s4 = { s3 with heap:=h1,toks:=s3.toks + ([]:List (Str × Value)).length } →
   codeAny (model X.prog X.w) X.A (.compLoop (.ListComp elt [⟨tg,iter,ifs,0⟩] sc pos) 0 (.ref it) (.ref D) (compEnvC sc cl C X.env)) (compPost (model X.prog X.w) X.A X.xe use R (.ref D) C) s4:=by
  rintro s4 rfl
  refine qeu_ (fun n s'=>∃ i σ' H' ys,Inv Xc [] σ' H' s'/\tn i s'.heap/\(∀ b ∈ fp,H' b = none)/\H' D = some (.lst ys)/\W i n ys σ' H') ?_ m0 ⟨0,_,_,[],I4,st4,fun b hb=>(f3 b hb).1,qc_,w0⟩
  rintro n s5 ⟨i,σ5,H5,ys,I5,st5,fr5,hD5,w5⟩
  obtain ⟨_,cases5⟩:=turn i n ys σ5 H5 w5
  rcases cases5 with ⟨stop,qq⟩ | ⟨go,step⟩
  ·have td:=T.done Xc x1 x2 x3 x4 i [] s5 σ5 H5 (fun _ _=>False) I5 (stat fr5) st5 stop
   rw [x5] at td
   refine thn td fun r s6 ⟨hr,I6⟩=>?_
   subst hr
   show compPost _ _ _ _ _ _ _ (.ok .next) s6
   obtain ⟨m6,hn6,_⟩:=id I6.loc
   rw [x6] at hn6
   have u6:=I6.base
   have ok6:=I6.hok
   have fr6:H5 C = none:=by have:=I6.free;rw [x6] at this;exact this
   have os6:s6.os = s3.os:=by have:=I6.os;rw [hXc] at this;exact this
   rw [hXc] at u6 ok6
   have IX:Inv X pins σ H5 s6:=I3.call' (s':=s6) os6 u6 ok6 I6.bare fun b hb=>⟨(f3 b hb).2.2.2.1,(f3 b hb).2.1,(f3 b hb).2.2.2.2.1,(f3 b hb).2.2.2.2.2⟩
   exact fin D C H5 s6 m6 IX hn6 (fC H5 fr6) qq
  ·have ti:=T.item Xc x1 x2 x3 x4 i [] s5 σ5 H5 (fun _ _=>False) I5 (stat fr5) st5 go
   rw [x5] at ti
   refine thn ti fun r s6 ⟨u,hr,h6⟩=>?_
   subst hr
   refine thn h6 fun _ s7 ⟨x,H7,I7,r7,y7,st7,fr7⟩=>?_
   have I7':=I7.pinned (stat fr7) (T.obj _ _ st7)
   have a7:=gX _ s7 σ5 H7 x u _ I7' r7 (step x H7 y7)
   rw [x1,x2,x5,x6,x7] at a7
   refine thn a7 fun _ s8 ⟨σ8,H8,I8,q8⟩=>?_
   have a8:=tX _ s8 σ8 H8 _ I8 q8
   rw [x1,x2,x5,x6,x7] at a8
   have again:∀ {σ9:St}{H9:Hp}{s9:Shared}{zs:List V}{m':Nat},Inv Xc ([] ++ zB_ fp s7.heap) σ9 H9 s9->H9 D = some (.lst zs)->m' < n->W (i + 1) m' zs σ9 H9 →
     ∃ m,m < n/\∃ i σ' H' ys,Inv Xc [] σ' H' s9/\tn i s9.heap/\(∀ b ∈ fp,H' b = none)/\H' D = some (.lst ys)/\W i m ys σ' H':=fun {σ9 H9 s9 zs m'} I9 hz hm w9=>by
    refine ⟨m',hm,i + 1,σ9,H9,zs,I9.unpinned,T.keep _ _ _ st7 fun b hb o e=>(I9.pin (b,o) (List.mem_append_right _ (List.mem_append_right _ (za_ hb e)))).1,fun b hb=>?_,hz,w9⟩
    obtain ⟨o,e,d⟩:=T.obj _ _ st7 b hb
    exact (I9.pin (b,o) (List.mem_append_right _ (List.mem_append_right _ (za_ hb e)))).2.1
   refine thn a8 fun ok s9 ⟨H9,I9,q9⟩=>?_
   cases ok with
   | false =>
    rw [if_neg Bool.false_ne_true] at q9 ⊢
    obtain ⟨m',hm,w9⟩:=q9
    exact again I9 (turn _ _ _ _ _ w9).1 hm w9
   | true =>
    rw [if_pos rfl] at q9 ⊢
    have a9:=eX _ s9 σ8 H9 _ I9 q9
    rw [x1,x2,x5,x6,x7] at a9
    refine thn a9 fun v s10 ⟨y,H10,I10,r10,hD10,hlen,m',hm,w10⟩=>?_
    have a10:=qQ_ (X:=Xc) ([] ++ zB_ fp s7.heap) s10 σ8 H10 (.ref D) [y] (.ref D) [v] (fun _ H11=>H11 = upd H10 D (.lst (ys ++ [y]))) I10 rfl (.cons r10 .nil) ⟨D,ys,y,rfl,rfl,hD10,hlen,rfl⟩
    rw [x1,x2,x5,x7] at a10
    refine thn a10 fun _ s11 ⟨_,H11,I11,_,e11⟩=>?_
    subst e11
    exact again I11 qc_ hm w10
 exact codeAny_compStart_list (loop _ rfl) (T.self _ 0 _ _ _ st4 (loop _ rfl))
theorem jM_ (S:CompOk X.N X.env.scope sc cap own) (hc:X.calm = true) (hi:PI X tg iter wi)
  (hg:∀ cl C s₀ H₀ ex,PG (yl_ X sc cl C cap own s₀ H₀ ex) tg g) (ht:∀ cl C s₀ H₀ ex,PTs (yl_ X sc cl C cap own s₀ H₀ ex) ifs tt) (he:∀ cl C s₀ H₀ ex,PE (yl_ X sc cl C cap own s₀ H₀ ex) elt te)
  (hs:∀ x,foldedSetIterable iter X.env x = pure x:=by intro _;rfl):PE X (.ListComp elt [⟨tg,iter,ifs,0⟩] sc pos) (qdl_ cap own wi g tt te):=by
 intro pins s σ H Q I h
 rw [eval_ListComp]
 refine uX_ (use:=none) hc S hi hg ht he hs I h fun D C H' s' m I' hn hf q=>?_
 refine ⟨m,hn,fun h' sb=>?_⟩
 obtain ⟨f0,f1,f2,f3,f4,f5⟩:=hf
 exact ⟨.ref D,H',I'.turned (t':=s'.toks) (fun b o hb e=>(sb.2 b hb).trans e) f0 f1 f3 f4 f5,rfl,q⟩
theorem zG_ {i:Nat}{x:Str}{pos' spos:Pos} (hN:X.N.Nodup) (hi':X.N[i]? = some x) (hx:Loc X.env.scope x) (S:CompOk X.N X.env.scope sc cap own) (hc:X.calm = true) (hi:PI X tg iter wi)
  (hg:∀ cl C s₀ H₀ ex,PG (yl_ X sc cl C cap own s₀ H₀ ex) tg g) (ht:∀ cl C s₀ H₀ ex,PTs (yl_ X sc cl C cap own s₀ H₀ ex) ifs tt) (he:∀ cl C s₀ H₀ ex,PE (yl_ X sc cl C cap own s₀ H₀ ex) elt te)
  (hsw:swapsWith (.ListComp elt [⟨tg,iter,ifs,0⟩] sc pos) (some (.Name x pos')) spos.line X.env = pure true:=by rfl) (hs:∀ x,foldedSetIterable iter X.env x = pure x:=by intro _;rfl)
  (hf:X.fn x = true\/X.env.scope.names.lookup x = some .local:=by first | exact .inl rfl | exact .inr rfl | assumption) :
  PS X (.Assign [.Name x pos'] (.ListComp elt [⟨tg,iter,ifs,0⟩] sc pos) spos) (fun D σ H=>qdl_ cap own wi g tt te σ H fun v H1=>D.nx (σ.set i (some v)) H1):=by
 intro pins s σ H D I h
 rw [exec_Assign_Name_used _ _ _ _ hsw]
 refine wpAny_bind (wpAny_standAt (wpAny_bind ?_))
 show wpAny _ X.A (do let _ ← comprehension (.ListComp elt [⟨tg,iter,ifs,0⟩] sc pos) sc X.env _ (newList []) false (eval iter X.env) (some (assign (.Name x pos') X.env))) _ _ s
 refine wpAny_bind (thn (uX_ (use:=some (assign (.Name x pos') X.env)) (R:=fun _ s'=>SP X pins D .next s') hc S hi hg ht he hs I h fun A C H' s' m I' hn hfp q=>?_) (fun _ s' hq=>wpAny_pure (wpAny_pure hq)))
 obtain ⟨f0,f1,f2,f3,f4,f5⟩:=hfp
 refine wpAny_assign_Name (uJ_ I' hN hi' hx (v:=.ref A) rfl (fun s'' I'' ⟨a,sa,ha⟩=>?_) hf)
 have hCa:C ≠ a:=by
  rcases ha with z | z
  ·rw [z];exact f1
  ·exact fun w=>f4 x a z w.symm
 refine ⟨m,hn.sameBut sa hCa,fun h' sb=>?_⟩
 exact ⟨_,H',I''.turned (t':=s''.toks) (fun b o hb e=>(sb.2 b hb).trans e) f0 f1 f3 f4 f5,q⟩
end
end L2
set_option linter.all false
set_option maxRecDepth 100000
set_option maxHeartbeats 1000000
namespace L2
open PySem PySem.Spec PyProof.Rows
section
variable {X:Cx}{pins:List (Addr × Obj)}{σ:St}{H:Hp}{s:Shared}{h':Heap}
theorem Inv.turnedUp {fp:List Addr}{a:Addr}{o:HO}{t':Nat} (I:Inv X pins σ H s) (hf:∀ b ∈ fp,FpOk X pins H b) (k:∀ b u,b ∉ fp->s.heap.get? b = some u->h'.get? b = some u) (ha:s.heap.objs.size<=a)
  (new:ObjOk X.prog X.w (upd H a o) h' a o):Inv X pins σ (upd H a o) { s with heap:=h',toks:=t' }:=by
 have ne:∀ b u,s.heap.get? b = some u->b ≠ a:=fun b u e=>Nat.ne_of_lt (Nat.lt_of_lt_of_le (Heap.lt_size e) ha)
 have nH:H a = none:=I.hok.fresh ha
 have nb:∀ b u,H b = some u->b ≠ a:=fun b u e z=>by rw [z,nH] at e;cases e
 have nf:∀ b u,H b = some u->b ∉ fp:=fun b u e z=>by rw [(hf b z).1] at e;cases e
 refine I.step (g':=s.gens) (d':=s.drawn) (ch:=fp) (fun b hb=>⟨(hf b hb).2.2.2.1,(hf b hb).2.1,(hf b hb).2.2.2.2.1,(hf b hb).2.2.2.2.2⟩) (fun b o _ _ hc e _=>k b o hc e) (fun b o _ _ hc e _=>⟨o.slots,k b o hc e⟩)
  (fun b o _ e n=>by rw [qf_ (ne b o e)];exact n) (fun b o hc e=>?_) (fun b xs e=>by rw [qf_ (nb b _ e)];exact e) (fun b o u e=>by rw [qf_ (nb b _ e)];exact e) (fun b ps e=>⟨#[],by rw [qf_ (nb b _ e),e];simp⟩)
  (fun m hm=>by
   obtain ⟨oL,es,ep,ho,r⟩:=hm
   exact ⟨oL,es,ep,k _ oL (fun z=>(hf _ z).2.1 rfl) ho,r⟩) (fun b u e=>?_) I.bare
 ·exact ⟨o,k b o hc e⟩
 ·by_cases hb:b = a
  ·subst hb;rw [qc_] at e;cases e;exact new
  ·rw [qf_ hb] at e
   refine (I.hok b u e).stay (fun c v hc q=>k c v ?_ q) (fun c q=>by rw [qf_ (nb c _ q)];exact q) fun c xs q=>by rw [qf_ (nb c _ q)];exact q
   rcases hc with z | z
   ·rw [z];exact nf b u e
   ·exact nf c _ z
theorem Inv.turnedL {fp:List Addr}{t':Nat} (I:Inv X pins σ H s) (hf:∀ b ∈ fp,FpOk X pins H b) (k:∀ b u,b ∉ fp->s.heap.get? b = some u->h'.get? b = some u):Inv X pins σ H { s with heap:=h',toks:=t' }:=by
 have nf:∀ b u,H b = some u->b ∉ fp:=fun b u e z=>by rw [(hf b z).1] at e;cases e
 refine I.step (g':=s.gens) (d':=s.drawn) (ch:=fp) (fun b hb=>⟨(hf b hb).2.2.2.1,(hf b hb).2.1,(hf b hb).2.2.2.2.1,(hf b hb).2.2.2.2.2⟩) (fun b o _ _ hc e _=>k b o hc e) (fun b o _ _ hc e _=>⟨o.slots,k b o hc e⟩)
  (fun b o _ e n=>n) (fun b o hc e=>⟨o,k b o hc e⟩) (fun b xs e=>e) (fun b o u e=>e) (fun b ps e=>⟨#[],by rw [e];simp⟩)
  (fun m hm=>by
   obtain ⟨oL,es,ep,ho,r⟩:=hm
   exact ⟨oL,es,ep,k _ oL (fun z=>(hf _ z).2.1 rfl) ho,r⟩) (fun b u e=>?_) I.bare
 refine (I.hok b u e).stay (fun c v hc q=>k c v ?_ q) (fun _ q=>q) fun _ _ q=>q
 rcases hc with z | z
 ·rw [z];exact nf b u e
 ·exact nf c _ z
end
def Itz (K:PySem.W.Frag) (l1 l2:Addr) (xs ys:List V):It :=
 ⟨fun i H=>SqL K H l1 xs/\SqL K H l2 ys/\i < xs.length/\i < ys.length,fun i H x H'=>∃ T u v,H T = none/\x = .ref T/\xs[i]? = some u/\ys[i]? = some v/\H' = upd H T (.tup [u,v]),
  fun i H=>SqL K H l1 xs/\SqL K H l2 ys/\(xs.length<=i\/ys.length<=i)⟩
structure Five (z TI TO i1 i2:Addr):Prop where
 TIz:TI ≠ z
 TOz:TO ≠ z
 i1z:i1 ≠ z
 i2z:i2 ≠ z
 TITO:TI ≠ TO
 TIi1:TI ≠ i1
 TIi2:TI ≠ i2
 TOi1:TO ≠ i1
 TOi2:TO ≠ i2
 i12:i1 ≠ i2
theorem qig_ (n:Nat):Five (n + 4) (n + 2) (n + 3) n (n + 1) :=
 ⟨(by omega:(n + 2:Nat) ≠ n + 4),(by omega:(n + 3:Nat) ≠ n + 4),(by omega:(n:Nat) ≠ n + 4),(by omega:(n + 1:Nat) ≠ n + 4),(by omega:(n + 2:Nat) ≠ n + 3),(by omega:(n + 2:Nat) ≠ n),
  (by omega:(n + 2:Nat) ≠ n + 1),(by omega:(n + 3:Nat) ≠ n),(by omega:(n + 3:Nat) ≠ n + 1),(by omega:(n:Nat) ≠ n + 1)⟩
theorem j5_ {h:Heap}{a b:Addr}{x y:Array Value}{o:Obj}{T:String} (hl:h.IsList a x) (ho:h.get? b = some o) (hc:o.cls = .type T) (hT:T ≠ "list"):a ≠ b:=by
 rintro rfl
 obtain ⟨o',ho',hc',_⟩:=hl
 rw [ho] at ho'
 cases ho'
 rw [hc] at hc'
 cases hc'
 exact hT rfl
theorem Five.apart {h:Heap}{z TI TO i1 i2 l1 l2:Addr}{a b c d:Value}{k1 k2:Nat}{xs ys:Array Value} (F:Five z TI TO i1 i2) (hz:PySem.IsZip h z TI TO a) (hTO:PySem.IsPair h TO b c) (h1:h.IsListIter i1 l1 k1) (h2:h.IsListIter i2 l2 k2)
  (hl1:h.IsList l1 xs) (hl2:h.IsList l2 ys):PySem.ZipApart z TI TO i1 i2 l1 l2:=by
 obtain ⟨o1,e1,c1,_⟩:=id h1
 obtain ⟨o2,e2,c2,_⟩:=id h2
 exact ⟨F.TIz,F.TOz,F.i1z,F.i2z,F.TITO,F.TIi1,F.TIi2,F.TOi1,F.TOi2,F.i12,
  j5_ (y:=xs) hl1 hz rfl (by decide),j5_ (y:=xs) hl1 hTO rfl (by decide),j5_ (y:=xs) hl1 e1 c1 (by decide),j5_ (y:=xs) hl1 e2 c2 (by decide),
  j5_ (y:=xs) hl2 hz rfl (by decide),j5_ (y:=xs) hl2 hTO rfl (by decide),j5_ (y:=xs) hl2 e1 c1 (by decide),j5_ (y:=xs) hl2 e2 c2 (by decide)⟩
theorem qgf_ {P:Program}{w:World}{K:PySem.W.Frag}{elts:List Expr}{x1}{tp:Pos}{z TI TO i1 i2 l1 l2:Addr} (F:Five z TI TO i1 i2) (xs ys:List V) :
  Turn P w K (.Tuple elts x1 tp) (Itz K l1 l2 xs ys) [z,TI,TO,i1,i2] z (fun i h=>PySem.IsZip h z TI TO .none/\PySem.IsPair h TI (.ref i1) (.ref i2)/\(∃ a b,PySem.IsPair h TO a b)/\h.IsListIter i1 l1 i/\h.IsListIter i2 l2 i) where
 mem:=by simp
 obj:=fun i h st b hb=>by
  obtain ⟨hz,hTI,⟨a,c,hTO⟩,⟨o1,e1,c1,d1⟩,o2,e2,c2,d2⟩:=st
  simp only [List.mem_cons,List.not_mem_nil,or_false] at hb
  rcases hb with rfl | rfl | rfl | rfl | rfl
  ·exact ⟨_,hz,fun v q=>by have q':Data.fields _ = Data.cell v:=q;cases q'⟩
  ·exact ⟨_,hTI,fun v q=>by have q':Data.seq _ _ = Data.cell v:=q;cases q'⟩
  ·exact ⟨_,hTO,fun v q=>by have q':Data.seq _ _ = Data.cell v:=q;cases q'⟩
  ·exact ⟨o1,e1,fun v q=>by rw [d1] at q;cases q⟩
  ·exact ⟨o2,e2,fun v q=>by rw [d2] at q;cases q⟩
 keep:=fun i h h' st k=>by
  obtain ⟨hz,hTI,⟨a,b,hTO⟩,h1,h2⟩:=st
  exact ⟨k z (by simp) _ hz,k TI (by simp) _ hTI,⟨a,b,k TO (by simp) _ hTO⟩,h1.at fun o e=>k i1 (by simp) o e,h2.at fun o e=>k i2 (by simp) o e⟩
 item:=by
  intro X hP hw hK hc i pins s σ H E I hf st hg
  subst hP hw hK
  obtain ⟨hz,hTI,⟨a,b,hTO⟩,h1,h2⟩:=st
  obtain ⟨q1,q2,b1,b2⟩:=hg
  obtain ⟨its1,rv1,p1,_⟩:=I.list q1
  obtain ⟨its2,rv2,p2,_⟩:=I.list q2
  have hx:xs[i]? = some xs[i]:=List.getElem?_eq_getElem b1
  have hy:ys[i]? = some ys[i]:=List.getElem?_eq_getElem b2
  obtain ⟨u,hu,ru⟩:=rv1.get hx
  obtain ⟨v,hv,rv⟩:=rv2.get hy
  have lt:∀ {c o},s.heap.get? c = some o->c ≠ s.heap.objs.size:=fun e=>Nat.ne_of_lt (Heap.lt_size e)
  refine PySem.wpAny_pyNext_zip_item (F.apart (d:=.none) hz hTO h1 h2 p1.isList p2.isList) hz hTI hTO h1 h2 p1.isList p2.isList (x:=u) (y:=v) (by simpa using hu) (by simpa using hv) fun h' a1 a2 a3 a4 a5 a6 hk=>?_
  refine ⟨_,rfl,PySem.wpAny_letOwnedTupleGo_zip a1 fun h'' hz'' sb=>?_⟩
  have zne:s.heap.objs.size ≠ z:=(lt hz).symm
  have kk:∀ b u,b ∉ [z,TI,TO,i1,i2]->s.heap.get? b = some u->h''.get? b = some u:=fun b u hb e=>by
   simp only [List.mem_cons,List.not_mem_nil,or_false,not_or] at hb
   exact sb.extBut _ _ hb.1 (hk b u hb.1 hb.2.2.1 hb.2.2.2.1 hb.2.2.2.2 e)
  refine ⟨.ref s.heap.objs.size,upd H s.heap.objs.size (.tup [xs[i],ys[i]]),I.turnedUp (t':=s.toks) hf kk (Nat.le_refl _) ⟨by show 2<=sizeLine;decide,[u,v],.cons ru (.cons rv .nil),⟨_,sb.extBut _ _ zne a5,rfl,_,rfl⟩⟩,rfl,
   ⟨_,_,_,I.hok.fresh (Nat.le_refl _),rfl,hx,hy,rfl⟩,⟨hz'',sb.extBut _ _ F.TIz (hk _ _ F.TIz F.TITO F.TIi1 F.TIi2 hTI),⟨_,_,sb.extBut _ _ F.TOz a2⟩,a3.at fun o e=>sb.extBut _ _ F.i1z e,a4.at fun o e=>sb.extBut _ _ F.i2z e⟩,fun b hb=>?_⟩
  have:b ≠ s.heap.objs.size:=by
   obtain ⟨o1,e1,_⟩:=id h1
   obtain ⟨o2,e2,_⟩:=id h2
   simp only [List.mem_cons,List.not_mem_nil,or_false] at hb
   rcases hb with rfl | rfl | rfl | rfl | rfl
   ·exact lt hz
   ·exact lt hTI
   ·exact lt hTO
   ·exact lt e1
   ·exact lt e2
  rw [qf_ this]
  exact (hf b hb).1
 done:=by
  intro X hP hw hK hc i pins s σ H E I hf st hg
  subst hP hw hK
  obtain ⟨hz,hTI,⟨a,b,hTO⟩,h1,h2⟩:=st
  obtain ⟨q1,q2,hend⟩:=hg
  obtain ⟨its1,rv1,p1,_⟩:=I.list q1
  obtain ⟨its2,rv2,p2,_⟩:=I.list q2
  have l1:=rv1.length
  have l2:=rv2.length
  refine PySem.wpAny_pyNext_zip_end (I.ok.hd hc) (F.apart (d:=.none) hz hTO h1 h2 p1.isList p2.isList) hz hTI hTO h1 h2 p1.isList p2.isList ?_ fun h' hk=>⟨rfl,I.turnedL (t':=s.toks) hf fun b u hb e=>?_⟩
  ·rcases hend with q | q
   ·exact .inl (by rw [Array.getElem?_eq_none];simp;omega)
   ·exact .inr (by rw [Array.getElem?_eq_none];simp;omega)
  ·simp only [List.mem_cons,List.not_mem_nil,or_false,not_or] at hb
   exact hk b u hb.1 hb.2.2.1 hb.2.2.2.1 hb.2.2.2.2 e
 self:=fun _ _ _ _ _ st h=>PySem.wpAny_pyIter_zip st.1 h
section
variable {X:Cx}
def iZip (K:PySem.W.Frag) (ta:TA):TI:=fun σ H R=>ta σ H fun vs H1=>∃ l1 l2 xs ys,vs = [.ref l1,.ref l2]/\SqL K H1 l1 xs/\SqL K H1 l2 ys/\R (Itz K l1 l2 xs ys) H1
theorem qgg_:bootBuiltins "zip" = some (.type "zip"):=by decide +kernel
theorem z6_ {elts:List Expr}{x1}{tp:Pos}{a b:Expr}{ta:TA}{p pos:Pos} (hg:Gl X "zip") (hm:X.mg "zip" = none) (ha:PA X [a,b] ta) (hs:starEach [a,b] X.env = [(false,eval a X.env),(false,eval b X.env)]:=by rfl) (hs2:starEach [b] X.env = [(false,eval b X.env)]:=by rfl) :
  PI X (.Tuple elts x1 tp) (.Call (.Name "zip" p) [a,b] [] pos) (iZip X.K ta):=by
 intro pins s σ H R I h
 refine Call_ (yz_ I hg hm qgg_ (PyProof.Rows.callWith_type1 (thn (ha pos pins s σ H _ I h) fun us s1 ⟨vs,H1,I1,r1,q1⟩=>?_) (by rw [hs,hs2]) (by rw [hs2];rfl)))
 obtain ⟨l1,l2,xs,ys,e,h1,h2,q⟩:=q1
 subst e
 obtain ⟨u,v,rfl,ru,rv⟩:=zK_ r1
 cases ru
 cases rv
 obtain ⟨its1,rv1,p1,_⟩:=I1.list h1
 obtain ⟨its2,rv2,p2,_⟩:=I1.list h2
 refine PySem.call_zip_2 p1.isList p2.isList fun h' a1 a2 a3 a4 a5 a6 a7=>?_
 refine PySem.wpAny_pyIter_zip a1 ?_
 refine ⟨s1.heap.objs.size + 4,[s1.heap.objs.size + 4,s1.heap.objs.size + 2,s1.heap.objs.size + 3,s1.heap.objs.size,s1.heap.objs.size + 1],_,_,H1,rfl,I1.kept (t':=s1.toks) fun b o e=>a7 b o e,qgf_ (qig_ _) xs ys,
  ⟨a1,a2,⟨_,_,a3⟩,a4,a5⟩,fun b hb=>?_,q⟩
 have:s1.heap.objs.size<=b:=by
  simp only [List.mem_cons,List.not_mem_nil,or_false] at hb
  rcases hb with rfl | rfl | rfl | rfl | rfl
  ·exact Nat.le_add_right _ 4
  ·exact Nat.le_add_right _ 2
  ·exact Nat.le_add_right _ 3
  ·exact Nat.le_refl _
  ·exact Nat.le_add_right _ 1
 exact I1.fpOk this (I1.hok.fresh this)
end
theorem uu_ {K:PySem.W.Frag}{l1 l2:Addr}{xs ys:List V}{g:TG}{tb:TS}{D:Ends}{σ:St}{H:Hp} (Pv:Nat->St->Hp->Prop) (h0:Pv 0 σ H) (hl:∀ i σ H,i<=xs.length->Pv i σ H->SqL K H l1 xs/\SqL K H l2 ys) (he:xs.length = ys.length)
  (hs:∀ i u v T σ H,i < xs.length->xs[i]? = some u->ys[i]? = some v->H T = none->Pv i σ H->g (.ref T) σ (upd H T (.tup [u,v])) fun σ2 H2=>tb { D with nx:=Pv (i + 1),ct:=Pv (i + 1),bk:=D.nx } σ2 H2) (hd:∀ σ H,Pv xs.length σ H->D.nx σ H) :
  ∃ W:Nat->Nat->St->Hp->Prop,(∃ m,W 0 m σ H)/\∀ i m σ H,W i m σ H →
   ((Itz K l1 l2 xs ys).stop i H/\D.nx σ H)\/((Itz K l1 l2 xs ys).go i H/\∃ N:St->Hp->Prop,(∀ σ' H',N σ' H'->∃ m',m' < m/\W (i + 1) m' σ' H')/\∀ x H',(Itz K l1 l2 xs ys).yld i H x H'->g x σ H' fun σ2 H2=>tb { D with nx:=N,ct:=N,bk:=D.nx } σ2 H2):=by
 refine ⟨fun i m σ H=>m = xs.length - i/\i<=xs.length/\Pv i σ H,⟨xs.length,by simp,Nat.zero_le _,h0⟩,?_⟩
 rintro i m σ H ⟨rfl,hi,p⟩
 obtain ⟨q1,q2⟩:=hl i σ H hi p
 by_cases hlt:i < xs.length
 ·refine .inr ⟨⟨q1,q2,hlt,by omega⟩,Pv (i + 1),fun σ' H' p'=>⟨xs.length - (i + 1),by omega,rfl,hlt,p'⟩,fun x H' y=>?_⟩
  obtain ⟨T,u,v,hT,rfl,hu,hv,rfl⟩:=y
  exact hs i u v T σ H hlt hu hv hT p
 ·have e:i = xs.length:=by omega
  exact .inl ⟨⟨q1,q2,.inl (by omega)⟩,hd σ H (e ▸ p)⟩
end L2
set_option linter.all false
set_option maxRecDepth 100000
set_option maxHeartbeats 1000000
namespace L2
open PySem PySem.Spec PyProof.Rows
inductive Dt where
 | non | bl (b:Bool) | int (i:Int) | str (x:Str) | lst (l:List Dt) | tup (l:List Dt)
mutual
def eqD:Dt->Dt->Bool
 | .non,.non=>true
 | .bl a,.bl b=>a == b
 | .bl a,.int b=>(if a then 1 else 0) == b
 | .int a,.bl b=>a == (if b then 1 else 0)
 | .int a,.int b=>a == b
 | .str a,.str b=>a == b
 | .lst a,.lst b=>eqDs a b
 | .tup a,.tup b=>eqDs a b
 | _,_=>false
def eqDs:List Dt->List Dt->Bool
 | [],[]=>true
 | a :: as,b :: bs=>eqD a b && eqDs as bs
 | [],_ :: _=>false
 | _ :: _,[]=>false
end
mutual
def depD:Dt->Nat
 | .lst a=>yo_ a + 1
 | .tup a=>yo_ a + 1
 | _=>0
def yo_:List Dt->Nat
 | []=>0
 | a :: as=>max (depD a) (yo_ as)
end
mutual
def Sees (K:PySem.W.Frag) (H:Hp):V->Dt->Prop
 | v,.non=>v = .non
 | v,.bl b=>v = .bl b
 | v,.int i=>v = .int i
 | v,.str x=>v = .str x
 | v,.lst ds=>∃ a xs,v = .ref a/\SqL K H a xs/\SeesL K H xs ds
 | v,.tup ds=>∃ a xs,v = .ref a/\SqT K H a xs/\SeesL K H xs ds
def SeesL (K:PySem.W.Frag) (H:Hp):List V->List Dt->Prop
 | xs,[]=>xs = []
 | xs,d :: ds=>∃ v vs,xs = v :: vs/\Sees K H v d/\SeesL K H vs ds
end
theorem vC_:∀ {a b:List Dt},eqDs a b = true->a.length = b.length
 | [],[],_=>rfl
 | x :: a,y :: b,h=>by
  rw [eqDs,Bool.and_eq_true] at h
  rw [List.length_cons,List.length_cons,vC_ h.2]
 | [],_ :: _,h=>by rw [eqDs] at h;cases h
 | _ :: _,[],h=>by rw [eqDs] at h;cases h
theorem SeesL.length {K:PySem.W.Frag}{H:Hp}:∀ {ds:List Dt}{xs:List V},SeesL K H xs ds->xs.length = ds.length
 | [],xs,h=>by rw [SeesL] at h;rw [h];rfl
 | d :: ds,xs,h=>by
  rw [SeesL] at h
  obtain ⟨v,vs,rfl,_,t⟩:=h
  rw [List.length_cons,List.length_cons,SeesL.length t]
theorem SeesL.get {K:PySem.W.Frag}{H:Hp}:∀ {ds:List Dt}{xs:List V} (j:Nat) (h1:j < xs.length) (h2:j < ds.length),SeesL K H xs ds->Sees K H xs[j] ds[j]
 | d :: ds,xs,j,h1,h2,h=>by
  rw [SeesL] at h
  obtain ⟨v,vs,rfl,s,t⟩:=h
  cases j with
  | zero=>exact s
  | succ j=>exact SeesL.get j (by simpa using h1) (by simpa using h2) t
theorem zo_:∀ {a b:List Dt},a.length = b.length->eqDs a b = (List.range a.length).all fun j=>eqD (a.getD j .non) (b.getD j .non)
 | [],[],_=>by rw [eqDs];rfl
 | x :: a,y :: b,h=>by
  have ih:=zo_ (a:=a) (b:=b) (by simpa using h)
  rw [eqDs,ih,List.length_cons,List.range_succ_eq_map,List.all_cons,List.all_map]
  rfl
theorem qcs_:∀ {ds:List Dt}{j:Nat} (h:j < ds.length),depD ds[j]<=yo_ ds
 | d :: ds,j,h=>by
  rw [yo_]
  cases j with
  | zero=>exact Nat.le_max_left _ _
  | succ j =>
   have h':j < ds.length:=by simpa using h
   exact Nat.le_trans (qcs_ (ds:=ds) (j:=j) h') (Nat.le_max_right _ _)
mutual
theorem yW_:∀ d:Dt,eqD d d = true
 | .non=>by rw [eqD]
 | .bl b=>by rw [eqD];exact beq_self_eq_true _
 | .int b=>by rw [eqD];exact beq_self_eq_true _
 | .str b=>by rw [eqD];exact beq_self_eq_true _
 | .lst l=>by rw [eqD];exact z7_ l
 | .tup l=>by rw [eqD];exact z7_ l
theorem z7_:∀ l:List Dt,eqDs l l = true
 | []=>by rw [eqDs]
 | d :: l=>by rw [eqDs,yW_ d,z7_ l];rfl
end
section
variable {X:Cx}{pins:List (Addr × Obj)}{σ:St}{H:Hp}{s:Shared}
mutual
theorem qgh_ (I:Inv X pins σ H s):∀ {d d':Dt}{v:V},Sees X.K H v d->Sees X.K H v d'->d = d'
 | .non,d',v,h,h'=>by
  rw [Sees] at h;subst h
  cases d' <;> rw [Sees] at h' <;> first | (obtain ⟨a,xs,z,_⟩:=h';cases z) | rfl | cases h'
 | .bl b,d',v,h,h'=>by
  rw [Sees] at h;subst h
  cases d' <;> rw [Sees] at h' <;> first | (obtain ⟨a,xs,z,_⟩:=h';cases z) | (cases h';rfl) | cases h'
 | .int b,d',v,h,h'=>by
  rw [Sees] at h;subst h
  cases d' <;> rw [Sees] at h' <;> first | (obtain ⟨a,xs,z,_⟩:=h';cases z) | (cases h';rfl) | cases h'
 | .str b,d',v,h,h'=>by
  rw [Sees] at h;subst h
  cases d' <;> rw [Sees] at h' <;> first | (obtain ⟨a,xs,z,_⟩:=h';cases z) | (cases h';rfl) | cases h'
 | .lst ds,d',v,h,h'=>by
  rw [Sees] at h
  obtain ⟨a,xs,rfl,q,t⟩:=h
  cases d' with
  | lst ds' =>
   rw [Sees] at h'
   obtain ⟨a',xs',z,q',t'⟩:=h'
   cases z
   have:=I.list_inj q q'
   subst this
   rw [y7_ I t t']
  | tup ds' =>
   rw [Sees] at h'
   obtain ⟨a',xs',z,q',t'⟩:=h'
   cases z
   obtain ⟨its,_,p,_⟩:=I.list q
   obtain ⟨its',_,p',_⟩:=I.tuple q'
   exact absurd rfl (SeqAt.ne_of_list_tuple p.isList p')
  | _=>rw [Sees] at h';cases h'
 | .tup ds,d',v,h,h'=>by
  rw [Sees] at h
  obtain ⟨a,xs,rfl,q,t⟩:=h
  cases d' with
  | tup ds' =>
   rw [Sees] at h'
   obtain ⟨a',xs',z,q',t'⟩:=h'
   cases z
   have:=I.tuple_inj q q'
   subst this
   rw [y7_ I t t']
  | lst ds' =>
   rw [Sees] at h'
   obtain ⟨a',xs',z,q',t'⟩:=h'
   cases z
   obtain ⟨its,_,p,_⟩:=I.tuple q
   obtain ⟨its',_,p',_⟩:=I.list q'
   exact absurd rfl (SeqAt.ne_of_list_tuple p'.isList p)
  | _=>rw [Sees] at h';cases h'
theorem y7_ (I:Inv X pins σ H s):∀ {ds ds':List Dt}{xs:List V},SeesL X.K H xs ds->SeesL X.K H xs ds'->ds = ds'
 | [],ds',xs,h,h'=>by
  rw [SeesL] at h;subst h
  cases ds' with
  | nil=>rfl
  | cons d' ds'=>rw [SeesL] at h';obtain ⟨_,_,z,_⟩:=h';cases z
 | d :: ds,ds',xs,h,h'=>by
  rw [SeesL] at h
  obtain ⟨v,vs,rfl,q,t⟩:=h
  cases ds' with
  | nil=>rw [SeesL] at h';cases h'
  | cons d' ds' =>
   rw [SeesL] at h'
   obtain ⟨v',vs',z,q',t'⟩:=h'
   cases z
   rw [qgh_ I q q',y7_ I t t']
end
def qdm_:Dt->Bool
 | .lst _=>false
 | .tup _=>false
 | _=>true
theorem qct_ (I:Inv X pins σ H s) {A:Around}{d d':Dt}{v v':V}{u u':Value} (h:Sees X.K H v d) (h':Sees X.K H v' d') (r:RelV v u) (r':RelV v' u') (f:qdm_ d = true) (hu:A.units < cLine):SeqAt.EqAt A s u u' (eqD d d'):=by
 have ends:∀ (T:SeqAt.EqAt A s u u' (eqD d d')),SeqAt.EqAt A s u u' (eqD d d'):=fun T=>T
 cases d with
 | lst l=>exact absurd (show false = true from f) Bool.false_ne_true
 | tup l=>exact absurd (show false = true from f) Bool.false_ne_true
 | non =>
  simp only [Sees] at h;subst h;cases r
  cases d' with
  | lst l=>simp only [Sees] at h';obtain ⟨a,xs,rfl,q,t⟩:=h';cases r';obtain ⟨its,rv,p,_⟩:=I.list q;simp only [eqD];exact SeqAt.EqAt.none_list p.isList hu
  | tup l=>simp only [Sees] at h';obtain ⟨a,xs,rfl,q,t⟩:=h';cases r';obtain ⟨its,rv,p,_⟩:=I.tuple q;simp only [eqD];exact SeqAt.EqAt.none_tuple p hu
  | non=>simp only [Sees] at h';subst h';simp only [eqD];exact jz_ (y:=.non) (x:=.non) rfl r' rfl rfl
  | bl b=>simp only [Sees] at h';subst h';simp only [eqD];exact jz_ (y:=.non) (x:=.bl b) rfl r' rfl rfl
  | int b=>simp only [Sees] at h';subst h';simp only [eqD];exact jz_ (y:=.non) (x:=.int b) rfl r' rfl rfl
  | str b=>simp only [Sees] at h';subst h';simp only [eqD];exact jz_ (y:=.non) (x:=.str b) rfl r' rfl rfl
 | bl c =>
  simp only [Sees] at h;subst h
  cases d' with
  | lst l=>cases r;simp only [Sees] at h';obtain ⟨a,xs,rfl,q,t⟩:=h';cases r';obtain ⟨its,rv,p,_⟩:=I.list q;simp only [eqD];exact SeqAt.EqAt.bool_list c p.isList hu
  | tup l=>cases r;simp only [Sees] at h';obtain ⟨a,xs,rfl,q,t⟩:=h';cases r';obtain ⟨its,rv,p,_⟩:=I.tuple q;simp only [eqD];exact SeqAt.EqAt.bool_tuple c p hu
  | non=>simp only [Sees] at h';subst h';simp only [eqD];exact jz_ (y:=.bl c) (x:=.non) r r' rfl rfl
  | bl b=>simp only [Sees] at h';subst h';simp only [eqD];exact jz_ (y:=.bl c) (x:=.bl b) r r' rfl rfl
  | int b=>simp only [Sees] at h';subst h';simp only [eqD];exact jz_ (y:=.bl c) (x:=.int b) r r' rfl rfl
  | str b=>simp only [Sees] at h';subst h';simp only [eqD];exact jz_ (y:=.bl c) (x:=.str b) r r' rfl rfl
 | int c =>
  simp only [Sees] at h;subst h
  cases d' with
  | lst l=>obtain ⟨t,rfl⟩:=r;simp only [Sees] at h';obtain ⟨a,xs,rfl,q,t⟩:=h';cases r';obtain ⟨its,rv,p,_⟩:=I.list q;simp only [eqD];exact SeqAt.EqAt.int_list c _ p.isList hu
  | tup l=>obtain ⟨t,rfl⟩:=r;simp only [Sees] at h';obtain ⟨a,xs,rfl,q,t⟩:=h';cases r';obtain ⟨its,rv,p,_⟩:=I.tuple q;simp only [eqD];exact SeqAt.EqAt.int_tuple c _ p hu
  | non=>simp only [Sees] at h';subst h';simp only [eqD];exact jz_ (y:=.int c) (x:=.non) r r' rfl rfl
  | bl b=>simp only [Sees] at h';subst h';simp only [eqD];exact jz_ (y:=.int c) (x:=.bl b) r r' rfl rfl
  | int b=>simp only [Sees] at h';subst h';simp only [eqD];exact jz_ (y:=.int c) (x:=.int b) r r' rfl rfl
  | str b=>simp only [Sees] at h';subst h';simp only [eqD];exact jz_ (y:=.int c) (x:=.str b) r r' rfl rfl
 | str c =>
  simp only [Sees] at h;subst h
  cases d' with
  | lst l=>obtain ⟨t,rfl⟩:=r;simp only [Sees] at h';obtain ⟨a,xs,rfl,q,t⟩:=h';cases r';obtain ⟨its,rv,p,_⟩:=I.list q;simp only [eqD];exact SeqAt.EqAt.str_list c _ p.isList hu
  | tup l=>obtain ⟨t,rfl⟩:=r;simp only [Sees] at h';obtain ⟨a,xs,rfl,q,t⟩:=h';cases r';obtain ⟨its,rv,p,_⟩:=I.tuple q;simp only [eqD];exact SeqAt.EqAt.str_tuple c _ p hu
  | non=>simp only [Sees] at h';subst h';simp only [eqD];exact jz_ (y:=.str c) (x:=.non) r r' rfl rfl
  | bl b=>simp only [Sees] at h';subst h';simp only [eqD];exact jz_ (y:=.str c) (x:=.bl b) r r' rfl rfl
  | int b=>simp only [Sees] at h';subst h';simp only [eqD];exact jz_ (y:=.str c) (x:=.int b) r r' rfl rfl
  | str b=>simp only [Sees] at h';subst h';simp only [eqD];exact jz_ (y:=.str c) (x:=.str b) r r' rfl rfl
def eJ (ds ds':List Dt) (j:Nat):Bool:=eqD (ds.getD j .non) (ds'.getD j .non)
theorem yX_ {A:Around}{ds ds':List Dt}{xs xs':List V}{its its':List Value} (t:SeesL X.K H xs ds) (t':SeesL X.K H xs' ds') (rv:Vals xs its) (rv':Vals xs' its')
  (ih:∀ (d d':Dt) (v v':V) (u u':Value),depD d<=yo_ ds->Sees X.K H v d->Sees X.K H v' d'->RelV v u->RelV v' u'->SeqAt.EqAt A s u u' (eqD d d')) :
  ∀ j (h1:j < its.toArray.size) (h2:j < its'.toArray.size),SeqAt.EqAt A s its.toArray[j] its'.toArray[j] (eJ ds ds' j):=by
 intro j h1 h2
 have l1:=rv.length
 have l2:=rv'.length
 have k1:=t.length
 have k2:=t'.length
 simp only [List.size_toArray] at h1 h2
 have b1:j < xs.length:=by omega
 have b2:j < xs'.length:=by omega
 have c1:j < ds.length:=by omega
 have c2:j < ds'.length:=by omega
 obtain ⟨u,hu,ru⟩:=rv.get (List.getElem?_eq_getElem b1)
 obtain ⟨u',hu',ru'⟩:=rv'.get (List.getElem?_eq_getElem b2)
 have e1:its.toArray[j] = u:=by
  have:=(List.getElem?_eq_some_iff.mp hu).2
  simpa using this
 have e2:its'.toArray[j] = u':=by
  have:=(List.getElem?_eq_some_iff.mp hu').2
  simpa using this
 rw [e1,e2]
 have g1:ds.getD j .non = ds[j]:=by rw [List.getD_eq_getElem?_getD,List.getElem?_eq_getElem c1];rfl
 have g2:ds'.getD j .non = ds'[j]:=by rw [List.getD_eq_getElem?_getD,List.getElem?_eq_getElem c2];rfl
 unfold eJ
 rw [g1,g2]
 exact ih _ _ _ _ _ _ (qcs_ c1) (SeesL.get j b1 c1 t) (SeesL.get j b2 c2 t') ru ru'
theorem zP_ {ds ds':List Dt} (h:ds.length ≠ ds'.length):eqDs ds ds' = false:=by
 cases q:eqDs ds ds' with
 | false=>rfl
 | true=>exact absurd (vC_ q) h
theorem uv_ {ds ds':List Dt}:((List.range (min ds.length ds'.length)).all (eJ ds ds') && ds.length == ds'.length) = eqDs ds ds':=by
 by_cases h:ds.length = ds'.length
 ·rw [h,Nat.min_self,beq_self_eq_true,Bool.and_true,zo_ h,h]
  rfl
 ·rw [zP_ h,beq_eq_false_iff_ne.mpr h,Bool.and_false]
theorem vq_ (I:Inv X pins σ H s):∀ (n:Nat) (A:Around) (d d':Dt) (v v':V) (u u':Value),depD d<=n->Sees X.K H v d->Sees X.K H v' d'->RelV v u->RelV v' u'->A.units + n < cLine->SeqAt.EqAt A s u u' (eqD d d'):=by
 intro n
 induction n with
 | zero =>
  intro A d d' v v' u u' hn h h' r r' hu
  refine qct_ I h h' r r' ?_ hu
  cases d with
  | lst l=>simp only [depD] at hn;omega
  | tup l=>simp only [depD] at hn;omega
  | _=>rfl
 | succ n ih =>
  intro A d d' v v' u u' hn h h' r r' hu
  have hu0:A.units < cLine:=by omega
  have hin:A.in1.units + n < cLine:=by
   have:A.in1.units = A.units + 1:=rfl
   omega
  cases fd:qdm_ d with
  | true=>exact qct_ I h h' r r' fd hu0
  | false =>
   cases d with
   | lst l =>
    simp only [depD] at hn
    simp only [Sees] at h
    obtain ⟨a,xs,rfl,q,t⟩:=h
    cases r
    obtain ⟨its,rv,p,_⟩:=I.list q
    cases d' with
    | non=>simp only [Sees] at h';subst h';cases r';simp only [eqD];exact SeqAt.EqAt.list_none p.isList hu0
    | bl b=>simp only [Sees] at h';subst h';cases r';simp only [eqD];exact SeqAt.EqAt.list_bool b p.isList hu0
    | int b=>simp only [Sees] at h';subst h';obtain ⟨t',rfl⟩:=r';simp only [eqD];exact SeqAt.EqAt.list_int b _ p.isList hu0
    | str b=>simp only [Sees] at h';subst h';obtain ⟨t',rfl⟩:=r';simp only [eqD];exact SeqAt.EqAt.list_str b _ p.isList hu0
    | tup l' =>
     simp only [Sees] at h'
     obtain ⟨a',xs',rfl,q',t'⟩:=h'
     cases r'
     obtain ⟨its',rv',p',_⟩:=I.tuple q'
     simp only [eqD]
     exact SeqAt.EqAt.list_tuple p.isList p' hu0
    | lst l' =>
     have h2:=h'
     simp only [Sees] at h'
     obtain ⟨a',xs',rfl,q',t'⟩:=h'
     cases r'
     obtain ⟨its',rv',p',_⟩:=I.list q'
     by_cases e:a = a'
     ·subst e
      have:xs = xs':=I.list_inj q q'
      subst this
      have:=y7_ I t t'
      subst this
      rw [yW_]
      exact SeqAt.EqAt.same _
     ·refine SeqAt.EqAt.of_refs e ?_
      have le1:=rv.length
      have le2:=rv'.length
      have k1:=t.length
      have k2:=t'.length
      simp only [eqD]
      by_cases hl:l.length = l'.length
      ·have:=SeqAt.RcAt.lists (A:=A) (e:=eJ l l') p.isList p'.isList (by simp only [List.size_toArray];omega) hu0 (yX_ t t' rv rv' fun d d' v v' u u' hd b1 b2 b3 b4=>ih A.in1 d d' v v' u u' (by omega) b1 b2 b3 b4 hin)
       have hs:its.toArray.size = l.length:=by simp only [List.size_toArray];omega
       rw [hs] at this
       rw [zo_ hl]
       exact this
      ·rw [zP_ hl]
       exact SeqAt.RcAt.lists_lengths p.isList p'.isList (by simp only [List.size_toArray,bne_iff_ne,ne_eq];omega) hu0
   | tup l =>
    simp only [depD] at hn
    simp only [Sees] at h
    obtain ⟨a,xs,rfl,q,t⟩:=h
    cases r
    obtain ⟨its,rv,p,_⟩:=I.tuple q
    cases d' with
    | non=>simp only [Sees] at h';subst h';cases r';simp only [eqD];exact SeqAt.EqAt.tuple_none p hu0
    | bl b=>simp only [Sees] at h';subst h';cases r';simp only [eqD];exact SeqAt.EqAt.tuple_bool b p hu0
    | int b=>simp only [Sees] at h';subst h';obtain ⟨t',rfl⟩:=r';simp only [eqD];exact SeqAt.EqAt.tuple_int b _ p hu0
    | str b=>simp only [Sees] at h';subst h';obtain ⟨t',rfl⟩:=r';simp only [eqD];exact SeqAt.EqAt.tuple_str b _ p hu0
    | lst l' =>
     simp only [Sees] at h'
     obtain ⟨a',xs',rfl,q',t'⟩:=h'
     cases r'
     obtain ⟨its',rv',p',_⟩:=I.list q'
     simp only [eqD]
     exact SeqAt.EqAt.tuple_list p p'.isList hu0
    | tup l' =>
     simp only [Sees] at h'
     obtain ⟨a',xs',rfl,q',t'⟩:=h'
     cases r'
     obtain ⟨its',rv',p',_⟩:=I.tuple q'
     by_cases e:a = a'
     ·subst e
      have:xs = xs':=I.tuple_inj q q'
      subst this
      have:=y7_ I t t'
      subst this
      rw [yW_]
      exact SeqAt.EqAt.same _
     ·refine SeqAt.EqAt.of_refs e ?_
      have le1:=rv.length
      have le2:=rv'.length
      have k1:=t.length
      have k2:=t'.length
      simp only [eqD]
      have:=SeqAt.RcAt.tuples (A:=A) (e:=eJ l l') p p' hu0 (yX_ t t' rv rv' fun d d' v v' u u' hd b1 b2 b3 b4=>ih A.in1 d d' v v' u u' (by omega) b1 b2 b3 b4 hin)
      have hs:its.toArray.size = l.length:=by simp only [List.size_toArray];omega
      have hs':its'.toArray.size = l'.length:=by simp only [List.size_toArray];omega
      rw [hs,hs',uv_] at this
      exact this
   | _=>cases fd
end
section
variable {X:Cx}
def qle_:Dt->Dt->Bool
 | .lst _,.tup _=>false
 | .tup _,.lst _=>false
 | _,_=>true
def rEqD (K:PySem.W.Frag) (neg:Bool):R2:=fun x y H Q=>∃ d d',Sees K H x d/\Sees K H y d'/\qdm_ d = false/\qle_ d d' = true/\(∃ p,y = .ref p)/\depD d<=60/\Q (.bl (if neg then !eqD d d' else eqD d d')) H
theorem qev_ (hu:X.A.units + 64 < cLine):OpR X (compareOp .Eq) (rEqD X.K false):=by
 intro pins s σ H x y v u Q I rx ry h
 obtain ⟨d,d',h1,h2,fd,sk,⟨p',rfl⟩,hd,q⟩:=h
 cases ry
 have hu0:X.A.units < cLine:=by omega
 have hin:X.A.in1.units + 60 < cLine:=by
  have:X.A.in1.units = X.A.units + 1:=rfl
  omega
 have fin:∀ b,b = eqD d d'->EP X pins σ Q (.bool b) s:=fun b e=>⟨.bl b,H,I,rfl,by rw [e];exact q⟩
 cases d with
 | lst l =>
  simp only [depD] at hd
  simp only [Sees] at h1
  obtain ⟨a,xs,rfl,q1,t⟩:=h1
  cases rx
  obtain ⟨its,rv,p,_⟩:=I.list q1
  cases d' with
  | tup l' =>
   simp only [Sees] at h2
   obtain ⟨a',xs',z,q',t'⟩:=h2
   cases z
   obtain ⟨its',rv',p2,_⟩:=I.tuple q'
   exact SeqAt.RcAt.list_tuple p.isList p2 hu0 _ _ _ _ (fin _ (by simp only [eqD]))
  | lst l' =>
   simp only [Sees] at h2
   obtain ⟨a',xs',z,q',t'⟩:=h2
   cases z
   obtain ⟨its',rv',p2,_⟩:=I.list q'
   have le1:=rv.length
   have le2:=rv'.length
   have k1:=t.length
   have k2:=t'.length
   by_cases hl:l.length = l'.length
   ·have hs:its.toArray.size = l.length:=by simp only [List.size_toArray];omega
    refine SeqAt.RcAt.lists (A:=X.A) (e:=eJ l l') p.isList p2.isList (by simp only [List.size_toArray];omega) hu0 (yX_ t t' rv rv' fun d d' v v' u u' hd' b1 b2 b3 b4=>vq_ I 60 X.A.in1 d d' v v' u u' (by omega) b1 b2 b3 b4 hin) _ _ _ _ (fin _ ?_)
    simp only [eqD]
    rw [hs,zo_ hl]
    rfl
   ·refine SeqAt.RcAt.lists_lengths p.isList p2.isList (by simp only [List.size_toArray,bne_iff_ne,ne_eq];omega) hu0 _ _ _ _ (fin _ ?_)
    simp only [eqD]
    rw [zP_ hl]
  | _=>simp only [Sees] at h2;cases h2
 | tup l =>
  simp only [depD] at hd
  simp only [Sees] at h1
  obtain ⟨a,xs,rfl,q1,t⟩:=h1
  cases rx
  obtain ⟨its,rv,p,_⟩:=I.tuple q1
  cases d' with
  | lst l' =>
   simp only [Sees] at h2
   obtain ⟨a',xs',z,q',t'⟩:=h2
   cases z
   obtain ⟨its',rv',p2,_⟩:=I.list q'
   exact SeqAt.RcAt.tuple_list p p2.isList hu0 _ _ _ _ (fin _ (by simp only [eqD]))
  | tup l' =>
   simp only [Sees] at h2
   obtain ⟨a',xs',z,q',t'⟩:=h2
   cases z
   obtain ⟨its',rv',p2,_⟩:=I.tuple q'
   have le1:=rv.length
   have le2:=rv'.length
   have k1:=t.length
   have k2:=t'.length
   have hs:its.toArray.size = l.length:=by simp only [List.size_toArray];omega
   have hs':its'.toArray.size = l'.length:=by simp only [List.size_toArray];omega
   refine SeqAt.RcAt.tuples (A:=X.A) (e:=eJ l l') p p2 hu0 (yX_ t t' rv rv' fun d d' v v' u u' hd' b1 b2 b3 b4=>vq_ I 60 X.A.in1 d d' v v' u u' (by omega) b1 b2 b3 b4 hin) _ _ _ _ (fin _ ?_)
   simp only [eqD]
   rw [hs,hs',uv_]
  | _=>simp only [Sees] at h2;cases h2
 | _=>cases fd
theorem qew_ (hu:X.A.units + 64 < cLine):OpR X (compareOp .NotEq) (rEqD X.K true):=by
 intro pins s σ H x y v u Q I rx ry h
 obtain ⟨d,d',h1,h2,fd,sk,⟨p',rfl⟩,hd,q⟩:=h
 cases ry
 have hu0:X.A.units < cLine:=by omega
 have hin:X.A.in1.units + 60 < cLine:=by
  have:X.A.in1.units = X.A.units + 1:=rfl
  omega
 have fin:∀ b,b = (!eqD d d')->EP X pins σ Q (.bool b) s:=fun b e=>⟨.bl b,H,I,rfl,by rw [e];exact q⟩
 cases d with
 | lst l =>
  simp only [depD] at hd
  simp only [Sees] at h1
  obtain ⟨a,xs,rfl,q1,t⟩:=h1
  cases rx
  obtain ⟨its,rv,p,_⟩:=I.list q1
  cases d' with
  | lst l' =>
   simp only [Sees] at h2
   obtain ⟨a',xs',z,q',t'⟩:=h2
   cases z
   obtain ⟨its',rv',p2,_⟩:=I.list q'
   have le1:=rv.length
   have le2:=rv'.length
   have k1:=t.length
   have k2:=t'.length
   by_cases hl:l.length = l'.length
   ·have hs:its.toArray.size = l.length:=by simp only [List.size_toArray];omega
    refine SeqAt.RcNeAt.lists (A:=X.A) (e:=eJ l l') p.isList p2.isList (by simp only [List.size_toArray];omega) hu0 (yX_ t t' rv rv' fun d d' v v' u u' hd' b1 b2 b3 b4=>vq_ I 60 X.A.in1 d d' v v' u u' (by omega) b1 b2 b3 b4 hin) _ _ _ _ (fin _ ?_)
    simp only [eqD]
    rw [hs,zo_ hl]
    rfl
   ·refine SeqAt.RcNeAt.lists_lengths p.isList p2.isList (by simp only [List.size_toArray,bne_iff_ne,ne_eq];omega) hu0 _ _ _ _ (fin _ ?_)
    simp only [eqD]
    rw [zP_ hl]
    rfl
  | tup l'=>cases sk
  | _=>simp only [Sees] at h2;cases h2
 | tup l =>
  simp only [depD] at hd
  simp only [Sees] at h1
  obtain ⟨a,xs,rfl,q1,t⟩:=h1
  cases rx
  obtain ⟨its,rv,p,_⟩:=I.tuple q1
  cases d' with
  | tup l' =>
   simp only [Sees] at h2
   obtain ⟨a',xs',z,q',t'⟩:=h2
   cases z
   obtain ⟨its',rv',p2,_⟩:=I.tuple q'
   have le1:=rv.length
   have le2:=rv'.length
   have k1:=t.length
   have k2:=t'.length
   have hs:its.toArray.size = l.length:=by simp only [List.size_toArray];omega
   have hs':its'.toArray.size = l'.length:=by simp only [List.size_toArray];omega
   refine SeqAt.RcNeAt.tuples (A:=X.A) (e:=eJ l l') p p2 hu0 (yX_ t t' rv rv' fun d d' v v' u u' hd' b1 b2 b3 b4=>vq_ I 60 X.A.in1 d d' v v' u u' (by omega) b1 b2 b3 b4 hin) _ _ _ _ (fin _ ?_)
   simp only [eqD]
   rw [hs,hs',uv_]
  | lst l'=>cases sk
  | _=>simp only [Sees] at h2;cases h2
 | _=>cases fd
end
end L2
set_option linter.all false
set_option maxRecDepth 100000
set_option maxHeartbeats 1000000
namespace L2
open PySem PySem.Spec PyProof.Rows
theorem Same.up {H H':Hp}{D:Addr}{o:HO} (s:Same H H') (n:H D = none):Same H (upd H' D o):=fun b u e=>by rw [qf_ (qm_ e n)];exact s b u e
theorem z8_ {J:It}{n k:Nat}{src f:Nat->V}{te:TE}{cs:St}{H1:Hp}{D:Addr}{Q:Hp->Prop} (hD:H1 D = none) (hk:k = cs.length) (hn:n<=sizeLine)
  (stop:∀ H,Same H1 H->J.stop n H) (go:∀ i H,i < n->Same H1 H->J.go i H) (yld:∀ i H x H',i < n->Same H1 H->J.yld i H x H'->x = src i/\H' = H)
  (he:∀ i H (R:V->Hp->Prop),i < n->Same H1 H->(∀ H4,Same H H4->R (f i) H4)->te (cs ++ [some (src i)]) H R)
  (hQ:∀ H,Same H1 H->H D = some (.lst ((List.range n).map f))->Q H):jp_ J (qZ_ k) jE_ te (cs ++ [none]) H1 D Q:=by
 refine ⟨fun i m ys σ H=>m = n - i/\i<=n/\Same H1 H/\ys = (List.range i).map f/\H D = some (.lst ys)/\∃ o,σ = cs ++ [o],⟨n,rfl,Nat.zero_le _,(Same.refl _).up hD,rfl,qc_,none,rfl⟩,?_⟩
 rintro i m ys σ H ⟨rfl,hi,sm,rfl,hd,o,rfl⟩
 refine ⟨hd,?_⟩
 by_cases hlt:i < n
 ·refine .inr ⟨go i H hlt sm,fun x H' y=>?_⟩
  obtain ⟨rfl,rfl⟩:=yld i H x H' hlt sm y
  have e:(cs ++ [o]).set k (some (src i)) = cs ++ [some (src i)]:=by
   rw [hk,List.set_append_right _ _ (Nat.le_refl _),Nat.sub_self]
   rfl
  unfold qZ_
  rw [e]
  unfold jE_
  refine iteT ?_
  refine he i H' _ hlt sm fun H4 s4=>⟨s4 _ _ hd,?_,n - (i + 1),by omega,rfl,hlt,(sm.trans s4).up hD,?_,qc_,_,rfl⟩
  ·rw [List.length_map,List.length_range]
   omega
  ·rw [List.range_succ,List.map_append]
   rfl
 ·have e:i = n:=by omega
  subst e
  exact .inl ⟨stop H sm,hQ H sm hd⟩
theorem ue_ {K:PySem.W.Frag}{a:Addr}{xs:List V}{f:V->V}{k:Nat}{te:TE}{cs:St}{H1:Hp}{D:Addr}{Q:Hp->Prop} (hs:SqL K H1 a xs) (hD:H1 D = none) (hk:k = cs.length) (hn:xs.length<=sizeLine)
  (he:∀ x H (R:V->Hp->Prop),x ∈ xs->Same H1 H->(∀ H4,Same H H4->R (f x) H4)->te (cs ++ [some x]) H R)
  (hQ:∀ H,Same H1 H->H D = some (.lst (xs.map f))->Q H):jp_ (Itl K a) (qZ_ k) jE_ te (cs ++ [none]) H1 D Q:=by
 refine z8_ (src:=fun i=>xs.getD i .non) (f:=fun i=>f (xs.getD i .non)) (n:=xs.length) hD hk hn (fun H sm=>⟨xs,sm.seq hs,Nat.le_refl _⟩) (fun i H hi sm=>⟨xs,xs[i],sm.seq hs,List.getElem?_eq_getElem hi⟩) (fun i H x H' hi sm y=>?_) (fun i H R hi sm r=>?_) (fun H sm hd=>hQ H sm ?_)
 ·obtain ⟨e,y⟩:=y
  refine ⟨?_,e⟩
  have:=y xs (sm.seq hs)
  rw [List.getD_eq_getElem?_getD,this]
  rfl
 ·refine he _ H R ?_ sm r
  rw [List.getD_eq_getElem?_getD,List.getElem?_eq_getElem hi]
  exact List.getElem_mem hi
 ·rw [hd]
  congr 2
  apply List.ext_getElem
  ·simp
  ·intro i h1 h2
   simp at h1 h2
   simp [h1]
theorem qb4_ {lo:Int}{n:Nat}{f:Nat->V}{k:Nat}{te:TE}{cs:St}{H1:Hp}{D:Addr}{Q:Hp->Prop} (hD:H1 D = none) (hk:k = cs.length) (hn:n<=sizeLine)
  (he:∀ i H (R:V->Hp->Prop),i < n->Same H1 H->(∀ H4,Same H H4->R (f i) H4)->te (cs ++ [some (.int (lo + i))]) H R)
  (hQ:∀ H,Same H1 H->H D = some (.lst ((List.range n).map f))->Q H):jp_ (Itr lo n) (qZ_ k) jE_ te (cs ++ [none]) H1 D Q :=
 z8_ (src:=fun i=>.int (lo + (i:Nat))) hD hk hn (fun H _=>Nat.le_refl _) (fun i H hi _=>hi) (fun i H x H' _ _ y=>⟨y.2,y.1⟩) he hQ
end L2
namespace L2
open PySem PySem.Spec PyProof.Rows
theorem qb5_ {n:Nat}{f:Nat->V}{k:Nat}{te:TE}{cs:St}{H1:Hp}{D:Addr}{Q:Hp->Prop} (hD:H1 D = none) (hk:k = cs.length) (hn:n<=sizeLine)
  (he:∀ i H (R:V->Hp->Prop),i < n->Same H1 H->(∀ H4,Same H H4->R (f i) H4)->te (cs ++ [some (.int (i:Nat))]) H R)
  (hQ:∀ H,Same H1 H->H D = some (.lst ((List.range n).map f))->Q H):jp_ (Itr 0 n) (qZ_ k) jE_ te (cs ++ [none]) H1 D Q :=
 qb4_ hD hk hn (fun i H R hi sm r=>by
  have e:(0:Int) + (i:Nat) = (i:Nat):=by omega
  rw [e]
  exact he i H R hi sm r) hQ
end L2
namespace L2
open PySem PySem.Spec PyProof.Rows
section
variable {X:Cx}{K:PySem.W.Frag}
theorem uw_ {e:Expr}{f:Str}{pos:Pos}{ta:TE} (hK:X.K = K) (he:PE X e ta) (hb:attributeBase e f X.env (eval e X.env) = eval e X.env):PE X (.Attribute e f pos) (tFld K ta f):=by
 subst hK
 exact qC_ he hb
theorem jU_ (hK:X.K = K):IxR X (rIxL K):=by subst hK;exact qB_
theorem u9_ (hK:X.K = K):yE_ X (.builtin "len") (fun xs H Q=>∃ p ys,xs = [.ref p] ∧ (SqL K H p ys ∨ SqT K H p ys) ∧ Q (.int ys.length) H):=by subst hK;exact qv_
end
end L2
set_option linter.all false
set_option maxRecDepth 100000
namespace L2
open PySem PySem.Spec PyProof.Rows
def But (a:Addr) (H H':Hp):Prop:=∀ b o,b ≠ a->H b = some o->H' b = some o
end L2
namespace L2
open PySem PySem.Spec PyProof.Rows
def uf_:List Expr->Option (List Int)
 | []=>some []
 | .Constant (.int i) _ _ :: r=>(uf_ r).map (i :: ·)
 | _=>none
theorem qcu_ {X:Cx}:∀ {es:List Expr}{is:List Int},uf_ es = some is->PA X es (fun _ H Q=>Q (is.map V.int) H)
 | [],is,h=>by
  cases h
  exact qe_
 | e :: es,is,h=>by
  unfold uf_ at h
  split at h
  ·rename_i z
   cases z
  ·rename_i i j pos r heq
   cases heq
   cases q:uf_ es with
   | none=>rw [q] at h;cases h
   | some js =>
    rw [q] at h
    cases h
    intro pos pins s σ H Q I hq
    exact qa_ qj_ (qcu_ q) (by rfl) pos pins s σ H Q I hq
  ·cases h
theorem p0 {j:Int} (h:(0:Int) < j):(0:Int) < j:=h
end L2
namespace L2
open PySem PySem.Spec PyProof.Rows
def qmf_ (_ j:Int):Prop:=0 < j/\j<=340282366920938463463374607431768211456
end L2
set_option Elab.async false
set_option linter.all false
set_option maxRecDepth 100000
namespace L2
open PySem PySem.Spec PyProof.Rows
def XObj (h:Heap) (x C:Addr) (od tb:Option Addr) (fl:Value):Prop :=
 ∃ oe vs,h.get? x = some oe/\oe.cls = .ref C/\oe.dict = od/\oe.data = .fields vs ∧
  match tb with
  | none=>vs[1]? = some Value.none
  | some T=>vs[1]? = some (.ref T)/\T ≠ x/\∃ oT ts,h.get? T = some oT/\oT.data = .fields ts/\ts[3]? = some fl
def qmg_ (S Xs:List Addr) (h h':Heap):Prop :=
 ∀ b o,h.get? b = some o->b ∉ Xs->(b ∉ S->h'.get? b = some o)/\∃ sl,h'.get? b = some { o with slots:=sl }
end L2
set_option Elab.async false
set_option linter.all false
set_option maxRecDepth 100000
namespace L2
open PySem PySem.Spec PyProof.Rows
def CXe (P:Program) (w:World):CXT:=fun outer H s E e s'=>∃ (x C T:Addr) (od:Option Addr) (H':Hp),e = .ref x/\s'.os = s.os/\AllBare s'.gens/\Un (frs outer) [] H H' s.heap s'.heap/\HOk P w H' s'.heap ∧
 XObj s'.heap x C od (some T) .none/\s.heap.get? x = none/\s.heap.get? T = none/\H' x = none/\H' T = none/\E (.ref C) od H'
def qmh_ (X:Cx) (E:XK):Prop:=∀ (pins:List (Addr × Obj)) (σ:St) (H:Hp) (s:Shared) (x C:Addr) (od tb:Option Addr),Inv X pins σ H s->XObj s.heap x C od tb .none->X.s₀.heap.get? x = none->(∀ T,tb = some T->X.s₀.heap.get? T = none/\H T = none) →
 H x = none->E (.ref C) od H->X.xe (.ref x) s
section
variable {P:Program}{w:World}{K:PySem.W.Frag}{mg:Str->Option Value}{base:Heap}{N:List Str}{qual:Str}{scope:Scope}{f:Addr}{cd:Value}{A:Around}{outer:List Env}{s:Shared}{H:Hp}{E E':XK}
end
section
variable {P:Program}{w:World}{K:PySem.W.Frag}{mg:Str->Option Value}{base:Heap}
end
def qlf_ (es:List DictEntry):Bool:=es.all fun e=>match e.key with | .str _ _=>true | _=>false
def nsB (K:PySem.W.Frag) (a:Addr) (f:Array DictEntry->Bool):Bool:=match K.lookup a with
 | some ⟨_,_,.dict es _,_⟩=>qlf_ es.toList && f es
 | _=>false
abbrev bmV:List Value:=[.type "ValueError",.type "Exception",.type "BaseException",.type "object"]
def qex_ (es:Array DictEntry):Bool:=(nsFind es "__init__").isNone
def xcIn (K:PySem.W.Frag) (C Pk:Addr):Bool :=
 match K.lookup C,K.lookup Pk with
 | some ⟨.type "type",_,.cls cd,sl⟩,some ⟨_,_,.cls cp,_⟩ =>
  (match cd.mro with
  | [.ref C',.ref P',.type "ValueError",.type "Exception",.type "BaseException",.type "object"]=>C' == C && P' == Pk
  | _=>false) &&
  (match sl.toList with
  | [_,_,_,_,some (.builtin id),_]=>id == "ValueError.__new__"
  | _=>false) && !cd.hasDel && nsB K cd.ns qex_ && nsB K cp.ns qex_
 | _,_=>false
section
variable {X:Cx}{E:XK}{c:Str}{C Pk:Addr}{p cpos pos:Pos}{e:Expr}{es:List Expr}{t:TA}
def qlz_ (C:Addr) (E:XK) (t:TA):TS:=fun _ σ H=>t σ H fun vs H1=>vs.length<=sizeLine/\E (.ref C) none H1
end
end L2
set_option Elab.async false
set_option linter.all false
set_option maxRecDepth 100000
namespace L2
open PySem PySem.Spec PyProof.Rows
section
variable {X:Cx}{pins:List (Addr × Obj)}{σ:St}{H:Hp}{s:Shared}{h':Heap}
abbrev Cx.within (X:Cx) (e:Value):Cx:={ X with A:=X.A.mark (some e),calm:=false,xe:=fun _ _=>False }
def XAtF (fl:Bool) (x C:Addr) (od:Option Addr):Heap->Prop:=fun h=>∃ oe vs,h.get? x = some oe/\oe.cls = .ref C/\oe.dict = od/\oe.data = .fields vs/\1 < vs.size/\(fl = true->vs[1]? = some Value.none)
abbrev XAt (x C:Addr) (od:Option Addr):Heap->Prop:=XAtF false x C od
def XP (X:Cx) (pins:List (Addr × Obj)) (EX:St->XK) (e:Value) (s':Shared):Prop :=
 ∃ (x C T:Addr) (od:Option Addr) (σ:St) (H':Hp),e = .ref x/\Inv X pins σ H' s'/\XObj s'.heap x C od (some T) .none/\X.s₀.heap.get? x = none/\X.s₀.heap.get? T = none/\H' x = none/\H' T = none ∧
  (∀ p ∈ X.pn ++ pins,p.1 ≠ x/\p.1 ≠ T)/\EX σ (.ref C) od H'
end
abbrev TEX:=St->Hp->VK->XK->Prop
def PEX (X:Cx) (e:Expr) (t:TEX):Prop:=∀ (pins:List (Addr × Obj)) (s:Shared) (σ:St) (H:Hp) (Q:VK) (EX:St->XK),Inv X pins σ H s->t σ H Q (EX σ)->wpAny (model X.prog X.w) X.A (eval e X.env) (EP X pins σ Q) (XP X pins EX) s
section
variable {X:Cx}{k:Nat}{f C:Addr}{fd:FuncData}{ps:List Str}{sp:Sp}{dvs:List V}{ds:List Value}{x m:Str}{p pos apos:Pos}{e o:Expr}{es:List Expr}{te:TE}{ta:TE}{t:TA}
def ql0_ (sp:Sp) (dvs:List V) (t:TA):TEX:=fun σ H Q E=>t σ H fun vs H1=>sp (vs ++ dvs) H1 Q E
def ql1_ (C:Addr) (m:Str) (sp:Sp) (dvs:List V) (ta:TE) (t:TA):TEX:=fun σ H Q E=>ta σ H fun x H1=>∃ a dx fs,x = .ref a/\H1 a = some (.ins C dx fs)/\fs.lookup m = none ∧
 t σ H1 fun vs H2=>sp (x :: (vs ++ dvs)) H2 Q E
def ql2_ (C:Addr) (sp:Sp) (dvs:List V) (t:TA):TEX:=fun σ H Q E=>t σ H fun vs H1=>∀ x dx,H1 x = none->H1 dx = none->dx ≠ x →
 sp (.ref x :: (vs ++ dvs)) (upd (upd H1 dx (.own x)) x (.ins C dx [])) (fun v H2=>v = .non/\Q (.ref x) H2) E
end
abbrev TSX:=Ends->(St->XK)->St->Hp->Prop
def PSX (X:Cx) (st:List Stmt) (t:TSX):Prop:=∀ (pins:List (Addr × Obj)) (s:Shared) (σ:St) (H:Hp) (D:Ends) (EX:St->XK),Inv X pins σ H s->t D EX σ H->wpAny (model X.prog X.w) X.A (execs st X.env) (SP X pins D) (XP X pins EX) s
section
variable {X:Cx}{e:Expr}{te:TEX}{t:TS}{u:TSX}{st:Stmt}{rest:List Stmt}{pos:Pos}
def ql3_ (t:TSX) (u:TSX):TSX:=fun D EX σ H=>t { D with nx:=u D EX } EX σ H
end
end L2
set_option Elab.async false
set_option linter.all false
set_option maxRecDepth 100000
namespace L2
open PySem PySem.Spec PyProof.Rows
structure Loose (X:Cx) (pins:List (Addr × Obj)) (H:Hp) (s:Shared) (x C T:Addr) (od:Option Addr) (fl:Value):Prop where
 obj:XObj s.heap x C od (some T) fl
 f1:X.s₀.heap.get? x = none
 f2:X.s₀.heap.get? T = none
 h1:H x = none
 h2:H T = none
 p:∀ p ∈ X.pn ++ pins,p.1 ≠ x/\p.1 ≠ T
section
variable {X:Cx}{pins:List (Addr × Obj)}{σ:St}{H:Hp}{s:Shared}{x C T:Addr}{od:Option Addr}{fl:Value}
end
abbrev TH:=Ends->Addr->Option Addr->St->Hp->Prop
def PH (X:Cx) (hs:List ExceptHandler) (t:TH):Prop:=∀ (pins:List (Addr × Obj)) (s:Shared) (σ:St) (H:Hp) (D:Ends) (x C T:Addr) (od:Option Addr),Inv X pins σ H s->Loose X pins H s x C T od .none->t D C od σ H →
 wpAny (model X.prog X.w) X.A (handleBy (.ref x) X.env hs) (SP X pins D) X.xe s
def qj5_ (i:Nat) (D:Ends):Ends:={ nx:=fun σ H=>D.nx (σ.set i none) H,rt:=D.rt,bk:=fun σ H=>D.bk (σ.set i none) H,ct:=fun σ H=>D.ct (σ.set i none) H }
def qmi_ (K:PySem.W.Frag) (C':Addr) (i:Nat) (ts:TS) (rest:TH):TH:=fun D C od σ H=>∃ b,PySem.W.exmOne K (.ref C) (.ref C') = some b ∧
 if b = true then ∀ x,H x = none->ts (qj5_ i D) (σ.set i (some (.ref x))) (upd H x (.ext (XAt x C od))) else rest D C od σ H
def ql4_ (K:PySem.W.Frag) (C':Addr) (ts:TS) (rest:TH):TH:=fun D C od σ H=>∃ b,PySem.W.exmOne K (.ref C) (.ref C') = some b ∧
 if b = true then ts D σ H else rest D C od σ H
section
variable {X:Cx}{c n:Str}{C':Addr}{i:Nat}{p pos:Pos}{b₀:Stmt}{suite:List Stmt}{hs:List ExceptHandler}{ts:TS}{th:TH}
def tTry (tb:TSX) (th:TH):TS:=fun D σ H=>tb D (fun σ' C od H'=>∃ c,C = .ref c/\th D c od σ' H') σ H
end
end L2
set_option Elab.async false
set_option linter.all false
set_option maxRecDepth 100000
namespace L2
open PySem PySem.Spec PyProof.Rows
def qj6_ (es:Array DictEntry):Bool:=quietNames.all fun n=>(nsFind es n).isNone
def xqIn (K:PySem.W.Frag) (C Pk:Addr):Bool :=
 match K.lookup C,K.lookup Pk with
 | some ⟨.type "type",_,.cls cd,sl⟩,some ⟨_,_,.cls cp,_⟩ =>
  (match cd.mro with
  | [.ref C',.ref P',.type "ValueError",.type "Exception",.type "BaseException",.type "object"]=>C' == C && P' == Pk
  | _=>false) &&
  (match sl.toList with
  | [_,_,_,_,some (.builtin id),_]=>id == "ValueError.__new__"
  | _=>false) && !cd.hasDel && nsB K cp.ns qj6_
 | _,_=>false
structure XIn (K:PySem.W.Frag) (C Pk:Addr):Prop where
 cls:xqIn K C Pk = true
 ga:PySem.W.findIn K (.ref C) "__getattribute__" = some (some (.builtin "BaseException.__getattribute__"))
 gt:PySem.W.findIn K (.ref C) "__getattr__" = some none
 ca:PySem.W.findIn K (.ref C) "__class__" = some (some (.builtin "object.__class__"))
 hn:PySem.W.specialIn K (.builtin "object.__class__") "__get__" = some (some (.builtin "getset_descriptor.__get__"))
 tk:PySem.W.takesIn K (.builtin "object.__class__") = some true
 mo:PySem.W.mroIn K C (.type "object") = some true
 kc:PySem.W.kitCls K (.ref C) (.ref C) = some true
section
variable {prog:Program}{w:World}{A:Around}{E:Value->Shared->Prop}{s:Shared}{K:PySem.W.Frag}{x C Pk:Addr}{ox:Obj}{od:Option Obj}{name:Str}{tk:Tok}{fill expr:Bool}{r:Builtin.ObjectAttr.Found}{Q:Value->Shared->Prop}
def XAtD (x C:Addr) (o:Option Addr) (h:Heap):Prop:=XAt x C o h/\∀ dx,o = some dx->∃ ob,h.get? dx = some ob
end
section
variable {X:Cx}
def IsX (H:Hp) (x C:Addr) (od:Option Addr):Prop:=H x = some (.ext (XAt x C od))/\∀ dx,od = some dx->∃ o,H dx = some o
end
end L2
set_option Elab.async false
set_option linter.all false
set_option maxRecDepth 100000
namespace L2
open PySem PySem.Spec PyProof.Rows
abbrev TJ:=St->Hp->(Hp->Prop)->Prop
def PJ (X:Cx) (es:List Expr) (n:Nat) (t:TJ):Prop:=∀ (pins:List (Addr × Obj)) (s:Shared) (σ:St) (H:Hp) (out:Str) (m:Nat) (Q:Hp->Prop),Inv X pins σ H s->out.length + n<=m->m<=sizeLine->t σ H Q →
 Joins (model X.prog X.w) X.A X.xe (evalEach es X.env) out (fun o s'=>o.length<=m/\∃ H',Inv X pins σ H' s'/\Q H') s
section
variable {X:Cx}{e v₁ v₂:Expr}{es:List Expr}{n:Nat}{te:TE}{t:TJ}{pos:Pos}
end
end L2
set_option Elab.async false
set_option linter.all false
set_option maxRecDepth 100000
namespace L2
open PySem PySem.Spec PyProof.Rows
section
variable {prog:Program}{w:World}{A:Around}{E:Value->Shared->Prop}{s:Shared}{K:PySem.W.Frag}{C Pk f:Addr}{rest:List Value}
end
end L2
set_option Elab.async false
set_option linter.all false
set_option maxRecDepth 100000
namespace L2
open PySem PySem.Spec PyProof.Rows
structure XSet (K:PySem.W.Frag) (C:Addr):Prop where
 sa:PySem.W.findIn K (.ref C) "__setattr__" = some (some (.builtin "object.__setattr__"))
 hd:PySem.W.hasDictIn K C = true
section
variable {prog:Program}{w:World}{A:Around}{E:Value->Shared->Prop}{s:Shared}{K:PySem.W.Frag}{x C Pk:Addr}{ox:Obj}{od:Option Obj}{name:Str}{v:Value}{Q:Unit->Shared->Prop}
end
end L2
set_option Elab.async false
set_option linter.all false
set_option maxRecDepth 100000
namespace L2
open PySem PySem.Spec PyProof.Rows
def qam_ (dx:Addr) (fs:List (Str × V)) (h:Heap):Prop:=∃ mA,h.Ns1 dx mA/\(∀ f,RelO (fs.lookup f) (mA f))/\PySem.Within mA (fs.map (·.1))
section
variable {fl:Bool}{X:Cx}{pins:List (Addr × Obj)}{σ:St}{H:Hp}{s:Shared}{x C Pk:Addr}{f:Str}{A:Around}{E:Value->Shared->Prop}
end
section
variable {X:Cx}{o e value:Expr}{f:Str}{pos pos':Pos}{ta tv:TE}
def qmj_ (K:PySem.W.Frag) (ta:TE) (f:Str):TE:=fun σ H Q=>ta σ H fun x H1=>∃ fl a C Pk dx fs v,x = .ref a/\H1 a = some (.ext (XAtF fl a C (some dx)))/\H1 dx = some (.ext (qam_ dx fs))/\XIn K C Pk/\XSet K C/\NoAttr K C f/\fs.lookup f = some v/\Q v H1
def ql5_ (K:PySem.W.Frag) (ta tv:TE) (f:Str):TS:=fun D σ H=>tv σ H fun y H1=>ta σ H1 fun x H2=>∃ fl a C Pk,x = .ref a/\H2 a = some (.ext (XAtF fl a C none))/\XIn K C Pk/\XSet K C/\NoAttr K C f ∧
 ∀ dx,H2 dx = none->dx ≠ a->D.nx σ (upd (upd H2 dx (.ext (qam_ dx [(f,y)]))) a (.ext (XAtF fl a C (some dx))))
def ql6_ (K:PySem.W.Frag) (ta tv:TE) (f:Str):TS:=fun D σ H=>tv σ H fun y H1=>ta σ H1 fun x H2=>∃ fl a C Pk dx fs,x = .ref a/\H2 a = some (.ext (XAtF fl a C (some dx)))/\H2 dx = some (.ext (qam_ dx fs))/\fs.length < 1000/\XIn K C Pk/\XSet K C/\NoAttr K C f ∧
 D.nx σ (upd H2 dx (.ext (qam_ dx (putF f y fs))))
end
end L2
set_option Elab.async false
set_option linter.all false
set_option maxRecDepth 100000
namespace L2
open PySem PySem.Spec PyProof.Rows
structure XUp (K:PySem.W.Frag) (Pk:Addr):Prop where
 sp:PySem.W.specialIn K (.ref Pk) "__getattribute__" = some (some (.builtin "type.__getattribute__"))
 rd:PySem.W.readsIn K Pk (.type "type") = true
 fc:PySem.W.findCls K (.ref Pk) (.type "type") "__init__" = some (.val (.builtin "ValueError.__init__"))
section
variable {prog:Program}{w:World}{A:Around}{E:Value->Shared->Prop}{s:Shared}{K:PySem.W.Frag}{x C Pk:Addr}{oe:Obj}{vs:Array Value}{us:List Value}{Q:Value->Shared->Prop}
end
section
variable {X:Cx}{P c:Str}{p pos apos:Pos}{e:Expr}{es:List Expr}{t:TA}{Pk:Addr}
def ql7_ (K:PySem.W.Frag) (Pk:Addr) (t:TA):TE:=fun σ H Q=>t σ H fun vs H1=>∃ fl a C od r,vs = .ref a :: r/\r.length<=1000/\H1 a = some (.ext (XAtF fl a C od))/\XIn K C Pk/\Q .non H1
end
end L2
set_option Elab.async false
set_option linter.all false
set_option maxRecDepth 100000
namespace L2
open PySem PySem.Spec PyProof.Rows
end L2
set_option Elab.async false
set_option linter.all false
set_option maxRecDepth 100000
namespace L2
open PySem PySem.Spec PyProof.Rows
def drop (H:Hp) (x:Addr):Hp:=fun b=>if b = x then none else H b
section
variable {X:Cx}{pins:List (Addr × Obj)}{σ:St}{H:Hp}{s:Shared}{x:Addr}{φ:Heap->Prop}
end
structure XMk (K:PySem.W.Frag) (C f:Addr):Prop where
 init:PySem.W.findIn K (.ref C) "__init__" = some (some (.ref f))
 fn:PySem.W.typeIn K (.ref f) = some (.type "function")
 kp:PySem.W.keepIn K (.ref C) = true
section
variable {X:Cx}{E:XK}{c:Str}{C Pk f:Addr}{fd:FuncData}{ps:List Str}{sp:Sp}{k:Nat}{p cpos pos:Pos}{e:Expr}{es:List Expr}{t:TA}
def qlp_ (C:Addr) (sp:Sp) (E:XK) (t:TA):TS:=fun _ σ H=>t σ H fun vs H1=>vs.length<=1000/\∀ x,H1 x = none →
 sp (.ref x :: vs) (upd H1 x (.ext (XAtF true x C none))) (fun v H2=>v = .non/\∃ od,H2 x = some (.ext (XAtF true x C od))/\E (.ref C) od (drop H2 x)) E0
end
end L2
set_option linter.all false
set_option maxRecDepth 100000
set_option maxHeartbeats 1000000
namespace L2
open PySem PySem.Spec PyProof.Rows
structure RowsAt (H:Hp) (ps:List Addr) (n:Nat) (row:Nat->List V):Prop where
 len:ps.length = n
 nd:ps.Nodup
 on:∀ j p,ps[j]? = some p->H p = some (.lst (row j))
section
variable {H H':Hp}{ps:List Addr}{n:Nat}{row:Nat->List V}{p:Addr}
theorem RowsAt.same (h:RowsAt H ps n row) (s:Same H H'):RowsAt H' ps n row:=⟨h.len,h.nd,fun j p e=>s _ _ (h.on j p e)⟩
theorem RowsAt.none:RowsAt H [] 0 row:=⟨rfl,List.nodup_nil,fun j p e=>by simp at e⟩
theorem RowsAt.ne (h:RowsAt H ps n row) (hp:H p = Option.none):p ∉ ps:=fun m=>by
 obtain ⟨j,hj,e⟩:=List.getElem_of_mem m
 have:=h.on j p (by rw [List.getElem?_eq_getElem hj,e])
 rw [hp] at this
 cases this
theorem RowsAt.snoc (h:RowsAt H ps n row) (np:p ∉ ps) (hp:H p = some (.lst (row n))):RowsAt H (ps ++ [p]) (n + 1) row:=by
 refine ⟨by rw [List.length_append,h.len];rfl,List.nodup_append.mpr ⟨h.nd,by simp,fun a ha b hb e=>?_⟩,fun j q e=>?_⟩
 ·rw [List.mem_singleton.mp hb] at e
  exact np (e ▸ ha)
 ·rw [List.getElem?_append] at e
  split at e
  ·exact h.on j q e
  ·rename_i hj
   have hj0:j - ps.length = 0:=by
    by_cases z:j - ps.length = 0
    ·exact z
    ·rw [List.getElem?_eq_none (by simp;omega)] at e;cases e
   have hjn:j = n:=by have:=h.len;omega
   rw [hj0] at e
   cases e
   rw [hjn]
   exact hp
theorem RowsAt.upd (h:RowsAt H ps n row) (hp:p ∉ ps) {o:HO}:RowsAt (upd H p o) ps n row:=by
 refine ⟨h.len,h.nd,fun j q e=>?_⟩
 have:q ≠ p:=fun z=>hp (by rw [<- z];exact List.mem_of_getElem? e)
 rw [qf_ this]
 exact h.on j q e
end
abbrev qmk_ (n:Nat) (f:Nat->List Int):Dt:=.lst ((List.range n).map fun j=>Dt.lst ((f j).map Dt.int))
theorem qey_ {J:It}{n k:Nat}{src:Nat->V}{row:Nat->List V}{te:TE}{cs:St}{H1:Hp}{D:Addr}{Q:Hp->Prop} (hD:H1 D = none) (hk:k = cs.length) (hn:n<=sizeLine)
  (stop:∀ H,Same H1 H->J.stop n H) (go:∀ i H,i < n->Same H1 H->J.go i H) (yld:∀ i H x H',i < n->Same H1 H->J.yld i H x H'->x = src i/\H' = H)
  (he:∀ i H (R:V->Hp->Prop),i < n->Same H1 H->(∀ p H4,H p = none->Same H H4->H4 p = some (.lst (row i))->R (.ref p) H4)->te (cs ++ [some (src i)]) H R)
  (hQ:∀ ps H,Same H1 H->H D = some (.lst (ps.map V.ref))->RowsAt H ps n row->(∀ p ∈ ps,H1 p = none)->D ∉ ps->Q H):jp_ J (qZ_ k) jE_ te (cs ++ [none]) H1 D Q:=by
 refine ⟨fun i m ys σ H=>m = n - i/\i<=n/\Same H1 H/\(∃ ps:List Addr,ys = ps.map V.ref/\RowsAt H ps i row/\(∀ p ∈ ps,H1 p = none)/\D ∉ ps)/\H D = some (.lst ys)/\∃ o,σ = cs ++ [o],
  ⟨n,rfl,Nat.zero_le _,(Same.refl _).up hD,⟨[],rfl,RowsAt.none,by simp,by simp⟩,qc_,none,rfl⟩,?_⟩
 rintro i m ys σ H ⟨rfl,hi,sm,⟨ps,rfl,hr,hf,hd'⟩,hd,o,rfl⟩
 refine ⟨hd,?_⟩
 by_cases hlt:i < n
 ·refine .inr ⟨go i H hlt sm,fun x H' y=>?_⟩
  obtain ⟨rfl,rfl⟩:=yld i H x H' hlt sm y
  have e:(cs ++ [o]).set k (some (src i)) = cs ++ [some (src i)]:=by
   rw [hk,List.set_append_right _ _ (Nat.le_refl _),Nat.sub_self]
   rfl
  unfold qZ_
  rw [e]
  unfold jE_
  refine iteT ?_
  refine he i H' _ hlt sm fun p H4 hp s4 h4=>⟨s4 _ _ hd,?_,n - (i + 1),by omega,rfl,hlt,(sm.trans s4).up hD,⟨ps ++ [p],by rw [List.map_append];rfl,?_,?_,?_⟩,qc_,_,rfl⟩
  ·rw [List.length_map,hr.len]
   omega
  ·have np:p ≠ D:=fun z=>by rw [z,hd] at hp;cases hp
   have hps:=hr.ne hp
   refine ((hr.same s4).snoc hps h4).upd ?_
   intro z
   rcases List.mem_append.mp z with z | z
   ·exact hd' z
   ·exact np (List.mem_singleton.mp z).symm
  ·intro q hq
   rcases List.mem_append.mp hq with z | z
   ·exact hf q z
   ·rw [List.mem_singleton.mp z]
    exact sm.free hp
  ·intro z
   rcases List.mem_append.mp z with z | z
   ·exact hd' z
   ·rw [List.mem_singleton.mp z] at hd
    rw [hd] at hp;cases hp
 ·have e:i = n:=by omega
  subst e
  exact .inl ⟨stop H sm,hQ ps H sm hd hr hf hd'⟩
theorem qdn_ {n:Nat}{row:Nat->List V}{k:Nat}{te:TE}{cs:St}{H1:Hp}{D:Addr}{Q:Hp->Prop} (hD:H1 D = none) (hk:k = cs.length) (hn:n<=sizeLine)
  (he:∀ i H (R:V->Hp->Prop),i < n->Same H1 H->(∀ p H4,H p = none->Same H H4->H4 p = some (.lst (row i))->R (.ref p) H4)->te (cs ++ [some (.int (i:Nat))]) H R)
  (hQ:∀ ps H,Same H1 H->H D = some (.lst (ps.map V.ref))->RowsAt H ps n row->(∀ p ∈ ps,H1 p = none)->D ∉ ps->Q H):jp_ (Itr 0 n) (qZ_ k) jE_ te (cs ++ [none]) H1 D Q :=
 qey_ (src:=fun i=>.int (0 + (i:Nat))) hD hk hn (fun H _=>Nat.le_refl _) (fun i H hi _=>hi) (fun i H x H' _ _ y=>⟨y.2,y.1⟩) (fun i H R hi sm r=>by
  have e:(0:Int) + (i:Nat) = (i:Nat):=by omega
  rw [e]
  exact he i H R hi sm r) hQ
end L2
set_option linter.all false
set_option maxRecDepth 100000
set_option maxHeartbeats 1000000
namespace L2
open PySem PySem.Spec PyProof.Rows
variable {X:Cx}
def qml_ (r:Addr) (lo hi:Int) (h:Heap):Prop:=∃ t u v,IsRange h r lo hi 1 t u v
section
variable {K:PySem.W.Frag}
theorem qaa_ (hK:X.K = K):yE_ X (.type "list") (fun xs H Q=>∃ p ys,xs = [.ref p] ∧ (SqL K H p ys ∨ SqT K H p ys) ∧ ∀ l,H l = none → Q (.ref l) (upd H l (.lst ys))):=by
 subst hK
 exact jT_
end
end L2
set_option linter.all false
set_option maxRecDepth 100000
set_option maxHeartbeats 1000000
namespace L2
open PySem PySem.Spec PyProof.Rows
def Ite (K:PySem.W.Frag) (l:Addr) (xs:List V):It :=
 ⟨fun i H=>SqL K H l xs/\i < xs.length,fun i H x H'=>∃ T u,H T = none/\x = .ref T/\xs[i]? = some u/\H' = upd H T (.tup [.int (i:Nat),u]),fun i H=>SqL K H l xs/\xs.length<=i⟩
theorem qez_ {P:Program}{w:World}{K:PySem.W.Frag}{elts:List Expr}{x1}{tp:Pos}{z it l:Addr} (zi:z ≠ it) (xs:List V) :
  Turn P w K (.Tuple elts x1 tp) (Ite K l xs) [z,it] z (fun i h=>(∃ old,PySem.IsEnum h z it (i:Nat) old)/\h.IsListIter it l i) where
 mem:=by simp
 obj:=fun i h st b hb=>by
  obtain ⟨⟨old,hz⟩,o1,e1,c1,d1⟩:=st
  simp only [List.mem_cons,List.not_mem_nil,or_false] at hb
  rcases hb with rfl | rfl
  ·exact ⟨_,hz,fun v q=>by have q':Data.fields _ = Data.cell v:=q;cases q'⟩
  ·exact ⟨o1,e1,fun v q=>by rw [d1] at q;cases q⟩
 keep:=fun i h h' st k=>by
  obtain ⟨⟨old,hz⟩,h1⟩:=st
  exact ⟨⟨old,k z (by simp) _ hz⟩,h1.at fun o e=>k it (by simp) o e⟩
 item:=by
  intro X hP hw hK hc i pins s σ H E I hf st hg
  subst hP hw hK
  obtain ⟨⟨old,hz⟩,h1⟩:=st
  obtain ⟨q1,b1⟩:=hg
  obtain ⟨its1,rv1,p1,_⟩:=I.list q1
  have hx:xs[i]? = some xs[i]:=List.getElem?_eq_getElem b1
  obtain ⟨u,hu,ru⟩:=rv1.get hx
  have lt:∀ {c o},s.heap.get? c = some o->c ≠ s.heap.objs.size:=fun e=>Nat.ne_of_lt (Heap.lt_size e)
  refine PySem.wpAny_pyNext_enum_item hz h1 p1.isList (x:=u) (by simpa using hu) zi fun h' a1 a2 a3 a4 hk=>?_
  refine ⟨_,rfl,PySem.wpAny_letOwnedTupleGo_enum a1 fun h'' hz'' sb=>?_⟩
  have zne:s.heap.objs.size ≠ z:=(lt hz).symm
  have kk:∀ b u,b ∉ [z,it]->s.heap.get? b = some u->h''.get? b = some u:=fun b u hb e=>by
   simp only [List.mem_cons,List.not_mem_nil,or_false,not_or] at hb
   exact sb.extBut _ _ hb.1 (hk b u hb.1 hb.2 e)
  refine ⟨.ref s.heap.objs.size,upd H s.heap.objs.size (.tup [.int (i:Nat),xs[i]]),I.turnedUp (t':=s.toks + 1) hf kk (Nat.le_refl _) ⟨by show 2<=sizeLine;decide,[.int (i:Nat) s.toks,u],.cons ⟨_,rfl⟩ (.cons ru .nil),⟨_,sb.extBut _ _ zne a3,rfl,_,rfl⟩⟩,rfl,
   ⟨_,_,I.hok.fresh (Nat.le_refl _),rfl,hx,rfl⟩,⟨⟨_,hz''⟩,a2.at fun o e=>sb.extBut _ _ zi.symm e⟩,fun b hb=>?_⟩
  have:b ≠ s.heap.objs.size:=by
   obtain ⟨o1,e1,_⟩:=id h1
   simp only [List.mem_cons,List.not_mem_nil,or_false] at hb
   rcases hb with rfl | rfl
   ·exact lt hz
   ·exact lt e1
  rw [qf_ this]
  exact (hf b hb).1
 done:=by
  intro X hP hw hK hc i pins s σ H E I hf st hg
  subst hP hw hK
  obtain ⟨⟨old,hz⟩,h1⟩:=st
  obtain ⟨q1,hend⟩:=hg
  obtain ⟨its1,rv1,p1,_⟩:=I.list q1
  have l1:=rv1.length
  refine PySem.wpAny_pyNext_enum_end (I.ok.hd hc) hz h1 p1.isList (by rw [Array.getElem?_eq_none];simp;omega) fun h' hk=>⟨rfl,I.turnedL (t':=s.toks) hf fun b u hb e=>?_⟩
  simp only [List.mem_cons,List.not_mem_nil,or_false,not_or] at hb
  exact hk b u hb.2 e
 self:=fun _ _ _ _ _ ⟨⟨_,hz⟩,_⟩ h=>PySem.wpAny_pyIter_enum hz h
section
variable {X:Cx}
def qlg_ (K:PySem.W.Frag) (ta:TA):TI:=fun σ H R=>ta σ H fun vs H1=>∃ l xs,vs = [.ref l]/\SqL K H1 l xs/\R (Ite K l xs) H1
theorem ux_:bootBuiltins "enumerate" = some (.type "enumerate"):=by decide +kernel
theorem vr_ {elts:List Expr}{x1}{tp:Pos}{a:Expr}{ta:TA}{p pos:Pos} (hg:Gl X "enumerate") (hm:X.mg "enumerate" = none) (ha:PA X [a] ta) (hs:starEach [a] X.env = [(false,eval a X.env)]:=by rfl) :
  PI X (.Tuple elts x1 tp) (.Call (.Name "enumerate" p) [a] [] pos) (qlg_ X.K ta):=by
 intro pins s σ H R I h
 refine Call_ (yz_ I hg hm ux_ (PyProof.Rows.callWith_type1 (thn (ha pos pins s σ H _ I h) fun us s1 ⟨vs,H1,I1,r1,q1⟩=>?_) hs rfl))
 obtain ⟨l,xs,e,h1,q⟩:=q1
 subst e
 obtain ⟨u,rfl,ru⟩:=zb_ r1
 cases ru
 obtain ⟨its1,rv1,p1,_⟩:=I1.list h1
 refine PySem.call_enumerate_list p1.isList fun h' a1 a2 a3 a4=>?_
 refine PySem.wpAny_pyIter_enum a1 ?_
 refine ⟨s1.heap.objs.size + 1,[s1.heap.objs.size + 1,s1.heap.objs.size],_,_,H1,rfl,I1.kept (t':=s1.toks) fun b o e=>a4 b o e,qez_ (Nat.succ_ne_self _) xs,⟨⟨_,a1⟩,a2⟩,fun b hb=>?_,q⟩
 have:s1.heap.objs.size<=b:=by
  simp only [List.mem_cons,List.not_mem_nil,or_false] at hb
  rcases hb with rfl | rfl
  ·exact Nat.le_add_right _ 1
  ·exact Nat.le_refl _
 exact I1.fpOk this (I1.hok.fresh this)
end
theorem qa5_ {K:PySem.W.Frag}{l:Addr}{xs:List V}{g:TG}{tb:TS}{D:Ends}{σ:St}{H:Hp} (Pv:Nat->St->Hp->Prop) (h0:Pv 0 σ H) (hl:∀ i σ H,i<=xs.length->Pv i σ H->SqL K H l xs)
  (hs:∀ i u T σ H,i < xs.length->xs[i]? = some u->H T = none->Pv i σ H->g (.ref T) σ (upd H T (.tup [.int (i:Nat),u])) fun σ2 H2=>tb { D with nx:=Pv (i + 1),ct:=Pv (i + 1),bk:=D.nx } σ2 H2) (hd:∀ σ H,Pv xs.length σ H->D.nx σ H) :
  ∃ W:Nat->Nat->St->Hp->Prop,(∃ m,W 0 m σ H)/\∀ i m σ H,W i m σ H →
   ((Ite K l xs).stop i H/\D.nx σ H)\/((Ite K l xs).go i H/\∃ N:St->Hp->Prop,(∀ σ' H',N σ' H'->∃ m',m' < m/\W (i + 1) m' σ' H')/\∀ x H',(Ite K l xs).yld i H x H'->g x σ H' fun σ2 H2=>tb { D with nx:=N,ct:=N,bk:=D.nx } σ2 H2):=by
 refine ⟨fun i m σ H=>m = xs.length - i/\i<=xs.length/\Pv i σ H,⟨xs.length,by simp,Nat.zero_le _,h0⟩,?_⟩
 rintro i m σ H ⟨rfl,hi,p⟩
 have q1:=hl i σ H hi p
 by_cases hlt:i < xs.length
 ·refine .inr ⟨⟨q1,hlt⟩,Pv (i + 1),fun σ' H' p'=>⟨xs.length - (i + 1),by omega,rfl,hlt,p'⟩,fun x H' y=>?_⟩
  obtain ⟨T,u,hT,rfl,hu,rfl⟩:=y
  exact hs i u T σ H hlt hu hT p
 ·have e:i = xs.length:=by omega
  exact .inl ⟨⟨q1,by omega⟩,hd σ H (e ▸ p)⟩
end L2
set_option linter.all false
set_option maxRecDepth 100000
set_option maxHeartbeats 1000000
namespace L2
open PySem PySem.Spec PyProof.Rows
theorem vs_ {X:Cx}{K:PySem.W.Frag}{es:List Expr}{k:Nat}{t:TGs}{n:Nat}{pos:Pos} (hK:X.K = K) (hc:X.calm = true) (h:PGs X es t) (hn:(assignEach es X.env).length = n:=by rfl) (hst:(assignEach es X.env).findIdx? (·.1) = none:=by rfl):PG X (.Tuple es k pos) (gTup K n t):=by
 subst hK
 exact y4_ hc h hn hst
theorem qe0_ {J:It}{n:Nat}{g:TG}{stt:Nat->St}{Ok:St->Prop}{f:Nat->V}{te:TE}{σ0:St}{H1:Hp}{D:Addr}{Q:Hp->Prop} (hD:H1 D = none) (hn:n<=sizeLine) (h0:Ok σ0) (hok:∀ i,i < n->Ok (stt i))
  (stop:∀ H,Same H1 H->J.stop n H) (go:∀ i H,i < n->Same H1 H->J.go i H)
  (tg:∀ i σ H x H' (R:St->Hp->Prop),i < n->Same H1 H->Ok σ->J.yld i H x H'->(∀ H'',Same H H''->R (stt i) H'')->g x σ H' R)
  (he:∀ i H (R:V->Hp->Prop),i < n->Same H1 H->(∀ H4,Same H H4->R (f i) H4)->te (stt i) H R)
  (hQ:∀ H,Same H1 H->H D = some (.lst ((List.range n).map f))->Q H):jp_ J g jE_ te σ0 H1 D Q:=by
 refine ⟨fun i m ys σ H=>m = n - i/\i<=n/\Same H1 H/\ys = (List.range i).map f/\H D = some (.lst ys)/\Ok σ,⟨n,rfl,Nat.zero_le _,(Same.refl _).up hD,rfl,qc_,h0⟩,?_⟩
 rintro i m ys σ H ⟨rfl,hi,sm,rfl,hd,ho⟩
 refine ⟨hd,?_⟩
 by_cases hlt:i < n
 ·refine .inr ⟨go i H hlt sm,fun x H' y=>?_⟩
  refine tg i σ H x H' _ hlt sm ho y fun H'' s2=>?_
  unfold jE_
  refine iteT ?_
  refine he i H'' _ hlt (sm.trans s2) fun H4 s4=>⟨(s2.trans s4) _ _ hd,?_,n - (i + 1),by omega,rfl,hlt,(sm.trans (s2.trans s4)).up hD,?_,qc_,hok i hlt⟩
  ·rw [List.length_map,List.length_range]
   omega
  ·rw [List.range_succ,List.map_append]
   rfl
 ·have e:i = n:=by omega
  subst e
  exact .inl ⟨stop H sm,hQ H sm hd⟩
theorem qdo_ {J:It}{n:Nat}{g:TG}{stt:Nat->St}{Ok:St->Prop}{row:Nat->List V}{te:TE}{σ0:St}{H1:Hp}{D:Addr}{Q:Hp->Prop} (hD:H1 D = none) (hn:n<=sizeLine) (h0:Ok σ0) (hok:∀ i,i < n->Ok (stt i))
  (stop:∀ H,Same H1 H->J.stop n H) (go:∀ i H,i < n->Same H1 H->J.go i H)
  (tg:∀ i σ H x H' (R:St->Hp->Prop),i < n->Same H1 H->Ok σ->J.yld i H x H'->(∀ H'',Same H H''->R (stt i) H'')->g x σ H' R)
  (he:∀ i H (R:V->Hp->Prop),i < n->Same H1 H->(∀ p H4,H p = none->Same H H4->H4 p = some (.lst (row i))->R (.ref p) H4)->te (stt i) H R)
  (hQ:∀ ps H,Same H1 H->H D = some (.lst (ps.map V.ref))->RowsAt H ps n row->(∀ p ∈ ps,H1 p = none)->D ∉ ps->Q H):jp_ J g jE_ te σ0 H1 D Q:=by
 refine ⟨fun i m ys σ H=>m = n - i/\i<=n/\Same H1 H/\(∃ ps:List Addr,ys = ps.map V.ref/\RowsAt H ps i row/\(∀ p ∈ ps,H1 p = none)/\D ∉ ps)/\H D = some (.lst ys)/\Ok σ,
  ⟨n,rfl,Nat.zero_le _,(Same.refl _).up hD,⟨[],rfl,RowsAt.none,by simp,by simp⟩,qc_,h0⟩,?_⟩
 rintro i m ys σ H ⟨rfl,hi,sm,⟨ps,rfl,hr,hf,hd'⟩,hd,ho⟩
 refine ⟨hd,?_⟩
 by_cases hlt:i < n
 ·refine .inr ⟨go i H hlt sm,fun x H' y=>?_⟩
  refine tg i σ H x H' _ hlt sm ho y fun H'' s2=>?_
  unfold jE_
  refine iteT ?_
  refine he i H'' _ hlt (sm.trans s2) fun p H4 hp s4 h4=>⟨(s2.trans s4) _ _ hd,?_,n - (i + 1),by omega,rfl,hlt,(sm.trans (s2.trans s4)).up hD,⟨ps ++ [p],by rw [List.map_append];rfl,?_,?_,?_⟩,qc_,hok i hlt⟩
  ·rw [List.length_map,hr.len]
   omega
  ·have np:p ≠ D:=fun z=>by rw [z,s2 _ _ hd] at hp;cases hp
   have hps:=(hr.same s2).ne hp
   refine ((hr.same (s2.trans s4)).snoc hps h4).upd ?_
   intro z
   rcases List.mem_append.mp z with z | z
   ·exact hd' z
   ·exact np (List.mem_singleton.mp z).symm
  ·intro q hq
   rcases List.mem_append.mp hq with z | z
   ·exact hf q z
   ·rw [List.mem_singleton.mp z]
    exact (sm.trans s2).free hp
  ·intro z
   rcases List.mem_append.mp z with z | z
   ·exact hd' z
   ·rw [List.mem_singleton.mp z] at hd
    rw [s2 _ _ hd] at hp;cases hp
 ·have e:i = n:=by omega
  subst e
  exact .inl ⟨stop H sm,hQ ps H sm hd hr hf hd'⟩
theorem uy_ {K:PySem.W.Frag}{cs:St}{k:Nat} (hk:k = cs.length) {T:Addr}{u v:V}{o1 o2:Option V}{H:Hp}{R:St->Hp->Prop} (hT:H T = none) (q:∀ H'',Same H H''->R (cs ++ [some u,some v]) H'') :
  gTup K 2 (yK_ (qZ_ k) (yK_ (qZ_ (k + 1)) gNil)) (.ref T) (cs ++ [o1,o2]) (upd H T (.tup [u,v])) R:=by
 refine ⟨T,_,rfl,SqT.of qc_,rfl,_,_,rfl,_,_,rfl,rfl,?_⟩
 have e:((cs ++ [o1,o2]).set k (some u)).set (k + 1) (some v) = cs ++ [some u,some v]:=by
  subst hk
  have e1:(List.length cs).succ - List.length cs = 1:=by omega
  rw [List.set_append_right _ _ (Nat.le_refl _),List.set_append_right _ _ (Nat.le_succ _),Nat.sub_self,e1]
  rfl
 rw [e]
 exact q _ fun b o e=>by rw [qf_ (qm_ e hT)];exact e
theorem qe1_ {K:PySem.W.Frag}{l1 l2:Addr}{xs ys:List V}{f:Nat->V}{k:Nat}{te:TE}{cs:St}{H1:Hp}{D:Addr}{Q:Hp->Prop} (h1:SqL K H1 l1 xs) (h2:SqL K H1 l2 ys) (hl:xs.length = ys.length) (hD:H1 D = none) (hk:k = cs.length) (hn:xs.length<=sizeLine)
  (he:∀ i u v H (R:V->Hp->Prop),xs[i]? = some u->ys[i]? = some v->Same H1 H->(∀ H4,Same H H4->R (f i) H4)->te (cs ++ [some u,some v]) H R)
  (hQ:∀ H,Same H1 H->H D = some (.lst ((List.range xs.length).map f))->Q H):jp_ (Itz K l1 l2 xs ys) (gTup K 2 (yK_ (qZ_ k) (yK_ (qZ_ (k + 1)) gNil))) jE_ te (cs ++ [none,none]) H1 D Q:=by
 refine qe0_ (n:=xs.length) (stt:=fun i=>cs ++ [xs[i]?,ys[i]?]) (Ok:=fun σ=>∃ o1 o2,σ = cs ++ [o1,o2]) hD hn ⟨none,none,rfl⟩ (fun i _=>⟨_,_,rfl⟩) (fun H sm=>⟨sm.seq h1,sm.seq h2,.inl (Nat.le_refl _)⟩) (fun i H hi sm=>⟨sm.seq h1,sm.seq h2,hi,by omega⟩) (fun i σ H x H' R hi sm ho y q=>?_) (fun i H R hi sm r=>?_) hQ
 ·obtain ⟨o1,o2,rfl⟩:=ho
  obtain ⟨T,u,v,hT,rfl,hu,hv,rfl⟩:=y
  exact uy_ hk hT fun H'' s=>by rw [<- hu,← hv];exact q H'' s
 ·rw [List.getElem?_eq_getElem hi,List.getElem?_eq_getElem (by omega)]
  exact he i _ _ H R (List.getElem?_eq_getElem hi) (List.getElem?_eq_getElem (by omega)) sm r
theorem qdp_ {K:PySem.W.Frag}{l:Addr}{xs:List V}{row:Nat->List V}{k:Nat}{te:TE}{cs:St}{H1:Hp}{D:Addr}{Q:Hp->Prop} (h1:SqL K H1 l xs) (hD:H1 D = none) (hk:k = cs.length) (hn:xs.length<=sizeLine)
  (he:∀ i u H (R:V->Hp->Prop),xs[i]? = some u->Same H1 H->(∀ p H4,H p = none->Same H H4->H4 p = some (.lst (row i))->R (.ref p) H4)->te (cs ++ [some (.int (i:Nat)),some u]) H R)
  (hQ:∀ ps H,Same H1 H->H D = some (.lst (ps.map V.ref))->RowsAt H ps xs.length row->(∀ p ∈ ps,H1 p = none)->D ∉ ps->Q H):jp_ (Ite K l xs) (gTup K 2 (yK_ (qZ_ k) (yK_ (qZ_ (k + 1)) gNil))) jE_ te (cs ++ [none,none]) H1 D Q:=by
 refine qdo_ (n:=xs.length) (stt:=fun i=>cs ++ [some (.int (i:Nat)),xs[i]?]) (Ok:=fun σ=>∃ o1 o2,σ = cs ++ [o1,o2]) hD hn ⟨none,none,rfl⟩ (fun i _=>⟨_,_,rfl⟩) (fun H sm=>⟨sm.seq h1,Nat.le_refl _⟩) (fun i H hi sm=>⟨sm.seq h1,hi⟩) (fun i σ H x H' R hi sm ho y q=>?_) (fun i H R hi sm r=>?_) hQ
 ·obtain ⟨o1,o2,rfl⟩:=ho
  obtain ⟨T,u,hT,rfl,hu,rfl⟩:=y
  exact uy_ hk hT fun H'' s=>by rw [<- hu];exact q H'' s
 ·rw [List.getElem?_eq_getElem hi]
  exact he i _ H R (List.getElem?_eq_getElem hi) sm r
theorem qgi_ {K:PySem.W.Frag}{l1 l2:Addr}{xs ys:List V}{g:TG}{tb:TS}{D:Ends}{σ:St}{H:Hp} (Pv:Nat->St->Hp->Prop) (h0:Pv 0 σ H) (hl:∀ i σ H,i<=xs.length->Pv i σ H->SqL K H l1 xs/\SqL K H l2 ys) (he:xs.length<=ys.length)
  (hs:∀ i u v T σ H,i < xs.length->xs[i]? = some u->ys[i]? = some v->H T = none->Pv i σ H->g (.ref T) σ (upd H T (.tup [u,v])) fun σ2 H2=>tb { D with nx:=Pv (i + 1),ct:=Pv (i + 1),bk:=D.nx } σ2 H2) (hd:∀ σ H,Pv xs.length σ H->D.nx σ H) :
  ∃ W:Nat->Nat->St->Hp->Prop,(∃ m,W 0 m σ H)/\∀ i m σ H,W i m σ H →
   ((Itz K l1 l2 xs ys).stop i H/\D.nx σ H)\/((Itz K l1 l2 xs ys).go i H/\∃ N:St->Hp->Prop,(∀ σ' H',N σ' H'->∃ m',m' < m/\W (i + 1) m' σ' H')/\∀ x H',(Itz K l1 l2 xs ys).yld i H x H'->g x σ H' fun σ2 H2=>tb { D with nx:=N,ct:=N,bk:=D.nx } σ2 H2):=by
 refine ⟨fun i m σ H=>m = xs.length - i/\i<=xs.length/\Pv i σ H,⟨xs.length,by simp,Nat.zero_le _,h0⟩,?_⟩
 rintro i m σ H ⟨rfl,hi,p⟩
 obtain ⟨q1,q2⟩:=hl i σ H hi p
 by_cases hlt:i < xs.length
 ·refine .inr ⟨⟨q1,q2,hlt,by omega⟩,Pv (i + 1),fun σ' H' p'=>⟨xs.length - (i + 1),by omega,rfl,hlt,p'⟩,fun x H' y=>?_⟩
  obtain ⟨T,u,v,hT,rfl,hu,hv,rfl⟩:=y
  exact hs i u v T σ H hlt hu hv hT p
 ·have e:i = xs.length:=by omega
  exact .inl ⟨⟨q1,q2,.inl (by omega)⟩,hd σ H (e ▸ p)⟩
end L2
set_option Elab.async false
set_option linter.all false
set_option maxRecDepth 100000
namespace L2
open PySem PySem.Spec PyProof.Rows
section
variable {X:Cx}{pos:Pos}
def qmm_ (K:PySem.W.Frag) (n:Nat) (t:TGs):TG:=fun v σ H Q=>∃ a xs,v = .ref a/\SqL K H a xs/\xs.length = n/\t xs σ H Q
end
section
variable {X:Cx}{e:Expr}{es:List Expr}{n:Nat}{te:TE}{t:TJ}{pos:Pos}
end
end L2
set_option Elab.async false
set_option linter.all false
set_option maxRecDepth 100000
namespace L2
open PySem PySem.Spec PyProof.Rows
theorem qe2_ {α:Type} (f:α->Bool) (d:α):∀ (l:List α),(List.range l.length).any (fun i=>f (l.getD i d)) = l.any f:=fun l=>by
 rw [Bool.eq_iff_iff,List.any_eq_true,List.any_eq_true]
 constructor
 ·rintro ⟨i,hi,e⟩
  have hi:=List.mem_range.mp hi
  rw [List.getD_eq_getElem?_getD,List.getElem?_eq_getElem hi] at e
  exact ⟨_,List.getElem_mem hi,e⟩
 ·rintro ⟨x,hx,e⟩
  obtain ⟨i,hi,rfl⟩:=List.getElem_of_mem hx
  refine ⟨i,List.mem_range.mpr hi,?_⟩
  rw [List.getD_eq_getElem?_getD,List.getElem?_eq_getElem hi]
  exact e
section
variable {X:Cx}
theorem zQ_ {ns:List Int}{its:List Value} (rv:Vals (ns.map V.int) its) {i:Nat}{v:Value} (h:its.toArray[i]? = some v):∃ t,v = Value.int (ns.getD i 0) t:=by
 have h':its[i]? = some v:=by simpa using h
 have hi:i < ns.length:=by
  have:=rv.length
  rw [List.length_map] at this
  rw [this]
  exact (List.getElem?_eq_some_iff.mp h').1
 obtain ⟨u,hu,ru⟩:=rv.get (i:=i) (x:=V.int ns[i]) (by rw [List.getElem?_map,List.getElem?_eq_getElem hi];rfl)
 rw [h'] at hu
 cases hu
 obtain ⟨t,rfl⟩:=ru
 exact ⟨t,by rw [List.getD_eq_getElem?_getD,List.getElem?_eq_getElem hi];rfl⟩
theorem uY_ (hc:X.calm = true):yE_ X (.builtin "any") (fun xs H Q=>∃ (p:Addr) (ns:List Int),xs = [.ref p] ∧ SqL X.K H p (ns.map V.int) ∧ Q (.bl (ns.any fun i=>i != 0)) H):=by
 intro pins s σ H xs us Q I r h
 obtain ⟨p,ns,rfl,hq,q⟩:=h
 obtain ⟨u,rfl,rx⟩:=zb_ r
 cases rx
 obtain ⟨its,rv,⟨o,nn,e1,e2,e3,e4⟩,hz⟩:=I.list hq
 have hne:p ≠ s.heap.objs.size:=Nat.ne_of_lt (Heap.lt_size e1)
 refine call_any_walk (wpAny_pyIter_list ⟨o,e1,e2,nn,e4⟩ ?_)
 refine ⟨_,_,_,_,_,_,fun i=>ns.getD i 0 != 0,rfl,Walks.list (A:=X.A.in1) (show X.A.in1.handled = none from I.ok.hd hc) s.heap.objs.size p hne its.toArray,⟨⟨_,Heap.get?_push_size _ rfl,rfl,rfl⟩,⟨o,Heap.get?_push_of_some _ e1,e2,nn,e4⟩⟩,fun i v s' Q' E' hv q'=>?_,fun h' tk kp=>?_⟩
 ·obtain ⟨t,rfl⟩:=zQ_ rv hv
  exact P.truthy_int q'
 ·have hl:its.toArray.size = ns.length:=by
   have:=rv.length
   rw [List.length_map] at this
   simp [this]
  rw [hl,qe2_ (fun i:Int=>i != 0) 0 ns]
  exact ⟨.bl _,H,I.kept (t':=tk) fun b o e=>kp b o (fun z=>by rw [List.mem_singleton.mp z] at e;exact absurd (Heap.lt_size e) (Nat.lt_irrefl _)) (Heap.get?_push_of_some _ e),rfl,q⟩
theorem uZ_ (hc:X.calm = true):yE_ X (.builtin "max") (fun xs H Q=>∃ (p:Addr) (ns:List Int),xs = [.ref p] ∧ SqL X.K H p (ns.map V.int) ∧ ns ≠ [] ∧ ∀ z,z ∈ ns → (∀ y ∈ ns,y ≤ z) → Q (.int z) H):=by
 intro pins s σ H xs us Q I r h
 obtain ⟨p,ns,rfl,hq,hn,q⟩:=h
 obtain ⟨u,rfl,rx⟩:=zb_ r
 cases rx
 obtain ⟨its,rv,⟨o,nn,e1,e2,e3,e4⟩,hz⟩:=I.list hq
 have hne:p ≠ s.heap.objs.size:=Nat.ne_of_lt (Heap.lt_size e1)
 have hl:its.toArray.size = ns.length:=by
  have:=rv.length
  rw [List.length_map] at this
  simp [this]
 have hpos:0 < ns.length:=List.length_pos_iff.mpr hn
 refine call_max_walk (wpAny_pyIter_list ⟨o,e1,e2,nn,e4⟩ ?_)
 refine ⟨_,_,_,_,_,_,fun i j=>decide (ns.getD i 0 > ns.getD j 0),rfl,Walks.list (A:=X.A.in1) (show X.A.in1.handled = none from I.ok.hd hc) s.heap.objs.size p hne its.toArray,⟨⟨_,Heap.get?_push_size _ rfl,rfl,rfl⟩,⟨o,Heap.get?_push_of_some _ e1,e2,nn,e4⟩⟩,fun b hb=>?_,(show 0 < its.toArray.size by rw [hl];exact hpos),CmpOf.ints_gt (fun i=>ns.getD i 0) fun i v hv=>zQ_ rv hv,fun v h' tk hv kp=>?_⟩
 ·show b < (s.heap.push _).objs.size
  rw [Heap.size_push]
  rcases List.mem_cons.mp hb with z | z
  ·rw [z];exact Nat.lt_succ_self _
  ·rw [List.mem_singleton.mp z];exact Nat.lt_succ_of_lt (Heap.lt_size e1)
 ·obtain ⟨t,rfl⟩:=zQ_ rv hv
  have g:=argBest_gt (fun i=>ns.getD i 0) (its.toArray.size - 1)
  rw [hl] at g ⊢
  obtain ⟨g1,g2⟩:=g
  generalize argBest (fun i j=>decide (ns.getD i 0 > ns.getD j 0)) (ns.length - 1) = m at g1 g2
  have hm:m < ns.length:=by omega
  have em:ns.getD m 0 = ns[m]:=by rw [List.getD_eq_getElem?_getD,List.getElem?_eq_getElem hm];rfl
  rw [em] at g2 ⊢
  exact ⟨.int ns[m],H,I.kept (t':=tk) fun b o e=>kp b o (fun z=>by rw [List.mem_singleton.mp z] at e;exact absurd (Heap.lt_size e) (Nat.lt_irrefl _)) (Heap.get?_push_of_some _ e),⟨_,rfl⟩,q _ (List.getElem_mem hm) fun y hy=>by
   obtain ⟨j,hj,rfl⟩:=List.getElem_of_mem hy
   have:=g2 j (by omega)
   rw [List.getD_eq_getElem?_getD,List.getElem?_eq_getElem hj] at this
   exact this⟩
end
theorem j8_ {K:PySem.W.Frag}{a:Addr}{xs:List V}{f:Nat->V}{k:Nat}{te:TE}{cs:St}{H1:Hp}{D:Addr}{Q:Hp->Prop} (hs:SqL K H1 a xs) (hD:H1 D = none) (hk:k = cs.length) (hn:xs.length<=sizeLine)
  (he:∀ i x H (R:V->Hp->Prop),xs[i]? = some x->Same H1 H->(∀ H4,Same H H4->R (f i) H4)->te (cs ++ [some x]) H R)
  (hQ:∀ H,Same H1 H->H D = some (.lst ((List.range xs.length).map f))->Q H):jp_ (Itl K a) (qZ_ k) jE_ te (cs ++ [none]) H1 D Q:=by
 refine z8_ (src:=fun i=>xs.getD i .non) (f:=f) (n:=xs.length) hD hk hn (fun H sm=>⟨xs,sm.seq hs,Nat.le_refl _⟩) (fun i H hi sm=>⟨xs,xs[i],sm.seq hs,List.getElem?_eq_getElem hi⟩) (fun i H x H' hi sm y=>?_) (fun i H R hi sm r=>?_) hQ
 ·obtain ⟨e,y⟩:=y
  refine ⟨?_,e⟩
  have:=y xs (sm.seq hs)
  rw [List.getD_eq_getElem?_getD,this]
  rfl
 ·refine he i _ H R ?_ sm r
  rw [List.getD_eq_getElem?_getD,List.getElem?_eq_getElem hi]
  rfl
end L2
set_option Elab.async false
set_option linter.all false
set_option maxRecDepth 100000
namespace L2
open PySem PySem.Spec PyProof.Rows
theorem qb6_ {J:It}{n k:Nat}{src f:Nat->V}{b:Nat->Bool}{tt:TT}{te:TE}{cs:St}{H1:Hp}{D:Addr}{Q:Hp->Prop} (hD:H1 D = none) (hk:k = cs.length) (hn:n<=sizeLine)
  (stop:∀ H,Same H1 H->J.stop n H) (go:∀ i H,i < n->Same H1 H->J.go i H) (yld:∀ i H x H',i < n->Same H1 H->J.yld i H x H'->x = src i/\H' = H)
  (ht:∀ i H (R:Bool->Hp->Prop),i < n->Same H1 H->(∀ H4,Same H H4->R (b i) H4)->tt (cs ++ [some (src i)]) H R)
  (he:∀ i H (R:V->Hp->Prop),i < n->b i = true->Same H1 H->(∀ H4,Same H H4->R (f i) H4)->te (cs ++ [some (src i)]) H R)
  (hQ:∀ H,Same H1 H->H D = some (.lst (((List.range n).filter b).map f))->Q H):jp_ J (qZ_ k) tt te (cs ++ [none]) H1 D Q:=by
 refine ⟨fun i m ys σ H=>m = n - i/\i<=n/\Same H1 H/\ys = ((List.range i).filter b).map f/\H D = some (.lst ys)/\∃ o,σ = cs ++ [o],⟨n,rfl,Nat.zero_le _,(Same.refl _).up hD,rfl,qc_,none,rfl⟩,?_⟩
 rintro i m ys σ H ⟨rfl,hi,sm,rfl,hd,o,rfl⟩
 refine ⟨hd,?_⟩
 by_cases hlt:i < n
 ·refine .inr ⟨go i H hlt sm,fun x H' y=>?_⟩
  obtain ⟨rfl,rfl⟩:=yld i H x H' hlt sm y
  have e:(cs ++ [o]).set k (some (src i)) = cs ++ [some (src i)]:=by
   rw [hk,List.set_append_right _ _ (Nat.le_refl _),Nat.sub_self]
   rfl
  unfold qZ_
  rw [e]
  refine ht i H' _ hlt sm fun H4 s4=>?_
  have er:(List.range (i + 1)).filter b = (List.range i).filter b ++ (if b i = true then [i] else []):=by
   rw [List.range_succ,List.filter_append]
   congr 1
   by_cases z:b i = true
   ·rw [if_pos z,List.filter_cons_of_pos z,List.filter_nil]
   ·rw [if_neg z,List.filter_cons_of_neg z,List.filter_nil]
  by_cases z:b i = true
  ·rw [if_pos z]
   refine he i H4 _ hlt z (sm.trans s4) fun H5 s5=>⟨s5 _ _ (s4 _ _ hd),?_,n - (i + 1),by omega,rfl,hlt,((sm.trans s4).trans s5).up hD,?_,qc_,_,rfl⟩
   ·rw [List.length_map]
    have:=List.length_filter_le b (List.range i)
    rw [List.length_range] at this
    omega
   ·rw [er,if_pos z,List.map_append]
    rfl
  ·rw [if_neg z]
   refine ⟨n - (i + 1),by omega,rfl,hlt,sm.trans s4,?_,s4 _ _ hd,_,rfl⟩
   rw [er,if_neg z,List.append_nil]
 ·have e:i = n:=by omega
  subst e
  exact .inl ⟨stop H sm,hQ H sm hd⟩
theorem vD_ {n:Nat}{f:Nat->V}{b:Nat->Bool}{k:Nat}{tt:TT}{te:TE}{cs:St}{H1:Hp}{D:Addr}{Q:Hp->Prop} (hD:H1 D = none) (hk:k = cs.length) (hn:n<=sizeLine)
  (ht:∀ i H (R:Bool->Hp->Prop),i < n->Same H1 H->(∀ H4,Same H H4->R (b i) H4)->tt (cs ++ [some (.int (i:Nat))]) H R)
  (he:∀ i H (R:V->Hp->Prop),i < n->b i = true->Same H1 H->(∀ H4,Same H H4->R (f i) H4)->te (cs ++ [some (.int (i:Nat))]) H R)
  (hQ:∀ H,Same H1 H->H D = some (.lst (((List.range n).filter b).map f))->Q H):jp_ (Itr 0 n) (qZ_ k) tt te (cs ++ [none]) H1 D Q :=
 qb6_ (src:=fun i=>.int (0 + (i:Nat))) hD hk hn (fun H _=>Nat.le_refl _) (fun i H hi _=>hi) (fun i H x H' _ _ y=>⟨y.2,y.1⟩) (fun i H R hi sm r=>by
  have e:(0:Int) + (i:Nat) = (i:Nat):=by omega
  rw [e]
  exact ht i H R hi sm r) (fun i H R hi hb sm r=>by
  have e:(0:Int) + (i:Nat) = (i:Nat):=by omega
  rw [e]
  exact he i H R hi hb sm r) hQ
end L2
set_option Elab.async false
set_option linter.all false
set_option maxRecDepth 100000
set_option maxHeartbeats 1000000
namespace L2
open PySem PySem.Spec PyProof.Rows
variable {X:Cx}
def qan_:Value->V
 | .bool b=>.bl b
 | .int i _=>.int i
 | .str x _=>.str x
 | .bytes b _=>.byt b
 | .float b _=>.flt b
 | .ref a=>.ref a
 | .type n=>.ty n
 | _=>.non
theorem qa6_ {z:V}{u:Value} (h:RelV z u):qan_ u = z:=by
 cases z with
 | non=>cases h;rfl
 | bl b=>cases h;rfl
 | int i=>obtain ⟨t,rfl⟩:=h;rfl
 | str i=>obtain ⟨t,rfl⟩:=h;rfl
 | byt i=>obtain ⟨t,rfl⟩:=h;rfl
 | flt i=>obtain ⟨t,rfl⟩:=h;rfl
 | ref a=>cases h;rfl
 | ty n=>cases h;rfl
theorem qb7_ {f:V->Bool}{xs:List V}{its:List Value} (r:Vals xs its):its.countP (fun u=>f (qan_ u)) = xs.countP f:=by
 induction r with
 | nil=>rfl
 | cons h _ ih=>rw [List.countP_cons,List.countP_cons,ih,qa6_ h]
theorem qgj_ {xs:List V}{its:List Value} (r:Vals xs its):∀ u ∈ its,∃ z ∈ xs,RelV z u:=by
 induction r with
 | nil=>intro u h;cases h
 | cons h _ ih =>
  intro u hu
  rcases List.mem_cons.mp hu with e | e
  ·subst e
   exact ⟨_,List.mem_cons_self,h⟩
  ·obtain ⟨z,hz,rz⟩:=ih u e
   exact ⟨z,List.mem_cons_of_mem _ hz,rz⟩
def qj7_:V->List V->Hp->VK->Prop:=fun x vs H Q=>∃ (l:Addr) (xs:List V) (y:V),x = .ref l/\vs = [y]/\H l = some (.lst xs)/\yM_ y = true/\(∀ z ∈ xs,yM_ z = true)/\Q (.int ((xs.countP fun z=>eqV z y:Nat):Int)) H
theorem qgk_:MtM X "list.count" qj7_:=by
 intro pins s σ H x vs v us Q I rx rv h
 obtain ⟨l,xs,y,rfl,rfl,hH,hy,hx,q⟩:=h
 cases rx
 obtain ⟨u,rfl,ru⟩:=rv.one
 obtain ⟨z,its,n,r,hl,e⟩:=I.lstM hH
 refine call_meets F.slot_list_count ⟨_,e,rfl⟩ F.entry_list_count (F.args_list_count_2 _ _) (SeqAt.list_countAt l its.toArray n none #[] u (fun v=>eqV (qan_ v) y)) ⟨e,?_,?_⟩
 ·intro v hv
  have hv':v ∈ its:=by simpa using hv
  obtain ⟨z,hz,rz⟩:=qgj_ r v hv'
  have eb:=qa6_ rz
  show SeqAt.EqAt _ _ v u (eqV (qan_ v) y)
  rw [eb]
  exact jz_ rz ru (hx z hz) hy
 ·refine ⟨.int ((xs.countP fun z=>eqV z y:Nat):Int),H,I.tok _,⟨s.toks,?_⟩,q⟩
  rw [<- qb7_ r]
end L2
set_option Elab.async false
set_option linter.all false
set_option maxRecDepth 100000
set_option maxHeartbeats 1000000
namespace L2
open PySem PySem.Spec PyProof.Rows
def SameBut (D:Addr) (H H':Hp):Prop:=∀ y o,y ≠ D->H y = some o->H' y = some o
end L2
set_option Elab.async false
set_option linter.all false
set_option maxRecDepth 100000
set_option maxHeartbeats 1000000
namespace L2
open PySem PySem.Spec PyProof.Rows
end L2
set_option Elab.async false
set_option linter.all false
set_option maxRecDepth 100000
set_option maxHeartbeats 1000000
namespace L2
open PySem PySem.Spec PyProof.Rows
variable {X:Cx}
end L2
namespace GF
end GF
set_option Elab.async false
set_option linter.all false
set_option maxRecDepth 100000
set_option maxHeartbeats 1000000
namespace L2
open PySem PySem.Spec PyProof.Rows
def qlq_ (N:List Str) (osc sc:Scope) (cap:List Nat) (y:Str):Bool :=
 (sc.kind == .function) && (sc.names.filter (fun p=>p.2 == NameKind.cell) == [(y,NameKind.cell)]) && (sc.names.lookup y == some .cell) && sc.names.all (fun y=>((y.2 != .local) || (sc.names.lookup y.1 == some .local)) && ((y.2 != .free) || ((sc.names.lookup y.1 == some .free) && ((osc.names.lookup y.1 == some .cell) || (osc.names.lookup y.1 == some .free))))) &&
  cap.all (fun i=>match N[i]? with | some x=>sc.names.lookup x == some .free | none=>false)
structure CompOkC (N:List Str) (osc sc:Scope) (cap:List Nat) (y:Str):Prop where
 kind:sc.kind = .function
 one:sc.names.filter (fun p=>p.2 == NameKind.cell) = [(y,NameKind.cell)]
 mine:sc.names.lookup y = some .cell
 locs:∀ y ∈ sc.names,y.2 = .local->sc.names.lookup y.1 = some .local
 free1:∀ y ∈ sc.names,y.2 = .free->sc.names.lookup y.1 = some .free
 frees:∀ y ∈ sc.names,y.2 = .free->osc.names.lookup y.1 = some .cell\/osc.names.lookup y.1 = some .free
 capf:∀ i ∈ cap,∃ x,N[i]? = some x/\sc.names.lookup x = some .free
def qlr_ (X:Cx) (sc:Scope) (cl:List (Str × Addr)) (C:Addr) (cap:List Nat) (y:Str) (s₀:Shared) (H₀:Hp) (ex:List Addr):Cx :=
 { X with N:=vp_ X.N cap [y],s₀:=s₀,H₀:=H₀,env:=compEnvC sc ((y,C + 1) :: cl) C X.env,outer:=X.stack,stack:=X.stack,ex:=ex,fn:=fun x=>x == y,pn:=[],xe:=fun _ _=>False }
section
variable {X:Cx}{pins:List (Addr × Obj)}{σ:St}{H:Hp}{s:Shared}{sc:Scope}{cl:List (Str × Addr)}{cap:List Nat}{y:Str}
end
section
variable {X:Cx}{sc:Scope}{cap:List Nat}{y:Str}{tg iter elt:Expr}{ifs:List Expr}{pos:Pos}{wi:TI}{g:TG}{tt:TT}{te:TE}
end
end L2
set_option Elab.async false
set_option linter.all false
set_option maxRecDepth 100000
set_option maxHeartbeats 1000000
namespace L2
open PySem PySem.Spec PyProof.Rows
section
variable {X:Cx}
end
end L2
set_option Elab.async false
set_option linter.all false
set_option maxRecDepth 100000
namespace L2
open PySem PySem.Spec PyProof.Rows
theorem qgl_ {M:Model}{A:Around}{E:Value->Shared->Prop}{s:Shared}{env:Env}{name:Str}{args:Arguments}{body:List Stmt}{scope:Scope}{pos:Pos}{Q:Flow->Shared->Prop}
  (h1:defaultsOf args env = ([],[])) (h2:annotationsOf (args.args ++ args.posonlyargs ++ args.vararg.toList ++ args.kwonlyargs ++ args.kwarg.toList) env = [])
  (h:wpAny M A (makeFunction name (qualnameIn env name name) args (.stmts body) scope env [] [] [] pos pos.line) (fun f s1=>wpAny M A (storeName env name f) (fun _ s2=>Q .next s2) E s1) E s) :
  wpAny M A (exec (.FunctionDef name args body [] none [] scope none name pos) env) Q E s:=by
 rw [arm_exec_FunctionDef]
 obtain ⟨po,a,va,ko,kd,kwa,df⟩:=args
 unfold defStmt
 simp only [h1,h2,evalEach,evalOpt,List.isEmpty_nil,Bool.not_true,Bool.false_and,List.map_nil,Option.map_none,Option.toList_none,List.append_nil]
 rw [if_neg Bool.false_ne_true]
 refine wpAny_bind (wpAny_evalAll_nil ?_)
 refine wpAny_bind (wpAny_standAt ?_)
 refine wpAny_bind (wpAny_holding ?_)
 refine wpAny_bind (wpAny_evalAll_nil ?_)
 refine wpAny_bind (wpAny_holding (wpAny_pure (α:=List (Option Value)) (a:=[]) ?_))
 refine wpAny_holding ?_
 refine wpAny_bind (wpAny_pure (α:=List (Str × Value)) (a:=[]) ?_)
 refine wpAny_mono h (fun f s1 q=>?_) fun _ _ z=>z
 refine wpAny_bind (wpAny_pure (α:=Value) (a:=f) ?_)
 refine wpAny_bind (wpAny_standAt ?_)
 refine wpAny_bind (wpAny_bindName ?_)
 exact wpAny_mono q (fun _ s2 z=>wpAny_pure z) fun _ _ z=>z
def yG_ (q:Str) (c:Addr):HO:=.ext fun h=>h.CodeRec (.ref c) q
def FunO (fa:Addr) (fd:FuncData):HO:=.ext fun h=>h.get? fa = some { cls:=.type "function",data:=.func fd }
structure TabK (X:Cx) (c P:Addr):Prop where
 cd:X.env.code = .ref c
 hd:PySem.W.codeHdIn X.K c P = true
 blt:X.base.BuiltinsAt X.mg P
 ne:mainGlobals ≠ P
section
variable {X:Cx}{pins:List (Addr × Obj)}{σ:St}{H:Hp}{s:Shared}
theorem qgm_ {P:Program}{w:World}{h:Heap}{c:Addr}{q:Str} (e:h.CodeRec (.ref c) q):ObjOk P w H h c (yG_ q c):=by
 refine ⟨e,?_,fun h1 h2 e1 k=>?_⟩
 ·obtain ⟨c',o,vs,t,e1,e2,_⟩:=e
  cases e1
  exact ⟨o,e2⟩
 ·obtain ⟨c',o,vs,t,e1,e2,e3⟩:=e1
  cases e1
  exact ⟨c,o,vs,t,rfl,k o e2,e3⟩
theorem qcv_ {P:Program}{w:World}{h:Heap}{fa:Addr}{fd:FuncData} (e:h.get? fa = some { cls:=.type "function",data:=.func fd }):ObjOk P w H h fa (FunO fa fd):=⟨e,⟨_,e⟩,fun h1 h2 e1 k=>k _ e1⟩
theorem Inv.fnew {P c':Addr}{ps more:Array Value}{q:Str}{h':Heap}{fd:FuncData}{tk:Nat} (I:Inv X pins σ H s) (hP:H P = some (.tbl ps)) (x:Heap.ExtBut P s.heap h') (h1:s.heap.objs.size<=c') (h2:c' < h'.objs.size) (cr:h'.CodeRec (.ref c') q) (ht:h'.get? P = some (PySem.W.tabObj (ps ++ more))) :
  Inv X pins σ (upd (upd (upd H P (.tbl (ps ++ more))) c' (yG_ q c')) h'.objs.size (FunO h'.objs.size fd)) { s with heap:=h'.push { cls:=.type "function",data:=.func fd },toks:=tk }:=by
 have ltP:P < s.heap.objs.size:=(I.hok P _ hP).lt
 have le':s.heap.objs.size<=h'.objs.size:=Nat.le_trans h1 (Nat.le_of_lt h2)
 have nP:∀ b,H b = none->b ≠ P:=fun b e z=>by rw [z,hP] at e;cases e
 have old:∀ b o,s.heap.get? b = some o->b ≠ c'/\b ≠ h'.objs.size:=fun b o e=>⟨Nat.ne_of_lt (Nat.lt_of_lt_of_le (Heap.lt_size e) h1),Nat.ne_of_lt (Nat.lt_of_lt_of_le (Heap.lt_size e) le')⟩
 have oldH:∀ b u,H b = some u->b ≠ c'/\b ≠ h'.objs.size:=fun b u e=>⟨Nat.ne_of_lt (Nat.lt_of_lt_of_le (I.hok b u e).lt h1),Nat.ne_of_lt (Nat.lt_of_lt_of_le (I.hok b u e).lt le')⟩
 have keepN:∀ b o,b ≠ P → s.heap.get? b = some o → (h'.push { cls:=.type "function",data:=.func fd }).get? b = some o:=fun b o hb e=>Heap.get?_push_of_some _ (x b o hb e)
 have at_:∀ b u,b ≠ P->H b = some u->upd (upd (upd H P (.tbl (ps ++ more))) c' (yG_ q c')) h'.objs.size (FunO h'.objs.size fd) b = some u:=fun b u hb e=>by
  rw [qf_ (oldH b u e).2,qf_ (oldH b u e).1,qf_ hb]
  exact e
 have isP:upd (upd (upd H P (.tbl (ps ++ more))) c' (yG_ q c')) h'.objs.size (FunO h'.objs.size fd) P = some (.tbl (ps ++ more)):=by
  rw [qf_ (oldH P _ hP).2,qf_ (oldH P _ hP).1]
  exact qc_
 refine I.step (g':=s.gens) (d':=s.drawn) (ch:=[]) (fun _ z=>nomatch z) (fun b o _ _ _ e n=>keepN b o (nP b n) e) (fun b o _ _ _ e n=>⟨o.slots,keepN b o (nP b n) e⟩) (fun b o _ e n=>?_) (fun b o _ e=>?_) (fun b xs e=>at_ b _ (fun z=>by rw [z,hP] at e;cases e) e) (fun b o u e=>at_ b _ (fun z=>by rw [z,hP] at e;cases e) e) (fun b ps' e=>?_) (fun m hm=>?_) (fun b u e=>?_) I.bare
 ·rw [qf_ (old b o e).2,qf_ (old b o e).1,qf_ (nP b n)]
  exact n
 ·by_cases z:b = P
  ·rw [z]
   exact ⟨_,Heap.get?_push_of_some _ ht⟩
  ·exact ⟨o,keepN b o z e⟩
 ·by_cases z:b = P
  ·subst z
   rw [hP] at e
   cases e
   exact ⟨more,isP⟩
  ·exact ⟨#[],by rw [at_ b _ z e];simp⟩
 ·obtain ⟨o,es,ep,ho,r⟩:=hm
  exact ⟨o,es,ep,keepN _ o (nP _ I.free) ho,r⟩
 ·by_cases z1:b = h'.objs.size
  ·rw [z1,qc_] at e
   cases e
   rw [z1]
   exact qcv_ (Heap.get?_push_size _ rfl)
  rw [qf_ z1] at e
  by_cases z2:b = c'
  ·rw [z2,qc_] at e
   cases e
   rw [z2]
   refine qgm_ ?_
   obtain ⟨c'',o,vs,t,e1,e2,e3⟩:=cr
   exact ⟨c'',o,vs,t,e1,Heap.get?_push_of_some _ e2,e3⟩
  rw [qf_ z2] at e
  by_cases z3:b = P
  ·rw [z3,qc_] at e
   cases e
   rw [z3]
   exact Heap.get?_push_of_some _ ht
  rw [qf_ z3] at e
  refine (I.hok b u e).stay (fun c v hc q=>keepN c v ?_ q) (fun c q=>at_ c _ (fun z=>by rw [z,hP] at q;cases q) q) fun c xs q=>at_ c _ (fun z=>by rw [z,hP] at q;cases q) q
  rcases hc with z | z
  ·rw [z];exact z3
  ·exact fun y=>by rw [y,hP] at z;cases z
theorem Inv.fhit {h':Heap}{fd:FuncData}{tk:Nat} (I:Inv X pins σ H s) (x:∀ b o,s.heap.get? b = some o->h'.get? b = some o) (le':s.heap.objs.size<=h'.objs.size) :
  Inv X pins σ (upd H h'.objs.size (FunO h'.objs.size fd)) { s with heap:=h'.push { cls:=.type "function",data:=.func fd },toks:=tk } :=
 I.laid (t':=tk) (fun b u e=>Heap.get?_push_of_some _ (x b u e)) le' (qcv_ (Heap.get?_push_size _ rfl))
def tFn (P:Addr) (pos:Pos) (q:Str) (mk:Value->Value->Value->Value->FuncData):TE:=fun σ H Q=>∃ ps,H P = some (.tbl ps)/\TriplesOk ps.toList ∧
 ((codeAmong pos ps.toList = none/\∀ (c' fa:Addr) (doc pm ctv:Value),H c' = none->H fa = none->fa ≠ c'->Q (.ref fa) (upd (upd (upd H P (.tbl (ps ++ #[rawInt pos.line,rawInt pos.col,.ref c']))) c' (yG_ q c')) fa (FunO fa (mk doc pm (.ref c') ctv)))) ∨
   ∃ c',codeAmong pos ps.toList = some (.ref c')/\H c' = some (yG_ q c')/\∀ (fa:Addr) (doc pm ctv:Value),H fa = none->Q (.ref fa) (upd H fa (FunO fa (mk doc pm (.ref c') ctv))))
theorem Inv.blt {P:Addr} (I:Inv X pins σ H s) (b:X.base.BuiltinsAt X.mg P):s.heap.BuiltinsAt X.mg P:=by
 obtain ⟨bm,o,e1,e2,e3,e4,e5,e6,e7,e8⟩:=b
 exact ⟨bm,o,e1,e2,e3,e4,I.bk _ _ e5,e6,e7,e8⟩
theorem Inv.nsg (I:Inv X pins σ H s):s.heap.Ns mainGlobals X.mg:=by
 obtain ⟨o,es,ep,ho,r⟩:=I.mod.glob
 exact ⟨o,es,ep,I.bk _ _ ho,r⟩
theorem qgn_ {c P:Addr}{name q:Str}{params:Arguments}{body:List Stmt}{scope:Scope}{pos:Pos}{ln:Nat}{clos:List (Str × Addr)}{Q:VK} (T:TabK X c P) (hcl:closureFor scope X.env = pure clos) (I:Inv X pins σ H s)
  (h:tFn P pos q (fun doc pm cdv ctv=>PySem.W.fnX name q params body scope clos .none .none doc pm none cdv ctv) σ H Q) :
  wpAny (model X.prog X.w) X.A (makeFunction name q params (.stmts body) scope X.env [] [] [] pos ln) (EP X pins σ Q) X.xe s:=by
 obtain ⟨ps,hP,tr,h⟩:=h
 have hd:=PySem.W.codeHd_of_K I.kIn T.hd
 have tb:s.heap.get? P = some (PySem.W.tabObj ps):=I.hok P _ hP
 rcases h with ⟨hn,h⟩ | ⟨c',hs,hc,h⟩
 ·refine PySem.W.makeFunction_K hcl I.ok.glob I.nsg T.cd hd tb tr hn T.ne (I.blt T.blt) fun c' ctv doc h' tk x h1 h2 cr ht=>?_
  refine ⟨.ref h'.objs.size,_,I.fnew (more:=#[rawInt pos.line,rawInt pos.col,.ref c']) hP x h1 h2 cr ht,rfl,h c' h'.objs.size doc _ ctv (I.hok.fresh h1) (I.hok.fresh (Nat.le_trans h1 (Nat.le_of_lt h2))) (Nat.ne_of_gt h2)⟩
 ·refine PySem.W.makeFunction_hit hcl I.ok.glob I.nsg T.cd hd tb tr hs (I.blt T.blt) fun ctv doc h' tk x le'=>?_
  exact ⟨.ref h'.objs.size,_,I.fhit x le',rfl,h h'.objs.size doc _ ctv (I.hok.fresh le')⟩
theorem qgo_ {c P:Addr}{name q:Str}{params:Arguments}{body:Expr}{scope:Scope}{pos:Pos}{ln:Nat}{clos:List (Str × Addr)}{Q:VK} (T:TabK X c P) (hcl:closureFor scope X.env = pure clos) (I:Inv X pins σ H s)
  (h:tFn P pos q (fun _ pm cdv ctv=>PySem.W.kla_fn name q params body scope clos pm cdv ctv) σ H Q) :
  wpAny (model X.prog X.w) X.A (makeFunction name q params (.expr body) scope X.env [] [] [] pos ln) (EP X pins σ Q) X.xe s:=by
 obtain ⟨ps,hP,tr,h⟩:=h
 have hd:=PySem.W.codeHd_of_K I.kIn T.hd
 have tb:s.heap.get? P = some (PySem.W.tabObj ps):=I.hok P _ hP
 rcases h with ⟨hn,h⟩ | ⟨c',hs,hc,h⟩
 ·refine PySem.W.kla_makeFunction hcl I.ok.glob I.nsg T.cd hd tb tr hn T.ne (I.blt T.blt) fun c' ctv h' tk x h1 h2 cr ht=>?_
  refine ⟨.ref h'.objs.size,_,I.fnew (more:=#[rawInt pos.line,rawInt pos.col,.ref c']) hP x h1 h2 cr ht,rfl,h c' h'.objs.size .none _ ctv (I.hok.fresh h1) (I.hok.fresh (Nat.le_trans h1 (Nat.le_of_lt h2))) (Nat.ne_of_gt h2)⟩
 ·refine PySem.W.kla_makeFunctionHit hcl I.ok.glob I.nsg T.cd hd tb tr hs (I.blt T.blt) fun ctv h' tk x le'=>?_
  exact ⟨.ref h'.objs.size,_,I.fhit x le',rfl,h h'.objs.size .none _ ctv (I.hok.fresh le')⟩
theorem qj8_ {c P:Addr}{i:Nat}{name:Str}{params:Arguments}{body:List Stmt}{scope:Scope}{pos:Pos}{clos:List (Str × Addr)} (T:TabK X c P) (hcl:closureFor scope X.env = pure clos) (hN:X.N.Nodup) (hi:X.N[i]? = some name) (hx:Loc X.env.scope name)
  (h1:defaultsOf params X.env = ([],[]):=by rfl) (h2:annotationsOf (params.args ++ params.posonlyargs ++ params.vararg.toList ++ params.kwonlyargs ++ params.kwarg.toList) X.env = []:=by rfl) (hf:X.fn name = true\/X.env.scope.names.lookup name = some .local:=by first | exact .inl rfl | exact .inr rfl) :
  PS X (.FunctionDef name params body [] none [] scope none name pos) (tAsg (tFn P pos (qualnameIn X.env name name) (fun doc pm cdv ctv=>PySem.W.fnX name (qualnameIn X.env name name) params body scope clos .none .none doc pm none cdv ctv)) (qZ_ i)):=by
 intro pins s σ H D I h
 refine qgl_ h1 h2 (thn (qgn_ T hcl I h) fun v s1 ⟨y,H1,I1,r1,q1⟩=>?_)
 exact zJ_ I1 hN hi hx r1 (fun s2 I2=>⟨_,H1,I2,q1⟩) hf
end
end L2
set_option Elab.async false
set_option linter.all false
set_option maxRecDepth 100000
namespace L2
open PySem PySem.Spec PyProof.Rows
def CelO (c:Addr) (v:V):HO:=.ext fun h=>∃ u,RelV v u/\h.IsCell c (some u)
def trC (cvs:List (Addr × V)) (H:Hp):Hp:=fun b=>match cvs.lookup b with
 | some v=>some (CelO b v)
 | none=>H b
def untr (cvs:List (Addr × V)) (H:Hp):Hp:=fun b=>match cvs.lookup b with
 | some _=>none
 | none=>H b
section
variable {cvs:List (Addr × V)}{H:Hp}{b:Addr}{v:V}
theorem z9_ (e:cvs.lookup b = some v):trC cvs H b = some (CelO b v):=by unfold trC;rw [e]
theorem jN_ (e:cvs.lookup b = none):trC cvs H b = H b:=by unfold trC;rw [e]
theorem yY_ (e:cvs.lookup b = some v):untr cvs H b = none:=by unfold untr;rw [e]
theorem jm_ (e:cvs.lookup b = none):untr cvs H b = H b:=by unfold untr;rw [e]
theorem qih_ {P:Program}{w:World}{h:Heap}{c:Addr}{u:Value} (r:RelV v u) (e:h.IsCell c (some u)):ObjOk P w H h c (CelO c v):=by
 obtain ⟨o,e1,e2⟩:=e
 refine ⟨⟨u,r,o,e1,e2⟩,⟨o,e1⟩,fun h1 h2 ⟨u',r',o',e1',e2'⟩ k=>⟨u',r',o',k _ e1',e2'⟩⟩
theorem qcw_ {P:Program}{w:World}{h:Heap} (x:HOk P w H h) (free:∀ c v,cvs.lookup c = some v->H c = none) (cel:∀ c v,cvs.lookup c = some v->∃ u,RelV v u/\h.IsCell c (some u)):HOk P w (trC cvs H) h:=fun b o e=>by
 have out:∀ c u,H c = some u->cvs.lookup c = none:=fun c u e=>by
  cases q:cvs.lookup c with
  | none=>rfl
  | some v=>rw [free c v q] at e;cases e
 cases q:cvs.lookup b with
 | some v =>
  rw [z9_ q] at e
  cases e
  obtain ⟨u,r,z⟩:=cel b v q
  exact qih_ r z
 | none =>
  rw [jN_ q] at e
  exact (x b o e).stay (fun _ _ _ z=>z) (fun c z=>by rw [jN_ (out c _ z)];exact z) fun c xs z=>by rw [jN_ (out c _ z)];exact z
theorem qgp_ {P:Program}{w:World}{h:Heap} (x:HOk P w H h) (cel:∀ c v,cvs.lookup c = some v->H c = some (CelO c v)):HOk P w (untr cvs H) h:=fun b o e=>by
 cases q:cvs.lookup b with
 | some v=>rw [yY_ q] at e;cases e
 | none =>
  rw [jm_ q] at e
  refine (x b o e).stay (fun _ _ _ z=>z) (fun c z=>?_) fun c xs z=>?_
  ·cases q2:cvs.lookup c with
   | none=>rw [jm_ q2];exact z
   | some v=>rw [cel c v q2] at z;cases z
  ·cases q2:cvs.lookup c with
   | none=>rw [jm_ q2];exact z
   | some v=>rw [cel c v q2] at z;cases z
end
structure CloScope (N P:List Str) (sc:Scope):Prop where
 kind:sc.kind = .function
 co:sc.isCoroutine = false
 gen:sc.isGenerator = false
 nd:N.Nodup
 pre:N.take P.length = P
 par:∀ x ∈ P,sc.names.lookup x = some .local
 nocell:∀ y ∈ sc.names,y.2 ≠ .cell
def envC (q:Str) (scope:Scope) (L fa:Addr) (cd:Value) (clos:List (Str × Addr)):Env:=newEnv scope L mainGlobals clos (q ++ Str.ofString ".<locals>.") (some fa) cd none builtinsNs
def cxC (P:Program) (w:World) (K:PySem.W.Frag) (mg:Str->Option Value) (base:Heap) (N:List Str) (env:Env) (A:Around) (outer:List Env) (s:Shared) (H:Hp):Cx where
 prog:=P
 w:=w
 K:=K
 mg:=mg
 base:=base
 A:=A.deeper env
 N:=N
 s₀:=s
 H₀:=H
 env:=env
 outer:=outer
 stack:=env :: outer
 ex:=[]
 calm:=true
 fn:=fun _=>false
 pn:=[]
 xe:=fun _ _=>False
def qh0_ (ps:List Str) (vs:List V) (scope:Scope) (clos:List (Str × Addr)) (cvs:List (Addr × V)) (N:List Str) (σ:St):Prop :=
 σ.length = N.length/\∀ (i:Nat) (x:Str) (v:V),N[i]? = some x->σ[i]? = some (some v)->(ps[i]? = some x/\vs[i]? = some v)\/(scope.names.lookup x = some .free/\∃ c,clos.lookup x = some c/\cvs.lookup c = some v)
structure Clos (scope:Scope) (clos:List (Str × Addr)) (cvs:List (Addr × V)) (H:Hp):Prop where
 inj:∀ x y c,clos.lookup x = some c->clos.lookup y = some c->x = y
 has:∀ x,scope.names.lookup x = some .free->∃ c,clos.lookup x = some c
 val:∀ x c,clos.lookup x = some c->∃ v,cvs.lookup c = some v
 at_:∀ c v,cvs.lookup c = some v->H c = some (CelO c v)
section
variable {P:Program}{w:World}{K:PySem.W.Frag}{mg:Str->Option Value}{base:Heap}{A:Around}{outer:List Env}{s:Shared}{H:Hp}{N ps:List Str}{scope:Scope}{fa:Addr}{q:Str}{cd:Value}{clos:List (Str × Addr)}{cvs:List (Addr × V)}{vs:List V}{us:List Value}{σ0:St}{h':Heap}{tk:Nat}
theorem qcx_:∀ {ps:List Str}{us:List Value}{i:Nat}{x:Str}{u:Value},ps.Nodup->ps[i]? = some x->us[i]? = some u->(ps.zip us).reverse.lookup x = some u
 | ps,us,i,x,u,nd,e1,e2=>by
  have hm:(x,u) ∈ (ps.zip us).reverse:=List.mem_reverse.mpr (List.mem_of_getElem? (i:=i) (List.getElem?_zip_eq_some (z:=(x,u)).mpr ⟨e1,e2⟩))
  have uq:∀ v,(x,v) ∈ (ps.zip us).reverse->v = u:=fun v hv=>by
   obtain ⟨j,hj⟩:=List.getElem?_of_mem (List.mem_reverse.mp hv)
   obtain ⟨j1,j2⟩:=List.getElem?_zip_eq_some.mp hj
   have:i = j:=vH_ nd e1 j1
   subst this
   rw [e2] at j2
   exact (Option.some.inj j2).symm
  generalize (ps.zip us).reverse = l at hm uq
  induction l with
  | nil=>exact absurd hm List.not_mem_nil
  | cons p l ih =>
   obtain ⟨y,v⟩:=p
   rw [List.lookup_cons]
   by_cases e:x = y
   ·subst e
    simp only [beq_self_eq_true]
    rw [uq v List.mem_cons_self]
   ·have:(x == y) = false:=beq_eq_false_iff_ne.mpr e
    rw [this]
    refine ih ?_ fun v hv=>uq v (List.mem_cons_of_mem _ hv)
    rcases List.mem_cons.mp hm with z | z
    ·exact absurd (Prod.mk.inj z).1 e
    ·exact z
theorem qii_ (S:CloScope N ps scope) (hd:A.handled = none) (e0:Env0 P w K mg base A outer s H) (r:Vals vs us) (C:Clos scope clos cvs H) (h0:qh0_ ps vs scope clos cvs N σ0)
  (hn:h'.Ns s.heap.objs.size fun x=>(ps.zip us).reverse.lookup x) (hs:Heap.SameBut s.heap.objs.size (s.heap.push { cls:=.type "frame",data:=.dict #[] }) h') :
  Inv (cxC P w K mg base N (envC q scope s.heap.objs.size fa cd clos) A outer s (untr cvs H)) [] σ0 (untr cvs H) { s with heap:=h',toks:=tk }:=by
 have hk:∀ b o,s.heap.get? b = some o->h'.get? b = some o:=fun b o e=>by
  rw [hs.2 b (Nat.ne_of_lt (Heap.lt_size e))]
  exact Heap.get?_push_of_some _ e
 have noA:∀ b:Addr,b ∉ ([]:List Addr):=fun b=>List.not_mem_nil
 have cel:∀ x c,clos.lookup x = some c->∃ v u,cvs.lookup c = some v/\RelV v u/\s.heap.IsCell c (some u):=fun x c e=>by
  obtain ⟨v,hv⟩:=C.val x c e
  obtain ⟨⟨u,r,z⟩,_⟩:=(show ObjOk P w H s.heap c (CelO c v) from e0.hok c _ (C.at_ c v hv))
  exact ⟨v,u,hv,r,z⟩
 have ik:∀ {c u},s.heap.IsCell c (some u)->h'.IsCell c (some u):=fun ⟨o,e1,e2⟩=>⟨o,hk _ _ e1,e2⟩
 refine ⟨⟨e0.mod,S.kind,rfl,rfl,Nat.le_refl _,C.inj,fun x hx=>?_,(fun x c z=>Bool.noConfusion z),fun _=>hd,Around.frames_deeper e0.frames,.inr ⟨rfl,rfl⟩,fun b z=>absurd z (noA b),fun b o e=>⟨(e0.bs b o e).1,?_⟩,e0.bsz,fun b _ _=>noA b,fun b z=>absurd z (noA b),e0.funs,fun b hb=>?_⟩,
  rfl,e0.bare,Un.kept hk,⟨_,hn,fun i x v h1 h2 h3=>?_⟩,fun x c e=>?_,?_,fun x c e=>?_,fun p hp=>absurd (show p ∈ ([]:List (Addr × Obj)) from hp) (by simp),(qgp_ e0.hok C.at_).kept hk,h0.1⟩
 ·rcases hx with hx | hx
  ·exact absurd rfl (S.nocell _ (PySem.mem_of_lookup (show scope.names.lookup x = some .cell from hx)))
  ·exact C.has x hx
 ·have:=(e0.bs b o e).2
  cases z:cvs.lookup b with
  | none=>exact (jm_ z).trans this
  | some v=>exact yY_ z
 ·have:=e0.frf b hb
  cases z:cvs.lookup b with
  | none=>exact (jm_ z).trans this
  | some v=>exact yY_ z
 ·rcases h0.2 i x v h1 h2 with ⟨hp,hv⟩ | ⟨hf,c,hc,hv⟩
  ·obtain ⟨u,hu,rv⟩:=r.get hv
   have ndP:ps.Nodup:=by rw [<- S.pre];exact S.nd.sublist (List.take_sublist _ _)
   exact ⟨u,rv,.inl ⟨S.par x (List.mem_of_getElem? hp),qcx_ ndP hp hu⟩⟩
  ·obtain ⟨v',u,hv',ru,z⟩:=cel x c hc
   rw [hv] at hv'
   cases hv'
   exact ⟨u,ru,.inr ⟨.inr hf,c,hc,ik z⟩⟩
 ·obtain ⟨v',u,hv',ru,z⟩:=cel x c e
  exact ⟨_,ik z⟩
 ·have:=e0.hok.fresh (Nat.le_refl _)
  show untr cvs H s.heap.objs.size = none
  cases z:cvs.lookup s.heap.objs.size with
  | none=>exact (jm_ z).trans this
  | some v=>exact yY_ z
 ·obtain ⟨v',u,hv',_⟩:=cel x c e
  exact yY_ hv'
theorem qcy_ {s':Shared}{H':Hp}{σ':St}{env:Env}{v:V}{u:Value}{Q:VK} (C:Clos scope clos cvs H) (e0:Env0 P w K mg base A outer s H) (J:Inv (cxC P w K mg base N env A outer s (untr cvs H)) [] σ' H' s') (rv:RelV v u) (hq:Q v (trC cvs H')):CE outer P w H s Q u s':=by
 have B:Un (frs outer) [] (untr cvs H) H' s.heap s'.heap:=J.base
 have out:∀ b,(∀ v,H b ≠ some (CelO b v))->cvs.lookup b = none:=fun b hb=>by
  cases z:cvs.lookup b with
  | none=>rfl
  | some v=>exact absurd (C.at_ b v z) (hb v)
 have outN:∀ b,H b = none->cvs.lookup b = none:=fun b hb=>out b fun v z=>by rw [hb] at z;cases z
 have noA:∀ b:Addr,b ∉ ([]:List Addr):=fun b=>List.not_mem_nil
 have nfr:∀ c v,cvs.lookup c = some v->c ∉ frs outer:=fun c v e z=>by
  have:=e0.frf c z
  rw [C.at_ c v e] at this
  cases this
 have cell:∀ c v,cvs.lookup c = some v->H' c = none/\∃ u,RelV v u/\s'.heap.IsCell c (some u):=fun c v e=>by
  obtain ⟨⟨u,r,o,e1,e2⟩,_⟩:=(show ObjOk P w H s.heap c (CelO c v) from e0.hok c _ (C.at_ c v e))
  exact ⟨B.free c o e1 (yY_ e) (noA c),u,r,o,B.keep c o e1 (yY_ e) (nfr c v e) (noA c),e2⟩
 refine ⟨v,trC cvs H',J.os,J.bare,⟨fun b o e n hb hx=>?_,fun b o e n hb hx=>?_,fun b o e n hx=>?_,fun b o e hx=>B.there b o e hx,fun b xs e=>?_,fun b o x e=>?_,fun b ps e=>?_⟩,qcw_ J.hok (fun c v e=>(cell c v e).1) (fun c v e=>(cell c v e).2),rv,hq⟩
 ·exact B.keep b o e ((jm_ (outN b n)).trans n) hb hx
 ·exact B.slot b o e ((jm_ (outN b n)).trans n) hb hx
 ·exact (jN_ (outN b n)).trans (B.free b o e ((jm_ (outN b n)).trans n) hx)
 ·have z:=out b fun v y=>by rw [e] at y;cases y
  exact (jN_ z).trans (B.tups b xs ((jm_ z).trans e))
 ·have z:=out b fun v y=>by rw [e] at y;cases y
  exact (jN_ z).trans (B.frzs b o x ((jm_ z).trans e))
 ·have z:=out b fun v y=>by rw [e] at y;cases y
  obtain ⟨more,y⟩:=B.tbls b ps ((jm_ z).trans e)
  exact ⟨more,(jN_ z).trans y⟩
theorem qij_ {k:Nat}{name:Str}{params:Arguments}{body:List Stmt}{doc pm ctv:Value}{c':Addr}{Q:VK}{E:XK}{t:TS} (S:CloScope N ps scope) (hr:Room (k + 1) A) (e0:Env0 P w K mg base A outer s H) (r:Vals vs us)
  (hf:H fa = some (FunO fa (PySem.W.fnX name q params body scope clos .none .none doc pm none (.ref c') ctv))) (hc:H c' = some (yG_ q c')) (hb:bindArgs (PySem.W.fnX name q params body scope clos .none .none doc pm none (.ref c') ctv) ⟨us,[]⟩ = pure (ps.zip us))
  (C:Clos scope clos cvs H) (h0:qh0_ ps vs scope clos cvs N σ0)
  (ht:PSs (cxC P w K mg base N (envC q scope s.heap.objs.size fa (.ref c') clos) A outer s (untr cvs H)) body t) (hq:t { nx:=fun _ H'=>Q .non (trC cvs H'),rt:=fun v H'=>Q v (trC cvs H') } σ0 (untr cvs H)) :
  codeAny (model P w) A (.call (.ref fa) ⟨us,[]⟩) (CR CX0 outer P w H s Q E) s:=by
 have lim:s.heap.NoLimit:=e0.mod.nolimit.keeps fun b o e=>(e0.bs b o e).1
 have ho:s.heap.get? fa = some { cls:=.type "function",data:=.func (PySem.W.fnX name q params body scope clos .none .none doc pm none (.ref c') ctv) }:=(e0.hok fa _ hf).1
 have hcr:s.heap.CodeRec (.ref c') q:=(e0.hok c' _ hc).1
 refine codeAny_call_function hr.depth ho rfl S.co S.gen rfl hcr ?_
 rw [hb]
 refine wpAny_pure ?_
 refine wpAny_newFunctionEnv S.nocell (fun x hx=>S.par x.1 (List.of_mem_zip hx).1) (fun h' hn hs=>?_) S.kind
 have hk:∀ b o,s.heap.get? b = some o->h'.get? b = some o:=fun b o e=>by
  rw [hs.2 b (Nat.ne_of_lt (Heap.lt_size e))]
  exact Heap.get?_push_of_some _ e
 refine ⟨lim.keeps hk,codeAny_func ?_⟩
 have I:=qii_ (q:=q) (fa:=fa) (cd:=.ref c') (tk:=s.toks + (ps.zip us).length) S hr.hd e0 r C h0 hn hs
 refine wpAny_mono (ht [] _ σ0 _ _ I hq) (fun fl s' hs'=>?_) fun e s' hs'=>False.elim hs'
 cases fl with
 | ret u =>
  obtain ⟨v,σ',H',J,rv,q⟩:=hs'
  exact qcy_ C e0 J rv q
 | next =>
  obtain ⟨σ',H',J,q⟩:=hs'
  exact qcy_ (v:=V.non) (u:=Value.none) C e0 J rfl q
 | brk =>
  obtain ⟨_,_,_,q⟩:=hs'
  exact False.elim q
 | cont =>
  obtain ⟨_,_,_,q⟩:=hs'
  exact False.elim q
end
end L2
set_option Elab.async false
set_option linter.all false
set_option maxRecDepth 100000
namespace L2
open PySem PySem.Spec PyProof.Rows
abbrev TR:=(V->St->Hp->Prop)->St->Hp->Prop
def PSR (X:Cx) (body:List Stmt) (t:TR):Prop:=∀ (pins:List (Addr × Obj)) (s:Shared) (σ:St) (H:Hp) (R:V->St->Hp->Prop),Inv X pins σ H s->t R σ H →
 wpAny (model X.prog X.w) X.A (execs body X.env) (fun f s'=>∃ v σ' H' u,f = .ret u/\Inv X pins σ' H' s'/\RelV v u/\R v σ' H') X.xe s
def tRC (t:TS) (u:TR):TR:=fun R σ H=>t { nx:=u R,rt:=fun _ _=>False } σ H
def tRR (te:TE):TR:=fun R σ H=>te σ H fun v H'=>R v σ H'
section
variable {X:Cx}{st:Stmt}{rest:List Stmt}{t:TS}{u:TR}{e:Expr}{te:TE}{pos:Pos}
theorem qgq_ (h1:PS X st t) (h2:PSR X rest u):PSR X (st :: rest) (tRC t u):=by
 intro pins s σ H R I h
 refine wpAny_execs_cons (thn (h1 pins s σ H { nx:=u R,rt:=fun _ _=>False } I h) fun f s1 q=>?_)
 cases f with
 | next =>
  obtain ⟨σ',H',I',q⟩:=q
  exact h2 pins s1 σ' H' R I' q
 | ret v=>obtain ⟨_,_,_,_,_,q⟩:=q;exact False.elim q
 | brk=>obtain ⟨_,_,_,q⟩:=q;exact False.elim q
 | cont=>obtain ⟨_,_,_,q⟩:=q;exact False.elim q
theorem qik_ (he:PE X e te):PSR X [.Return (some e) pos] (tRR te):=by
 intro pins s σ H R I h
 refine wpAny_execs_cons (wpAny_Return_some (thn (he pins s σ H _ I h) fun v s1 ⟨x,H1,I1,r1,q1⟩=>?_))
 exact ⟨x,σ,H1,v,rfl,I1,r1,q1⟩
end
def qe3_ (N:List Str) (scope:Scope) (cs:List (Str × Addr)) (σ:St) (cvs:List (Addr × V)):Prop:=∀ c v,cvs.lookup c = some v->∃ (i:Nat) (y:Str),N[i]? = some y/\σ[i]? = some (some v)/\cs.lookup y = some c/\scope.names.lookup y = some .cell
section
variable {P:Program}{w:World}{K:PySem.W.Frag}{mg:Str->Option Value}{base:Heap}
end
end L2
set_option Elab.async false
set_option linter.all false
set_option maxRecDepth 100000
namespace L2
open PySem PySem.Spec PyProof.Rows
abbrev SpV:=V->List V->Hp->VK->Prop
def ug_ (P:Program) (w:World) (K:PySem.W.Frag) (mg:Str->Option Value) (base:Heap) (k:Nat) (sp:SpV):Prop :=
 ∀ (A:Around) (outer:List Env) (s:Shared) (H:Hp) (f:V) (us:List Value) (vs:List V) (Q:VK),Room k A->Env0 P w K mg base A outer s H->Vals vs us->sp f vs H Q →
  ∃ fa fd,f = .ref fa/\H fa = some (FunO fa fd)/\codeAny (model P w) A (.call (.ref fa) ⟨us,[]⟩) (CR CX0 outer P w H s Q E0) s
section
variable {X:Cx}{k:Nat}{sp:SpV}{x m:Str}{p pos apos:Pos}{e o:Expr}{es:List Expr}{ta:TE}{t:TA}{i:Nat}{pins:List (Addr × Obj)}{σ:St}{H:Hp}{s:Shared}{Q:VK}{us:List Value}{vs:List V}{f:V}
theorem qil_ {u:Value} (F:ug_ X.prog X.w X.K X.mg X.base k sp) (hr:Room k X.A) (I:Inv X pins σ H s) (rf:RelV f u) (r:Vals vs us) (h:sp f vs H Q) :
  ∃ fa ob fd,u = .ref fa/\s.heap.get? fa = some ob/\ob.data = .func fd/\wpAny (model X.prog X.w) X.A (call (.ref fa) us) (EP X pins σ Q) X.xe s:=by
 obtain ⟨fa,fd,rfl,hf,hc⟩:=F X.A X.stack s H f us vs Q hr I.env0 r h
 obtain rfl:u = .ref fa:=rf
 refine ⟨fa,_,fd,rfl,(I.hok fa _ hf).1,rfl,?_⟩
 refine wpAny_call (codeAny_mono hc fun r s' hq=>?_)
 cases r with
 | error e=>exact False.elim hq
 | ok fl =>
  cases fl with
  | ret u=>exact I.after hq
  | next=>exact False.elim hq
  | brk=>exact False.elim hq
  | cont=>exact False.elim hq
def ql8_ (sp:SpV) (i:Nat) (t:TA):TE:=fun σ H Q=>tVar i σ H fun f H1=>∃ fa fd,f = .ref fa/\t σ H1 fun vs H2=>H2 fa = some (FunO fa fd)/\sp (.ref fa) vs H2 Q
def qj9_ (K:PySem.W.Frag) (m:Str) (sp:SpV) (ta:TE) (t:TA):TE:=fun σ H Q=>ta σ H fun x H1=>∃ a C dx fs fa fd,x = .ref a/\H1 a = some (.ins C dx fs)/\Cls K C/\NoAttr K C m/\fs.lookup m = some (.ref fa)/\H1 fa = some (FunO fa fd)/\t σ H1 fun vs H2=>H2 fa = some (FunO fa fd)/\sp (.ref fa) vs H2 Q
theorem qgr_ {pl:Sem Bool} (F:ug_ X.prog X.w X.K X.mg X.base k sp) (hr:Room k X.A) (ho:PE X o ta) (ha:PA X (e :: es) t) (he:starEach (e :: es) X.env = (false,eval e X.env) :: starEach es X.env:=by rfl)
  (ht:eval (.Call (.Attribute o m apos) (e :: es) [] pos) X.env = (do
   let ov ← eval o X.env
   standAt apos.atName
   let (f,first) ← holding [ov] (getMethod ov m pl)
   callWith pos f first (backTo pos (starEach (e :: es) X.env)) (backToKw pos (keywordEach [] X.env))):=by rfl) :
  PE X (.Call (.Attribute o m apos) (e :: es) [] pos) (qj9_ X.K m sp ta t):=by
 intro pins s σ H Q I h
 refine PySem.W.methodCall_KW (pl:=pl) (thn (ho pins s σ H _ I h) fun u s1 ⟨x,H1,I1,rx,a,C,dx,fs,fa,fd,ex,ea,cl,na,l,hf,q⟩=>?_) ht
 subst ex
 obtain rfl:u = Value.ref a:=rx
 obtain ⟨mA,O,_⟩:=zC_ I1.hok ea
 obtain ⟨od,J,_⟩:=O.look
 refine PySem.W.method_usual I1.kIn J (PySem.W.plainGet_of (cl.get m)).1 (PySem.W.plainGet_of (cl.get m)).2 na rfl ?_
 refine v5_ I1 ea cl na l fun u2 s2 I2 ru=>?_
 obtain rfl:u2 = Value.ref fa:=ru
 refine callWith_def (fd:=fd) (o:={ cls:=.type "function",data:=.func fd }) rfl (thn (ha pos pins s2 σ H1 _ I2 q) fun us s3 ⟨vs,H2,I3,r,hf2,q2⟩=>?_) he
 obtain ⟨fa',ob,fd',e1,e2,e3,e4⟩:=qil_ (f:=.ref fa) (u:=.ref fa) F hr I3 rfl r q2
 cases e1
 exact ⟨(I3.hok fa _ hf2).1,e4⟩
end
end L2
set_option Elab.async false
set_option linter.all false
set_option maxRecDepth 100000
namespace L2
open PySem PySem.Spec PyProof.Rows
theorem qe4_ {P:Program}{w:World}{K:PySem.W.Frag}{mg mb:Str->Option Value}{CX:CXT}{k:Nat}{fa a:Addr}{fd:FuncData}{x:Str}{sp:Sp}{s₁:Shared}{vs:List Value}{ns:List Int}{ts:List Addr}
  (KX:K.In s₁.heap) (hns:s₁.heap.Ns mainGlobals mg) (hb:s₁.heap.Ns builtinsNs mb) (hbb:∀ x:Str,x ≠ "__name__" → mb x = bootBuiltins x) (hlim:s₁.heap.NoLimit) (hg:s₁.gens = #[])
  (ha:s₁.heap.get? a = some { cls:=.type "list",data:=.seq vs.toArray }) (hi:IntsAre vs ns) (hl:ns.length ≤ sizeLine) (hr:Room k callerA)
  (hT:∀ p ∈ ts,s₁.heap.get? p = some (PySem.W.tabObj #[])) (hTK:∀ p ∈ ts,K.lookup p = none) (hTc:∀ p ∈ ts,∃ c,PySem.W.codeHdIn K c p = true)
  (hbm:∃ bm ob,mg "__builtins__" = some (.ref bm) ∧ bm ≠ builtinsNs ∧ s₁.heap.get? bm = some ob ∧ ob.cls = .type "module" ∧ ob.dict = some builtinsNs ∧ ob.data = .plain)
  (F:∀ base:Heap,K.In base->base.Ns mainGlobals mg->(∀ p ∈ ts,mainGlobals ≠ p/\base.BuiltinsAt mg p)->FnOk P w K mg base CX k fa fd [x] sp) (hbind:∀ (s:Shared) (u:Value),BindsTo s fd ⟨[u],[]⟩ [(x,u)])
  (hsp:∀ H:Hp,SqL K H a (ns.map V.int)->(∀ p ∈ ts,H p = some (.tbl #[]))->sp [.ref a] H (fun v _=>v = .bl true) fun _ _ _=>False)
  (hCX:∀ H e s',CX [] H s₁ (fun _ _ _=>False) e s'->False) :
  codeAny (model P w) callerA (.call (.ref fa) ⟨[.ref a],[]⟩) (fun r s'=>r = .ok (.ret (.bool true))/\OldK s₁.heap s'.heap/\s'.os = s₁.os/\AllBare s'.gens) s₁:=by
 have rv:=uQ_ hi
 have lenV:=hi.length
 have aT:a ∉ ts:=fun z=>by
  have:=hT a z
  rw [ha] at this
  cases this
 have core:∀ H:Hp,(∀ b,b ∉ ts->H b = none\/∃ o xs,H b = some (.frz o (.lst xs)))->(∀ p ∈ ts,H p = some (.tbl #[]))->SqL K H a (ns.map V.int)->HOk P w H s₁.heap->(∀ b,H b ≠ none->b = a\/b ∈ ts)->(H a ≠ none->K.lookup a = none) →
   codeAny (model P w) callerA (.call (.ref fa) ⟨[.ref a],[]⟩) (fun r s'=>r = .ok (.ret (.bool true))/\OldK s₁.heap s'.heap/\s'.os = s₁.os/\AllBare s'.gens) s₁:=by
  intro H hO hTb hS hok hA hK
  have base_of:∀ {b:Addr}{o:Obj},s₁.heap.get? b = some o->H b = none->(hidT s₁.heap H).get? b = some o:=fun e n=>qf6_ e n
  have noA:∀ {b:Addr}{o:Obj}{es:Array DictEntry}{ep:Nat},s₁.heap.get? b = some o->o.data = .dict es ep->H b = none:=fun {b o es ep} e d=>by
   cases q:H b with
   | none=>rfl
   | some u =>
    rcases hA b (by rw [q];simp) with e' | e'
    ·subst e'
     rw [ha] at e;cases e
     have d':Data.seq vs.toArray _ = Data.dict es ep:=d
     cases d'
    ·rw [hT b e'] at e;cases e
     cases d
  have nsK:∀ {b:Addr}{m:Str->Option Value},s₁.heap.Ns b m->(hidT s₁.heap H).Ns b m:=fun {b m} ⟨o,es,ep,e,d,r⟩=>⟨o,es,ep,base_of e (noA e d),d,r⟩
  have hKb:K.In (hidT s₁.heap H):=fun b o e=>base_of (KX b o e) (by
   cases q:H b with
   | none=>rfl
   | some u =>
    rcases hA b (by rw [q];simp) with e' | e'
    ·subst e'
     rw [hK (by rw [q];simp)] at e;cases e
    ·rw [hTK b e'] at e;cases e)
  have hM:Mod K mg (hidT s₁.heap H):=⟨hKb,nsK hns,⟨mb,nsK hb,hbb⟩,let ⟨mc,h1,h2⟩:=hlim;⟨mc,nsK h1,h2⟩⟩
  have e0:Env0 P w K mg (hidT s₁.heap H) callerA [] s₁ H:=⟨rfl,hM,fun b o e=>qh2_ e,Nat.le_of_eq (qd7_ _ _),trivial,fun b hb=>absurd (show b ∈ ([]:List Addr) from hb) (by simp),hok,.of_eq hg⟩
  have hBl:∀ p ∈ ts,mainGlobals ≠ p/\(hidT s₁.heap H).BuiltinsAt mg p:=fun p hp=>by
   refine ⟨fun z=>?_,?_⟩
   ·obtain ⟨o,es,ep,ho,hd,_⟩:=hns
    rw [z,hT p hp] at ho
    cases ho
    cases hd
   obtain ⟨bm,ob,b1,b2,b3,b4,b5,b6⟩:=hbm
   refine ⟨bm,ob,b1,b2,fun z=>?_,fun z=>?_,base_of b3 ?_,b4,b5,b6⟩
   ·obtain ⟨o,es,ep,ho,hd,_⟩:=hns
    rw [z,ho] at b3
    cases b3
    rw [b6] at hd
    cases hd
   ·rw [z,hT p hp] at b3
    cases b3
    cases b6
   ·cases q:H bm with
    | none=>rfl
    | some u =>
     rcases hA bm (by rw [q];simp) with e' | e'
     ·rw [e',ha] at b3
      cases b3
      cases b6
     ·rw [hT bm e'] at b3
      cases b3
      cases b6
  refine codeAny_mono ((F _ hKb (nsK hns) hBl).run callerA [] s₁ H ⟨[.ref a],[]⟩ [.ref a] [.ref a] _ _ hr e0 (hbind s₁ (.ref a)) (.cons rfl .nil) (hsp H hS hTb)) fun r s' h=>?_
  cases r with
  | error e=>exact (hCX H e s' h).elim
  | ok fl =>
   cases fl with
   | next=>exact False.elim h
   | brk=>exact False.elim h
   | cont=>exact False.elim h
   | ret u =>
    obtain ⟨v,H',os,bare,un,hok',r',q⟩:=h
    have q':v = .bl true:=q
    subst q'
    obtain rfl:u = Value.bool true:=r'
    refine ⟨rfl,⟨fun b o e=>?_,fun b o e=>un.there b o e (by simp)⟩,os,bare⟩
    by_cases hb:b ∈ ts
    ·obtain ⟨more,z⟩:=un.tbls b _ (hTb b hb)
     have z2:s'.heap.get? b = some _:=hok' b _ z
     rw [hT b hb] at e
     cases e
     obtain ⟨cc,hcc⟩:=hTc b hb
     exact .inr (.inl ⟨((PySem.W.codeHd_of_K KX hcc).tab (hT b hb)).isCodeTable,rfl,#[],more,rfl,z2⟩)
    refine .inl ?_
    cases q:H b with
    | none=>exact un.keep b o e q (by intro z;exact absurd (show b ∈ ([]:List Addr) from z) (by simp)) (by simp)
    | some u =>
     rcases hO b hb with z | ⟨ob,xs,z⟩
     ·rw [q] at z;cases z
     ·have z2:=un.frzs b ob _ z
      obtain ⟨e1,_⟩:=hok b _ z
      obtain ⟨e2,_⟩:=hok' b _ z2
      rw [e] at e1;cases e1
      exact e2
 have tab:∀ (H:Hp) b,b ∈ ts->ObjOk P w H s₁.heap b (.tbl #[]):=fun H b hb=>hT b hb
 cases hk:K.lookup a with
 | some o =>
  have e:=KX a o hk
  rw [ha] at e
  cases e
  refine core (fun b=>if b ∈ ts then some (.tbl #[]) else none) (fun b hb=>.inl (if_neg hb)) (fun p hp=>if_pos hp) (.inr ⟨_,vs.toArray,_,hk,rfl,rfl,rfl,by rw [List.size_toArray,lenV];exact hl,by simpa using rv⟩) (fun b u z=>?_) (fun b z=>?_) fun z=>absurd (if_neg aT) z
  ·by_cases hb:b ∈ ts
   ·have z':=(if_pos hb).symm.trans z
    cases z'
    exact tab _ b hb
   ·have z':=(if_neg hb).symm.trans z
    cases z'
  ·by_cases hb:b ∈ ts
   ·exact .inr hb
   ·exact absurd (if_neg hb) z
 | none =>
  refine core (fun b=>if b ∈ ts then some (.tbl #[]) else if b = a then some (.frz { cls:=.type "list",data:=.seq vs.toArray } (.lst (ns.map V.int))) else none) (fun b hb=>?_) (fun p hp=>if_pos hp) (.inl (.inr ⟨{ cls:=.type "list",data:=.seq vs.toArray },(if_neg aT).trans (if_pos rfl)⟩)) (fun b u z=>?_) (fun b z=>?_) fun _=>hk
  ·by_cases hb2:b = a
   ·exact .inr ⟨_,_,(if_neg hb).trans (if_pos hb2)⟩
   ·exact .inl ((if_neg hb).trans (if_neg hb2))
  ·by_cases hb:b ∈ ts
   ·have z':=(if_pos hb).symm.trans z
    cases z'
    exact tab _ b hb
   ·have z':=(if_neg hb).symm.trans z
    by_cases hb2:b = a
    ·have z'':=(if_pos hb2).symm.trans z'
     cases z''
     subst hb2
     exact ⟨ha,by rw [List.length_map];exact hl,vs,_,rv,ha⟩
    ·have z'':=(if_neg hb2).symm.trans z'
     cases z''
  ·by_cases hb:b ∈ ts
   ·exact .inr hb
   ·by_cases hb2:b = a
    ·exact .inl hb2
    ·exact absurd ((if_neg hb).trans (if_neg hb2)) z
theorem walk_ofT {l:PySem.W.OpenLaw}{n k:Nat}{q:Program}{loose:List Str}{XP:(Str->Option Value)->Heap->Prop}{YP:World->Heap->Prop}{d:DefRec}{K:Params->PySem.W.Frag}{CX:World->CXT}{sp:World->Sp}{x:Str}{ts:List Addr}
  (hn:l.most = some n) (hn2:n<=sizeLine) (hdf:d.params.defaults = []) (hr:Room k callerA)
  (hY:∀ (w:World) (h:Heap),YP w h->(K w.params).In h/\∀ p ∈ ts,h.get? p = some (PySem.W.tabObj #[]))
  (F:∀ (w:World) (mg:Str->Option Value) (fa:Addr) (h:Heap),(K w.params).In h->h.Ns mainGlobals mg->mg d.name = some (.ref fa) →
   ∃ fd:FuncData,(∀ (s:Shared) (u:Value),BindsTo s fd ⟨[u],[]⟩ [(x,u)])/\(∀ p ∈ ts,(K w.params).lookup p = none)/\(∀ p ∈ ts,∃ c,PySem.W.codeHdIn (K w.params) c p = true) ∧
    ∀ base:Heap,(K w.params).In base->base.Ns mainGlobals mg->(∀ p ∈ ts,mainGlobals ≠ p/\base.BuiltinsAt mg p)->FnOk l.prog w (K w.params) mg base (CX w) k fa fd [x] (sp w))
  (hsp:∀ (w:World) (H:Hp) (a:Addr) (ns:List Int),ns.length<=n->SqL (K w.params) H a (ns.map V.int)->(∀ p ∈ ts,H p = some (.tbl #[]))->sp w [.ref a] H (fun v _=>v = .bl true) fun _ _ _=>False)
  (hCX:∀ (w:World) (H:Hp) (s:Shared) (e:Value) (s':Shared),CX w [] H s (fun _ _ _=>False) e s'->False) :
  PySem.W.WalkO q loose XP YP l.row.toRowW d [] (fun f vs=>PySem.call f vs):=by
 refine Att.attach_call hn hdf fun w s₀ s₁ mg mb fa o pm cd doc a vs ns G Y ho hd hcd hmg hobj hints hlen hg=>?_
 obtain ⟨KX,hT⟩:=hY w _ Y
 obtain ⟨fd,hb,hTK,hTc,hF⟩:=F w mg fa _ KX G.T.g hmg
 exact qe4_ KX G.T.g G.T.b G.T.builtins G.T.nolimit hg hobj hints (Nat.le_trans hlen hn2) hr hT hTK hTc G.T.bmain hF hb (fun H hS hTb=>hsp w H a ns hlen hS hTb) fun H e s'=>hCX w H s₁ e s'
end L2
set_option Elab.async false
set_option linter.all false
set_option maxRecDepth 100000
namespace L2
open PySem PySem.W PyProof.Rows
section
variable {α β:Type}{n:Nat}{lt:Nat->Nat->Bool}
def KWl (n:Nat) (lt:Nat->Nat->Bool):KasT α->(α->Prop)->Prop
 | .ret a,Q=>Q a
 | .ask i j k,Q=>i < n/\j < n/\KWl n lt (k (lt i j)) Q
theorem KWl.bind {f:α->KasT β}{Q:β->Prop}:∀ (t:KasT α),KWl n lt t (fun a=>KWl n lt (f a) Q)->KWl n lt (t.bind f) Q
 | .ret _,h=>h
 | .ask _ _ k,h=>⟨h.1,h.2.1,KWl.bind (k _) h.2.2⟩
theorem KWl.mono {Q Q':α->Prop} (hq:∀ a,Q a->Q' a):∀ (t:KasT α),KWl n lt t Q->KWl n lt t Q'
 | .ret a,h=>hq a h
 | .ask _ _ k,h=>⟨h.1,h.2.1,KWl.mono hq (k _) h.2.2⟩
theorem KWl.wp {cmp:Nat->Nat->(Bool->Shared->Prop)->Shared->Prop}{R:α->Shared->Prop}{s:Shared} (hc:∀ i j (C:Bool->Shared->Prop),i < n->j < n->C (lt i j) s->cmp i j C s):∀ (t:KasT α),KWl n lt t (fun a=>R a s)->t.kasWp cmp R s
 | .ret _,h=>h
 | .ask i j k,h=>hc i j _ h.1 h.2.1 (KWl.wp hc (k (lt i j)) h.2.2)
end
structure Pm (n:Nat) (p:Array Nat):Prop where
 pm:p.Perm (List.range n).toArray
section
variable {n:Nat}{p:Array Nat}{z:Nat->Int}
theorem Pm.size (h:Pm n p):p.size = n:=by rw [h.pm.size_eq];simp
theorem Pm.lt (h:Pm n p) (hn:0 < n) (i:Nat):p.getD i 0 < n:=by
 by_cases hi:i < p.size
 ·have e:p.getD i 0 = p[i]:=by simp [Array.getD,hi]
  rw [e]
  have:=(Array.perm_iff_toList_perm.mp h.pm).mem_iff.mp (show p[i] ∈ p.toList by simp)
  simpa using this
 ·have e:p.getD i 0 = 0:=by simp [Array.getD,hi]
  rw [e];exact hn
theorem Pm.inj (h:Pm n p) {i j:Nat} (hi:i < n) (hj:j < n) (e:p.getD i 0 = p.getD j 0):i = j:=by
 have hs:=h.size
 have nd:p.toList.Nodup:=(Array.perm_iff_toList_perm.mp h.pm).nodup_iff.mpr (by simpa using List.nodup_range)
 have e1:p.getD i 0 = p.toList[i]'(by simpa [hs] using hi):=by simp [Array.getD,hs,hi]
 have e2:p.getD j 0 = p.toList[j]'(by simpa [hs] using hj):=by simp [Array.getD,hs,hj]
 rw [e1,e2] at e
 by_cases q:i = j
 ·exact q
 ·exact absurd e (by
   rcases Nat.lt_or_gt_of_ne q with q | q
   ·exact List.pairwise_iff_getElem.mp nd i j _ _ q
   ·exact fun z=>List.pairwise_iff_getElem.mp nd j i _ _ q z.symm)
def Kz (z:Nat->Int) (p:Array Nat) (i:Nat):Int:=z (p.getD i 0)
def Up (z:Nat->Int) (p:Array Nat) (m:Nat):Prop:=∀ i j,i < j->j < m->Kz z p i < Kz z p j
def Dn (z:Nat->Int) (p:Array Nat) (m:Nat):Prop:=∀ i j,i < j->j < m->Kz z p j < Kz z p i
theorem qao_ {p q:Array Nat}{i j:Nat} (h:p[i]? = q[j]?):Kz z p i = Kz z q j:=by
 unfold Kz
 rw [Array.getD_eq_getD_getElem?,Array.getD_eq_getD_getElem?,h]
theorem Pm.ne (h:Pm n p) (hn:0 < n) (hz:∀ i j,i < n->j < n->z i = z j->i = j) {i j:Nat} (hi:i < n) (hj:j < n) (ij:i ≠ j):Kz z p i ≠ Kz z p j:=fun e=>ij (h.inj hi hj (hz _ _ (h.lt hn _) (h.lt hn _) e))
theorem Pm.rev (h:Pm n p) (i j:Nat):Pm n (kas_rev p i j):=⟨(mirror_perm p i j _).trans h.pm⟩
theorem Pm.bub (h:Pm n p) (i j:Nat):Pm n (bubble p i j):=⟨(bubble_perm p i j).trans h.pm⟩
variable (z) in
abbrev ltz:Nat->Nat->Bool:=fun i j=>decide (z i < z j)
theorem qa7_ (h:Pm n p) (hn:0 < n) (hz:∀ i j,i < n->j < n->z i = z j->i = j):∀ (f m:Nat),1<=m->m + f<=n->Up z p m->KWl n (ltz z) (kas_asc p f m) fun m'=>m<=m'/\m'<=m + f/\Up z p m'/\(m' = m + f\/Kz z p m' < Kz z p (m' - 1))
 | 0,m,_,_,u=>⟨Nat.le_refl _,Nat.le_refl _,u,.inl rfl⟩
 | f + 1,m,h1,hm,u=>by
  refine ⟨h.lt hn _,h.lt hn _,?_⟩
  by_cases c:Kz z p m < Kz z p (m - 1)
  ·rw [show ltz z (p.getD m 0) (p.getD (m - 1) 0) = true from decide_eq_true c]
   dsimp only
   rw [if_pos rfl]
   exact ⟨Nat.le_refl _,by omega,u,.inr c⟩
  ·rw [show ltz z (p.getD m 0) (p.getD (m - 1) 0) = false from decide_eq_false c]
   dsimp only
   rw [if_neg (by decide)]
   have c':Kz z p (m - 1) < Kz z p m:=by
    have:=h.ne hn hz (show m < n by omega) (show m - 1 < n by omega) (by omega)
    omega
   refine KWl.mono (fun m' q=>⟨by omega,by omega,q.2.2.1,?_⟩) _ (qa7_ h hn hz f (m + 1) (by omega) (by omega) fun i j hij hj=>?_)
   ·rcases q.2.2.2 with q | q
    ·exact .inl (by omega)
    ·exact .inr q
   ·by_cases hjm:j < m
    ·exact u i j hij hjm
    ·obtain rfl:j = m:=by omega
     by_cases him:i = j - 1
     ·rw [him];exact c'
     ·exact Int.lt_trans (u i (j - 1) (by omega) (by omega)) c'
theorem qcz_ (h:Pm n p) (hn:0 < n) (hz:∀ i j,i < n->j < n->z i = z j->i = j):∀ (f m:Nat),1<=m->m + f<=n->Dn z p m->KWl n (ltz z) (kas_desc f p m 0) fun r=>r.1 = p/\r.2.2 = 0/\m<=r.2.1/\r.2.1<=m + f/\Dn z p r.2.1
 | 0,m,_,_,u=>⟨rfl,rfl,Nat.le_refl _,Nat.le_refl _,u⟩
 | f + 1,m,h1,hm,u=>by
  refine ⟨h.lt hn _,h.lt hn _,?_⟩
  by_cases c:Kz z p m < Kz z p (m - 1)
  ·rw [show ltz z (p.getD m 0) (p.getD (m - 1) 0) = true from decide_eq_true c]
   dsimp only
   rw [if_pos rfl,if_neg (by decide)]
   refine KWl.mono (fun r q=>⟨q.1,q.2.1,by omega,by omega,q.2.2.2.2⟩) _ (qcz_ h hn hz f (m + 1) (by omega) (by omega) fun i j hij hj=>?_)
   by_cases hjm:j < m
   ·exact u i j hij hjm
   ·obtain rfl:j = m:=by omega
    by_cases him:i = j - 1
    ·rw [him];exact c
    ·exact Int.lt_trans c (u i (j - 1) (by omega) (by omega))
  ·rw [show ltz z (p.getD m 0) (p.getD (m - 1) 0) = false from decide_eq_false c]
   dsimp only
   rw [if_neg (by decide)]
   have c':Kz z p (m - 1) < Kz z p m:=by
    have:=h.ne hn hz (show m < n by omega) (show m - 1 < n by omega) (by omega)
    omega
   refine ⟨h.lt hn _,h.lt hn _,?_⟩
   rw [show ltz z (p.getD (m - 1) 0) (p.getD m 0) = true from decide_eq_true c']
   dsimp only
   rw [if_pos rfl]
   exact ⟨rfl,rfl,Nat.le_refl _,Nat.le_add_right _ _,u⟩
theorem qka_ (h:Pm n p) {m:Nat} (hm:m<=n) (u:Dn z p m):Up z (kas_rev p 0 m) m:=by
 intro i j hij hj
 have g:∀ k,k < m->Kz z (kas_rev p 0 m) k = Kz z p (m - 1 - k):=fun k hk=>by
  refine qao_ ?_
  unfold kas_rev
  rw [getElem?_mirror_all (by rw [h.size];exact hm),if_pos ⟨Nat.zero_le _,hk⟩,Nat.zero_add]
 rw [g i (by omega),g j hj]
 exact u _ _ (by omega) (by omega)
theorem qgs_ (h:Pm n p) (hn:0 < n) (hz:∀ i j,i < n->j < n->z i = z j->i = j) {m:Nat} (h1:1<=m) (hm:m<=n) (u:Dn z p m):KWl n (ltz z) (kas_tail3 m n p) fun r=>Pm n r.2/\1<=r.1/\r.1<=n/\Up z r.2 r.1:=by
 unfold kas_tail3
 refine KWl.bind _ (KWl.mono (fun m' q=>?_) _ (qa7_ (h.rev 0 m) hn hz (n - m) m h1 (by omega) (qka_ h hm u)))
 exact ⟨h.rev 0 m,by omega,by omega,q.2.2.1⟩
theorem qgt_ (h:Pm n p) (h2:2<=n) (hz:∀ i j,i < n->j < n->z i = z j->i = j):KWl n (ltz z) (kas_count n p) fun r=>Pm n r.2/\1<=r.1/\r.1<=n/\Up z r.2 r.1:=by
 have hn:0 < n:=by omega
 unfold kas_count
 refine KWl.bind _ (KWl.mono (fun m q=>?_) _ (qa7_ h hn hz (n - 1) 1 (Nat.le_refl 1) (by omega) fun i j _ _=>by omega))
 by_cases e:m = n
 ·rw [if_pos (by simpa using e)]
  exact ⟨h,by omega,by omega,q.2.2.1⟩
 ·rw [if_neg (by simpa using e)]
  by_cases e1:m > 1
  ·rw [if_pos e1]
   refine ⟨h.lt hn _,h.lt hn _,?_⟩
   rw [show ltz z (p.getD 0 0) (p.getD (m - 1) 0) = true from decide_eq_true (q.2.2.1 0 (m - 1) (by omega) (by omega))]
   dsimp only
   rw [if_pos rfl]
   exact ⟨h,by omega,by omega,q.2.2.1⟩
  ·rw [if_neg e1]
   obtain rfl:m = 1:=by omega
   have c:Kz z p 1 < Kz z p 0:=by
    rcases q.2.2.2 with c | c
    ·omega
    ·exact c
   unfold kas_descPart
   refine KWl.bind _ (KWl.mono (fun r q'=>?_) _ (qcz_ h hn hz (n - (1 + 1)) (1 + 1) (by omega) (by omega) fun i j hij hj=>?_))
   ·obtain ⟨p',m',q0⟩:=r
    obtain ⟨e1,e2,e3,e4,e5⟩:=q'
    dsimp only at e1 e2 e3 e4 e5 ⊢
    subst e1 e2
    rw [if_neg (by decide)]
    exact qgs_ h hn hz (by omega) (by omega) e5
   ·obtain rfl:j = 1:=by omega
    obtain rfl:i = 0:=by omega
    exact c
theorem vL_ (h:Pm n p) (hn:0 < n) (hz:∀ i j,i < n->j < n->z i = z j->i = j) {k:Nat} (hk:k < n) (u:Up z p k):∀ (f l r:Nat),r<=l + f->l<=r->r<=k->(∀ i,i < l->Kz z p i < Kz z p k)->(∀ i,r<=i->i < k->Kz z p k < Kz z p i) →
  KWl n (ltz z) (kas_place p k f l r) fun l'=>l'<=k/\(∀ i,i < l'->Kz z p i < Kz z p k)/\(∀ i,l'<=i->i < k->Kz z p k < Kz z p i)
 | 0,l,r,hf,hl,hr,h1,h2=>by
  obtain rfl:l = r:=by omega
  exact ⟨hr,h1,h2⟩
 | f + 1,l,r,hf,hl,hr,h1,h2=>by
  unfold kas_place
  by_cases e:l ≥ r
  ·rw [if_pos e]
   obtain rfl:l = r:=by omega
   exact ⟨hr,h1,h2⟩
  ·rw [if_neg e]
   refine ⟨h.lt hn _,h.lt hn _,?_⟩
   by_cases c:Kz z p k < Kz z p ((l + r) / 2)
   ·rw [show ltz z (p.getD k 0) (p.getD ((l + r) / 2) 0) = true from decide_eq_true c]
    dsimp only
    rw [if_pos rfl]
    refine vL_ h hn hz hk u f l ((l + r) / 2) (by omega) (by omega) (by omega) h1 fun i hi hik=>?_
    by_cases q:i = (l + r) / 2
    ·rw [q];exact c
    ·exact Int.lt_trans c (u _ _ (by omega) hik)
   ·rw [show ltz z (p.getD k 0) (p.getD ((l + r) / 2) 0) = false from decide_eq_false c]
    dsimp only
    rw [if_neg (by decide)]
    have c':Kz z p ((l + r) / 2) < Kz z p k:=by
     have:=h.ne hn hz (show k < n by omega) (show (l + r) / 2 < n by omega) (by omega)
     omega
    refine vL_ h hn hz hk u f ((l + r) / 2 + 1) r (by omega) (by omega) hr (fun i hi=>?_) h2
    by_cases q:i = (l + r) / 2
    ·rw [q];exact c'
    ·exact Int.lt_trans (u _ _ (by omega) (by omega)) c'
theorem qe5_ (hn:0 < n) (hz:∀ i j,i < n->j < n->z i = z j->i = j):∀ (f:Nat) (p:Array Nat) (k:Nat),Pm n p->k + f<=n->Up z p k->KWl n (ltz z) (kas_bin f p k) fun p'=>Pm n p'/\Up z p' (k + f)
 | 0,p,k,h,_,u=>⟨h,u⟩
 | f + 1,p,k,h,hk,u=>by
  unfold kas_bin
  refine KWl.bind _ (KWl.mono (fun l q=>?_) _ (vL_ h hn hz (show k < n by omega) u k 0 k (by omega) (by omega) (Nat.le_refl _) (fun i hi=>absurd hi (Nat.not_lt_zero i)) fun i h1 h2=>by omega))
  obtain ⟨q1,q2,q3⟩:=q
  refine KWl.mono (fun p' q'=>⟨q'.1,by rw [show k + (f + 1) = k + 1 + f by omega];exact q'.2⟩) _ (qe5_ hn hz f _ (k + 1) (h.bub k (k - l)) (by omega) fun i j hij hj=>?_)
  have g:∀ i,Kz z (bubble p k (k - l)) i = if i = l then Kz z p k else if l < i/\i<=k then Kz z p (i - 1) else Kz z p i:=fun i=>by
   have e:=getElem?_bubble (xs:=p) (src:=k) (by rw [h.size];omega) (k - l) (by omega) i
   rw [show k - (k - l) = l by omega] at e
   by_cases c1:i = l
   ·rw [if_pos c1] at e ⊢;exact qao_ e
   ·rw [if_neg c1] at e ⊢
    by_cases c2:l < i/\i<=k
    ·rw [if_pos c2] at e ⊢;exact qao_ e
    ·rw [if_neg c2] at e ⊢;exact qao_ e
  rw [g i,g j]
  repeat' split
  all_goals first
   | (exfalso;omega)
   | exact q2 _ (by omega)
   | exact q3 _ (by omega) (by omega)
   | exact u _ _ (by omega) (by omega)
theorem qim_ (h2:2<=n) (hz:∀ i j,i < n->j < n->z i = z j->i = j):KWl n (ltz z) (kas_sort n) fun p=>Pm n p/\Up z p n:=by
 unfold kas_sort
 refine KWl.bind _ (KWl.mono (fun r q=>?_) _ (qgt_ (p:=(List.range n).toArray) ⟨Array.Perm.refl _⟩ h2 hz))
 obtain ⟨m,p⟩:=r
 obtain ⟨q1,q2,q3,q4⟩:=q
 dsimp only at q1 q2 q3 q4 ⊢
 by_cases c:m < n
 ·rw [if_pos c]
  have e:max m 1 = m:=by omega
  rw [e]
  refine KWl.mono (fun p' q'=>⟨q'.1,?_⟩) _ (qe5_ (by omega) hz (n - m) p m q1 (by omega) q4)
  have:=q'.2
  rwa [show m + (n - m) = n by omega] at this
 ·rw [if_neg c]
  obtain rfl:m = n:=by omega
  exact ⟨q1,q4⟩
end
end L2
set_option Elab.async false
set_option linter.all false
set_option maxRecDepth 100000
set_option maxHeartbeats 1000000
namespace L2
open PySem PySem.Spec PySem.W PyProof.Rows
section
variable {P:Program}{w:World}{K:PySem.W.Frag}{mg:Str->Option Value}{base:Heap}{A A':Around}{outer:List Env}{s s':Shared}{H H':Hp}
theorem Env0.nofr (e0:Env0 P w K mg base A outer s H) {b:Addr}{o:Obj} (e:base.get? b = some o):b ∉ frs outer:=fun hb=>by
 have:=(e0.funs.mem hb).1
 rw [e] at this;cases this
theorem Env0.after (e0:Env0 P w K mg base A outer s H) (hA:A'.frames = A.frames) (un:Un (frs outer) [] H H' s.heap s'.heap) (hok:HOk P w H' s'.heap) (bare:AllBare s'.gens) (hsz:s.heap.objs.size<=s'.heap.objs.size):Env0 P w K mg base A' outer s' H':=by
 have noA:∀ b:Addr,b ∉ ([]:List Addr):=fun b=>List.not_mem_nil
 refine ⟨hA.trans e0.frames,e0.mod,fun b o e=>?_,Nat.le_trans e0.bsz hsz,?_,fun b hb=>?_,hok,bare⟩
 ·obtain ⟨h1,h2⟩:=e0.bs b o e
  exact ⟨un.keep b o h1 h2 (e0.nofr e) (noA b),un.free b o h1 h2 (noA b)⟩
 ·have all:∀ (l:List Env),(∀ b ∈ frs l,b ∈ frs outer)->s.heap.FunFrames base l->s'.heap.FunFrames base l:=by
   intro l
   induction l with
   | nil=>intro _ _;trivial
   | cons env r ih =>
    intro hs hl
    obtain ⟨hk,⟨L,o,hf,hn,ho,hd⟩,hr⟩:=hl
    have hL:L ∈ frs outer:=hs L (by unfold frs;rw [List.filterMap_cons,hf];exact List.mem_cons_self)
    obtain ⟨sl,e⟩:=un.slot L o ho (e0.frf L hL) hL (noA L)
    exact ⟨hk,⟨L,_,hf,hn,e,hd⟩,ih (fun b hb=>hs b (by unfold frs;rw [List.filterMap_cons,hf];exact List.mem_cons_of_mem _ hb)) hr⟩
  exact all outer (fun _ hb=>hb) e0.funs
 ·obtain ⟨_,o,ho,_⟩:=e0.funs.mem hb
  exact un.free b o ho (e0.frf b hb) (noA b)
theorem Env0.lt (e0:Env0 P w K mg base A outer s H) {b:Addr} (hb:b ∈ frs outer):b < s.heap.objs.size:=by
 obtain ⟨_,o,ho,_⟩:=e0.funs.mem hb
 exact Heap.lt_size ho
end
def keyV (c:Int) (n:Nat):HO:=.tup [.int c,.int (n:Nat)]
section
variable {P:Program}{w:World}{A:Around}{s:Shared}{H:Hp}
theorem qin_ {t u:Addr}{c d:Int}{m n:Nat}{Q:Bool->Shared->Prop}{E:Value->Shared->Prop} (hok:HOk P w H s.heap) (h1:H t = some (keyV c m)) (h2:H u = some (keyV d n)) (hcalm:A.handled = none) (hu:A.units + 64 < cLine) (q:Q (decide (c < d\/c = d/\m < n)) s) :
  wpAny (model P w) A (keyLt' (tuples' true) (.ref t) (.ref u)) Q E s:=by
 obtain ⟨_,its,r,ot,e1,e2,n1,e3⟩:=hok t _ h1
 obtain ⟨_,its',r',ou,e1',e2',n1',e3'⟩:=hok u _ h2
 obtain ⟨x,y,rfl,⟨t1,rfl⟩,⟨t2,rfl⟩⟩:=zK_ r
 obtain ⟨x',y',rfl,⟨t3,rfl⟩,⟨t4,rfl⟩⟩:=zK_ r'
 refine kat_lt e1 e3 e1' e3' ?_
 refine kat_cons (wpAny_eqBool_int ?_)
 by_cases h:c = d
 ·rw [show (c == d) = true from by simpa using h]
  refine kat_yes (kat_cons (wpAny_eqBool_int ?_))
  by_cases h':m = n
  ·subst h h'
   rw [show (((m:Nat):Int) == ((m:Nat):Int)) = true from by simp]
   refine kat_yes (kat_nil ?_)
   have e:decide (c < c\/c = c/\m < m) = false:=decide_eq_false (by omega)
   rw [e] at q
   exact q
  ·rw [show (((m:Nat):Int) == ((n:Nat):Int)) = false from by
    have:((m:Nat):Int) ≠ ((n:Nat):Int):=by omega
    simpa using this]
   refine kat_no ?_
   rw [show (true && (0 + 1 == 0)) = false from rfl]
   refine kat_one _ _ ?_
   refine lt_int ?_
   have e:decide (c < d\/c = d/\m < n) = decide (((m:Nat):Int) < ((n:Nat):Int)):=by
    by_cases z:m < n
    ·rw [decide_eq_true (by omega:((m:Nat):Int) < (n:Nat)),decide_eq_true (.inr ⟨h,z⟩)]
    ·rw [decide_eq_false (by omega:¬ ((m:Nat):Int) < (n:Nat)),decide_eq_false (by omega)]
   rw [e] at q
   exact q
 ·rw [show (c == d) = false from by simpa using h]
  refine kat_no ?_
  rw [show (true && (0 == 0)) = true from rfl]
  refine oneLt_int ?_
  have e:decide (c < d\/c = d/\m < n) = decide (c < d):=by
   by_cases z:c < d
   ·rw [decide_eq_true z,decide_eq_true (.inl z)]
   ·rw [decide_eq_false z,decide_eq_false (by omega)]
  rw [e] at q
  exact q
def klt (ck:Nat->Int) (m n:Nat):Prop:=ck m < ck n\/ck m = ck n/\m < n
instance (ck:Nat->Int) (m n:Nat):Decidable (klt ck m n):=inferInstanceAs (Decidable (_\/_/\_))
def Keys (H:Hp) (ck:Nat->Int):List Nat->List Value->Prop
 | [],[]=>True
 | n :: ns,k :: ks=>(∃ t,k = .ref t/\H t = some (keyV (ck n) n))/\Keys H ck ns ks
 | _,_=>False
theorem Keys.snoc {ck:Nat->Int}{n:Nat}{t:Addr} (h:H t = some (keyV (ck n) n)):∀ {ns:List Nat}{ks:List Value},Keys H ck ns ks->Keys H ck (ns ++ [n]) (ks ++ [.ref t])
 | [],[],_=>⟨⟨t,rfl,h⟩,trivial⟩
 | [],_ :: _,z=>z.elim
 | _ :: _,[],z=>z.elim
 | _ :: _,_ :: _,z=>⟨z.1,Keys.snoc h z.2⟩
theorem Keys.imp {H':Hp}{ck:Nat->Int} (h:∀ t xs,H t = some (.tup xs)->H' t = some (.tup xs)):∀ {ns:List Nat}{ks:List Value},Keys H ck ns ks->Keys H' ck ns ks
 | [],[],_=>trivial
 | [],_ :: _,z=>z.elim
 | _ :: _,[],z=>z.elim
 | _ :: _,_ :: _,⟨⟨t,e,z⟩,r⟩=>⟨⟨t,e,h t _ z⟩,Keys.imp h r⟩
theorem Keys.length {ck:Nat->Int}:∀ {ns:List Nat}{ks:List Value},Keys H ck ns ks->ks.length = ns.length
 | [],[],_=>rfl
 | [],_ :: _,z=>z.elim
 | _ :: _,[],z=>z.elim
 | _ :: _,_ :: _,z=>by rw [List.length_cons,List.length_cons,Keys.length z.2]
theorem Keys.get {ck:Nat->Int}:∀ {ns:List Nat}{ks:List Value}{i:Nat},Keys H ck ns ks->i < ns.length->∃ t,ks.getD i Value.none = .ref t/\H t = some (keyV (ck (ns.getD i 0)) (ns.getD i 0))
 | [],_,i,_,hi=>absurd hi (Nat.not_lt_zero i)
 | _ :: _,[],_,z,_=>z.elim
 | _ :: _,_ :: _,0,⟨⟨t,e,z⟩,_⟩,_=>⟨t,e,z⟩
 | _ :: ns,_ :: ks,i + 1,z,hi=>Keys.get (ns:=ns) (ks:=ks) (i:=i) z.2 (by simpa using hi)
theorem Keys.tups {ck:Nat->Int} (hok:HOk P w H s.heap):∀ {ns:List Nat}{ks:List Value},Keys H ck ns ks->∃ fs:List Value,KatTups s.heap ks fs/\fs.length = ns.length/\∀ v ∈ fs,∃ i t,v = Value.int i t
 | [],[],_=>⟨[],KatTups.nil,rfl,fun _ h=>absurd h List.not_mem_nil⟩
 | [],_ :: _,z=>z.elim
 | _ :: _,[],z=>z.elim
 | _ :: ns,_ :: ks,⟨⟨t,e,z⟩,r⟩=>by
  obtain ⟨fs,h1,h2,h3⟩:=Keys.tups hok r
  obtain ⟨_,its,rv,ot,e1,e2,n1,e3⟩:=hok t _ z
  obtain ⟨x,y,rfl,⟨t1,rfl⟩,⟨t2,rfl⟩⟩:=zK_ rv
  subst e
  refine ⟨_ :: fs,KatTups.cons e1 e2 e3 rfl h1,by rw [List.length_cons,List.length_cons,h2],fun v hv=>?_⟩
  rcases List.mem_cons.mp hv with rfl | hv
  ·exact ⟨_,_,rfl⟩
  ·exact h3 v hv
def kzz (ck:Nat->Int) (ns:List Nat) (B:Int) (i:Nat):Int:=ck (ns.getD i 0) * B + (ns.getD i 0:Nat)
theorem uh_ {ck:Nat->Int}{ns:List Nat}{B:Nat} (hB:∀ n ∈ ns,n < B) {i j:Nat} (hi:i < ns.length) (hj:j < ns.length):kzz ck ns B i < kzz ck ns B j ↔ klt ck (ns.getD i 0) (ns.getD j 0):=by
 have mem:∀ i,i < ns.length->ns.getD i 0 < B:=fun i h=>hB _ (by rw [List.getD_eq_getElem?_getD,List.getElem?_eq_getElem h];exact List.getElem_mem h)
 have a:=mem i hi
 have b:=mem j hj
 unfold kzz klt
 generalize ns.getD i 0 = m at a
 generalize ns.getD j 0 = n at b
 generalize ck m = c
 generalize ck n = d
 constructor
 ·intro h
  rcases Int.lt_trichotomy c d with z | z | z
  ·exact .inl z
  ·subst z;exact .inr ⟨rfl,by omega⟩
  ·exfalso
   have:(d + 1) * (B:Int)<=c * B:=Int.mul_le_mul_of_nonneg_right (by omega) (by omega)
   rw [Int.add_mul] at this
   omega
 ·intro h
  rcases h with z | ⟨rfl,z⟩
  ·have:(c + 1) * (B:Int)<=d * B:=Int.mul_le_mul_of_nonneg_right (by omega) (by omega)
   rw [Int.add_mul] at this
   omega
  ·omega
end
end L2
set_option Elab.async false
set_option linter.all false
set_option maxRecDepth 100000
set_option maxHeartbeats 1000000
namespace L2
open PySem PySem.Spec PySem.W PyProof.Rows
section
variable {fs ex:List Addr}{H H':Hp}{h h' h'':Heap}{x:Addr}{P:Program}{w:World}
theorem Un.turn (u:Un fs ex H H' h h') (hx:h.objs.size<=x) (k:∀ b o,b ≠ x->h'.get? b = some o->h''.get? b = some o):Un fs ex H H' h h'' where
 keep:=fun b o e n hb he=>k b o (Nat.ne_of_lt (Nat.lt_of_lt_of_le (Heap.lt_size e) hx)) (u.keep b o e n hb he)
 slot:=fun b o e n hb he=>let ⟨sl,z⟩:=u.slot b o e n hb he;⟨sl,k b _ (Nat.ne_of_lt (Nat.lt_of_lt_of_le (Heap.lt_size e) hx)) z⟩
 free:=u.free
 there:=fun b o e he=>let ⟨o',z⟩:=u.there b o e he;⟨o',k b _ (Nat.ne_of_lt (Nat.lt_of_lt_of_le (Heap.lt_size e) hx)) z⟩
 tups:=u.tups
 frzs:=u.frzs
 tbls:=u.tbls
theorem HOk.turn (ok:HOk P w H h) (hx:H x = none) (k:∀ b o,b ≠ x->h.get? b = some o->h'.get? b = some o):HOk P w H h':=fun b o e=>by
 have ne:∀ c u,H c = some u->c ≠ x:=fun c u e z=>by rw [z,hx] at e;cases e
 refine (ok b o e).stay (fun c v hc q=>k c v ?_ q) (fun _ q=>q) fun _ _ q=>q
 rcases hc with z | z
 ·rw [z];exact ne b o e
 ·exact ne c _ z
theorem Un.trk {o:HO} (u:Un fs ex H H' h h') (hx:h.objs.size<=x) (n:H' x = none):Un fs ex H (upd H' x o) h h' where
 keep:=u.keep
 slot:=u.slot
 free:=fun b q e m he=>by
  rw [qf_ (Nat.ne_of_lt (Nat.lt_of_lt_of_le (Heap.lt_size e) hx))]
  exact u.free b q e m he
 there:=u.there
 tups:=fun b xs e=>by
  have z:=u.tups b xs e
  rw [qf_ (qm_ z n)];exact z
 frzs:=fun b q v e=>by
  have z:=u.frzs b q v e
  rw [qf_ (qm_ z n)];exact z
 tbls:=fun b ps e=>by
  obtain ⟨m,z⟩:=u.tbls b ps e
  exact ⟨m,by rw [qf_ (qm_ z n)];exact z⟩
theorem HOk.trk {o:HO} (ok:HOk P w H h) (n:H x = none) (new:ObjOk P w (upd H x o) h x o):HOk P w (upd H x o) h:=fun b u e=>by
 by_cases hb:b = x
 ·subst hb;rw [qc_] at e;cases e;exact new
 ·rw [qf_ hb] at e
  exact (ok b u e).stay (fun _ _ _ q=>q) (fun c q=>by rw [qf_ (qm_ q n)];exact q) fun c xs q=>by rw [qf_ (qm_ q n)];exact q
end
def j9_ (ns:List Nat):List V:=ns.map fun n=>.int ((n:Nat):Int)
theorem zR_ {ns:List Nat}{vs:List Value} (r:Vals (j9_ ns) vs):vs.length = ns.length/\∀ i,i < ns.length->∃ t,vs.getD i Value.none = Value.int (ns.getD i 0:Nat) t:=by
 have hl:=r.length
 unfold j9_ at hl
 rw [List.length_map] at hl
 refine ⟨hl.symm,fun i hi=>?_⟩
 obtain ⟨u,h1,t,rfl⟩:=r.get (i:=i) (x:=.int ((ns.getD i 0:Nat):Int)) (by
  unfold j9_
  rw [List.getElem?_map,List.getElem?_eq_getElem hi,List.getD_eq_getElem?_getD,List.getElem?_eq_getElem hi]
  rfl)
 exact ⟨t,by rw [List.getD_eq_getElem?_getD,h1];rfl⟩
section
variable {P:Program}{w:World}{K:PySem.W.Frag}{mg:Str->Option Value}{base:Heap}{A:Around}{outer:List Env}{s:Shared}{H:Hp}{k:Nat}{sp:SpV}{l fa:Addr}{vs:List Value}{ns:List Nat}{ck:Nat->Int}{B:Nat}{Q:VK}{E:Value->Shared->Prop}
theorem qe6_ {s':Shared}{H':Hp}{D kS:Addr}{ks:List Value}{e e1:Nat}{R:PySem.Fin->Shared->Prop} (hA:A.handled = none) (hAu:A.units + 64 < cLine) (r:Vals (j9_ ns) vs) (nd:ns.Nodup) (hB:∀ n ∈ ns,n < B) (h64:ns.length < 64)
  (hok:HOk P w H' s'.heap) (hD:s'.heap.get? D = some (seqObj "list" #[] e1)) (hk:s'.heap.get? kS = some (seqObj "list" ks.toArray e)) (hDk:D ≠ kS) (hK:Keys H' ck ns ks)
  (fin:∀ (h':Heap) (ms:List Nat) (out:List Value) (c:Nat),(∀ b o,b ≠ D → b ≠ kS → s'.heap.get? b = some o → h'.get? b = some o) → h'.get? D = some (seqObj "list" out.toArray c) → Vals (j9_ ms) out → ms.Perm ns → ms.Pairwise (klt ck) → R (.done (.ret .none)) { s' with heap:=h' }) :
  wpAny (model P w) A (ksk_end D false vs.toArray e1 (.ref kS) ks.toArray) R E s':=by
 obtain ⟨hvl,hvi⟩:=zR_ r
 have hkl:=hK.length
 have tail:∀ (st:SortSt) (p:Array Nat),Pm ns.length p->arrOf st = p.map (kas_item (ks.toArray.zip vs.toArray))->failedOf st = none->(∀ i j,i < j->j < ns.length->klt ck (ns.getD (p.getD i 0) 0) (ns.getD (p.getD j 0) 0))->wpAny (model P w) A (ksk_tail D false e1 (.ref kS) st) R E s':=by
  intro st p hp har hf hord
  have hsn:=kat_snds (ks:=ks) (vs:=vs) (by omega) har
  have hps:=hp.size
  have s1:=Heap.SameBut.update s'.heap kS (Obj.mapSeq fun _=>(#[]:Array Value))
  have na1:(s'.heap.update kS (Obj.mapSeq fun _=>(#[]:Array Value))).get? D = some (seqObj "list" #[] e1):=(s1.2 D hDk).trans hD
  have s2:=Heap.SameBut.update (s'.heap.update kS (Obj.mapSeq fun _=>(#[]:Array Value))) D (Obj.mapSeq fun _=>(arrOf st).map (·.2))
  obtain ⟨c2,hc2⟩:∃ c2,((s'.heap.update kS (Obj.mapSeq fun _=>(#[]:Array Value))).update D (Obj.mapSeq fun _=>(arrOf st).map (·.2))).get? D = some (seqObj "list" ((arrOf st).map (·.2)) c2):=⟨_,get?_update_seq na1 fun _=>(arrOf st).map (·.2)⟩
  unfold ksk_tail
  try dsimp only
  refine wpAny_bind (listUpdate_at hk rfl ?_ (by rw [List.size_toArray,sizeLine_eq];omega) (Nat.zero_le _))
  refine wpAny_bind (wpAny_letGo ?_)
  refine wpAny_bind (seqEpoch_at na1 rfl ?_)
  simp only [Bool.false_eq_true,if_false]
  refine wpAny_bind (listUpdate_at na1 rfl ?_ (Nat.zero_le _) (by
   show ((arrOf st).map (·.2)).size<=_
   rw [hsn,List.size_toArray,List.length_map,Array.length_toList,hps,sizeLine_eq];omega))
  rw [hf]
  simp only [bne_self_eq_false,Bool.false_eq_true,if_false]
  have hc2:=hc2.trans (congrArg (fun z=>some (seqObj "list" z c2)) hsn)
  have pl:p.toList.Perm (List.range ns.length):=by simpa using Array.perm_iff_toList_perm.mp hp.pm
  have pin:∀ i ∈ p.toList,i < ns.length:=fun i hi=>List.mem_range.mp (pl.mem_iff.mp hi)
  refine wpAny_pure (fin _ (p.toList.map fun i=>ns.getD i 0) _ c2 (fun b o hb hb' q=>?_) hc2 ?_ ?_ ?_)
  ·rw [s2.2 b hb,s1.2 b hb'];exact q
  ·unfold j9_
   rw [List.map_map]
   have:∀ (ls:List Nat),(∀ i ∈ ls,i < ns.length)->Vals (ls.map ((fun n:Nat=>V.int ((n:Nat):Int)) ∘ fun i=>ns.getD i 0)) (ls.map fun i=>vs.getD i Value.none):=by
    intro ls
    induction ls with
    | nil=>intro _;exact .nil
    | cons i ls ih =>
     intro hl
     obtain ⟨t,e⟩:=hvi i (hl i (.head _))
     exact .cons ⟨t,e⟩ (ih fun j hj=>hl j (.tail _ hj))
   exact this _ pin
  ·have e0:(List.range ns.length).map (fun i=>ns.getD i 0) = ns:=by
    apply List.ext_getElem?
    intro i
    rw [List.getElem?_map]
    by_cases hi:i < ns.length
    ·rw [List.getElem?_range hi,List.getElem?_eq_getElem hi,Option.map_some,List.getD_eq_getElem?_getD,List.getElem?_eq_getElem hi]
     rfl
    ·rw [List.getElem?_eq_none (by rw [List.length_range];omega),List.getElem?_eq_none (by omega)]
     rfl
   have:=pl.map fun i=>ns.getD i 0
   rwa [e0] at this
  ·rw [List.pairwise_map,List.pairwise_iff_getElem]
   intro i j hi hj hij
   have:=hord i j hij (by rw [Array.length_toList,hps] at hj;exact hj)
   have g:∀ m (hm:m < p.toList.length),p.getD m 0 = p.toList[m]:=fun m hm=>by
    have:m < p.size:=by simpa using hm
    simp [Array.getD,this]
   rw [g i hi,g j hj] at this
   exact this
 unfold ksk_end
 try dsimp only
 simp only [Bool.false_eq_true,if_false]
 by_cases h2:vs.toArray.size < 2
 ·rw [if_pos h2,if_pos h2]
  rw [List.size_toArray,hvl] at h2
  refine wpAny_bind (wpAny_pure ?_)
  rw [StateT.run_pure]
  refine wpAny_bind (wpAny_pure ?_)
  try dsimp only
  refine tail _ (List.range ns.length).toArray ⟨Array.Perm.refl _⟩ ?_ rfl (fun i j hij hj=>by omega)
  have e:=kas_range (ks.toArray.zip vs.toArray)
  rw [show (ks.toArray.zip vs.toArray).size = ns.length by simp [hkl,hvl]] at e
  rw [e]
 ·rw [if_neg h2,if_neg h2]
  rw [List.size_toArray,hvl] at h2
  obtain ⟨fs,t1,t2,t3⟩:=hK.tups hok
  refine wpAny_bind (kat_kind (T:=.type "int") t1 (by omega) (fun v hv=>?_) rfl ?_)
  ·obtain ⟨i,t,rfl⟩:=t3 v hv
   exact Looks.of_pure rfl
  rw [show ((Value.type "int") != Value.type "tuple") = true from rfl]
  have hz:∀ i j,i < ns.length->j < ns.length->kzz ck ns B i = kzz ck ns B j->i = j:=fun i j hi hj e=>by
   have n1:¬ klt ck (ns.getD i 0) (ns.getD j 0):=fun z=>by have:=(uh_ hB hi hj).mpr z;omega
   have n2:¬ klt ck (ns.getD j 0) (ns.getD i 0):=fun z=>by have:=(uh_ hB hj hi).mpr z;omega
   have e3:ns.getD i 0 = ns.getD j 0:=by
    unfold klt at n1 n2
    generalize ck (ns.getD i 0) = c at n1 n2
    generalize ck (ns.getD j 0) = d at n1 n2
    omega
   rw [List.getD_eq_getElem?_getD,List.getElem?_eq_getElem hi,List.getD_eq_getElem?_getD,List.getElem?_eq_getElem hj] at e3
   exact (List.getElem_inj nd).mp e3
  have ask:(kas_sort vs.length).kasWp (kas_ask P w A (tuples' true) ks) (fun p s''=>s'' = s'/\Pm ns.length p/\Up (kzz ck ns B) p ns.length) s':=by
   rw [hvl]
   refine KWl.wp (lt:=ltz (kzz ck ns B)) (n:=ns.length) (fun i j C hi hj q=>?_) _ (KWl.mono (fun p q=>⟨rfl,q⟩) _ (qim_ (by omega) hz))
   obtain ⟨t,e1,e2⟩:=hK.get hi
   obtain ⟨u,e3,e4⟩:=hK.get hj
   unfold kas_ask
   rw [e1,e3]
   refine qin_ hok e2 e4 hA hAu ?_
   have e5:decide (ck (ns.getD i 0) < ck (ns.getD j 0)\/ck (ns.getD i 0) = ck (ns.getD j 0)/\ns.getD i 0 < ns.getD j 0) = ltz (kzz ck ns B) i j:=by
    show _ = decide _
    rw [decide_eq_decide]
    exact (uh_ hB hi hj).symm
   rw [e5]
   exact q
  refine wpAny_bind (wpAny_mono (kat_run (Q:=fun st' s''=>∃ p:Array Nat,arrOf st' = p.map (kas_item (ks.toArray.zip vs.toArray))/\failedOf st' = none/\s'' = s'/\Pm ns.length p/\Up (kzz ck ns B) p ns.length) (by omega) (by omega) (by omega) (fun p' st' s'' a1 a2 a3 a4=>⟨p',a2,a3,a4⟩) ask) ?_ fun _ _ x=>x)
  rintro ⟨⟨⟩,st'⟩ s'' ⟨p,har,hf,rfl,hp,hu⟩
  try dsimp only
  refine tail st' p hp har hf fun i j hij hj=>?_
  have:=hu i j hij hj
  exact (uh_ hB (hp.lt (by omega) i) (hp.lt (by omega) j)).mp this
end
end L2
set_option Elab.async false
set_option linter.all false
set_option maxRecDepth 100000
set_option maxHeartbeats 1000000
namespace L2
open PySem PySem.Spec PySem.W PyProof.Rows
section
variable {P:Program}{w:World}{K:PySem.W.Frag}{mg:Str->Option Value}{base:Heap}{A:Around}{outer:List Env}{s:Shared}{H:Hp}{k:Nat}{sp:SpV}{l fa:Addr}{vs:List Value}{ns:List Nat}{ck:Nat->Int}{B:Nat}{Q:VK}{E:Value->Shared->Prop}
structure SortAt (P:Program) (w:World) (outer:List Env) (s:Shared) (H:Hp) (D kS:Addr) (e1:Nat) (ck:Nat->Int) (ns:List Nat) (s':Shared) (H':Hp) (ks:List Value) (e:Nat):Prop where
 os:s'.os = s.os
 bare:AllBare s'.gens
 un:Un (frs outer) [] H H' s.heap s'.heap
 hok:HOk P w H' s'.heap
 same:Same H H'
 hD:s'.heap.get? D = some (seqObj "list" #[] e1)
 nD:H' D = none
 hk:s'.heap.get? kS = some (seqObj "list" ks.toArray e)
 nk:H' kS = none
 keys:Keys H' ck ns ks
theorem qdq_ {D kS:Addr}{e1:Nat}{s5:Shared}{R:PySem.Fin->Shared->Prop} (hr:Room k A) (e0:Env0 P w K mg base A outer s H) (r:Vals (j9_ ns) vs) (nd:ns.Nodup) (hB:∀ n ∈ ns,n < B) (h64:ns.length < 64)
  (hf:∀ (s':Shared) (H':Hp) (n:Nat) (x:Value),n ∈ ns->Same H H'->Env0 P w K mg base A outer s' H'->Un (frs outer) [] H H' s.heap s'.heap->RelV (.int ((n:Nat):Int)) x->codeAny (model P w) A (.call (.ref fa) ⟨[x],[]⟩) (CR CX0 outer P w H' s' (fun v H''=>∃ t,v = .ref t/\H'' t = some (keyV (ck n) n)/\Same H' H'') E0) s')
  (nDs:s.heap.objs.size<=D) (nks:s.heap.objs.size<=kS) (hDk:D ≠ kS) (S5:SortAt P w outer s H D kS e1 ck [] s5 H [] 0)
  (fin:∀ (s':Shared) (H':Hp) (ms:List Nat),s'.os = s.os->AllBare s'.gens->Un (frs outer) [] H (upd H' D (.lst (j9_ ms))) s.heap s'.heap->HOk P w (upd H' D (.lst (j9_ ms))) s'.heap->Same H H'->H' D = none->ms.Perm ns->ms.Pairwise (klt ck)->R (.done (.ret .none)) s') :
  wpAny (model P w) A (ksk_rest D (.ref fa) false vs.toArray e1 (.ref kS)) R E s5:=by
 obtain ⟨hvl,hvi⟩:=zR_ r
 have noA:∀ b:Addr,b ∉ ([]:List Addr):=fun b=>List.not_mem_nil
 have hsz:∀ {s':Shared},(∃ o,s'.heap.get? D = some o)->s.heap.objs.size<=s'.heap.objs.size:=fun {s'} ⟨o,z⟩=>Nat.le_trans nDs (Nat.le_of_lt (Heap.lt_size z))
 have nfD:D ∉ frs outer:=fun z=>absurd (e0.lt z) (Nat.not_lt.mpr nDs)
 have nfk:kS ∉ frs outer:=fun z=>absurd (e0.lt z) (Nat.not_lt.mpr nks)
 unfold ksk_rest
 refine wpAny_bind (wpAny_rule ?_)
 rw [<- Array.forIn_toList]
 refine wpAny_bind (ksk_fold (I:=fun j s'=>∃ H' ks e,SortAt P w outer s H D kS e1 ck (ns.take j) s' H' ks e) vs 0 s5 ⟨H,[],0,S5⟩ (fun j x s' hx hI=>?_) fun s' hI=>?_)
 ·obtain ⟨H',ks,e,S⟩:=hI
  rw [Nat.zero_add] at S ⊢
  have hj:j < ns.length:=by rw [<- hvl];exact (List.getElem?_eq_some_iff.mp hx).1
  have hn:ns.getD j 0 ∈ ns:=by rw [List.getD_eq_getElem?_getD,List.getElem?_eq_getElem hj];exact List.getElem_mem hj
  obtain ⟨t,ex⟩:=hvi j hj
  rw [List.getD_eq_getElem?_getD,hx] at ex
  have ex:x = _:=ex
  have e0':=e0.after (A':=A) rfl S.un S.hok S.bare (hsz ⟨_,S.hD⟩)
  have hc:=hf s' H' _ x hn S.same e0' S.un ⟨t,ex⟩
  refine wpAny_bind (wpAny_attempt (wpAny_call (codeAny_mono hc fun rs s'' hq=>?_)))
  cases rs with
  | error _=>exact False.elim hq
  | ok fl =>
   cases fl with
   | next=>exact False.elim hq
   | brk=>exact False.elim hq
   | cont=>exact False.elim hq
   | ret u =>
    obtain ⟨v,H'',os,bare,un,hok,rv,q⟩:=hq
    obtain ⟨ta,rfl,hta,sm⟩:=q
    obtain rfl:u = .ref ta:=rv
    have hD2:=un.keep D _ S.hD S.nD nfD (noA D)
    have hk2:=un.keep kS _ S.hk S.nk nfk (noA kS)
    have nD2:=un.free D _ S.hD S.nD (noA D)
    have nk2:=un.free kS _ S.hk S.nk (noA kS)
    have s1:=Heap.SameBut.update s''.heap kS (Obj.mapSeq (·.push (.ref ta)))
    have k1:∀ b o,b ≠ kS->s''.heap.get? b = some o->(s''.heap.update kS (Obj.mapSeq (·.push (.ref ta)))).get? b = some o:=fun b o hb z=>(s1.2 b hb).trans z
    have ea:(List.toArray ks).push (.ref ta) = List.toArray (ks ++ [.ref ta]):=by simp
    have hkl:=S.keys.length
    rw [List.length_take,Nat.min_eq_left (by omega)] at hkl
    obtain ⟨c2,hc2⟩:∃ c2,(s''.heap.update kS (Obj.mapSeq (·.push (.ref ta)))).get? kS = some (seqObj "list" (List.toArray (ks ++ [.ref ta])) c2):=⟨_,by rw [← ea];exact get?_update_seq hk2 (·.push (.ref ta))⟩
    show wpAny _ _ (do Builtin.List.listUpdate (.ref kS) (·.push (.ref ta));pure (ForInStep.yield PUnit.unit)) _ _ _
    refine wpAny_bind (listUpdate_at hk2 rfl ?_ (by rw [List.size_toArray,sizeLine_eq];omega) (Nat.le_trans (Nat.le_of_eq (Array.size_push ..)) (by rw [List.size_toArray,sizeLine_eq];omega)))
    refine wpAny_pure ⟨rfl,H'',ks ++ [.ref ta],c2,os.trans S.os,bare,(S.un.trans un).turn nks k1,hok.turn nk2 k1,fun b o z=>sm b o (S.same b o z),(k1 D _ hDk hD2),nD2,hc2,nk2,?_⟩
    rw [List.take_succ,List.getElem?_eq_getElem hj]
    have eg:ns.getD j 0 = ns[j]:=by rw [List.getD_eq_getElem?_getD,List.getElem?_eq_getElem hj];rfl
    rw [eg] at hta
    exact Keys.snoc hta (S.keys.imp fun t xs z=>un.tups t xs z)
 ·obtain ⟨H',ks,e,S⟩:=hI
  rw [Nat.zero_add,hvl,List.take_length] at S
  have hkl:=S.keys.length
  refine wpAny_bind (listItems_at S.hk rfl ?_)
  refine qe6_ hr.hd hr.units r nd hB h64 S.hok S.hD S.hk hDk S.keys fun h' ms out c kp hD rv pm pw=>?_
  have u1:Un (frs outer) [] H H' s.heap h':=⟨fun b o z n hb he=>?_,fun b o z n hb he=>?_,S.un.free,fun b o z he=>?_,S.un.tups,S.un.frzs,S.un.tbls⟩
  have ok1:HOk P w H' h':=fun b o z=>by
   have ne:∀ c u x,H' x = none->H' c = some u->c ≠ x:=fun c u x n z y=>by rw [y,n] at z;cases z
   refine (S.hok b o z).stay (fun c v hc q=>?_) (fun _ q=>q) fun _ _ q=>q
   rcases hc with rfl | y
   ·exact kp c v (ne c o _ S.nD z) (ne c o _ S.nk z) q
   ·exact kp c v (ne c _ _ S.nD y) (ne c _ _ S.nk y) q
  refine fin _ H' ms S.os S.bare (u1.trk nDs S.nD) (ok1.trk S.nD ⟨?_,out,c,rv,hD⟩) S.same S.nD pm pw
  ·unfold j9_
   rw [List.length_map,pm.length_eq,sizeLine_eq]
   omega
  ·exact kp b o (Nat.ne_of_lt (Nat.lt_of_lt_of_le (Heap.lt_size z) nDs)) (Nat.ne_of_lt (Nat.lt_of_lt_of_le (Heap.lt_size z) nks)) (S.un.keep b o z n hb he)
  ·obtain ⟨sl,y⟩:=S.un.slot b o z n hb he
   exact ⟨sl,kp b _ (Nat.ne_of_lt (Nat.lt_of_lt_of_le (Heap.lt_size z) nDs)) (Nat.ne_of_lt (Nat.lt_of_lt_of_le (Heap.lt_size z) nks)) y⟩
  ·obtain ⟨o',y⟩:=S.un.there b o z he
   exact ⟨o',kp b _ (Nat.ne_of_lt (Nat.lt_of_lt_of_le (Heap.lt_size z) nDs)) (Nat.ne_of_lt (Nat.lt_of_lt_of_le (Heap.lt_size z) nks)) y⟩
theorem qe7_ (hr:Room (k + 2) A) (e0:Env0 P w K mg base A outer s H) (hl:s.heap.IsList l vs.toArray) (r:Vals (j9_ ns) vs) (nd:ns.Nodup) (hB:∀ n ∈ ns,n < B) (h64:ns.length < 64)
  (hf:∀ (s':Shared) (H':Hp) (n:Nat) (x:Value),n ∈ ns->Same H H'->Env0 P w K mg base A.in1.in1 outer s' H'->Un (frs outer) [] H H' s.heap s'.heap->RelV (.int ((n:Nat):Int)) x->codeAny (model P w) A.in1.in1 (.call (.ref fa) ⟨[x],[]⟩) (CR CX0 outer P w H' s' (fun v H''=>∃ t,v = .ref t/\H'' t = some (keyV (ck n) n)/\Same H' H'') E0) s')
  (hq:∀ (D:Addr) (H':Hp) (ms:List Nat),H D = none->H' D = none->Same H H'->ms.Perm ns->ms.Pairwise (klt ck)->Q (.ref D) (upd H' D (.lst (j9_ ms)))) :
  wpAny (model P w) A (call (.builtin "sorted") [.ref l] [(Str.ofString "key",.ref fa)]) (fun u s'=>CE outer P w H s Q u s') E s:=by
 obtain ⟨hvl,hvi⟩:=zR_ r
 refine call_function_entry_kw kind_sorted plain_sorted entry_sorted (ksk_s1 _ _) ?_
 unfold Builtin.«sorted»
 refine wpAny_bind (m:=checkCount "sorted" 1 1 _) (wpAny_pure ?_)
 refine wpAny_bind (collect_list hl ?_ (by rw [sizeLine_eq];omega))
 refine wpAny_bind (wpAny_newList ?_ (by rw [sizeLine_eq];omega))
 have hsz:((s.heap.push (seqObj "list" #[] 0)).update s.heap.objs.size (Obj.mapSeq (· ++ vs.toArray))).objs.size = s.heap.objs.size + 1:=by
  rw [Heap.size_update,size_push']
 have hoL:(((s.heap.push (seqObj "list" #[] 0)).update s.heap.objs.size (Obj.mapSeq (· ++ vs.toArray))).push (seqObj "list" vs.toArray 0)).get? (s.heap.objs.size + 1) = some (seqObj "list" vs.toArray 0):=by
  rw [<- hsz];exact Heap.get?_push_size _ rfl
 have keep:∀ b o,s.heap.get? b = some o → (((s.heap.push (seqObj "list" #[] 0)).update s.heap.objs.size (Obj.mapSeq (· ++ vs.toArray))).push (seqObj "list" vs.toArray 0)).get? b = some o:=fun b o q=>by
  have hlt:b < s.heap.objs.size:=Heap.lt_size q
  rw [Heap.get?_push_ne _ _ _ (by rw [hsz];exact Nat.ne_of_lt (Nat.lt_succ_of_lt hlt)),Heap.get?_update_ne _ _ _ _ (Nat.ne_of_lt hlt),Heap.get?_push_ne _ _ _ (Nat.ne_of_lt hlt)]
  exact q
 show wpAny _ _ _ _ _ { s with heap:=((s.heap.push (seqObj "list" #[] 0)).update s.heap.objs.size (Obj.mapSeq (· ++ vs.toArray))).push (seqObj "list" vs.toArray 0) }
 rw [hsz]
 generalize (((s.heap.push (seqObj "list" #[] 0)).update s.heap.objs.size (Obj.mapSeq (· ++ vs.toArray))).push (seqObj "list" vs.toArray 0)) = h2 at hoL keep
 refine wpAny_bind (wpAny_holding (wpAny_call_entry_kw slot_list_sort ⟨_,hoL,rfl⟩ entry_list_sort ?body (ksk_l1 _ _)))
 show wpAny (model P w) A.in1.in1 (Builtin.«list.sort» ⟨[.ref (s.heap.objs.size + 1)],[(Str.ofString "key",.ref fa)]⟩) _ _ _
 rw [ksk_t1]
 unfold ksk_tree
 have s1:=Heap.SameBut.update h2 (s.heap.objs.size + 1) (Obj.mapSeq fun _=>(#[]:Array Value))
 obtain ⟨e1,ho1⟩:∃ e1,(h2.update (s.heap.objs.size + 1) (Obj.mapSeq fun _=>(#[]:Array Value))).get? (s.heap.objs.size + 1) = some (seqObj "list" #[] e1):=⟨_,get?_update_seq hoL fun _=>#[]⟩
 refine wpAny_bind (listItems_at hoL rfl ?_)
 refine wpAny_bind (listUpdate_at hoL rfl ?_ (by rw [List.size_toArray,sizeLine_eq];omega) (Nat.zero_le _))
 refine wpAny_bind (seqEpoch_at ho1 rfl ?_)
 refine wpAny_bind (wpAny_newTuple ?_ (by show vs.length<=_;rw [sizeLine_eq];omega))
 refine wpAny_bind (wpAny_newList ?_ (Nat.zero_le _))
 refine wpAny_holding ?_
 have kp5:∀ b o,s.heap.get? b = some o → (((h2.update (s.heap.objs.size + 1) (Obj.mapSeq fun _=>(#[]:Array Value))).push (seqObj "tuple" vs.toArray 0)).push (seqObj "list" #[] 0)).get? b = some o:=fun b o q=>by
  refine Heap.get?_push_of_some _ (Heap.get?_push_of_some _ ?_)
  rw [s1.2 b (Nat.ne_of_lt (Nat.lt_succ_of_lt (Heap.lt_size q)))]
  exact keep b o q
 have hlt2:s.heap.objs.size + 1 < h2.objs.size:=Heap.lt_size hoL
 have hkS:((h2.update (s.heap.objs.size + 1) (Obj.mapSeq fun _=>(#[]:Array Value))).push (seqObj "tuple" vs.toArray 0)).objs.size = h2.objs.size + 1:=by rw [size_push',Heap.size_update]
 have fr:∀ a,s.heap.objs.size<=a->H a = none:=fun a z=>e0.hok.fresh z
 refine qdq_ (D:=s.heap.objs.size + 1) (A:=A.in1.in1) (outer:=outer) (s:=s) (H:=H) (s5:={ s with heap:=((h2.update (s.heap.objs.size + 1) (Obj.mapSeq fun _=>(#[]:Array Value))).push (seqObj "tuple" vs.toArray 0)).push (seqObj "list" #[] 0) }) (kS:=((h2.update (s.heap.objs.size + 1) (Obj.mapSeq fun _=>(#[]:Array Value))).push (seqObj "tuple" vs.toArray 0)).objs.size) hr.in1.in1 (e0.after rfl Un.refl e0.hok e0.bare (Nat.le_refl _)) r nd hB h64 hf (Nat.le_succ _) (by have:=hkS;omega) (Nat.ne_of_lt (by have:=hkS;omega))
  ⟨rfl,e0.bare,Un.kept kp5,e0.hok.kept kp5,fun _ _ z=>z,Heap.get?_push_of_some _ (Heap.get?_push_of_some _ ho1),fr _ (by omega),Heap.get?_push_size _ rfl,fr _ (by rw [hkS];omega),trivial⟩ ?_
 intro s' H' ms os bare un hok sm nD pm pw
 exact ⟨_,rfl,wpAny_pure ⟨_,rfl,.ref (s.heap.objs.size + 1),_,os,bare,un,hok,rfl,hq _ H' ms (fr _ (by omega)) nD sm pm pw⟩⟩
end
end L2
set_option Elab.async false
set_option linter.all false
set_option maxRecDepth 100000
set_option maxHeartbeats 1000000
namespace L2
open PySem PySem.Spec PyProof.Rows
def qe8_ (ps:List Str) (vs:List V) (scope:Scope) (clos:List (Str × Addr)) (cv:List (Str × V)) (N:List Str) (σ:St):Prop :=
 σ.length = N.length/\∀ (i:Nat) (x:Str) (v:V),N[i]? = some x->σ[i]? = some (some v)->(ps[i]? = some x/\vs[i]? = some v)\/(scope.names.lookup x = some .free/\(∃ c,clos.lookup x = some c)/\cv.lookup x = some v)
structure CloL (scope:Scope) (clos:List (Str × Addr)) (cv:List (Str × V)) (H:Hp) (h:Heap):Prop where
 inj:∀ x y c,clos.lookup x = some c->clos.lookup y = some c->x = y
 has:∀ x,scope.names.lookup x = some .free->∃ c,clos.lookup x = some c
 val:∀ x c,clos.lookup x = some c->∃ v u,cv.lookup x = some v/\RelV v u/\h.IsCell c (some u)/\H c = none
section
variable {P:Program}{w:World}{K:PySem.W.Frag}{mg:Str->Option Value}{base:Heap}{A:Around}{outer:List Env}{s:Shared}{H:Hp}{N ps:List Str}{scope:Scope}{fa:Addr}{q:Str}{cd:Value}{clos:List (Str × Addr)}{cv:List (Str × V)}{vs:List V}{us:List Value}{σ0:St}{h':Heap}{tk:Nat}
theorem qgu_ (S:CloScope N ps scope) (hd:A.handled = none) (e0:Env0 P w K mg base A outer s H) (r:Vals vs us) (C:CloL scope clos cv H s.heap) (h0:qe8_ ps vs scope clos cv N σ0)
  (hn:h'.Ns s.heap.objs.size fun x=>(ps.zip us).reverse.lookup x) (hs:Heap.SameBut s.heap.objs.size (s.heap.push { cls:=.type "frame",data:=.dict #[] }) h') :
  Inv (cxC P w K mg base N (envC q scope s.heap.objs.size fa cd clos) A outer s H) [] σ0 H { s with heap:=h',toks:=tk }:=by
 have hk:∀ b o,s.heap.get? b = some o->h'.get? b = some o:=fun b o e=>by
  rw [hs.2 b (Nat.ne_of_lt (Heap.lt_size e))]
  exact Heap.get?_push_of_some _ e
 have noA:∀ b:Addr,b ∉ ([]:List Addr):=fun b=>List.not_mem_nil
 have ik:∀ {c u},s.heap.IsCell c (some u)->h'.IsCell c (some u):=fun ⟨o,e1,e2⟩=>⟨o,hk _ _ e1,e2⟩
 refine ⟨⟨e0.mod,S.kind,rfl,rfl,Nat.le_refl _,C.inj,fun x hx=>?_,(fun x c z=>Bool.noConfusion z),fun _=>hd,Around.frames_deeper e0.frames,.inr ⟨rfl,rfl⟩,fun b z=>absurd z (noA b),e0.bs,e0.bsz,fun b _ _=>noA b,fun b z=>absurd z (noA b),e0.funs,e0.frf⟩,
  rfl,e0.bare,Un.kept hk,⟨_,hn,fun i x v h1 h2 h3=>?_⟩,fun x c e=>?_,?_,fun x c e=>?_,fun p hp=>absurd (show p ∈ ([]:List (Addr × Obj)) from hp) (by simp),e0.hok.kept hk,h0.1⟩
 ·rcases hx with hx | hx
  ·exact absurd rfl (S.nocell _ (PySem.mem_of_lookup (show scope.names.lookup x = some .cell from hx)))
  ·exact C.has x hx
 ·rcases h0.2 i x v h1 h2 with ⟨hp,hv⟩ | ⟨hf,⟨c,hc⟩,hv⟩
  ·obtain ⟨u,hu,rv⟩:=r.get hv
   have ndP:ps.Nodup:=by rw [<- S.pre];exact S.nd.sublist (List.take_sublist _ _)
   exact ⟨u,rv,.inl ⟨S.par x (List.mem_of_getElem? hp),qcx_ ndP hp hu⟩⟩
  ·obtain ⟨v',u,hv',ru,z,_⟩:=C.val x c hc
   rw [hv] at hv'
   cases hv'
   exact ⟨u,ru,.inr ⟨.inr hf,c,hc,ik z⟩⟩
 ·obtain ⟨v',u,hv',ru,z,_⟩:=C.val x c e
  exact ⟨_,ik z⟩
 ·exact e0.hok.fresh (Nat.le_refl _)
 ·obtain ⟨v',u,hv',_,_,n⟩:=C.val x c e
  exact n
theorem qgv_ {k:Nat}{name:Str}{params:Arguments}{body:Expr}{pm ctv:Value}{c':Addr}{Q:VK}{E:XK}{t:TE} (S:CloScope N ps scope) (hr:Room (k + 1) A) (e0:Env0 P w K mg base A outer s H) (r:Vals vs us)
  (hf:H fa = some (FunO fa (PySem.W.kla_fn name q params body scope clos pm (.ref c') ctv))) (hc:H c' = some (yG_ q c')) (hb:bindArgs (PySem.W.kla_fn name q params body scope clos pm (.ref c') ctv) ⟨us,[]⟩ = pure (ps.zip us))
  (C:CloL scope clos cv H s.heap) (h0:qe8_ ps vs scope clos cv N σ0)
  (ht:PE (cxC P w K mg base N (envC q scope s.heap.objs.size fa (.ref c') clos) A outer s H) body t) (hq:t σ0 H Q) :
  codeAny (model P w) A (.call (.ref fa) ⟨us,[]⟩) (CR CX0 outer P w H s Q E) s:=by
 have lim:s.heap.NoLimit:=e0.mod.nolimit.keeps fun b o e=>(e0.bs b o e).1
 have ho:s.heap.get? fa = some { cls:=.type "function",data:=.func (PySem.W.kla_fn name q params body scope clos pm (.ref c') ctv) }:=(e0.hok fa _ hf).1
 have hcr:s.heap.CodeRec (.ref c') q:=(e0.hok c' _ hc).1
 refine PySem.W.kla_callFunE hr.depth ho rfl S.co S.gen rfl hcr ?_
 rw [hb]
 refine wpAny_pure ?_
 refine wpAny_newFunctionEnv S.nocell (fun x hx=>S.par x.1 (List.of_mem_zip hx).1) (fun h' hn hs=>?_) S.kind
 have hk:∀ b o,s.heap.get? b = some o->h'.get? b = some o:=fun b o e=>by
  rw [hs.2 b (Nat.ne_of_lt (Heap.lt_size e))]
  exact Heap.get?_push_of_some _ e
 refine ⟨lim.keeps hk,PySem.W.kla_codeExpr ?_⟩
 have I:=qgu_ (q:=q) (fa:=fa) (cd:=.ref c') (tk:=s.toks + (ps.zip us).length) S hr.hd e0 r C h0 hn hs
 refine wpAny_mono (ht [] _ σ0 _ _ I hq) (fun u s' ⟨v,H',J,rv,q⟩=>?_) fun e s' hs'=>False.elim hs'
 exact ⟨v,H',J.os,J.bare,J.base,J.hok,rv,q⟩
end
end L2
set_option Elab.async false
set_option linter.all false
set_option maxRecDepth 100000
set_option maxHeartbeats 1000000
namespace L2
open PySem PySem.Spec PyProof.Rows
section
variable {X:Cx}{pins:List (Addr × Obj)}{σ:St}{H:Hp}{s:Shared}
theorem qgw_ {P:Addr}{pos:Pos}{q:Str}{mk:Value->Value->Value->Value->FuncData}{Q:VK} (h:tFn P pos q mk σ H Q):tFn P pos q mk σ H fun v H2=>Q v H2/\∃ fa c' doc pm ctv,v = .ref fa/\H2 fa = some (FunO fa (mk doc pm (.ref c') ctv))/\H2 c' = some (yG_ q c'):=by
 obtain ⟨ps,hP,tr,h⟩:=h
 refine ⟨ps,hP,tr,?_⟩
 rcases h with ⟨hn,h⟩ | ⟨c',hs,hc,h⟩
 ·refine .inl ⟨hn,fun c' fa doc pm ctv n1 n2 ne=>⟨h c' fa doc pm ctv n1 n2 ne,fa,c',doc,pm,ctv,rfl,qc_,?_⟩⟩
  rw [qf_ ne.symm]
  exact qc_
 ·refine .inr ⟨c',hs,hc,fun fa doc pm ctv n=>⟨h fa doc pm ctv n,fa,c',doc,pm,ctv,rfl,qc_,?_⟩⟩
  rw [qf_ (qm_ hc n)]
  exact hc
def qe9_ (K:PySem.W.Frag) (j:Nat) (tb:TE) (σ:St) (Q:VK) (x:V) (H2:Hp):Prop :=
 ∃ (l:Addr) (ns:List Nat) (ck:Nat->Int) (B:Nat) (vy:V),x = .ref l/\SqL K H2 l (j9_ ns)/\ns.Nodup/\(∀ n ∈ ns,n < B)/\ns.length < 64/\σ[j]? = some (some vy) ∧
  (∀ (n:Nat) (H':Hp),n ∈ ns->Same H2 H'->tb [some (.int ((n:Nat):Int)),some vy] H' fun v H''=>∃ t,v = .ref t/\H'' t = some (keyV (ck n) n)/\Same H' H'') ∧
  ∀ (D:Addr) (H':Hp) (ms:List Nat),H2 D = none->H' D = none->Same H2 H'->ms.Perm ns->ms.Pairwise (klt ck)->Q (.ref D) (upd H' D (.lst (j9_ ms)))
def qkb_ (K:PySem.W.Frag) (P:Addr) (lpos:Pos) (q:Str) (mk:Value->Value->Value->Value->FuncData) (j:Nat) (te tb:TE):TE:=fun σ H Q=>te σ H fun x H1=>tFn P lpos q mk σ H1 fun _ H2=>qe9_ K j tb σ Q x H2
theorem qgx_ {c P cy:Addr}{p y:Str}{j k:Nat}{e:Expr}{te tb:TE}{params:Arguments}{body:Expr}{scope:Scope}{lpos kp p0 pos:Pos} (T:TabK X c P) (hcl:closureFor scope X.env = pure [(y,cy)]) (hr:Room (k + 3) X.A) (hg:Gl X "sorted") (hm:X.mg "sorted" = none) (he:PE X e te)
  (S:CloScope [p,y] [p] scope) (hyf:scope.names.lookup y = some .free) (hfr:∀ q ∈ scope.names,q.2 = .free->q.1 = y) (hcy:X.env.cells.lookup y = some cy) (hky:X.env.kindOf y = some .cell) (hfn:X.fn y = true) (hj:X.N[j]? = some y)
  (hb:∀ (pm cdv ctv u:Value),bindArgs (PySem.W.kla_fn (Str.ofString "<lambda>") (X.env.qual ++ Str.ofString "<lambda>") params body scope [(y,cy)] pm cdv ctv) ⟨[u],[]⟩ = pure [(p,u)])
  (hbody:∀ (A:Around) (outer:List Env) (s:Shared) (H:Hp) (fa c':Addr),Room k (A.deeper (envC (X.env.qual ++ Str.ofString "<lambda>") scope s.heap.objs.size fa (.ref c') [(y,cy)])) → PE (cxC X.prog X.w X.K X.mg X.base [p,y] (envC (X.env.qual ++ Str.ofString "<lambda>") scope s.heap.objs.size fa (.ref c') [(y,cy)]) A outer s H) body tb)
  (h1:defaultsOf params X.env = ([],[]):=by rfl) (hs:starEach [e] X.env = (false,eval e X.env) :: starEach [] X.env:=by rfl) (hs2:backTo pos (starEach [e] X.env) = (false,eval e X.env) :: backTo pos (starEach [] X.env):=by rfl) (hs3:(backTo pos (starEach [e] X.env)).any (·.1) = false:=by rfl) :
  PE X (.Call (.Name "sorted" p0) [e] [⟨some "key",.Lambda params body scope lpos,kp⟩] pos) (qkb_ X.K P lpos (X.env.qual ++ Str.ofString "<lambda>") (fun _ pm cdv ctv=>PySem.W.kla_fn (Str.ofString "<lambda>") (X.env.qual ++ Str.ofString "<lambda>") params body scope [(y,cy)] pm cdv ctv) j te tb):=by
 intro pins s σ H Q I h
 refine wpAny_Call_Name_kw (yz_ I hg hm PyProof.Rows.Boot.sorted ?_ (by decide) (by decide))
 refine callWith_kw ?_ hs2 hs3 rfl rfl
 refine thn ((qa_ he qe_ hs) pos pins s σ H (fun vs H1=>match vs with
  | [x]=>tFn P lpos (X.env.qual ++ Str.ofString "<lambda>") (fun _ pm cdv ctv=>PySem.W.kla_fn (Str.ofString "<lambda>") (X.env.qual ++ Str.ofString "<lambda>") params body scope [(y,cy)] pm cdv ctv) σ H1 (fun _ H2=>qe9_ X.K j tb σ Q x H2)
  | _=>False) I h) ?_
 rintro us s1 ⟨vs,H1,I1,rv,q1⟩
 match vs,rv,q1 with
 | [x],rv,q1 =>
  obtain ⟨u,rfl,rx⟩:=zb_ rv
  refine kws_cons (PySem.W.kla_eval h1 (thn (qgo_ T hcl I1 (qgw_ q1)) fun f s2 ⟨vf,H2,I2,rf,q2,fa,c',_,pm,ctv,evf,hfa,hcc⟩=>?_))
  subst evf
  obtain rfl:f = Value.ref fa:=rf
  obtain ⟨l,ns,ck,B,vy,rfl,hsq,nd,hB,h64,hσ,hbd,hq⟩:=q2
  obtain rfl:u = Value.ref l:=rx
  refine kws_nil ?_
  obtain ⟨its,ri,pl,_⟩:=I2.list hsq
  refine wpAny_mono (qe7_ (K:=X.K) (mg:=X.mg) (base:=X.base) (ck:=ck) (B:=B) (ns:=ns) (Q:=Q) hr I2.env0 pl.isList ri nd hB h64 (fun s3 H3 n xv hn sm e0 un rxv=>?_) hq) (fun u s' ce=>I2.after ce) fun _ _ z=>z
  obtain ⟨m,hns,hl⟩:=I2.loc
  obtain ⟨uy,ruy,lk⟩:=hl j y vy hj hσ (.inr (.inl hky))
  have hce:s2.heap.IsCell cy (some uy):=by
   rcases lk with ⟨z,_⟩ | ⟨_,c2,ec,z⟩
   ·rw [hky] at z;cases z
   ·rw [hcy] at ec;cases ec;exact z
  obtain ⟨oc,ho,hd⟩:=id hce
  have ncy:=I2.freeC y cy hcy
  have nf:cy ∉ frs X.stack:=fun z=>by
   rcases List.mem_cons.mp (I2.stkSub cy z) with e | hb2
   ·exact I2.cne y cy hcy e
   ·obtain ⟨_,o2,ho2,_⟩:=I2.ok.funs.mem hb2
    exact absurd (Heap.lt_size ho2) (Nat.not_lt.mpr (I2.ok.cab y cy hfn hcy))
  have ho3:=un.keep cy oc ho ncy nf List.not_mem_nil
  have ncy3:=un.free cy oc ho ncy List.not_mem_nil
  have L1:∀ x c,[(y,cy)].lookup x = some c->x = y/\c = cy:=fun x c e=>by
   rw [List.lookup_cons] at e
   split at e
   ·rename_i hxy
    cases e
    exact ⟨eq_of_beq hxy,rfl⟩
   ·cases e
  have L2':[(y,cy)].lookup y = some cy:=by rw [List.lookup_cons];simp
  have L3:[(y,vy)].lookup y = some vy:=by rw [List.lookup_cons];simp
  refine qgv_ (cv:=[(y,vy)]) (vs:=[.int ((n:Nat):Int)]) (us:=[xv]) (σ0:=[some (.int ((n:Nat):Int)),some vy]) S (k:=k) hr.in1.in1 e0 (.cons rxv .nil) (sm _ _ hfa) (sm _ _ hcc) (hb _ _ _ _) ⟨fun x z c e1 e2=>((L1 x c e1).1).trans ((L1 z c e2).1).symm,fun x hx=>⟨cy,by have e:x = y:=hfr (x,.free) (PySem.mem_of_lookup hx) rfl;rw [e];exact L2'⟩,fun x c e=>?_⟩ ⟨rfl,fun i x v e1 e2=>?_⟩ (hbody _ _ _ _ _ _ ((hr.in1.in1).deeper _)) (hbd n H3 hn sm)
  ·obtain ⟨rfl,rfl⟩:=L1 x c e
   exact ⟨vy,uy,L3,ruy,⟨oc,ho3,hd⟩,ncy3⟩
  ·match i,e1,e2 with
   | 0,e1,e2=>exact .inl ⟨e1,by cases e2;rfl⟩
   | 1,e1,e2 =>
    cases e1
    cases e2
    exact .inr ⟨hyf,⟨cy,L2'⟩,L3⟩
end
end L2
set_option Elab.async false
set_option linter.all false
set_option maxRecDepth 100000
namespace L2
open PySem PySem.Spec PyProof.Rows
structure FunT (K:PySem.W.Frag) (x qual:Str) (st:Stmt) (f:Addr) (fd:FuncData) (c t:Addr):Prop where
 ex:∃ (oc:Value) (od:Option Addr) (kV doc pm:Value) (an:Option Addr) (ct:Value) (osl:Array (Option Value)),
  fd = PySem.W.fnOf x qual (qi_ st) (qh_ st) (qb_ st) .none kV doc pm an (.ref c) ct/\K.lookup f = some ⟨oc,od,.func fd,osl⟩/\PySem.W.codeIn K (.ref c) qual = true
 kp:PySem.W.keepIn K (.ref f) = true
 hd:PySem.W.codeHdIn K c t = true
section
variable {P:Program}{w:World}{K:PySem.W.Frag}{mg:Str->Option Value}{base:Heap}{x qual:Str}{st:Stmt}{f c t:Addr}{fd:FuncData}{N ps:List Str}{k:Nat}{sp:Sp}
theorem FunT.fun (F:FunT K x qual st f fd c t):Fun K x qual st f fd:=by
 obtain ⟨oc,od,kV,doc,pm,an,ct,osl,e,lk,hcd⟩:=F.ex
 exact ⟨⟨oc,od,kV,doc,pm,an,_,ct,osl,e,lk,hcd⟩,F.kp⟩
theorem FunT.ok (F:FunT K x qual st f fd c t) (S:FnScope N ps (qb_ st)) (len:∀ vs H Q E,sp vs H Q E->vs.length = ps.length)
  (hbody:∀ (A:Around) (outer:List Env) (s:Shared) (H:Hp) (vs:List V) (Q:VK) (E:XK),Room k (A.deeper (envOfC qual (qb_ st) s.heap.objs.size f (.ref c)))->sp vs H Q E →
   ∃ t,PSs (cxOf CX0 P w K mg base N qual (qb_ st) f (.ref c) A outer s H E).nox (qh_ st) t/\t { nx:=fun _ H'=>Q .non H',rt:=Q } (start N vs) H):FnOk P w K mg base CX0 (k + 1) f fd ps sp:=by
 obtain ⟨oc,od,kV,doc,pm,an,ct,osl,rfl,lk,hcd⟩:=F.ex
 refine qhz_ lk hcd S len fun A outer s H vs Q E hr hsp=>?_
 obtain ⟨t,h,q⟩:=hbody A outer s H vs Q E hr hsp
 exact ⟨t,h.nox,q⟩
theorem qc0_ {oc:Value}{od an:Option Addr}{osl:Array (Option Value)}{kV doc pm ct:Value} (l:K.lookup f = some ⟨oc,od,.func (PySem.W.fnOf x qual (qi_ st) (qh_ st) (qb_ st) .none kV doc pm an (.ref c) ct),osl⟩)
  (hc:PySem.W.codeIn K (.ref c) qual = true) (hk:PySem.W.keepIn K (.ref f) = true) (hd:PySem.W.codeHdIn K c t = true):FunT K x qual st f (PySem.W.fnOf x qual (qi_ st) (qh_ st) (qb_ st) .none kV doc pm an (.ref c) ct) c t:=⟨⟨oc,od,kV,doc,pm,an,ct,osl,rfl,l,hc⟩,hk,hd⟩
theorem FunT.tab {A:Around}{outer:List Env}{s:Shared}{H:Hp}{E:XK}{sc:Scope} (F:FunT K x qual st f fd c t) (hb:base.BuiltinsAt mg t) (ne:mainGlobals ≠ t):TabK (cxOf CX0 P w K mg base N qual sc f (.ref c) A outer s H E).nox c t:=⟨rfl,F.hd,hb,ne⟩
end
end L2
namespace My
open PySem L2 PyProof.Rows
set_option maxRecDepth 100000
set_option maxHeartbeats 1000000
def top (i : Nat) : Stmt := PySem.Challenge.pw_spareplank_k44_whole_any_weights_read.main.body.getD i (.Pass ⟨0,0,0,0⟩)
abbrev jq_:Stmt:=qI_ (top 35) 0
abbrev qE_:Stmt:=qI_ (top 35) 1
abbrev q8_:Stmt:=qI_ (top 35) 2
abbrev jf_:Stmt:=qI_ (top 35) 3
abbrev jr_:Stmt:=qI_ (top 35) 4
abbrev jg_:Stmt:=qI_ (top 35) 5
abbrev yO_:Stmt:=top 17
abbrev jh_:Stmt:=top 18
abbrev js_:Stmt:=top 19
abbrev jt_:Stmt:=top 20
abbrev jX_:Stmt:=top 21
abbrev jY_:Stmt:=top 22
abbrev jZ_:Stmt:=top 23
abbrev jF_:Stmt:=top 24
abbrev ji_:Stmt:=qI_ (top 15) 0
abbrev qX_:Stmt:=qI_ (top 15) 2
abbrev q0_:Stmt:=qI_ (top 15) 3
abbrev q1_:Stmt:=qI_ (top 15) 5
abbrev q2_:Stmt:=qI_ (top 15) 6
abbrev q3_:Stmt:=top 28
abbrev q4_:Stmt:=top 29
abbrev jj_:Stmt:=top 30
abbrev jG_:Stmt:=qI_ (top 31) 0
abbrev jH_:Stmt:=qI_ (top 31) 5
abbrev qR_:Stmt:=qI_ (top 31) 12
abbrev ju_:Stmt:=qI_ (top 31) 6
abbrev qY_:Stmt:=qI_ (top 31) 8
abbrev q5_:Stmt:=qI_ (top 31) 7
abbrev jI_:Stmt:=top 4
abbrev jk_:Stmt:=qI_ (top 5) 0
abbrev jv_:Stmt:=qI_ (top 5) 1
abbrev jl_:Stmt:=qI_ (top 5) 2
abbrev qJ_:Stmt:=qI_ (top 5) 3
abbrev q9_:Stmt:=qI_ (top 5) 4
abbrev ja_:Stmt:=qI_ (top 5) 5
abbrev qS_:Stmt:=qI_ (top 5) 7
abbrev jb_:Stmt:=qI_ (top 5) 9
abbrev q6_:Stmt:=qI_ (top 5) 10
abbrev qT_:Stmt:=qI_ (top 5) 11
abbrev jJ_:Stmt:=top 2
abbrev yP_:Stmt:=top 37
abbrev yp_:Stmt:=top 38
abbrev yQ_:Stmt:=top 39
abbrev yq_:Stmt:=top 40
abbrev ya_:Stmt:=top 41
abbrev yR_:Stmt:=top 42
abbrev yS_:Stmt:=top 43
abbrev yr_:Stmt:=top 44
abbrev ys_:Stmt:=top 45
abbrev yt_:Stmt:=top 46
abbrev yb_:Stmt:=top 47
abbrev j0_:Stmt:=top 48
abbrev j1_:Stmt:=top 49
abbrev yu_:Stmt:=top 50
abbrev yv_:Stmt:=top 51
abbrev yh_:Stmt:=top 52
abbrev yT_:Stmt:=top 53
abbrev yw_:Stmt:=top 54
abbrev zc_:Stmt:=top 55
theorem sc_Field_init:FnScope ["self", "rule", "after"] ["self", "rule"] (qb_ jq_):=⟨rfl,rfl,rfl,by decide +kernel,rfl,by decide +kernel,by decide +kernel⟩
theorem sc_Field_doublings_of_one:FnScope ["self", "symbol", "after"] ["self"] (qb_ qE_):=⟨rfl,rfl,rfl,by decide +kernel,rfl,by decide +kernel,by decide +kernel⟩
theorem sc_Field_double:FnScope ["self", "one", "twice"] ["self", "one"] (qb_ q8_):=⟨rfl,rfl,rfl,by decide +kernel,rfl,by decide +kernel,by decide +kernel⟩
theorem sc_Field_times:FnScope ["self", "one", "other", "product", "doubled", "digits"] ["self", "one", "other"] (qb_ jf_):=⟨rfl,rfl,rfl,by decide +kernel,rfl,by decide +kernel,by decide +kernel⟩
theorem qab_:FnScope ["self", "one"] ["self", "one"] (qb_ jr_):=⟨rfl,rfl,rfl,by decide +kernel,rfl,by decide +kernel,by decide +kernel⟩
theorem sc_Field_power:FnScope ["self", "one", "many", "product", "square", "digits"] ["self", "one", "many"] (qb_ jg_):=⟨rfl,rfl,rfl,by decide +kernel,rfl,by decide +kernel,by decide +kernel⟩
theorem sc_unit:FnScope ["many", "at", "some"] ["many", "at"] (qb_ yO_):=⟨rfl,rfl,rfl,by decide +kernel,rfl,by decide +kernel,by decide +kernel⟩
theorem uz_:FnScope ["field", "factor", "line"] ["field", "factor", "line"] (qb_ jh_):=⟨rfl,rfl,rfl,by decide +kernel,rfl,by decide +kernel,by decide +kernel⟩
theorem qac_:FnScope ["one", "other"] ["one", "other"] (qb_ js_):=⟨rfl,rfl,rfl,by decide +kernel,rfl,by decide +kernel,by decide +kernel⟩
theorem sc_first_with:FnScope ["lines", "start", "place", "at"] ["lines", "start", "place"] (qb_ jt_):=⟨rfl,rfl,rfl,by decide +kernel,rfl,by decide +kernel,by decide +kernel⟩
theorem sc_swapped:FnScope ["lines", "one", "other", "some"] ["lines", "one", "other"] (qb_ jX_):=⟨rfl,rfl,rfl,by decide +kernel,rfl,by decide +kernel,by decide +kernel⟩
theorem sc_cleared:FnScope ["field", "lines", "at", "place", "head", "some", "number", "line"] ["field", "lines", "at", "place"] (qb_ jY_):=⟨rfl,rfl,rfl,by decide +kernel,rfl,by decide +kernel,by decide +kernel⟩
theorem sc_told_of:FnScope ["field", "lines", "known", "place", "some", "heads", "other", "found", "by"] ["field", "lines", "known", "place"] (qb_ jZ_):=⟨rfl,rfl,rfl,by decide +kernel,rfl,by decide +kernel,by decide +kernel⟩
theorem sc_free_make:FnScope ["lines", "heads", "many", "place", "make", "head", "line"] ["lines", "heads", "many", "place"] (qb_ jF_):=⟨rfl,rfl,rfl,by decide +kernel,rfl,by decide +kernel,by decide +kernel⟩
theorem sc_Blocks_init:FnScope ["self", "field", "many", "step"] ["self", "field", "many"] (qb_ ji_):=⟨rfl,rfl,rfl,by decide +kernel,rfl,by decide +kernel,by decide +kernel⟩
theorem sc_Blocks_symbols:FnScope ["self", "block", "base", "some", "rest", "at"] ["self", "block"] (qb_ qX_):=⟨rfl,rfl,rfl,by decide +kernel,rfl,by decide +kernel,by decide +kernel⟩
theorem sc_Blocks_joined:FnScope ["self", "some", "base", "block", "symbol"] ["self", "some"] (qb_ q0_):=⟨rfl,rfl,rfl,by decide +kernel,rfl,by decide +kernel,by decide +kernel⟩
theorem vM_:FnScope ["self", "factor", "block"] ["self", "factor", "block"] (qb_ q1_):=⟨rfl,rfl,rfl,by decide +kernel,rfl,by decide +kernel,by decide +kernel⟩
theorem sc_Blocks_summed:FnScope ["self", "factors", "some", "total", "factor", "block"] ["self", "factors", "some"] (qb_ q2_):=⟨rfl,rfl,rfl,by decide +kernel,rfl,by decide +kernel,by decide +kernel⟩
theorem sc_check_lengths:FnScope ["weights", "data", "some"] ["weights"] (qb_ q3_):=⟨rfl,rfl,rfl,by decide +kernel,rfl,by decide +kernel,by decide +kernel⟩
theorem sc_check_weights:FnScope ["field", "weights", "some", "weight", "role"] ["field", "weights"] (qb_ q4_):=⟨rfl,rfl,rfl,by decide +kernel,rfl,by decide +kernel,by decide +kernel⟩
theorem sc_equation_of:FnScope ["weights", "total", "line", "other"] ["weights", "total"] (qb_ jj_):=⟨rfl,rfl,rfl,by decide +kernel,rfl,by decide +kernel,by decide +kernel⟩
theorem qa8_:FnScope ["self", "blocks", "weights"] ["self", "blocks", "weights"] (qb_ jG_):=⟨rfl,rfl,rfl,by decide +kernel,rfl,by decide +kernel,by decide +kernel⟩
theorem qa9_:FnScope ["self", "known", "role"] ["self", "known", "role"] (qb_ jH_):=⟨rfl,rfl,rfl,by decide +kernel,rfl,by decide +kernel,by decide +kernel⟩
theorem va_:FnScope ["self", "role"] ["self", "role"] (qb_ qR_):=⟨rfl,rfl,rfl,by decide +kernel,rfl,by decide +kernel,by decide +kernel⟩
theorem qad_:FnScope ["self", "known", "role"] ["self", "known", "role"] (qb_ ju_):=⟨rfl,rfl,rfl,by decide +kernel,rfl,by decide +kernel,by decide +kernel⟩
theorem sc_Code_summed_by:FnScope ["self", "by", "row", "line", "factor", "equation", "told"] ["self", "by", "row"] (qb_ qY_):=⟨rfl,rfl,rfl,by decide +kernel,rfl,by decide +kernel,by decide +kernel⟩
theorem sc_Code_reckoned:FnScope ["self", "row", "role", "told"] ["self", "row", "role"] (qb_ q5_):=⟨rfl,rfl,rfl,by decide +kernel,rfl,by decide +kernel,by decide +kernel⟩
theorem sc_fixes_all:FnScope ["code", "known", "some", "role"] ["code", "known", "some"] (qb_ jI_):=⟨rfl,rfl,rfl,by decide +kernel,rfl,by decide +kernel,by decide +kernel⟩
theorem uA_:FnScope ["self", "code", "ask", "costs"] ["self", "code", "ask", "costs"] (qb_ jk_):=⟨rfl,rfl,rfl,by decide +kernel,rfl,by decide +kernel,by decide +kernel⟩
theorem qae_:FnScope ["self", "role"] ["self", "role"] (qb_ jv_):=⟨rfl,rfl,rfl,by decide +kernel,rfl,by decide +kernel,by decide +kernel⟩
theorem uB_:FnScope ["self", "role"] ["self", "role"] (qb_ jl_):=⟨rfl,rfl,rfl,by decide +kernel,rfl,by decide +kernel,by decide +kernel⟩
theorem sc_Asking_take_along:FnScope ["self", "some", "role"] ["self", "some"] (qb_ qJ_):=⟨rfl,rfl,rfl,by decide +kernel,rfl,by decide +kernel,by decide +kernel⟩
theorem ui_:FnScope ["self"] ["self"] (qb_ q9_):=⟨rfl,rfl,rfl,by decide +kernel,rfl,by decide +kernel,by decide +kernel⟩
theorem uj_:FnScope ["self", "some"] ["self", "some"] (qb_ ja_):=⟨rfl,rfl,rfl,by decide +kernel,rfl,by decide +kernel,by decide +kernel⟩
theorem vb_:FnScope ["self", "some"] ["self", "some"] (qb_ qS_):=⟨rfl,rfl,rfl,by decide +kernel,rfl,by decide +kernel,by decide +kernel⟩
theorem sc_Asking_order:FnScope ["self", "free"] ["self"] (qb_ jb_):=⟨rfl,rfl,rfl,by decide +kernel,rfl,by decide +kernel,by decide +kernel⟩
theorem sc_Asking_detour:FnScope ["self", "some", "order", "known", "way", "role"] ["self", "some"] (qb_ q6_):=⟨rfl,rfl,rfl,by decide +kernel,rfl,by decide +kernel,by decide +kernel⟩
theorem vc_:FnScope ["self", "role"] ["self", "role"] (qb_ qT_):=⟨rfl,rfl,rfl,by decide +kernel,rfl,by decide +kernel,by decide +kernel⟩
theorem sc_read_role:FnScope ["asking", "role", "way"] ["asking", "role"] (qb_ jJ_):=⟨rfl,rfl,rfl,by decide +kernel,rfl,by decide +kernel,by decide +kernel⟩
theorem sc_cell:FnScope ["_law_script", "_law_k", "_law_number"] ["_law_script", "_law_k"] (qb_ yP_):=⟨rfl,rfl,rfl,by decide +kernel,rfl,by decide +kernel,by decide +kernel⟩
theorem qgy_:FnScope ["_law_found"] ["_law_found"] (qb_ yp_):=⟨rfl,rfl,rfl,by decide +kernel,rfl,by decide +kernel,by decide +kernel⟩
theorem qio_:FnScope ["_law_cell_here"] ["_law_cell_here"] (qb_ yQ_):=⟨rfl,rfl,rfl,by decide +kernel,rfl,by decide +kernel,by decide +kernel⟩
theorem sc_times:FnScope ["_law_one", "_law_other", "_law_rule_here", "_law_found"] ["_law_one", "_law_other", "_law_rule_here"] (qb_ yq_):=⟨rfl,rfl,rfl,by decide +kernel,rfl,by decide +kernel,by decide +kernel⟩
theorem sc_scaled:FnScope ["_law_factor", "_law_block", "_law_rule_here", "_law_size", "_law_found", "_law_place"] ["_law_factor", "_law_block", "_law_rule_here"] (qb_ ya_):=⟨rfl,rfl,rfl,by decide +kernel,rfl,by decide +kernel,by decide +kernel⟩
theorem sc_make:FnScope ["_law_some_here", "_law_weights_here", "_law_rule_here", "_law_made", "_law_line", "_law_total", "_law_factor", "_law_block"] ["_law_some_here", "_law_weights_here", "_law_rule_here"] (qb_ yR_):=⟨rfl,rfl,rfl,by decide +kernel,rfl,by decide +kernel,by decide +kernel⟩
theorem sc_some:FnScope ["_law_script", "_law_start", "_law_many", "_law_limit", "_law_some_here", "_law_k", "_law_number"] ["_law_script", "_law_start", "_law_many", "_law_limit"] (qb_ yS_):=⟨rfl,rfl,rfl,by decide +kernel,rfl,by decide +kernel,by decide +kernel⟩
theorem sc_sizes:FnScope ["_law_cell_here", "_law_sums"] ["_law_cell_here"] (qb_ yr_):=⟨rfl,rfl,rfl,by decide +kernel,rfl,by decide +kernel,by decide +kernel⟩
theorem sc_costs:FnScope ["_law_cell_here", "_law_roles", "_law_left", "_law_costs_here", "_law_k"] ["_law_cell_here", "_law_roles"] (qb_ ys_):=⟨rfl,rfl,rfl,by decide +kernel,rfl,by decide +kernel,by decide +kernel⟩
theorem sc_kinds:FnScope ["_law_cell_here", "_law_roles", "_law_left", "_law_kinds_here", "_law_k"] ["_law_cell_here", "_law_roles"] (qb_ yt_):=⟨rfl,rfl,rfl,by decide +kernel,rfl,by decide +kernel,by decide +kernel⟩
theorem sc_stream:FnScope ["_law_cell_here", "_law_many", "_law_number", "_law_found", "_law_k"] ["_law_cell_here", "_law_many"] (qb_ yb_):=⟨rfl,rfl,rfl,by decide +kernel,rfl,by decide +kernel,by decide +kernel⟩
theorem sc_weights:FnScope ["_law_cell_here", "_law_data", "_law_sums", "_law_last", "_law_numbers", "_law_lists", "_law_total", "_law_line", "_law_role", "_law_number"] ["_law_cell_here", "_law_data", "_law_sums", "_law_last"] (qb_ j0_):=⟨rfl,rfl,rfl,by decide +kernel,rfl,by decide +kernel,by decide +kernel⟩
theorem sc_columns:FnScope ["_law_weights_here", "_law_columns_here"] ["_law_weights_here"] (qb_ j1_):=⟨rfl,rfl,rfl,by decide +kernel,rfl,by decide +kernel,by decide +kernel⟩
theorem qgz_:FnScope ["_law_one", "_law_two", "_law_rule_here"] ["_law_one", "_law_two", "_law_rule_here"] (qb_ yu_):=⟨rfl,rfl,rfl,by decide +kernel,rfl,by decide +kernel,by decide +kernel⟩
theorem sc_fixed:FnScope ["_law_columns_here", "_law_held", "_law_role", "_law_rule_here", "_law_others", "_law_column"] ["_law_columns_here", "_law_held", "_law_role", "_law_rule_here"] (qb_ yv_):=⟨rfl,rfl,rfl,by decide +kernel,rfl,by decide +kernel,by decide +kernel⟩
theorem sc_asker:FnScope ["_law_row", "_law_seen_here", "_law_ask"] ["_law_row", "_law_seen_here"] (qb_ yh_):=⟨rfl,rfl,rfl,by decide +kernel,rfl,by decide +kernel,by decide +kernel⟩
theorem sc_seen:FnScope ["_law_asking", "_law_seen_here", "_law_row", "_law_costs_here", "_law_due", "_law_role"] ["_law_asking", "_law_seen_here", "_law_row", "_law_costs_here"] (qb_ yT_):=⟨rfl,rfl,rfl,by decide +kernel,rfl,by decide +kernel,by decide +kernel⟩
theorem sc_scene:FnScope ["_law_code", "_law_told", "_law_make_here", "_law_kinds_here", "_law_costs_here", "_law_role", "_law_row", "_law_stands", "_law_other", "_law_kind", "_law_seen_here", "_law_asking", "_law_found"] ["_law_code", "_law_told", "_law_make_here", "_law_kinds_here", "_law_costs_here", "_law_role"] (qb_ yw_):=⟨rfl,rfl,rfl,by decide +kernel,rfl,by decide +kernel,by decide +kernel⟩
theorem sc_law:FnScope ["_law_script", "_law_data", "_law_sums", "_law_rule_here", "_law_many", "_law_width", "_law_weights_here", "_law_make_here", "_law_code", "_law_roles", "_law_told", "_law_at", "_law_costs_here", "_law_other"] ["_law_script"] (qb_ zc_):=⟨rfl,rfl,rfl,by decide +kernel,rfl,by decide +kernel,by decide +kernel⟩
structure Adr where
 C_Field:Addr
 C_Blocks:Addr
 C_Code:Addr
 C_Asking:Addr
 f_Field_init:Addr
 d_Field_init:FuncData
 f_Field_doublings_of_one:Addr
 d_Field_doublings_of_one:FuncData
 f_Field_double:Addr
 d_Field_double:FuncData
 f_Field_times:Addr
 d_Field_times:FuncData
 f_Field_back:Addr
 d_Field_back:FuncData
 f_Field_power:Addr
 d_Field_power:FuncData
 f_unit:Addr
 d_unit:FuncData
 f_scaled_line:Addr
 d_scaled_line:FuncData
 f_sum_of_two:Addr
 d_sum_of_two:FuncData
 f_first_with:Addr
 d_first_with:FuncData
 f_swapped:Addr
 d_swapped:FuncData
 f_cleared:Addr
 d_cleared:FuncData
 f_told_of:Addr
 d_told_of:FuncData
 f_free_make:Addr
 d_free_make:FuncData
 f_Blocks_init:Addr
 d_Blocks_init:FuncData
 f_Blocks_symbols:Addr
 d_Blocks_symbols:FuncData
 f_Blocks_joined:Addr
 d_Blocks_joined:FuncData
 f_Blocks_scaled:Addr
 d_Blocks_scaled:FuncData
 f_Blocks_summed:Addr
 d_Blocks_summed:FuncData
 f_check_lengths:Addr
 d_check_lengths:FuncData
 f_check_weights:Addr
 d_check_weights:FuncData
 f_equation_of:Addr
 d_equation_of:FuncData
 f_Code_init:Addr
 d_Code_init:FuncData
 f_Code_told:Addr
 d_Code_told:FuncData
 f_Code_check_role:Addr
 d_Code_check_role:FuncData
 f_Code_fixes:Addr
 d_Code_fixes:FuncData
 f_Code_summed_by:Addr
 d_Code_summed_by:FuncData
 f_Code_reckoned:Addr
 d_Code_reckoned:FuncData
 f_fixes_all:Addr
 d_fixes_all:FuncData
 f_Asking_init:Addr
 d_Asking_init:FuncData
 f_Asking_may:Addr
 d_Asking_may:FuncData
 f_Asking_take:Addr
 d_Asking_take:FuncData
 f_Asking_take_along:Addr
 d_Asking_take_along:FuncData
 f_Asking_known:Addr
 d_Asking_known:FuncData
 f_Asking_fixes:Addr
 d_Asking_fixes:FuncData
 f_Asking_cost_sum:Addr
 d_Asking_cost_sum:FuncData
 f_Asking_order:Addr
 d_Asking_order:FuncData
 f_Asking_detour:Addr
 d_Asking_detour:FuncData
 f_Asking_block_of:Addr
 d_Asking_block_of:FuncData
 f_read_role:Addr
 d_read_role:FuncData
 f_cell:Addr
 d_cell:FuncData
 f_whole:Addr
 d_whole:FuncData
 f_rule:Addr
 d_rule:FuncData
 f_times:Addr
 d_times:FuncData
 f_scaled:Addr
 d_scaled:FuncData
 f_make:Addr
 d_make:FuncData
 f_some:Addr
 d_some:FuncData
 f_sizes:Addr
 d_sizes:FuncData
 f_costs:Addr
 d_costs:FuncData
 f_kinds:Addr
 d_kinds:FuncData
 f_stream:Addr
 d_stream:FuncData
 f_weights:Addr
 d_weights:FuncData
 f_columns:Addr
 d_columns:FuncData
 f_along:Addr
 d_along:FuncData
 f_fixed:Addr
 d_fixed:FuncData
 f_asker:Addr
 d_asker:FuncData
 f_seen:Addr
 d_seen:FuncData
 f_scene:Addr
 d_scene:FuncData
 f_law:Addr
 d_law:FuncData
 c_Asking_order:Addr
 t_Asking_order:Addr
 c_asker:Addr
 t_asker:Addr
 t_MOST_SUMS:Tok
 t_MOST_ROLES:Tok
 t_MOST_SYMBOLS:Tok
 t_GREATEST_RULE:Tok
 t_LEAST_RULE:Tok
structure Txt (K:W.Frag) (mg:Str->Option Value) (a:Adr):Prop where
 cl_Field:Cls K a.C_Field
 m_Field:mg "Field" = some (.ref a.C_Field)
 no_Field_rule:NoAttr K a.C_Field "rule"
 no_Field_width:NoAttr K a.C_Field "width"
 no_Field_last:NoAttr K a.C_Field "last"
 mk_Field:Mk K a.C_Field a.f_Field_init
 cl_Blocks:Cls K a.C_Blocks
 m_Blocks:mg "Blocks" = some (.ref a.C_Blocks)
 no_Blocks_field:NoAttr K a.C_Blocks "field"
 no_Blocks_many:NoAttr K a.C_Blocks "many"
 no_Blocks_limit:NoAttr K a.C_Blocks "limit"
 mk_Blocks:Mk K a.C_Blocks a.f_Blocks_init
 cl_Code:Cls K a.C_Code
 m_Code:mg "Code" = some (.ref a.C_Code)
 no_Code_blocks:NoAttr K a.C_Code "blocks"
 no_Code_sums:NoAttr K a.C_Code "sums"
 no_Code_data:NoAttr K a.C_Code "data"
 no_Code_roles:NoAttr K a.C_Code "roles"
 no_Code_lines:NoAttr K a.C_Code "lines"
 mk_Code:Mk K a.C_Code a.f_Code_init
 cl_Asking:Cls K a.C_Asking
 m_Asking:mg "Asking" = some (.ref a.C_Asking)
 no_Asking_code:NoAttr K a.C_Asking "code"
 no_Asking_ask:NoAttr K a.C_Asking "ask"
 no_Asking_costs:NoAttr K a.C_Asking "costs"
 no_Asking_row:NoAttr K a.C_Asking "row"
 no_Asking_asked:NoAttr K a.C_Asking "asked"
 mk_Asking:Mk K a.C_Asking a.f_Asking_init
 F_Field_init:Fun K "__init__" "Field.__init__" jq_ a.f_Field_init a.d_Field_init
 b_Field_init:Binds K a.d_Field_init ["self", "rule"] []
 k_Field_init:W.keepIn K (.ref a.f_Field_init) = true
 me_Field_init:Meth K a.C_Field "__init__" a.f_Field_init
 F_Field_doublings_of_one:Fun K "doublings_of_one" "Field.doublings_of_one" qE_ a.f_Field_doublings_of_one a.d_Field_doublings_of_one
 b_Field_doublings_of_one:Binds K a.d_Field_doublings_of_one ["self"] []
 k_Field_doublings_of_one:W.keepIn K (.ref a.f_Field_doublings_of_one) = true
 me_Field_doublings_of_one:Meth K a.C_Field "doublings_of_one" a.f_Field_doublings_of_one
 F_Field_double:Fun K "double" "Field.double" q8_ a.f_Field_double a.d_Field_double
 b_Field_double:Binds K a.d_Field_double ["self", "one"] []
 k_Field_double:W.keepIn K (.ref a.f_Field_double) = true
 me_Field_double:Meth K a.C_Field "double" a.f_Field_double
 F_Field_times:Fun K "times" "Field.times" jf_ a.f_Field_times a.d_Field_times
 b_Field_times:Binds K a.d_Field_times ["self", "one", "other"] []
 k_Field_times:W.keepIn K (.ref a.f_Field_times) = true
 me_Field_times:Meth K a.C_Field "times" a.f_Field_times
 F_Field_back:Fun K "back" "Field.back" jr_ a.f_Field_back a.d_Field_back
 b_Field_back:Binds K a.d_Field_back ["self", "one"] []
 k_Field_back:W.keepIn K (.ref a.f_Field_back) = true
 me_Field_back:Meth K a.C_Field "back" a.f_Field_back
 F_Field_power:Fun K "power" "Field.power" jg_ a.f_Field_power a.d_Field_power
 b_Field_power:Binds K a.d_Field_power ["self", "one", "many"] []
 k_Field_power:W.keepIn K (.ref a.f_Field_power) = true
 me_Field_power:Meth K a.C_Field "power" a.f_Field_power
 F_unit:Fun K "unit" "unit" yO_ a.f_unit a.d_unit
 b_unit:Binds K a.d_unit ["many", "at"] []
 k_unit:W.keepIn K (.ref a.f_unit) = true
 m_unit:mg "unit" = some (.ref a.f_unit)
 F_scaled_line:Fun K "scaled_line" "scaled_line" jh_ a.f_scaled_line a.d_scaled_line
 b_scaled_line:Binds K a.d_scaled_line ["field", "factor", "line"] []
 k_scaled_line:W.keepIn K (.ref a.f_scaled_line) = true
 m_scaled_line:mg "scaled_line" = some (.ref a.f_scaled_line)
 F_sum_of_two:Fun K "sum_of_two" "sum_of_two" js_ a.f_sum_of_two a.d_sum_of_two
 b_sum_of_two:Binds K a.d_sum_of_two ["one", "other"] []
 k_sum_of_two:W.keepIn K (.ref a.f_sum_of_two) = true
 m_sum_of_two:mg "sum_of_two" = some (.ref a.f_sum_of_two)
 F_first_with:Fun K "first_with" "first_with" jt_ a.f_first_with a.d_first_with
 b_first_with:Binds K a.d_first_with ["lines", "start", "place"] []
 k_first_with:W.keepIn K (.ref a.f_first_with) = true
 m_first_with:mg "first_with" = some (.ref a.f_first_with)
 F_swapped:Fun K "swapped" "swapped" jX_ a.f_swapped a.d_swapped
 b_swapped:Binds K a.d_swapped ["lines", "one", "other"] []
 k_swapped:W.keepIn K (.ref a.f_swapped) = true
 m_swapped:mg "swapped" = some (.ref a.f_swapped)
 F_cleared:Fun K "cleared" "cleared" jY_ a.f_cleared a.d_cleared
 b_cleared:Binds K a.d_cleared ["field", "lines", "at", "place"] []
 k_cleared:W.keepIn K (.ref a.f_cleared) = true
 m_cleared:mg "cleared" = some (.ref a.f_cleared)
 F_told_of:Fun K "told_of" "told_of" jZ_ a.f_told_of a.d_told_of
 b_told_of:Binds K a.d_told_of ["field", "lines", "known", "place"] []
 k_told_of:W.keepIn K (.ref a.f_told_of) = true
 m_told_of:mg "told_of" = some (.ref a.f_told_of)
 F_free_make:Fun K "free_make" "free_make" jF_ a.f_free_make a.d_free_make
 b_free_make:Binds K a.d_free_make ["lines", "heads", "many", "place"] []
 k_free_make:W.keepIn K (.ref a.f_free_make) = true
 m_free_make:mg "free_make" = some (.ref a.f_free_make)
 F_Blocks_init:Fun K "__init__" "Blocks.__init__" ji_ a.f_Blocks_init a.d_Blocks_init
 b_Blocks_init:Binds K a.d_Blocks_init ["self", "field", "many"] []
 k_Blocks_init:W.keepIn K (.ref a.f_Blocks_init) = true
 me_Blocks_init:Meth K a.C_Blocks "__init__" a.f_Blocks_init
 F_Blocks_symbols:Fun K "symbols" "Blocks.symbols" qX_ a.f_Blocks_symbols a.d_Blocks_symbols
 b_Blocks_symbols:Binds K a.d_Blocks_symbols ["self", "block"] []
 k_Blocks_symbols:W.keepIn K (.ref a.f_Blocks_symbols) = true
 me_Blocks_symbols:Meth K a.C_Blocks "symbols" a.f_Blocks_symbols
 F_Blocks_joined:Fun K "joined" "Blocks.joined" q0_ a.f_Blocks_joined a.d_Blocks_joined
 b_Blocks_joined:Binds K a.d_Blocks_joined ["self", "some"] []
 k_Blocks_joined:W.keepIn K (.ref a.f_Blocks_joined) = true
 me_Blocks_joined:Meth K a.C_Blocks "joined" a.f_Blocks_joined
 F_Blocks_scaled:Fun K "scaled" "Blocks.scaled" q1_ a.f_Blocks_scaled a.d_Blocks_scaled
 b_Blocks_scaled:Binds K a.d_Blocks_scaled ["self", "factor", "block"] []
 k_Blocks_scaled:W.keepIn K (.ref a.f_Blocks_scaled) = true
 me_Blocks_scaled:Meth K a.C_Blocks "scaled" a.f_Blocks_scaled
 F_Blocks_summed:Fun K "summed" "Blocks.summed" q2_ a.f_Blocks_summed a.d_Blocks_summed
 b_Blocks_summed:Binds K a.d_Blocks_summed ["self", "factors", "some"] []
 k_Blocks_summed:W.keepIn K (.ref a.f_Blocks_summed) = true
 me_Blocks_summed:Meth K a.C_Blocks "summed" a.f_Blocks_summed
 F_check_lengths:Fun K "check_lengths" "check_lengths" q3_ a.f_check_lengths a.d_check_lengths
 b_check_lengths:Binds K a.d_check_lengths ["weights"] []
 k_check_lengths:W.keepIn K (.ref a.f_check_lengths) = true
 m_check_lengths:mg "check_lengths" = some (.ref a.f_check_lengths)
 F_check_weights:Fun K "check_weights" "check_weights" q4_ a.f_check_weights a.d_check_weights
 b_check_weights:Binds K a.d_check_weights ["field", "weights"] []
 k_check_weights:W.keepIn K (.ref a.f_check_weights) = true
 m_check_weights:mg "check_weights" = some (.ref a.f_check_weights)
 F_equation_of:Fun K "equation_of" "equation_of" jj_ a.f_equation_of a.d_equation_of
 b_equation_of:Binds K a.d_equation_of ["weights", "total"] []
 k_equation_of:W.keepIn K (.ref a.f_equation_of) = true
 m_equation_of:mg "equation_of" = some (.ref a.f_equation_of)
 F_Code_init:Fun K "__init__" "Code.__init__" jG_ a.f_Code_init a.d_Code_init
 b_Code_init:Binds K a.d_Code_init ["self", "blocks", "weights"] []
 k_Code_init:W.keepIn K (.ref a.f_Code_init) = true
 me_Code_init:Meth K a.C_Code "__init__" a.f_Code_init
 F_Code_told:Fun K "told" "Code.told" jH_ a.f_Code_told a.d_Code_told
 b_Code_told:Binds K a.d_Code_told ["self", "known", "role"] []
 k_Code_told:W.keepIn K (.ref a.f_Code_told) = true
 me_Code_told:Meth K a.C_Code "told" a.f_Code_told
 F_Code_check_role:Fun K "check_role" "Code.check_role" qR_ a.f_Code_check_role a.d_Code_check_role
 b_Code_check_role:Binds K a.d_Code_check_role ["self", "role"] []
 k_Code_check_role:W.keepIn K (.ref a.f_Code_check_role) = true
 me_Code_check_role:Meth K a.C_Code "check_role" a.f_Code_check_role
 F_Code_fixes:Fun K "fixes" "Code.fixes" ju_ a.f_Code_fixes a.d_Code_fixes
 b_Code_fixes:Binds K a.d_Code_fixes ["self", "known", "role"] []
 k_Code_fixes:W.keepIn K (.ref a.f_Code_fixes) = true
 me_Code_fixes:Meth K a.C_Code "fixes" a.f_Code_fixes
 F_Code_summed_by:Fun K "summed_by" "Code.summed_by" qY_ a.f_Code_summed_by a.d_Code_summed_by
 b_Code_summed_by:Binds K a.d_Code_summed_by ["self", "by", "row"] []
 k_Code_summed_by:W.keepIn K (.ref a.f_Code_summed_by) = true
 me_Code_summed_by:Meth K a.C_Code "summed_by" a.f_Code_summed_by
 F_Code_reckoned:Fun K "reckoned" "Code.reckoned" q5_ a.f_Code_reckoned a.d_Code_reckoned
 b_Code_reckoned:Binds K a.d_Code_reckoned ["self", "row", "role"] []
 k_Code_reckoned:W.keepIn K (.ref a.f_Code_reckoned) = true
 me_Code_reckoned:Meth K a.C_Code "reckoned" a.f_Code_reckoned
 F_fixes_all:Fun K "fixes_all" "fixes_all" jI_ a.f_fixes_all a.d_fixes_all
 b_fixes_all:Binds K a.d_fixes_all ["code", "known", "some"] []
 k_fixes_all:W.keepIn K (.ref a.f_fixes_all) = true
 m_fixes_all:mg "fixes_all" = some (.ref a.f_fixes_all)
 F_Asking_init:Fun K "__init__" "Asking.__init__" jk_ a.f_Asking_init a.d_Asking_init
 b_Asking_init:Binds K a.d_Asking_init ["self", "code", "ask", "costs"] []
 k_Asking_init:W.keepIn K (.ref a.f_Asking_init) = true
 me_Asking_init:Meth K a.C_Asking "__init__" a.f_Asking_init
 F_Asking_may:Fun K "may" "Asking.may" jv_ a.f_Asking_may a.d_Asking_may
 b_Asking_may:Binds K a.d_Asking_may ["self", "role"] []
 k_Asking_may:W.keepIn K (.ref a.f_Asking_may) = true
 me_Asking_may:Meth K a.C_Asking "may" a.f_Asking_may
 F_Asking_take:Fun K "take" "Asking.take" jl_ a.f_Asking_take a.d_Asking_take
 b_Asking_take:Binds K a.d_Asking_take ["self", "role"] []
 k_Asking_take:W.keepIn K (.ref a.f_Asking_take) = true
 me_Asking_take:Meth K a.C_Asking "take" a.f_Asking_take
 F_Asking_take_along:Fun K "take_along" "Asking.take_along" qJ_ a.f_Asking_take_along a.d_Asking_take_along
 b_Asking_take_along:Binds K a.d_Asking_take_along ["self", "some"] []
 k_Asking_take_along:W.keepIn K (.ref a.f_Asking_take_along) = true
 me_Asking_take_along:Meth K a.C_Asking "take_along" a.f_Asking_take_along
 F_Asking_known:Fun K "known" "Asking.known" q9_ a.f_Asking_known a.d_Asking_known
 b_Asking_known:Binds K a.d_Asking_known ["self"] []
 k_Asking_known:W.keepIn K (.ref a.f_Asking_known) = true
 me_Asking_known:Meth K a.C_Asking "known" a.f_Asking_known
 F_Asking_fixes:Fun K "fixes" "Asking.fixes" ja_ a.f_Asking_fixes a.d_Asking_fixes
 b_Asking_fixes:Binds K a.d_Asking_fixes ["self", "some"] []
 k_Asking_fixes:W.keepIn K (.ref a.f_Asking_fixes) = true
 me_Asking_fixes:Meth K a.C_Asking "fixes" a.f_Asking_fixes
 F_Asking_cost_sum:Fun K "cost_sum" "Asking.cost_sum" qS_ a.f_Asking_cost_sum a.d_Asking_cost_sum
 b_Asking_cost_sum:Binds K a.d_Asking_cost_sum ["self", "some"] []
 k_Asking_cost_sum:W.keepIn K (.ref a.f_Asking_cost_sum) = true
 me_Asking_cost_sum:Meth K a.C_Asking "cost_sum" a.f_Asking_cost_sum
 F_Asking_order:FunT K "order" "Asking.order" jb_ a.f_Asking_order a.d_Asking_order a.c_Asking_order a.t_Asking_order
 b_Asking_order:Binds K a.d_Asking_order ["self"] []
 k_Asking_order:W.keepIn K (.ref a.f_Asking_order) = true
 me_Asking_order:Meth K a.C_Asking "order" a.f_Asking_order
 F_Asking_detour:Fun K "detour" "Asking.detour" q6_ a.f_Asking_detour a.d_Asking_detour
 b_Asking_detour:Binds K a.d_Asking_detour ["self", "some"] []
 k_Asking_detour:W.keepIn K (.ref a.f_Asking_detour) = true
 me_Asking_detour:Meth K a.C_Asking "detour" a.f_Asking_detour
 F_Asking_block_of:Fun K "block_of" "Asking.block_of" qT_ a.f_Asking_block_of a.d_Asking_block_of
 b_Asking_block_of:Binds K a.d_Asking_block_of ["self", "role"] []
 k_Asking_block_of:W.keepIn K (.ref a.f_Asking_block_of) = true
 me_Asking_block_of:Meth K a.C_Asking "block_of" a.f_Asking_block_of
 F_read_role:Fun K "read_role" "read_role" jJ_ a.f_read_role a.d_read_role
 b_read_role:Binds K a.d_read_role ["asking", "role"] []
 k_read_role:W.keepIn K (.ref a.f_read_role) = true
 m_read_role:mg "read_role" = some (.ref a.f_read_role)
 F_cell:Fun K "_law_cell" "_law_cell" yP_ a.f_cell a.d_cell
 b_cell:Binds K a.d_cell ["_law_script", "_law_k"] []
 k_cell:W.keepIn K (.ref a.f_cell) = true
 m_cell:mg "_law_cell" = some (.ref a.f_cell)
 F_whole:Fun K "_law_whole" "_law_whole" yp_ a.f_whole a.d_whole
 b_whole:Binds K a.d_whole ["_law_found"] []
 k_whole:W.keepIn K (.ref a.f_whole) = true
 m_whole:mg "_law_whole" = some (.ref a.f_whole)
 F_rule:Fun K "_law_rule" "_law_rule" yQ_ a.f_rule a.d_rule
 b_rule:Binds K a.d_rule ["_law_cell_here"] []
 k_rule:W.keepIn K (.ref a.f_rule) = true
 m_rule:mg "_law_rule" = some (.ref a.f_rule)
 F_times:Fun K "_law_times" "_law_times" yq_ a.f_times a.d_times
 b_times:Binds K a.d_times ["_law_one", "_law_other", "_law_rule_here"] []
 k_times:W.keepIn K (.ref a.f_times) = true
 m_times:mg "_law_times" = some (.ref a.f_times)
 F_scaled:Fun K "_law_scaled" "_law_scaled" ya_ a.f_scaled a.d_scaled
 b_scaled:Binds K a.d_scaled ["_law_factor", "_law_block", "_law_rule_here"] []
 k_scaled:W.keepIn K (.ref a.f_scaled) = true
 m_scaled:mg "_law_scaled" = some (.ref a.f_scaled)
 F_make:Fun K "_law_make" "_law_make" yR_ a.f_make a.d_make
 b_make:Binds K a.d_make ["_law_some_here", "_law_weights_here", "_law_rule_here"] []
 k_make:W.keepIn K (.ref a.f_make) = true
 m_make:mg "_law_make" = some (.ref a.f_make)
 F_some:Fun K "_law_some" "_law_some" yS_ a.f_some a.d_some
 b_some:Binds K a.d_some ["_law_script", "_law_start", "_law_many", "_law_limit"] []
 k_some:W.keepIn K (.ref a.f_some) = true
 m_some:mg "_law_some" = some (.ref a.f_some)
 F_sizes:Fun K "_law_sizes" "_law_sizes" yr_ a.f_sizes a.d_sizes
 b_sizes:Binds K a.d_sizes ["_law_cell_here"] []
 k_sizes:W.keepIn K (.ref a.f_sizes) = true
 m_sizes:mg "_law_sizes" = some (.ref a.f_sizes)
 F_costs:Fun K "_law_costs" "_law_costs" ys_ a.f_costs a.d_costs
 b_costs:Binds K a.d_costs ["_law_cell_here", "_law_roles"] []
 k_costs:W.keepIn K (.ref a.f_costs) = true
 m_costs:mg "_law_costs" = some (.ref a.f_costs)
 F_kinds:Fun K "_law_kinds" "_law_kinds" yt_ a.f_kinds a.d_kinds
 b_kinds:Binds K a.d_kinds ["_law_cell_here", "_law_roles"] []
 k_kinds:W.keepIn K (.ref a.f_kinds) = true
 m_kinds:mg "_law_kinds" = some (.ref a.f_kinds)
 F_stream:Fun K "_law_stream" "_law_stream" yb_ a.f_stream a.d_stream
 b_stream:Binds K a.d_stream ["_law_cell_here", "_law_many"] []
 k_stream:W.keepIn K (.ref a.f_stream) = true
 m_stream:mg "_law_stream" = some (.ref a.f_stream)
 F_weights:Fun K "_law_weights" "_law_weights" j0_ a.f_weights a.d_weights
 b_weights:Binds K a.d_weights ["_law_cell_here", "_law_data", "_law_sums", "_law_last"] []
 k_weights:W.keepIn K (.ref a.f_weights) = true
 m_weights:mg "_law_weights" = some (.ref a.f_weights)
 F_columns:Fun K "_law_columns" "_law_columns" j1_ a.f_columns a.d_columns
 b_columns:Binds K a.d_columns ["_law_weights_here"] []
 k_columns:W.keepIn K (.ref a.f_columns) = true
 m_columns:mg "_law_columns" = some (.ref a.f_columns)
 F_along:Fun K "_law_along" "_law_along" yu_ a.f_along a.d_along
 b_along:Binds K a.d_along ["_law_one", "_law_two", "_law_rule_here"] []
 k_along:W.keepIn K (.ref a.f_along) = true
 m_along:mg "_law_along" = some (.ref a.f_along)
 F_fixed:Fun K "_law_fixed" "_law_fixed" yv_ a.f_fixed a.d_fixed
 b_fixed:Binds K a.d_fixed ["_law_columns_here", "_law_held", "_law_role", "_law_rule_here"] []
 k_fixed:W.keepIn K (.ref a.f_fixed) = true
 m_fixed:mg "_law_fixed" = some (.ref a.f_fixed)
 F_asker:FunT K "_law_asker" "_law_asker" yh_ a.f_asker a.d_asker a.c_asker a.t_asker
 b_asker:Binds K a.d_asker ["_law_row", "_law_seen_here"] []
 k_asker:W.keepIn K (.ref a.f_asker) = true
 m_asker:mg "_law_asker" = some (.ref a.f_asker)
 F_seen:Fun K "_law_seen" "_law_seen" yT_ a.f_seen a.d_seen
 b_seen:Binds K a.d_seen ["_law_asking", "_law_seen_here", "_law_row", "_law_costs_here"] []
 k_seen:W.keepIn K (.ref a.f_seen) = true
 m_seen:mg "_law_seen" = some (.ref a.f_seen)
 F_scene:Fun K "_law_scene" "_law_scene" yw_ a.f_scene a.d_scene
 b_scene:Binds K a.d_scene ["_law_code", "_law_told", "_law_make_here", "_law_kinds_here", "_law_costs_here", "_law_role"] []
 k_scene:W.keepIn K (.ref a.f_scene) = true
 m_scene:mg "_law_scene" = some (.ref a.f_scene)
 F_law:Fun K "law" "law" zc_ a.f_law a.d_law
 b_law:Binds K a.d_law ["_law_script"] []
 k_law:W.keepIn K (.ref a.f_law) = true
 m_law:mg "law" = some (.ref a.f_law)
 n_zip:mg "zip" = none
 n_range:mg "range" = none
 n_len:mg "len" = none
 n_list:mg "list" = none
 n_enumerate:mg "enumerate" = none
 n_reversed:mg "reversed" = none
 n_any:mg "any" = none
 n_sum:mg "sum" = none
 n_sorted:mg "sorted" = none
 n_isinstance:mg "isinstance" = none
 n_int:mg "int" = none
 n_bool:mg "bool" = none
 n_max:mg "max" = none
 n_min:mg "min" = none
 v_LEAST_RULE:mg "LEAST_RULE" = some (.int 16 a.t_LEAST_RULE)
 v_GREATEST_RULE:mg "GREATEST_RULE" = some (.int 511 a.t_GREATEST_RULE)
 v_MOST_SYMBOLS:mg "MOST_SYMBOLS" = some (.int 16 a.t_MOST_SYMBOLS)
 v_MOST_ROLES:mg "MOST_ROLES" = some (.int 8 a.t_MOST_ROLES)
 v_MOST_SUMS:mg "MOST_SUMS" = some (.int 2 a.t_MOST_SUMS)
structure Tb (base:Heap) (mg:Str->Option Value) (a:Adr):Prop where
 b_Asking_order:base.BuiltinsAt mg a.t_Asking_order
 n_Asking_order:mainGlobals ≠ a.t_Asking_order
 b_asker:base.BuiltinsAt mg a.t_asker
 n_asker:mainGlobals ≠ a.t_asker
 d_Asking_order_asker:a.t_Asking_order ≠ a.t_asker
theorem txt_mk {K:W.Frag}{h:Heap}{mg:Str->Option Value}{z0 z1 z2 z3 z4 z5 z6 z7 z8 z9 z10 z11 z12 z13 z14 z15 z16 z17 z18 z19 z20 z21 z22 z23 z24 z25 z26 z27 z28 z29 z30 z31 z32 z33 z34 z35 z36 z37 z38 z39 z40 z41 z42 z43 z44 z45 z46 z47 z48 z49 z50 z51 z52 z53 z54 z55 z56 z57 z58 z59 z60 z61 z62:Addr} (X:K.In h) (G:h.Ns mainGlobals mg)
  {z63 z64 z65 z66 z67:Tok}{z68 z69:Option Addr}{z70:Array (Option Value)}{z71 z72 z73 z74 z75 z76:Value}
  {z77 z78:Option Addr}{z79:Array (Option Value)}{z80 z81 z82 z83 z84 z85:Value}
  {z86 z87:Option Addr}{z88:Array (Option Value)}{z89 z90 z91 z92 z93 z94:Value}
  {z95 z96:Option Addr}{z97:Array (Option Value)}{z98 z99 z100 z101 z102 z103:Value}
  {z104 z105:Option Addr}{z106:Array (Option Value)}{z107 z108 z109 z110 z111 z112:Value}
  {z113 z114:Option Addr}{z115:Array (Option Value)}{z116 z117 z118 z119 z120 z121:Value}
  {z122 z123:Option Addr}{z124:Array (Option Value)}{z125 z126 z127 z128 z129 z130:Value}
  {z131 z132:Option Addr}{z133:Array (Option Value)}{z134 z135 z136 z137 z138 z139:Value}
  {z140 z141:Option Addr}{z142:Array (Option Value)}{z143 z144 z145 z146 z147 z148:Value}
  {z149 z150:Option Addr}{z151:Array (Option Value)}{z152 z153 z154 z155 z156 z157:Value}
  {z158 z159:Option Addr}{z160:Array (Option Value)}{z161 z162 z163 z164 z165 z166:Value}
  {z167 z168:Option Addr}{z169:Array (Option Value)}{z170 z171 z172 z173 z174 z175:Value}
  {z176 z177:Option Addr}{z178:Array (Option Value)}{z179 z180 z181 z182 z183 z184:Value}
  {z185 z186:Option Addr}{z187:Array (Option Value)}{z188 z189 z190 z191 z192 z193:Value}
  {z194 z195:Option Addr}{z196:Array (Option Value)}{z197 z198 z199 z200 z201 z202:Value}
  {z203 z204:Option Addr}{z205:Array (Option Value)}{z206 z207 z208 z209 z210 z211:Value}
  {z212 z213:Option Addr}{z214:Array (Option Value)}{z215 z216 z217 z218 z219 z220:Value}
  {z221 z222:Option Addr}{z223:Array (Option Value)}{z224 z225 z226 z227 z228 z229:Value}
  {z230 z231:Option Addr}{z232:Array (Option Value)}{z233 z234 z235 z236 z237 z238:Value}
  {z239 z240:Option Addr}{z241:Array (Option Value)}{z242 z243 z244 z245 z246 z247:Value}
  {z248 z249:Option Addr}{z250:Array (Option Value)}{z251 z252 z253 z254 z255 z256:Value}
  {z257 z258:Option Addr}{z259:Array (Option Value)}{z260 z261 z262 z263 z264 z265:Value}
  {z266 z267:Option Addr}{z268:Array (Option Value)}{z269 z270 z271 z272 z273 z274:Value}
  {z275 z276:Option Addr}{z277:Array (Option Value)}{z278 z279 z280 z281 z282 z283:Value}
  {z284 z285:Option Addr}{z286:Array (Option Value)}{z287 z288 z289 z290 z291 z292:Value}
  {z293 z294:Option Addr}{z295:Array (Option Value)}{z296 z297 z298 z299 z300 z301:Value}
  {z302 z303:Option Addr}{z304:Array (Option Value)}{z305 z306 z307 z308 z309 z310:Value}
  {z311 z312:Option Addr}{z313:Array (Option Value)}{z314 z315 z316 z317 z318 z319:Value}
  {z320 z321:Option Addr}{z322:Array (Option Value)}{z323 z324 z325 z326 z327 z328:Value}
  {z329 z330:Option Addr}{z331:Array (Option Value)}{z332 z333 z334 z335 z336 z337:Value}
  {z338 z339:Option Addr}{z340:Array (Option Value)}{z341 z342 z343 z344 z345 z346:Value}
  {z347 z348:Option Addr}{z349:Array (Option Value)}{z350 z351 z352 z353 z354 z355:Value}
  {z356 z357:Option Addr}{z358:Array (Option Value)}{z359 z360 z361 z362 z363 z364:Value}
  {z365 z366:Option Addr}{z367:Array (Option Value)}{z368 z369 z370 z371 z372 z373:Value}
  {z374 z375:Option Addr}{z376:Array (Option Value)}{z377 z378 z379 z380 z381 z382:Value}
  {z383 z384:Option Addr}{z385:Array (Option Value)}{z386 z387 z388 z389 z390 z391:Value}
  {z392 z393:Addr}{z394:Option Addr}{z395:Array Value}{z396:Array (Option Value)}
  {z397 z398:Option Addr}{z399:Array (Option Value)}{z400 z401 z402 z403 z404:Value}
  {z405 z406:Option Addr}{z407:Array (Option Value)}{z408 z409 z410 z411 z412 z413:Value}
  {z414 z415:Option Addr}{z416:Array (Option Value)}{z417 z418 z419 z420 z421 z422:Value}
  {z423 z424:Option Addr}{z425:Array (Option Value)}{z426 z427 z428 z429 z430 z431:Value}
  {z432 z433:Option Addr}{z434:Array (Option Value)}{z435 z436 z437 z438 z439 z440:Value}
  {z441 z442:Option Addr}{z443:Array (Option Value)}{z444 z445 z446 z447 z448 z449:Value}
  {z450 z451:Option Addr}{z452:Array (Option Value)}{z453 z454 z455 z456 z457 z458:Value}
  {z459 z460:Option Addr}{z461:Array (Option Value)}{z462 z463 z464 z465 z466 z467:Value}
  {z468 z469:Option Addr}{z470:Array (Option Value)}{z471 z472 z473 z474 z475 z476:Value}
  {z477 z478:Option Addr}{z479:Array (Option Value)}{z480 z481 z482 z483 z484 z485:Value}
  {z486 z487:Option Addr}{z488:Array (Option Value)}{z489 z490 z491 z492 z493 z494:Value}
  {z495 z496:Option Addr}{z497:Array (Option Value)}{z498 z499 z500 z501 z502 z503:Value}
  {z504 z505:Option Addr}{z506:Array (Option Value)}{z507 z508 z509 z510 z511 z512:Value}
  {z513 z514:Option Addr}{z515:Array (Option Value)}{z516 z517 z518 z519 z520 z521:Value}
  {z522 z523:Option Addr}{z524:Array (Option Value)}{z525 z526 z527 z528 z529 z530:Value}
  {z531 z532:Option Addr}{z533:Array (Option Value)}{z534 z535 z536 z537 z538 z539:Value}
  {z540 z541:Option Addr}{z542:Array (Option Value)}{z543 z544 z545 z546 z547 z548:Value}
  {z549 z550:Option Addr}{z551:Array (Option Value)}{z552 z553 z554 z555 z556 z557:Value}
  {z558 z559:Option Addr}{z560:Array (Option Value)}{z561 z562 z563 z564 z565 z566:Value}
  {z567 z568:Addr}{z569:Option Addr}{z570:Array Value}{z571:Array (Option Value)}
  {z572 z573:Option Addr}{z574:Array (Option Value)}{z575 z576 z577 z578 z579:Value}
  {z580 z581:Option Addr}{z582:Array (Option Value)}{z583 z584 z585 z586 z587 z588:Value}
  {z589 z590:Option Addr}{z591:Array (Option Value)}{z592 z593 z594 z595 z596 z597:Value}
  {z598 z599:Option Addr}{z600:Array (Option Value)}{z601 z602 z603 z604 z605 z606:Value}
  {ts:List Addr}
  (z607:W.nsIn K mainGlobals "Field" = some (some (.ref z0)))
  (z608:W.plainGet K z0 Str.empty = true)
  (z609:W.hasDictIn K z0 = true)
  (z610:W.plainOver K z0 = true)
  (z611:W.findIn K (.ref z0) "__setattr__" = some (some (.builtin "object.__setattr__")))
  (z612:W.findIn K (.ref z0) "rule" = some none)
  (z613:W.findIn K (.ref z0) "width" = some none)
  (z614:W.findIn K (.ref z0) "last" = some none)
  (z615:W.makesIn K z0 = true)
  (z616:W.keepIn K (.ref z0) = true)
  (z617:W.nsIn K mainGlobals "Blocks" = some (some (.ref z1)))
  (z618:W.plainGet K z1 Str.empty = true)
  (z619:W.hasDictIn K z1 = true)
  (z620:W.plainOver K z1 = true)
  (z621:W.findIn K (.ref z1) "__setattr__" = some (some (.builtin "object.__setattr__")))
  (z622:W.findIn K (.ref z1) "field" = some none)
  (z623:W.findIn K (.ref z1) "many" = some none)
  (z624:W.findIn K (.ref z1) "limit" = some none)
  (z625:W.makesIn K z1 = true)
  (z626:W.keepIn K (.ref z1) = true)
  (z627:W.nsIn K mainGlobals "Code" = some (some (.ref z2)))
  (z628:W.plainGet K z2 Str.empty = true)
  (z629:W.hasDictIn K z2 = true)
  (z630:W.plainOver K z2 = true)
  (z631:W.findIn K (.ref z2) "__setattr__" = some (some (.builtin "object.__setattr__")))
  (z632:W.findIn K (.ref z2) "blocks" = some none)
  (z633:W.findIn K (.ref z2) "sums" = some none)
  (z634:W.findIn K (.ref z2) "data" = some none)
  (z635:W.findIn K (.ref z2) "roles" = some none)
  (z636:W.findIn K (.ref z2) "lines" = some none)
  (z637:W.makesIn K z2 = true)
  (z638:W.keepIn K (.ref z2) = true)
  (z639:W.nsIn K mainGlobals "Asking" = some (some (.ref z3)))
  (z640:W.plainGet K z3 Str.empty = true)
  (z641:W.hasDictIn K z3 = true)
  (z642:W.plainOver K z3 = true)
  (z643:W.findIn K (.ref z3) "__setattr__" = some (some (.builtin "object.__setattr__")))
  (z644:W.findIn K (.ref z3) "code" = some none)
  (z645:W.findIn K (.ref z3) "ask" = some none)
  (z646:W.findIn K (.ref z3) "costs" = some none)
  (z647:W.findIn K (.ref z3) "row" = some none)
  (z648:W.findIn K (.ref z3) "asked" = some none)
  (z649:W.makesIn K z3 = true)
  (z650:W.keepIn K (.ref z3) = true)
  (z651:W.findIn K (.ref z0) "__init__" = some (some (.ref z4)))
  (z652:W.isFn K (.ref z4) = true)
  (z653:K.lookup z4 = some ⟨z71,z68,.func (W.fnOf "__init__" "Field.__init__" (qi_ jq_) (qh_ jq_) (qb_ jq_) .none z72 z73 z74 z69 z75 z76),z70⟩)
  (z654:W.codeIn K z75 "Field.__init__" = true)
  (z655:W.keepIn K (.ref z4) = true)
  (z656:W.findIn K (.ref z0) "doublings_of_one" = some (some (.ref z5)))
  (z657:W.isFn K (.ref z5) = true)
  (z658:K.lookup z5 = some ⟨z80,z77,.func (W.fnOf "doublings_of_one" "Field.doublings_of_one" (qi_ qE_) (qh_ qE_) (qb_ qE_) .none z81 z82 z83 z78 z84 z85),z79⟩)
  (z659:W.codeIn K z84 "Field.doublings_of_one" = true)
  (z660:W.keepIn K (.ref z5) = true)
  (z661:W.findIn K (.ref z0) "double" = some (some (.ref z6)))
  (z662:W.isFn K (.ref z6) = true)
  (z663:K.lookup z6 = some ⟨z89,z86,.func (W.fnOf "double" "Field.double" (qi_ q8_) (qh_ q8_) (qb_ q8_) .none z90 z91 z92 z87 z93 z94),z88⟩)
  (z664:W.codeIn K z93 "Field.double" = true)
  (z665:W.keepIn K (.ref z6) = true)
  (z666:W.findIn K (.ref z0) "times" = some (some (.ref z7)))
  (z667:W.isFn K (.ref z7) = true)
  (z668:K.lookup z7 = some ⟨z98,z95,.func (W.fnOf "times" "Field.times" (qi_ jf_) (qh_ jf_) (qb_ jf_) .none z99 z100 z101 z96 z102 z103),z97⟩)
  (z669:W.codeIn K z102 "Field.times" = true)
  (z670:W.keepIn K (.ref z7) = true)
  (z671:W.findIn K (.ref z0) "back" = some (some (.ref z8)))
  (z672:W.isFn K (.ref z8) = true)
  (z673:K.lookup z8 = some ⟨z107,z104,.func (W.fnOf "back" "Field.back" (qi_ jr_) (qh_ jr_) (qb_ jr_) .none z108 z109 z110 z105 z111 z112),z106⟩)
  (z674:W.codeIn K z111 "Field.back" = true)
  (z675:W.keepIn K (.ref z8) = true)
  (z676:W.findIn K (.ref z0) "power" = some (some (.ref z9)))
  (z677:W.isFn K (.ref z9) = true)
  (z678:K.lookup z9 = some ⟨z116,z113,.func (W.fnOf "power" "Field.power" (qi_ jg_) (qh_ jg_) (qb_ jg_) .none z117 z118 z119 z114 z120 z121),z115⟩)
  (z679:W.codeIn K z120 "Field.power" = true)
  (z680:W.keepIn K (.ref z9) = true)
  (z681:W.nsIn K mainGlobals "unit" = some (some (.ref z10)))
  (z682:K.lookup z10 = some ⟨z125,z122,.func (W.fnOf "unit" "unit" (qi_ yO_) (qh_ yO_) (qb_ yO_) .none z126 z127 z128 z123 z129 z130),z124⟩)
  (z683:W.codeIn K z129 "unit" = true)
  (z684:W.keepIn K (.ref z10) = true)
  (z685:W.nsIn K mainGlobals "scaled_line" = some (some (.ref z11)))
  (z686:K.lookup z11 = some ⟨z134,z131,.func (W.fnOf "scaled_line" "scaled_line" (qi_ jh_) (qh_ jh_) (qb_ jh_) .none z135 z136 z137 z132 z138 z139),z133⟩)
  (z687:W.codeIn K z138 "scaled_line" = true)
  (z688:W.keepIn K (.ref z11) = true)
  (z689:W.nsIn K mainGlobals "sum_of_two" = some (some (.ref z12)))
  (z690:K.lookup z12 = some ⟨z143,z140,.func (W.fnOf "sum_of_two" "sum_of_two" (qi_ js_) (qh_ js_) (qb_ js_) .none z144 z145 z146 z141 z147 z148),z142⟩)
  (z691:W.codeIn K z147 "sum_of_two" = true)
  (z692:W.keepIn K (.ref z12) = true)
  (z693:W.nsIn K mainGlobals "first_with" = some (some (.ref z13)))
  (z694:K.lookup z13 = some ⟨z152,z149,.func (W.fnOf "first_with" "first_with" (qi_ jt_) (qh_ jt_) (qb_ jt_) .none z153 z154 z155 z150 z156 z157),z151⟩)
  (z695:W.codeIn K z156 "first_with" = true)
  (z696:W.keepIn K (.ref z13) = true)
  (z697:W.nsIn K mainGlobals "swapped" = some (some (.ref z14)))
  (z698:K.lookup z14 = some ⟨z161,z158,.func (W.fnOf "swapped" "swapped" (qi_ jX_) (qh_ jX_) (qb_ jX_) .none z162 z163 z164 z159 z165 z166),z160⟩)
  (z699:W.codeIn K z165 "swapped" = true)
  (z700:W.keepIn K (.ref z14) = true)
  (z701:W.nsIn K mainGlobals "cleared" = some (some (.ref z15)))
  (z702:K.lookup z15 = some ⟨z170,z167,.func (W.fnOf "cleared" "cleared" (qi_ jY_) (qh_ jY_) (qb_ jY_) .none z171 z172 z173 z168 z174 z175),z169⟩)
  (z703:W.codeIn K z174 "cleared" = true)
  (z704:W.keepIn K (.ref z15) = true)
  (z705:W.nsIn K mainGlobals "told_of" = some (some (.ref z16)))
  (z706:K.lookup z16 = some ⟨z179,z176,.func (W.fnOf "told_of" "told_of" (qi_ jZ_) (qh_ jZ_) (qb_ jZ_) .none z180 z181 z182 z177 z183 z184),z178⟩)
  (z707:W.codeIn K z183 "told_of" = true)
  (z708:W.keepIn K (.ref z16) = true)
  (z709:W.nsIn K mainGlobals "free_make" = some (some (.ref z17)))
  (z710:K.lookup z17 = some ⟨z188,z185,.func (W.fnOf "free_make" "free_make" (qi_ jF_) (qh_ jF_) (qb_ jF_) .none z189 z190 z191 z186 z192 z193),z187⟩)
  (z711:W.codeIn K z192 "free_make" = true)
  (z712:W.keepIn K (.ref z17) = true)
  (z713:W.findIn K (.ref z1) "__init__" = some (some (.ref z18)))
  (z714:W.isFn K (.ref z18) = true)
  (z715:K.lookup z18 = some ⟨z197,z194,.func (W.fnOf "__init__" "Blocks.__init__" (qi_ ji_) (qh_ ji_) (qb_ ji_) .none z198 z199 z200 z195 z201 z202),z196⟩)
  (z716:W.codeIn K z201 "Blocks.__init__" = true)
  (z717:W.keepIn K (.ref z18) = true)
  (z718:W.findIn K (.ref z1) "symbols" = some (some (.ref z19)))
  (z719:W.isFn K (.ref z19) = true)
  (z720:K.lookup z19 = some ⟨z206,z203,.func (W.fnOf "symbols" "Blocks.symbols" (qi_ qX_) (qh_ qX_) (qb_ qX_) .none z207 z208 z209 z204 z210 z211),z205⟩)
  (z721:W.codeIn K z210 "Blocks.symbols" = true)
  (z722:W.keepIn K (.ref z19) = true)
  (z723:W.findIn K (.ref z1) "joined" = some (some (.ref z20)))
  (z724:W.isFn K (.ref z20) = true)
  (z725:K.lookup z20 = some ⟨z215,z212,.func (W.fnOf "joined" "Blocks.joined" (qi_ q0_) (qh_ q0_) (qb_ q0_) .none z216 z217 z218 z213 z219 z220),z214⟩)
  (z726:W.codeIn K z219 "Blocks.joined" = true)
  (z727:W.keepIn K (.ref z20) = true)
  (z728:W.findIn K (.ref z1) "scaled" = some (some (.ref z21)))
  (z729:W.isFn K (.ref z21) = true)
  (z730:K.lookup z21 = some ⟨z224,z221,.func (W.fnOf "scaled" "Blocks.scaled" (qi_ q1_) (qh_ q1_) (qb_ q1_) .none z225 z226 z227 z222 z228 z229),z223⟩)
  (z731:W.codeIn K z228 "Blocks.scaled" = true)
  (z732:W.keepIn K (.ref z21) = true)
  (z733:W.findIn K (.ref z1) "summed" = some (some (.ref z22)))
  (z734:W.isFn K (.ref z22) = true)
  (z735:K.lookup z22 = some ⟨z233,z230,.func (W.fnOf "summed" "Blocks.summed" (qi_ q2_) (qh_ q2_) (qb_ q2_) .none z234 z235 z236 z231 z237 z238),z232⟩)
  (z736:W.codeIn K z237 "Blocks.summed" = true)
  (z737:W.keepIn K (.ref z22) = true)
  (z738:W.nsIn K mainGlobals "check_lengths" = some (some (.ref z23)))
  (z739:K.lookup z23 = some ⟨z242,z239,.func (W.fnOf "check_lengths" "check_lengths" (qi_ q3_) (qh_ q3_) (qb_ q3_) .none z243 z244 z245 z240 z246 z247),z241⟩)
  (z740:W.codeIn K z246 "check_lengths" = true)
  (z741:W.keepIn K (.ref z23) = true)
  (z742:W.nsIn K mainGlobals "check_weights" = some (some (.ref z24)))
  (z743:K.lookup z24 = some ⟨z251,z248,.func (W.fnOf "check_weights" "check_weights" (qi_ q4_) (qh_ q4_) (qb_ q4_) .none z252 z253 z254 z249 z255 z256),z250⟩)
  (z744:W.codeIn K z255 "check_weights" = true)
  (z745:W.keepIn K (.ref z24) = true)
  (z746:W.nsIn K mainGlobals "equation_of" = some (some (.ref z25)))
  (z747:K.lookup z25 = some ⟨z260,z257,.func (W.fnOf "equation_of" "equation_of" (qi_ jj_) (qh_ jj_) (qb_ jj_) .none z261 z262 z263 z258 z264 z265),z259⟩)
  (z748:W.codeIn K z264 "equation_of" = true)
  (z749:W.keepIn K (.ref z25) = true)
  (z750:W.findIn K (.ref z2) "__init__" = some (some (.ref z26)))
  (z751:W.isFn K (.ref z26) = true)
  (z752:K.lookup z26 = some ⟨z269,z266,.func (W.fnOf "__init__" "Code.__init__" (qi_ jG_) (qh_ jG_) (qb_ jG_) .none z270 z271 z272 z267 z273 z274),z268⟩)
  (z753:W.codeIn K z273 "Code.__init__" = true)
  (z754:W.keepIn K (.ref z26) = true)
  (z755:W.findIn K (.ref z2) "told" = some (some (.ref z27)))
  (z756:W.isFn K (.ref z27) = true)
  (z757:K.lookup z27 = some ⟨z278,z275,.func (W.fnOf "told" "Code.told" (qi_ jH_) (qh_ jH_) (qb_ jH_) .none z279 z280 z281 z276 z282 z283),z277⟩)
  (z758:W.codeIn K z282 "Code.told" = true)
  (z759:W.keepIn K (.ref z27) = true)
  (z760:W.findIn K (.ref z2) "check_role" = some (some (.ref z28)))
  (z761:W.isFn K (.ref z28) = true)
  (z762:K.lookup z28 = some ⟨z287,z284,.func (W.fnOf "check_role" "Code.check_role" (qi_ qR_) (qh_ qR_) (qb_ qR_) .none z288 z289 z290 z285 z291 z292),z286⟩)
  (z763:W.codeIn K z291 "Code.check_role" = true)
  (z764:W.keepIn K (.ref z28) = true)
  (z765:W.findIn K (.ref z2) "fixes" = some (some (.ref z29)))
  (z766:W.isFn K (.ref z29) = true)
  (z767:K.lookup z29 = some ⟨z296,z293,.func (W.fnOf "fixes" "Code.fixes" (qi_ ju_) (qh_ ju_) (qb_ ju_) .none z297 z298 z299 z294 z300 z301),z295⟩)
  (z768:W.codeIn K z300 "Code.fixes" = true)
  (z769:W.keepIn K (.ref z29) = true)
  (z770:W.findIn K (.ref z2) "summed_by" = some (some (.ref z30)))
  (z771:W.isFn K (.ref z30) = true)
  (z772:K.lookup z30 = some ⟨z305,z302,.func (W.fnOf "summed_by" "Code.summed_by" (qi_ qY_) (qh_ qY_) (qb_ qY_) .none z306 z307 z308 z303 z309 z310),z304⟩)
  (z773:W.codeIn K z309 "Code.summed_by" = true)
  (z774:W.keepIn K (.ref z30) = true)
  (z775:W.findIn K (.ref z2) "reckoned" = some (some (.ref z31)))
  (z776:W.isFn K (.ref z31) = true)
  (z777:K.lookup z31 = some ⟨z314,z311,.func (W.fnOf "reckoned" "Code.reckoned" (qi_ q5_) (qh_ q5_) (qb_ q5_) .none z315 z316 z317 z312 z318 z319),z313⟩)
  (z778:W.codeIn K z318 "Code.reckoned" = true)
  (z779:W.keepIn K (.ref z31) = true)
  (z780:W.nsIn K mainGlobals "fixes_all" = some (some (.ref z32)))
  (z781:K.lookup z32 = some ⟨z323,z320,.func (W.fnOf "fixes_all" "fixes_all" (qi_ jI_) (qh_ jI_) (qb_ jI_) .none z324 z325 z326 z321 z327 z328),z322⟩)
  (z782:W.codeIn K z327 "fixes_all" = true)
  (z783:W.keepIn K (.ref z32) = true)
  (z784:W.findIn K (.ref z3) "__init__" = some (some (.ref z33)))
  (z785:W.isFn K (.ref z33) = true)
  (z786:K.lookup z33 = some ⟨z332,z329,.func (W.fnOf "__init__" "Asking.__init__" (qi_ jk_) (qh_ jk_) (qb_ jk_) .none z333 z334 z335 z330 z336 z337),z331⟩)
  (z787:W.codeIn K z336 "Asking.__init__" = true)
  (z788:W.keepIn K (.ref z33) = true)
  (z789:W.findIn K (.ref z3) "may" = some (some (.ref z34)))
  (z790:W.isFn K (.ref z34) = true)
  (z791:K.lookup z34 = some ⟨z341,z338,.func (W.fnOf "may" "Asking.may" (qi_ jv_) (qh_ jv_) (qb_ jv_) .none z342 z343 z344 z339 z345 z346),z340⟩)
  (z792:W.codeIn K z345 "Asking.may" = true)
  (z793:W.keepIn K (.ref z34) = true)
  (z794:W.findIn K (.ref z3) "take" = some (some (.ref z35)))
  (z795:W.isFn K (.ref z35) = true)
  (z796:K.lookup z35 = some ⟨z350,z347,.func (W.fnOf "take" "Asking.take" (qi_ jl_) (qh_ jl_) (qb_ jl_) .none z351 z352 z353 z348 z354 z355),z349⟩)
  (z797:W.codeIn K z354 "Asking.take" = true)
  (z798:W.keepIn K (.ref z35) = true)
  (z799:W.findIn K (.ref z3) "take_along" = some (some (.ref z36)))
  (z800:W.isFn K (.ref z36) = true)
  (z801:K.lookup z36 = some ⟨z359,z356,.func (W.fnOf "take_along" "Asking.take_along" (qi_ qJ_) (qh_ qJ_) (qb_ qJ_) .none z360 z361 z362 z357 z363 z364),z358⟩)
  (z802:W.codeIn K z363 "Asking.take_along" = true)
  (z803:W.keepIn K (.ref z36) = true)
  (z804:W.findIn K (.ref z3) "known" = some (some (.ref z37)))
  (z805:W.isFn K (.ref z37) = true)
  (z806:K.lookup z37 = some ⟨z368,z365,.func (W.fnOf "known" "Asking.known" (qi_ q9_) (qh_ q9_) (qb_ q9_) .none z369 z370 z371 z366 z372 z373),z367⟩)
  (z807:W.codeIn K z372 "Asking.known" = true)
  (z808:W.keepIn K (.ref z37) = true)
  (z809:W.findIn K (.ref z3) "fixes" = some (some (.ref z38)))
  (z810:W.isFn K (.ref z38) = true)
  (z811:K.lookup z38 = some ⟨z377,z374,.func (W.fnOf "fixes" "Asking.fixes" (qi_ ja_) (qh_ ja_) (qb_ ja_) .none z378 z379 z380 z375 z381 z382),z376⟩)
  (z812:W.codeIn K z381 "Asking.fixes" = true)
  (z813:W.keepIn K (.ref z38) = true)
  (z814:W.findIn K (.ref z3) "cost_sum" = some (some (.ref z39)))
  (z815:W.isFn K (.ref z39) = true)
  (z816:K.lookup z39 = some ⟨z386,z383,.func (W.fnOf "cost_sum" "Asking.cost_sum" (qi_ qS_) (qh_ qS_) (qb_ qS_) .none z387 z388 z389 z384 z390 z391),z385⟩)
  (z817:W.codeIn K z390 "Asking.cost_sum" = true)
  (z818:W.keepIn K (.ref z39) = true)
  (z819:W.findIn K (.ref z3) "order" = some (some (.ref z40)))
  (z820:W.isFn K (.ref z40) = true)
  (z821:K.lookup z40 = some ⟨z400,z397,.func (W.fnOf "order" "Asking.order" (qi_ jb_) (qh_ jb_) (qb_ jb_) .none z401 z402 z403 z398 (.ref z392) z404),z399⟩)
  (z822:W.codeIn K (.ref z392) "Asking.order" = true)
  (z823:K.lookup z392 = some ⟨.type "code",z394,.fields z395,z396⟩)
  (z824:z395[11]? = some (.ref z393))
  (z825:W.codeHdIn K z392 z393 = true)
  (z826:K.lookup z393 = none)
  (z827:W.keepIn K (.ref z40) = true)
  (z828:W.findIn K (.ref z3) "detour" = some (some (.ref z41)))
  (z829:W.isFn K (.ref z41) = true)
  (z830:K.lookup z41 = some ⟨z408,z405,.func (W.fnOf "detour" "Asking.detour" (qi_ q6_) (qh_ q6_) (qb_ q6_) .none z409 z410 z411 z406 z412 z413),z407⟩)
  (z831:W.codeIn K z412 "Asking.detour" = true)
  (z832:W.keepIn K (.ref z41) = true)
  (z833:W.findIn K (.ref z3) "block_of" = some (some (.ref z42)))
  (z834:W.isFn K (.ref z42) = true)
  (z835:K.lookup z42 = some ⟨z417,z414,.func (W.fnOf "block_of" "Asking.block_of" (qi_ qT_) (qh_ qT_) (qb_ qT_) .none z418 z419 z420 z415 z421 z422),z416⟩)
  (z836:W.codeIn K z421 "Asking.block_of" = true)
  (z837:W.keepIn K (.ref z42) = true)
  (z838:W.nsIn K mainGlobals "read_role" = some (some (.ref z43)))
  (z839:K.lookup z43 = some ⟨z426,z423,.func (W.fnOf "read_role" "read_role" (qi_ jJ_) (qh_ jJ_) (qb_ jJ_) .none z427 z428 z429 z424 z430 z431),z425⟩)
  (z840:W.codeIn K z430 "read_role" = true)
  (z841:W.keepIn K (.ref z43) = true)
  (z842:W.nsIn K mainGlobals "_law_cell" = some (some (.ref z44)))
  (z843:K.lookup z44 = some ⟨z435,z432,.func (W.fnOf "_law_cell" "_law_cell" (qi_ yP_) (qh_ yP_) (qb_ yP_) .none z436 z437 z438 z433 z439 z440),z434⟩)
  (z844:W.codeIn K z439 "_law_cell" = true)
  (z845:W.keepIn K (.ref z44) = true)
  (z846:W.nsIn K mainGlobals "_law_whole" = some (some (.ref z45)))
  (z847:K.lookup z45 = some ⟨z444,z441,.func (W.fnOf "_law_whole" "_law_whole" (qi_ yp_) (qh_ yp_) (qb_ yp_) .none z445 z446 z447 z442 z448 z449),z443⟩)
  (z848:W.codeIn K z448 "_law_whole" = true)
  (z849:W.keepIn K (.ref z45) = true)
  (z850:W.nsIn K mainGlobals "_law_rule" = some (some (.ref z46)))
  (z851:K.lookup z46 = some ⟨z453,z450,.func (W.fnOf "_law_rule" "_law_rule" (qi_ yQ_) (qh_ yQ_) (qb_ yQ_) .none z454 z455 z456 z451 z457 z458),z452⟩)
  (z852:W.codeIn K z457 "_law_rule" = true)
  (z853:W.keepIn K (.ref z46) = true)
  (z854:W.nsIn K mainGlobals "_law_times" = some (some (.ref z47)))
  (z855:K.lookup z47 = some ⟨z462,z459,.func (W.fnOf "_law_times" "_law_times" (qi_ yq_) (qh_ yq_) (qb_ yq_) .none z463 z464 z465 z460 z466 z467),z461⟩)
  (z856:W.codeIn K z466 "_law_times" = true)
  (z857:W.keepIn K (.ref z47) = true)
  (z858:W.nsIn K mainGlobals "_law_scaled" = some (some (.ref z48)))
  (z859:K.lookup z48 = some ⟨z471,z468,.func (W.fnOf "_law_scaled" "_law_scaled" (qi_ ya_) (qh_ ya_) (qb_ ya_) .none z472 z473 z474 z469 z475 z476),z470⟩)
  (z860:W.codeIn K z475 "_law_scaled" = true)
  (z861:W.keepIn K (.ref z48) = true)
  (z862:W.nsIn K mainGlobals "_law_make" = some (some (.ref z49)))
  (z863:K.lookup z49 = some ⟨z480,z477,.func (W.fnOf "_law_make" "_law_make" (qi_ yR_) (qh_ yR_) (qb_ yR_) .none z481 z482 z483 z478 z484 z485),z479⟩)
  (z864:W.codeIn K z484 "_law_make" = true)
  (z865:W.keepIn K (.ref z49) = true)
  (z866:W.nsIn K mainGlobals "_law_some" = some (some (.ref z50)))
  (z867:K.lookup z50 = some ⟨z489,z486,.func (W.fnOf "_law_some" "_law_some" (qi_ yS_) (qh_ yS_) (qb_ yS_) .none z490 z491 z492 z487 z493 z494),z488⟩)
  (z868:W.codeIn K z493 "_law_some" = true)
  (z869:W.keepIn K (.ref z50) = true)
  (z870:W.nsIn K mainGlobals "_law_sizes" = some (some (.ref z51)))
  (z871:K.lookup z51 = some ⟨z498,z495,.func (W.fnOf "_law_sizes" "_law_sizes" (qi_ yr_) (qh_ yr_) (qb_ yr_) .none z499 z500 z501 z496 z502 z503),z497⟩)
  (z872:W.codeIn K z502 "_law_sizes" = true)
  (z873:W.keepIn K (.ref z51) = true)
  (z874:W.nsIn K mainGlobals "_law_costs" = some (some (.ref z52)))
  (z875:K.lookup z52 = some ⟨z507,z504,.func (W.fnOf "_law_costs" "_law_costs" (qi_ ys_) (qh_ ys_) (qb_ ys_) .none z508 z509 z510 z505 z511 z512),z506⟩)
  (z876:W.codeIn K z511 "_law_costs" = true)
  (z877:W.keepIn K (.ref z52) = true)
  (z878:W.nsIn K mainGlobals "_law_kinds" = some (some (.ref z53)))
  (z879:K.lookup z53 = some ⟨z516,z513,.func (W.fnOf "_law_kinds" "_law_kinds" (qi_ yt_) (qh_ yt_) (qb_ yt_) .none z517 z518 z519 z514 z520 z521),z515⟩)
  (z880:W.codeIn K z520 "_law_kinds" = true)
  (z881:W.keepIn K (.ref z53) = true)
  (z882:W.nsIn K mainGlobals "_law_stream" = some (some (.ref z54)))
  (z883:K.lookup z54 = some ⟨z525,z522,.func (W.fnOf "_law_stream" "_law_stream" (qi_ yb_) (qh_ yb_) (qb_ yb_) .none z526 z527 z528 z523 z529 z530),z524⟩)
  (z884:W.codeIn K z529 "_law_stream" = true)
  (z885:W.keepIn K (.ref z54) = true)
  (z886:W.nsIn K mainGlobals "_law_weights" = some (some (.ref z55)))
  (z887:K.lookup z55 = some ⟨z534,z531,.func (W.fnOf "_law_weights" "_law_weights" (qi_ j0_) (qh_ j0_) (qb_ j0_) .none z535 z536 z537 z532 z538 z539),z533⟩)
  (z888:W.codeIn K z538 "_law_weights" = true)
  (z889:W.keepIn K (.ref z55) = true)
  (z890:W.nsIn K mainGlobals "_law_columns" = some (some (.ref z56)))
  (z891:K.lookup z56 = some ⟨z543,z540,.func (W.fnOf "_law_columns" "_law_columns" (qi_ j1_) (qh_ j1_) (qb_ j1_) .none z544 z545 z546 z541 z547 z548),z542⟩)
  (z892:W.codeIn K z547 "_law_columns" = true)
  (z893:W.keepIn K (.ref z56) = true)
  (z894:W.nsIn K mainGlobals "_law_along" = some (some (.ref z57)))
  (z895:K.lookup z57 = some ⟨z552,z549,.func (W.fnOf "_law_along" "_law_along" (qi_ yu_) (qh_ yu_) (qb_ yu_) .none z553 z554 z555 z550 z556 z557),z551⟩)
  (z896:W.codeIn K z556 "_law_along" = true)
  (z897:W.keepIn K (.ref z57) = true)
  (z898:W.nsIn K mainGlobals "_law_fixed" = some (some (.ref z58)))
  (z899:K.lookup z58 = some ⟨z561,z558,.func (W.fnOf "_law_fixed" "_law_fixed" (qi_ yv_) (qh_ yv_) (qb_ yv_) .none z562 z563 z564 z559 z565 z566),z560⟩)
  (z900:W.codeIn K z565 "_law_fixed" = true)
  (z901:W.keepIn K (.ref z58) = true)
  (z902:W.nsIn K mainGlobals "_law_asker" = some (some (.ref z59)))
  (z903:K.lookup z59 = some ⟨z575,z572,.func (W.fnOf "_law_asker" "_law_asker" (qi_ yh_) (qh_ yh_) (qb_ yh_) .none z576 z577 z578 z573 (.ref z567) z579),z574⟩)
  (z904:W.codeIn K (.ref z567) "_law_asker" = true)
  (z905:K.lookup z567 = some ⟨.type "code",z569,.fields z570,z571⟩)
  (z906:z570[11]? = some (.ref z568))
  (z907:W.codeHdIn K z567 z568 = true)
  (z908:K.lookup z568 = none)
  (z909:W.keepIn K (.ref z59) = true)
  (z910:W.nsIn K mainGlobals "_law_seen" = some (some (.ref z60)))
  (z911:K.lookup z60 = some ⟨z583,z580,.func (W.fnOf "_law_seen" "_law_seen" (qi_ yT_) (qh_ yT_) (qb_ yT_) .none z584 z585 z586 z581 z587 z588),z582⟩)
  (z912:W.codeIn K z587 "_law_seen" = true)
  (z913:W.keepIn K (.ref z60) = true)
  (z914:W.nsIn K mainGlobals "_law_scene" = some (some (.ref z61)))
  (z915:K.lookup z61 = some ⟨z592,z589,.func (W.fnOf "_law_scene" "_law_scene" (qi_ yw_) (qh_ yw_) (qb_ yw_) .none z593 z594 z595 z590 z596 z597),z591⟩)
  (z916:W.codeIn K z596 "_law_scene" = true)
  (z917:W.keepIn K (.ref z61) = true)
  (z918:W.nsIn K mainGlobals "law" = some (some (.ref z62)))
  (z919:K.lookup z62 = some ⟨z601,z598,.func (W.fnOf "law" "law" (qi_ zc_) (qh_ zc_) (qb_ zc_) .none z602 z603 z604 z599 z605 z606),z600⟩)
  (z920:W.codeIn K z605 "law" = true)
  (z921:W.keepIn K (.ref z62) = true)
  (z922:W.nsIn K mainGlobals "zip" = some none)
  (z923:W.nsIn K mainGlobals "range" = some none)
  (z924:W.nsIn K mainGlobals "len" = some none)
  (z925:W.nsIn K mainGlobals "list" = some none)
  (z926:W.nsIn K mainGlobals "enumerate" = some none)
  (z927:W.nsIn K mainGlobals "reversed" = some none)
  (z928:W.nsIn K mainGlobals "any" = some none)
  (z929:W.nsIn K mainGlobals "sum" = some none)
  (z930:W.nsIn K mainGlobals "sorted" = some none)
  (z931:W.nsIn K mainGlobals "isinstance" = some none)
  (z932:W.nsIn K mainGlobals "int" = some none)
  (z933:W.nsIn K mainGlobals "bool" = some none)
  (z934:W.nsIn K mainGlobals "max" = some none)
  (z935:W.nsIn K mainGlobals "min" = some none)
  (z936:W.nsIn K mainGlobals "LEAST_RULE" = some (some (.int 16 z63)))
  (z937:W.nsIn K mainGlobals "GREATEST_RULE" = some (some (.int 511 z64)))
  (z938:W.nsIn K mainGlobals "MOST_SYMBOLS" = some (some (.int 16 z65)))
  (z939:W.nsIn K mainGlobals "MOST_ROLES" = some (some (.int 8 z66)))
  (z940:W.nsIn K mainGlobals "MOST_SUMS" = some (some (.int 2 z67)))
  (ets:ts.Perm [z393,z568]) :
  ∃ a:Adr,Txt K mg a ∧ (∀ (s:Shared) (v:Value),BindsTo s a.d_law ⟨[v],[]⟩ [("_law_script",v)]) ∧ ts.Perm [a.t_Asking_order,a.t_asker] ∧ (∀ p ∈ ts,K.lookup p = none) ∧ ∀ p ∈ ts,∃ c,W.codeHdIn K c p = true:=by
 have y0:=qw_ (st:=jq_) z653 z654 z655
 have y1:=qw_ (st:=qE_) z658 z659 z660
 have y2:=qw_ (st:=q8_) z663 z664 z665
 have y3:=qw_ (st:=jf_) z668 z669 z670
 have y4:=qw_ (st:=jr_) z673 z674 z675
 have y5:=qw_ (st:=jg_) z678 z679 z680
 have y6:=qw_ (st:=yO_) z682 z683 z684
 have y7:=qw_ (st:=jh_) z686 z687 z688
 have y8:=qw_ (st:=js_) z690 z691 z692
 have y9:=qw_ (st:=jt_) z694 z695 z696
 have y10:=qw_ (st:=jX_) z698 z699 z700
 have y11:=qw_ (st:=jY_) z702 z703 z704
 have y12:=qw_ (st:=jZ_) z706 z707 z708
 have y13:=qw_ (st:=jF_) z710 z711 z712
 have y14:=qw_ (st:=ji_) z715 z716 z717
 have y15:=qw_ (st:=qX_) z720 z721 z722
 have y16:=qw_ (st:=q0_) z725 z726 z727
 have y17:=qw_ (st:=q1_) z730 z731 z732
 have y18:=qw_ (st:=q2_) z735 z736 z737
 have y19:=qw_ (st:=q3_) z739 z740 z741
 have y20:=qw_ (st:=q4_) z743 z744 z745
 have y21:=qw_ (st:=jj_) z747 z748 z749
 have y22:=qw_ (st:=jG_) z752 z753 z754
 have y23:=qw_ (st:=jH_) z757 z758 z759
 have y24:=qw_ (st:=qR_) z762 z763 z764
 have y25:=qw_ (st:=ju_) z767 z768 z769
 have y26:=qw_ (st:=qY_) z772 z773 z774
 have y27:=qw_ (st:=q5_) z777 z778 z779
 have y28:=qw_ (st:=jI_) z781 z782 z783
 have y29:=qw_ (st:=jk_) z786 z787 z788
 have y30:=qw_ (st:=jv_) z791 z792 z793
 have y31:=qw_ (st:=jl_) z796 z797 z798
 have y32:=qw_ (st:=qJ_) z801 z802 z803
 have y33:=qw_ (st:=q9_) z806 z807 z808
 have y34:=qw_ (st:=ja_) z811 z812 z813
 have y35:=qw_ (st:=qS_) z816 z817 z818
 have y36:=qc0_ (st:=jb_) z821 z822 z827 z825
 have y37:=qw_ (st:=q6_) z830 z831 z832
 have y38:=qw_ (st:=qT_) z835 z836 z837
 have y39:=qw_ (st:=jJ_) z839 z840 z841
 have y40:=qw_ (st:=yP_) z843 z844 z845
 have y41:=qw_ (st:=yp_) z847 z848 z849
 have y42:=qw_ (st:=yQ_) z851 z852 z853
 have y43:=qw_ (st:=yq_) z855 z856 z857
 have y44:=qw_ (st:=ya_) z859 z860 z861
 have y45:=qw_ (st:=yR_) z863 z864 z865
 have y46:=qw_ (st:=yS_) z867 z868 z869
 have y47:=qw_ (st:=yr_) z871 z872 z873
 have y48:=qw_ (st:=ys_) z875 z876 z877
 have y49:=qw_ (st:=yt_) z879 z880 z881
 have y50:=qw_ (st:=yb_) z883 z884 z885
 have y51:=qw_ (st:=j0_) z887 z888 z889
 have y52:=qw_ (st:=j1_) z891 z892 z893
 have y53:=qw_ (st:=yu_) z895 z896 z897
 have y54:=qw_ (st:=yv_) z899 z900 z901
 have y55:=qc0_ (st:=yh_) z903 z904 z909 z907
 have y56:=qw_ (st:=yT_) z911 z912 z913
 have y57:=qw_ (st:=yw_) z915 z916 z917
 have y58:=qw_ (st:=zc_) z919 z920 z921
 refine ⟨⟨z0,z1,z2,z3,z4,W.fnOf "__init__" "Field.__init__" (qi_ jq_) (qh_ jq_) (qb_ jq_) .none z72 z73 z74 z69 z75 z76,z5,W.fnOf "doublings_of_one" "Field.doublings_of_one" (qi_ qE_) (qh_ qE_) (qb_ qE_) .none z81 z82 z83 z78 z84 z85,z6,W.fnOf "double" "Field.double" (qi_ q8_) (qh_ q8_) (qb_ q8_) .none z90 z91 z92 z87 z93 z94,z7,W.fnOf "times" "Field.times" (qi_ jf_) (qh_ jf_) (qb_ jf_) .none z99 z100 z101 z96 z102 z103,z8,W.fnOf "back" "Field.back" (qi_ jr_) (qh_ jr_) (qb_ jr_) .none z108 z109 z110 z105 z111 z112,z9,W.fnOf "power" "Field.power" (qi_ jg_) (qh_ jg_) (qb_ jg_) .none z117 z118 z119 z114 z120 z121,z10,W.fnOf "unit" "unit" (qi_ yO_) (qh_ yO_) (qb_ yO_) .none z126 z127 z128 z123 z129 z130,z11,W.fnOf "scaled_line" "scaled_line" (qi_ jh_) (qh_ jh_) (qb_ jh_) .none z135 z136 z137 z132 z138 z139,z12,W.fnOf "sum_of_two" "sum_of_two" (qi_ js_) (qh_ js_) (qb_ js_) .none z144 z145 z146 z141 z147 z148,z13,W.fnOf "first_with" "first_with" (qi_ jt_) (qh_ jt_) (qb_ jt_) .none z153 z154 z155 z150 z156 z157,z14,W.fnOf "swapped" "swapped" (qi_ jX_) (qh_ jX_) (qb_ jX_) .none z162 z163 z164 z159 z165 z166,z15,W.fnOf "cleared" "cleared" (qi_ jY_) (qh_ jY_) (qb_ jY_) .none z171 z172 z173 z168 z174 z175,z16,W.fnOf "told_of" "told_of" (qi_ jZ_) (qh_ jZ_) (qb_ jZ_) .none z180 z181 z182 z177 z183 z184,z17,W.fnOf "free_make" "free_make" (qi_ jF_) (qh_ jF_) (qb_ jF_) .none z189 z190 z191 z186 z192 z193,z18,W.fnOf "__init__" "Blocks.__init__" (qi_ ji_) (qh_ ji_) (qb_ ji_) .none z198 z199 z200 z195 z201 z202,z19,W.fnOf "symbols" "Blocks.symbols" (qi_ qX_) (qh_ qX_) (qb_ qX_) .none z207 z208 z209 z204 z210 z211,z20,W.fnOf "joined" "Blocks.joined" (qi_ q0_) (qh_ q0_) (qb_ q0_) .none z216 z217 z218 z213 z219 z220,z21,W.fnOf "scaled" "Blocks.scaled" (qi_ q1_) (qh_ q1_) (qb_ q1_) .none z225 z226 z227 z222 z228 z229,z22,W.fnOf "summed" "Blocks.summed" (qi_ q2_) (qh_ q2_) (qb_ q2_) .none z234 z235 z236 z231 z237 z238,z23,W.fnOf "check_lengths" "check_lengths" (qi_ q3_) (qh_ q3_) (qb_ q3_) .none z243 z244 z245 z240 z246 z247,z24,W.fnOf "check_weights" "check_weights" (qi_ q4_) (qh_ q4_) (qb_ q4_) .none z252 z253 z254 z249 z255 z256,z25,W.fnOf "equation_of" "equation_of" (qi_ jj_) (qh_ jj_) (qb_ jj_) .none z261 z262 z263 z258 z264 z265,z26,W.fnOf "__init__" "Code.__init__" (qi_ jG_) (qh_ jG_) (qb_ jG_) .none z270 z271 z272 z267 z273 z274,z27,W.fnOf "told" "Code.told" (qi_ jH_) (qh_ jH_) (qb_ jH_) .none z279 z280 z281 z276 z282 z283,z28,W.fnOf "check_role" "Code.check_role" (qi_ qR_) (qh_ qR_) (qb_ qR_) .none z288 z289 z290 z285 z291 z292,z29,W.fnOf "fixes" "Code.fixes" (qi_ ju_) (qh_ ju_) (qb_ ju_) .none z297 z298 z299 z294 z300 z301,z30,W.fnOf "summed_by" "Code.summed_by" (qi_ qY_) (qh_ qY_) (qb_ qY_) .none z306 z307 z308 z303 z309 z310,z31,W.fnOf "reckoned" "Code.reckoned" (qi_ q5_) (qh_ q5_) (qb_ q5_) .none z315 z316 z317 z312 z318 z319,z32,W.fnOf "fixes_all" "fixes_all" (qi_ jI_) (qh_ jI_) (qb_ jI_) .none z324 z325 z326 z321 z327 z328,z33,W.fnOf "__init__" "Asking.__init__" (qi_ jk_) (qh_ jk_) (qb_ jk_) .none z333 z334 z335 z330 z336 z337,z34,W.fnOf "may" "Asking.may" (qi_ jv_) (qh_ jv_) (qb_ jv_) .none z342 z343 z344 z339 z345 z346,z35,W.fnOf "take" "Asking.take" (qi_ jl_) (qh_ jl_) (qb_ jl_) .none z351 z352 z353 z348 z354 z355,z36,W.fnOf "take_along" "Asking.take_along" (qi_ qJ_) (qh_ qJ_) (qb_ qJ_) .none z360 z361 z362 z357 z363 z364,z37,W.fnOf "known" "Asking.known" (qi_ q9_) (qh_ q9_) (qb_ q9_) .none z369 z370 z371 z366 z372 z373,z38,W.fnOf "fixes" "Asking.fixes" (qi_ ja_) (qh_ ja_) (qb_ ja_) .none z378 z379 z380 z375 z381 z382,z39,W.fnOf "cost_sum" "Asking.cost_sum" (qi_ qS_) (qh_ qS_) (qb_ qS_) .none z387 z388 z389 z384 z390 z391,z40,W.fnOf "order" "Asking.order" (qi_ jb_) (qh_ jb_) (qb_ jb_) .none z401 z402 z403 z398 (.ref z392) z404,z41,W.fnOf "detour" "Asking.detour" (qi_ q6_) (qh_ q6_) (qb_ q6_) .none z409 z410 z411 z406 z412 z413,z42,W.fnOf "block_of" "Asking.block_of" (qi_ qT_) (qh_ qT_) (qb_ qT_) .none z418 z419 z420 z415 z421 z422,z43,W.fnOf "read_role" "read_role" (qi_ jJ_) (qh_ jJ_) (qb_ jJ_) .none z427 z428 z429 z424 z430 z431,z44,W.fnOf "_law_cell" "_law_cell" (qi_ yP_) (qh_ yP_) (qb_ yP_) .none z436 z437 z438 z433 z439 z440,z45,W.fnOf "_law_whole" "_law_whole" (qi_ yp_) (qh_ yp_) (qb_ yp_) .none z445 z446 z447 z442 z448 z449,z46,W.fnOf "_law_rule" "_law_rule" (qi_ yQ_) (qh_ yQ_) (qb_ yQ_) .none z454 z455 z456 z451 z457 z458,z47,W.fnOf "_law_times" "_law_times" (qi_ yq_) (qh_ yq_) (qb_ yq_) .none z463 z464 z465 z460 z466 z467,z48,W.fnOf "_law_scaled" "_law_scaled" (qi_ ya_) (qh_ ya_) (qb_ ya_) .none z472 z473 z474 z469 z475 z476,z49,W.fnOf "_law_make" "_law_make" (qi_ yR_) (qh_ yR_) (qb_ yR_) .none z481 z482 z483 z478 z484 z485,z50,W.fnOf "_law_some" "_law_some" (qi_ yS_) (qh_ yS_) (qb_ yS_) .none z490 z491 z492 z487 z493 z494,z51,W.fnOf "_law_sizes" "_law_sizes" (qi_ yr_) (qh_ yr_) (qb_ yr_) .none z499 z500 z501 z496 z502 z503,z52,W.fnOf "_law_costs" "_law_costs" (qi_ ys_) (qh_ ys_) (qb_ ys_) .none z508 z509 z510 z505 z511 z512,z53,W.fnOf "_law_kinds" "_law_kinds" (qi_ yt_) (qh_ yt_) (qb_ yt_) .none z517 z518 z519 z514 z520 z521,z54,W.fnOf "_law_stream" "_law_stream" (qi_ yb_) (qh_ yb_) (qb_ yb_) .none z526 z527 z528 z523 z529 z530,z55,W.fnOf "_law_weights" "_law_weights" (qi_ j0_) (qh_ j0_) (qb_ j0_) .none z535 z536 z537 z532 z538 z539,z56,W.fnOf "_law_columns" "_law_columns" (qi_ j1_) (qh_ j1_) (qb_ j1_) .none z544 z545 z546 z541 z547 z548,z57,W.fnOf "_law_along" "_law_along" (qi_ yu_) (qh_ yu_) (qb_ yu_) .none z553 z554 z555 z550 z556 z557,z58,W.fnOf "_law_fixed" "_law_fixed" (qi_ yv_) (qh_ yv_) (qb_ yv_) .none z562 z563 z564 z559 z565 z566,z59,W.fnOf "_law_asker" "_law_asker" (qi_ yh_) (qh_ yh_) (qb_ yh_) .none z576 z577 z578 z573 (.ref z567) z579,z60,W.fnOf "_law_seen" "_law_seen" (qi_ yT_) (qh_ yT_) (qb_ yT_) .none z584 z585 z586 z581 z587 z588,z61,W.fnOf "_law_scene" "_law_scene" (qi_ yw_) (qh_ yw_) (qb_ yw_) .none z593 z594 z595 z590 z596 z597,z62,W.fnOf "law" "law" (qi_ zc_) (qh_ zc_) (qb_ zc_) .none z602 z603 z604 z599 z605 z606,z392,z393,z567,z568,z67,z66,z65,z64,z63⟩,?_,fun s v=>.of_eq rfl,ets,fun p hp=>(show ∀ p ∈ [z393,z568],K.lookup p = none from (List.forall_mem_cons.mpr ⟨z826,(List.forall_mem_cons.mpr ⟨z908,(fun _ z=>nomatch z)⟩)⟩)) p (ets.mem_iff.mp hp),fun p hp=>(show ∀ p ∈ [z393,z568],∃ c,W.codeHdIn K c p = true from (List.forall_mem_cons.mpr ⟨⟨_,z825⟩,(List.forall_mem_cons.mpr ⟨⟨_,z907⟩,(fun _ z=>nomatch z)⟩)⟩)) p (ets.mem_iff.mp hp)⟩
 exact {
  cl_Field:=⟨z608,z609,z610,z611⟩
  m_Field:=W.mg_of X G z607
  no_Field_rule:=z612
  no_Field_width:=z613
  no_Field_last:=z614
  mk_Field:=⟨z615,z651,z652,z616⟩
  cl_Blocks:=⟨z618,z619,z620,z621⟩
  m_Blocks:=W.mg_of X G z617
  no_Blocks_field:=z622
  no_Blocks_many:=z623
  no_Blocks_limit:=z624
  mk_Blocks:=⟨z625,z713,z714,z626⟩
  cl_Code:=⟨z628,z629,z630,z631⟩
  m_Code:=W.mg_of X G z627
  no_Code_blocks:=z632
  no_Code_sums:=z633
  no_Code_data:=z634
  no_Code_roles:=z635
  no_Code_lines:=z636
  mk_Code:=⟨z637,z750,z751,z638⟩
  cl_Asking:=⟨z640,z641,z642,z643⟩
  m_Asking:=W.mg_of X G z639
  no_Asking_code:=z644
  no_Asking_ask:=z645
  no_Asking_costs:=z646
  no_Asking_row:=z647
  no_Asking_asked:=z648
  mk_Asking:=⟨z649,z784,z785,z650⟩
  F_Field_init:=y0
  b_Field_init:=y0.binds (ps:=["self", "rule"]) fun _ _ _ _ _ _ us hl=>match us,hl with | [_,_],_=>rfl
  k_Field_init:=z655
  me_Field_init:=⟨z651,z652,z655⟩
  F_Field_doublings_of_one:=y1
  b_Field_doublings_of_one:=y1.binds (ps:=["self"]) fun _ _ _ _ _ _ us hl=>match us,hl with | [_],_=>rfl
  k_Field_doublings_of_one:=z660
  me_Field_doublings_of_one:=⟨z656,z657,z660⟩
  F_Field_double:=y2
  b_Field_double:=y2.binds (ps:=["self", "one"]) fun _ _ _ _ _ _ us hl=>match us,hl with | [_,_],_=>rfl
  k_Field_double:=z665
  me_Field_double:=⟨z661,z662,z665⟩
  F_Field_times:=y3
  b_Field_times:=y3.binds (ps:=["self", "one", "other"]) fun _ _ _ _ _ _ us hl=>match us,hl with | [_,_,_],_=>rfl
  k_Field_times:=z670
  me_Field_times:=⟨z666,z667,z670⟩
  F_Field_back:=y4
  b_Field_back:=y4.binds (ps:=["self", "one"]) fun _ _ _ _ _ _ us hl=>match us,hl with | [_,_],_=>rfl
  k_Field_back:=z675
  me_Field_back:=⟨z671,z672,z675⟩
  F_Field_power:=y5
  b_Field_power:=y5.binds (ps:=["self", "one", "many"]) fun _ _ _ _ _ _ us hl=>match us,hl with | [_,_,_],_=>rfl
  k_Field_power:=z680
  me_Field_power:=⟨z676,z677,z680⟩
  F_unit:=y6
  b_unit:=y6.binds (ps:=["many", "at"]) fun _ _ _ _ _ _ us hl=>match us,hl with | [_,_],_=>rfl
  k_unit:=z684
  m_unit:=W.mg_of X G z681
  F_scaled_line:=y7
  b_scaled_line:=y7.binds (ps:=["field", "factor", "line"]) fun _ _ _ _ _ _ us hl=>match us,hl with | [_,_,_],_=>rfl
  k_scaled_line:=z688
  m_scaled_line:=W.mg_of X G z685
  F_sum_of_two:=y8
  b_sum_of_two:=y8.binds (ps:=["one", "other"]) fun _ _ _ _ _ _ us hl=>match us,hl with | [_,_],_=>rfl
  k_sum_of_two:=z692
  m_sum_of_two:=W.mg_of X G z689
  F_first_with:=y9
  b_first_with:=y9.binds (ps:=["lines", "start", "place"]) fun _ _ _ _ _ _ us hl=>match us,hl with | [_,_,_],_=>rfl
  k_first_with:=z696
  m_first_with:=W.mg_of X G z693
  F_swapped:=y10
  b_swapped:=y10.binds (ps:=["lines", "one", "other"]) fun _ _ _ _ _ _ us hl=>match us,hl with | [_,_,_],_=>rfl
  k_swapped:=z700
  m_swapped:=W.mg_of X G z697
  F_cleared:=y11
  b_cleared:=y11.binds (ps:=["field", "lines", "at", "place"]) fun _ _ _ _ _ _ us hl=>match us,hl with | [_,_,_,_],_=>rfl
  k_cleared:=z704
  m_cleared:=W.mg_of X G z701
  F_told_of:=y12
  b_told_of:=y12.binds (ps:=["field", "lines", "known", "place"]) fun _ _ _ _ _ _ us hl=>match us,hl with | [_,_,_,_],_=>rfl
  k_told_of:=z708
  m_told_of:=W.mg_of X G z705
  F_free_make:=y13
  b_free_make:=y13.binds (ps:=["lines", "heads", "many", "place"]) fun _ _ _ _ _ _ us hl=>match us,hl with | [_,_,_,_],_=>rfl
  k_free_make:=z712
  m_free_make:=W.mg_of X G z709
  F_Blocks_init:=y14
  b_Blocks_init:=y14.binds (ps:=["self", "field", "many"]) fun _ _ _ _ _ _ us hl=>match us,hl with | [_,_,_],_=>rfl
  k_Blocks_init:=z717
  me_Blocks_init:=⟨z713,z714,z717⟩
  F_Blocks_symbols:=y15
  b_Blocks_symbols:=y15.binds (ps:=["self", "block"]) fun _ _ _ _ _ _ us hl=>match us,hl with | [_,_],_=>rfl
  k_Blocks_symbols:=z722
  me_Blocks_symbols:=⟨z718,z719,z722⟩
  F_Blocks_joined:=y16
  b_Blocks_joined:=y16.binds (ps:=["self", "some"]) fun _ _ _ _ _ _ us hl=>match us,hl with | [_,_],_=>rfl
  k_Blocks_joined:=z727
  me_Blocks_joined:=⟨z723,z724,z727⟩
  F_Blocks_scaled:=y17
  b_Blocks_scaled:=y17.binds (ps:=["self", "factor", "block"]) fun _ _ _ _ _ _ us hl=>match us,hl with | [_,_,_],_=>rfl
  k_Blocks_scaled:=z732
  me_Blocks_scaled:=⟨z728,z729,z732⟩
  F_Blocks_summed:=y18
  b_Blocks_summed:=y18.binds (ps:=["self", "factors", "some"]) fun _ _ _ _ _ _ us hl=>match us,hl with | [_,_,_],_=>rfl
  k_Blocks_summed:=z737
  me_Blocks_summed:=⟨z733,z734,z737⟩
  F_check_lengths:=y19
  b_check_lengths:=y19.binds (ps:=["weights"]) fun _ _ _ _ _ _ us hl=>match us,hl with | [_],_=>rfl
  k_check_lengths:=z741
  m_check_lengths:=W.mg_of X G z738
  F_check_weights:=y20
  b_check_weights:=y20.binds (ps:=["field", "weights"]) fun _ _ _ _ _ _ us hl=>match us,hl with | [_,_],_=>rfl
  k_check_weights:=z745
  m_check_weights:=W.mg_of X G z742
  F_equation_of:=y21
  b_equation_of:=y21.binds (ps:=["weights", "total"]) fun _ _ _ _ _ _ us hl=>match us,hl with | [_,_],_=>rfl
  k_equation_of:=z749
  m_equation_of:=W.mg_of X G z746
  F_Code_init:=y22
  b_Code_init:=y22.binds (ps:=["self", "blocks", "weights"]) fun _ _ _ _ _ _ us hl=>match us,hl with | [_,_,_],_=>rfl
  k_Code_init:=z754
  me_Code_init:=⟨z750,z751,z754⟩
  F_Code_told:=y23
  b_Code_told:=y23.binds (ps:=["self", "known", "role"]) fun _ _ _ _ _ _ us hl=>match us,hl with | [_,_,_],_=>rfl
  k_Code_told:=z759
  me_Code_told:=⟨z755,z756,z759⟩
  F_Code_check_role:=y24
  b_Code_check_role:=y24.binds (ps:=["self", "role"]) fun _ _ _ _ _ _ us hl=>match us,hl with | [_,_],_=>rfl
  k_Code_check_role:=z764
  me_Code_check_role:=⟨z760,z761,z764⟩
  F_Code_fixes:=y25
  b_Code_fixes:=y25.binds (ps:=["self", "known", "role"]) fun _ _ _ _ _ _ us hl=>match us,hl with | [_,_,_],_=>rfl
  k_Code_fixes:=z769
  me_Code_fixes:=⟨z765,z766,z769⟩
  F_Code_summed_by:=y26
  b_Code_summed_by:=y26.binds (ps:=["self", "by", "row"]) fun _ _ _ _ _ _ us hl=>match us,hl with | [_,_,_],_=>rfl
  k_Code_summed_by:=z774
  me_Code_summed_by:=⟨z770,z771,z774⟩
  F_Code_reckoned:=y27
  b_Code_reckoned:=y27.binds (ps:=["self", "row", "role"]) fun _ _ _ _ _ _ us hl=>match us,hl with | [_,_,_],_=>rfl
  k_Code_reckoned:=z779
  me_Code_reckoned:=⟨z775,z776,z779⟩
  F_fixes_all:=y28
  b_fixes_all:=y28.binds (ps:=["code", "known", "some"]) fun _ _ _ _ _ _ us hl=>match us,hl with | [_,_,_],_=>rfl
  k_fixes_all:=z783
  m_fixes_all:=W.mg_of X G z780
  F_Asking_init:=y29
  b_Asking_init:=y29.binds (ps:=["self", "code", "ask", "costs"]) fun _ _ _ _ _ _ us hl=>match us,hl with | [_,_,_,_],_=>rfl
  k_Asking_init:=z788
  me_Asking_init:=⟨z784,z785,z788⟩
  F_Asking_may:=y30
  b_Asking_may:=y30.binds (ps:=["self", "role"]) fun _ _ _ _ _ _ us hl=>match us,hl with | [_,_],_=>rfl
  k_Asking_may:=z793
  me_Asking_may:=⟨z789,z790,z793⟩
  F_Asking_take:=y31
  b_Asking_take:=y31.binds (ps:=["self", "role"]) fun _ _ _ _ _ _ us hl=>match us,hl with | [_,_],_=>rfl
  k_Asking_take:=z798
  me_Asking_take:=⟨z794,z795,z798⟩
  F_Asking_take_along:=y32
  b_Asking_take_along:=y32.binds (ps:=["self", "some"]) fun _ _ _ _ _ _ us hl=>match us,hl with | [_,_],_=>rfl
  k_Asking_take_along:=z803
  me_Asking_take_along:=⟨z799,z800,z803⟩
  F_Asking_known:=y33
  b_Asking_known:=y33.binds (ps:=["self"]) fun _ _ _ _ _ _ us hl=>match us,hl with | [_],_=>rfl
  k_Asking_known:=z808
  me_Asking_known:=⟨z804,z805,z808⟩
  F_Asking_fixes:=y34
  b_Asking_fixes:=y34.binds (ps:=["self", "some"]) fun _ _ _ _ _ _ us hl=>match us,hl with | [_,_],_=>rfl
  k_Asking_fixes:=z813
  me_Asking_fixes:=⟨z809,z810,z813⟩
  F_Asking_cost_sum:=y35
  b_Asking_cost_sum:=y35.binds (ps:=["self", "some"]) fun _ _ _ _ _ _ us hl=>match us,hl with | [_,_],_=>rfl
  k_Asking_cost_sum:=z818
  me_Asking_cost_sum:=⟨z814,z815,z818⟩
  F_Asking_order:=y36
  b_Asking_order:=y36.fun.binds (ps:=["self"]) fun _ _ _ _ _ _ us hl=>match us,hl with | [_],_=>rfl
  k_Asking_order:=z827
  me_Asking_order:=⟨z819,z820,z827⟩
  F_Asking_detour:=y37
  b_Asking_detour:=y37.binds (ps:=["self", "some"]) fun _ _ _ _ _ _ us hl=>match us,hl with | [_,_],_=>rfl
  k_Asking_detour:=z832
  me_Asking_detour:=⟨z828,z829,z832⟩
  F_Asking_block_of:=y38
  b_Asking_block_of:=y38.binds (ps:=["self", "role"]) fun _ _ _ _ _ _ us hl=>match us,hl with | [_,_],_=>rfl
  k_Asking_block_of:=z837
  me_Asking_block_of:=⟨z833,z834,z837⟩
  F_read_role:=y39
  b_read_role:=y39.binds (ps:=["asking", "role"]) fun _ _ _ _ _ _ us hl=>match us,hl with | [_,_],_=>rfl
  k_read_role:=z841
  m_read_role:=W.mg_of X G z838
  F_cell:=y40
  b_cell:=y40.binds (ps:=["_law_script", "_law_k"]) fun _ _ _ _ _ _ us hl=>match us,hl with | [_,_],_=>rfl
  k_cell:=z845
  m_cell:=W.mg_of X G z842
  F_whole:=y41
  b_whole:=y41.binds (ps:=["_law_found"]) fun _ _ _ _ _ _ us hl=>match us,hl with | [_],_=>rfl
  k_whole:=z849
  m_whole:=W.mg_of X G z846
  F_rule:=y42
  b_rule:=y42.binds (ps:=["_law_cell_here"]) fun _ _ _ _ _ _ us hl=>match us,hl with | [_],_=>rfl
  k_rule:=z853
  m_rule:=W.mg_of X G z850
  F_times:=y43
  b_times:=y43.binds (ps:=["_law_one", "_law_other", "_law_rule_here"]) fun _ _ _ _ _ _ us hl=>match us,hl with | [_,_,_],_=>rfl
  k_times:=z857
  m_times:=W.mg_of X G z854
  F_scaled:=y44
  b_scaled:=y44.binds (ps:=["_law_factor", "_law_block", "_law_rule_here"]) fun _ _ _ _ _ _ us hl=>match us,hl with | [_,_,_],_=>rfl
  k_scaled:=z861
  m_scaled:=W.mg_of X G z858
  F_make:=y45
  b_make:=y45.binds (ps:=["_law_some_here", "_law_weights_here", "_law_rule_here"]) fun _ _ _ _ _ _ us hl=>match us,hl with | [_,_,_],_=>rfl
  k_make:=z865
  m_make:=W.mg_of X G z862
  F_some:=y46
  b_some:=y46.binds (ps:=["_law_script", "_law_start", "_law_many", "_law_limit"]) fun _ _ _ _ _ _ us hl=>match us,hl with | [_,_,_,_],_=>rfl
  k_some:=z869
  m_some:=W.mg_of X G z866
  F_sizes:=y47
  b_sizes:=y47.binds (ps:=["_law_cell_here"]) fun _ _ _ _ _ _ us hl=>match us,hl with | [_],_=>rfl
  k_sizes:=z873
  m_sizes:=W.mg_of X G z870
  F_costs:=y48
  b_costs:=y48.binds (ps:=["_law_cell_here", "_law_roles"]) fun _ _ _ _ _ _ us hl=>match us,hl with | [_,_],_=>rfl
  k_costs:=z877
  m_costs:=W.mg_of X G z874
  F_kinds:=y49
  b_kinds:=y49.binds (ps:=["_law_cell_here", "_law_roles"]) fun _ _ _ _ _ _ us hl=>match us,hl with | [_,_],_=>rfl
  k_kinds:=z881
  m_kinds:=W.mg_of X G z878
  F_stream:=y50
  b_stream:=y50.binds (ps:=["_law_cell_here", "_law_many"]) fun _ _ _ _ _ _ us hl=>match us,hl with | [_,_],_=>rfl
  k_stream:=z885
  m_stream:=W.mg_of X G z882
  F_weights:=y51
  b_weights:=y51.binds (ps:=["_law_cell_here", "_law_data", "_law_sums", "_law_last"]) fun _ _ _ _ _ _ us hl=>match us,hl with | [_,_,_,_],_=>rfl
  k_weights:=z889
  m_weights:=W.mg_of X G z886
  F_columns:=y52
  b_columns:=y52.binds (ps:=["_law_weights_here"]) fun _ _ _ _ _ _ us hl=>match us,hl with | [_],_=>rfl
  k_columns:=z893
  m_columns:=W.mg_of X G z890
  F_along:=y53
  b_along:=y53.binds (ps:=["_law_one", "_law_two", "_law_rule_here"]) fun _ _ _ _ _ _ us hl=>match us,hl with | [_,_,_],_=>rfl
  k_along:=z897
  m_along:=W.mg_of X G z894
  F_fixed:=y54
  b_fixed:=y54.binds (ps:=["_law_columns_here", "_law_held", "_law_role", "_law_rule_here"]) fun _ _ _ _ _ _ us hl=>match us,hl with | [_,_,_,_],_=>rfl
  k_fixed:=z901
  m_fixed:=W.mg_of X G z898
  F_asker:=y55
  b_asker:=y55.fun.binds (ps:=["_law_row", "_law_seen_here"]) fun _ _ _ _ _ _ us hl=>match us,hl with | [_,_],_=>rfl
  k_asker:=z909
  m_asker:=W.mg_of X G z902
  F_seen:=y56
  b_seen:=y56.binds (ps:=["_law_asking", "_law_seen_here", "_law_row", "_law_costs_here"]) fun _ _ _ _ _ _ us hl=>match us,hl with | [_,_,_,_],_=>rfl
  k_seen:=z913
  m_seen:=W.mg_of X G z910
  F_scene:=y57
  b_scene:=y57.binds (ps:=["_law_code", "_law_told", "_law_make_here", "_law_kinds_here", "_law_costs_here", "_law_role"]) fun _ _ _ _ _ _ us hl=>match us,hl with | [_,_,_,_,_,_],_=>rfl
  k_scene:=z917
  m_scene:=W.mg_of X G z914
  F_law:=y58
  b_law:=y58.binds (ps:=["_law_script"]) fun _ _ _ _ _ _ us hl=>match us,hl with | [_],_=>rfl
  k_law:=z921
  m_law:=W.mg_of X G z918
  n_zip:=W.mg_none_of X G z922
  n_range:=W.mg_none_of X G z923
  n_len:=W.mg_none_of X G z924
  n_list:=W.mg_none_of X G z925
  n_enumerate:=W.mg_none_of X G z926
  n_reversed:=W.mg_none_of X G z927
  n_any:=W.mg_none_of X G z928
  n_sum:=W.mg_none_of X G z929
  n_sorted:=W.mg_none_of X G z930
  n_isinstance:=W.mg_none_of X G z931
  n_int:=W.mg_none_of X G z932
  n_bool:=W.mg_none_of X G z933
  n_max:=W.mg_none_of X G z934
  n_min:=W.mg_none_of X G z935
  v_LEAST_RULE:=W.mg_of X G z936
  v_GREATEST_RULE:=W.mg_of X G z937
  v_MOST_SYMBOLS:=W.mg_of X G z938
  v_MOST_ROLES:=W.mg_of X G z939
  v_MOST_SUMS:=W.mg_of X G z940 }
def ff (r w:Nat):List (Str × V):=[("rule",.int r),("width",.int w),("last",.int ((2 ^ w - 1:Nat):Int))]
theorem qip_ (r w:Nat):(ff r w).lookup ("rule" : Str) = some (.int r):=rfl
theorem yZ_ (r w:Nat):(ff r w).lookup ("last" : Str) = some (.int ((2 ^ w - 1:Nat):Int)):=rfl
def FieldAt (C:Addr) (H:Hp) (p:Addr) (r w:Nat):Prop:=∃ dx,H p = some (.ins C dx (ff r w))
theorem FieldAt.same {C:Addr}{H H':Hp}{p:Addr}{r w:Nat} (h:FieldAt C H p r w) (s:Same H H'):FieldAt C H' p r w:=let ⟨dx,e⟩:=h;⟨dx,s _ _ e⟩
section
variable {P:Program}{wo:World}{K:PySem.W.Frag}{mg:Str->Option Value}{base:Heap}{a:Adr}
def vN_ (a:Adr):Sp:=fun vs H Q _=>∃ (p:Addr) (r w x:Nat),vs = [.ref p,.int x]/\FieldAt a.C_Field H p r w/\x < 2 ^ w/\Q (.int (GF.dbl r w x:Nat)) H
theorem zu_ (T:Txt K mg a):FnOk P wo K mg base CX0 1 a.f_Field_double a.d_Field_double ["self", "one"] (vN_ a):=by
 refine T.F_Field_double.ok (k:=0) sc_Field_double (fun vs H Q E h=>?_) (fun cdv A outer s H vs Q E hr h=>?_)
 ·obtain ⟨p,r,w,x,rfl,_⟩:=h
  rfl
 ·obtain ⟨p,r,w,x,rfl,⟨dx,hF⟩,hx,k⟩:=h
  refine ⟨_,(qd_ (ql_ (i:=2) sc_Field_double.nd rfl (Or.inl rfl) (qn_ jP_ qj_ (pv 1)))
   (qd_ (qD_ (qt_ yF_ (pv 2) (qC_ (pv 0) rfl) (qu_ _)) (qg_ (qq_ (qn_ zj_ (pv 2) (qC_ (pv 0) rfl)))) qA_)
   (qg_ (qq_ (pv 2))))),?_⟩
  refine ⟨_,rfl,_,_,rfl,rfl,.inl ⟨by decide,by decide⟩,?_⟩
  refine ⟨_,rfl,_,rfl,p,_,_,_,_,rfl,hF,T.cl_Field,T.no_Field_last,yZ_ r w,_,_,rfl,rfl,_,rfl,?_⟩
  have hp:0 < 2 ^ w:=Nat.two_pow_pos w
  refine ite2 (fun h=>?_) (fun h=>?_)
  ·have h':=of_decide_eq_true h
   refine ⟨_,rfl,_,rfl,p,_,_,_,_,rfl,hF,T.cl_Field,T.no_Field_rule,qip_ r w,_,_,rfl,rfl,?_⟩
   have e:Builtin.bitXor (2 * (x:Int)) (r:Int) = ((GF.dbl r w x:Nat):Int):=by
    have e0:(2 * (x:Int)) = ((2 * x:Nat):Int):=by omega
    rw [e0,j7_]
    unfold GF.dbl
    rw [if_pos (by omega)]
   show Q (.int (Builtin.bitXor (2 * (x:Int)) (r:Int))) H
   rw [e]
   exact k
  ·have h':¬ (((2 ^ w - 1:Nat):Int) < 2 * (x:Int)):=fun z=>h (decide_eq_true z)
   refine ⟨_,rfl,?_⟩
   have e:(2 * (x:Int)) = ((GF.dbl r w x:Nat):Int):=by
    unfold GF.dbl
    rw [if_neg (by omega)]
    omega
   show Q (.int (2 * (x:Int))) H
   rw [e]
   exact k
def qiq_ (a:Adr):Sp:=fun vs H Q _=>∃ (p:Addr) (r w x y:Nat),vs = [.ref p,.int x,.int y]/\FieldAt a.C_Field H p r w/\GF.Rule r w/\x < 2 ^ w/\Q (.int (GF.tm r w x y:Nat)) H
theorem y0_ (T:Txt K mg a):FnOk P wo K mg base CX0 2 a.f_Field_times a.d_Field_times ["self", "one", "other"] (qiq_ a):=by
 have G_Field_double:FnOk P wo K mg base CX0 1 a.f_Field_double a.d_Field_double ["self", "one"] (vN_ a):=zu_ T
 refine T.F_Field_times.ok (k:=1) sc_Field_times (fun vs H Q E h=>?_) (fun cdv A outer s H vs Q E hr h=>?_)
 ·obtain ⟨p,r,w,x,y,rfl,_⟩:=h
  rfl
 ·obtain ⟨p,r,w,x,y,rfl,hF,R,hx,k⟩:=h
  refine ⟨_,(qd_ (ql_ (i:=3) sc_Field_times.nd rfl (Or.inl rfl) qj_)
   (qd_ (ql_ (i:=4) sc_Field_times.nd rfl (Or.inl rfl) (pv 1))
   (qd_ (ql_ (i:=5) sc_Field_times.nd rfl (Or.inl rfl) (pv 2))
   (qd_ (yH_ PassesOwn.never (qt_ yF_ (pv 5) qj_ (qu_ _)) (qd_ (qD_ (qt_ jD_ (qn_ qV_ (pv 5) qj_) qj_ (qu_ _)) (qg_ (ql_ (i:=3) sc_Field_times.nd rfl (Or.inl rfl) (qn_ zj_ (pv 3) (pv 4)))) qA_)
   (qd_ (ql_ (i:=4) sc_Field_times.nd rfl (Or.inl rfl) (qF_ (pv 0) T.cl_Field T.me_Field_double G_Field_double (hr.mono (by decide)) T.b_Field_double .nil qp_ (qa_ (pv 4) qe_)))
   (qg_ (ql_ (i:=5) sc_Field_times.nd rfl (Or.inl rfl) (qn_ j3_ (pv 5) qj_))))))
   (qg_ (qq_ (pv 3))))))),?_⟩
  refine ⟨_,rfl,_,rfl,?_⟩
  refine ⟨fun m σ H'=>∃ f d g:Nat,g = m/\σ = [some (.ref p),some (.int x),some (.int y),some (.int f),some (.int d),some (.int g)]/\H' = H/\d < 2 ^ w/\f ^^^ GF.tm r w d g = GF.tm r w x y,
   ⟨_,0,x,y,rfl,rfl,rfl,hx,Nat.zero_xor _⟩,?_⟩
  rintro m σ H' ⟨f,d,g,rfl,rfl,rfl,hd,inv⟩
  refine ⟨_,rfl,_,_,rfl,rfl,_,rfl,?_⟩
  refine ite2 (fun h=>⟨_,fun _ _ z=>z,?_⟩) (fun h=>?_)
  ·have hg:0 < g:=by
    have:=of_decide_eq_true h
    omega
   have hm:((g:Int) % 2) = ((g % 2:Nat):Int):=by omega
   have hdv:((g:Int) / 2) = ((g / 2:Nat):Int):=by omega
   have step:=GF.tm_step (r:=r) (w:=w) d g
   refine ⟨_,rfl,_,_,rfl,rfl,p0 (by decide),rfl,_,rfl,?_⟩
   refine ite2 (fun h1=>?_) (fun h1=>?_)
   ·have h1':g % 2 = 1:=by
     have:=V.int.inj (of_decide_eq_true h1)
     omega
    refine ⟨_,rfl,_,rfl,_,_,rfl,rfl,?_⟩
    obtain ⟨dx,hF'⟩:=id hF
    refine ⟨_,rfl,p,dx,_,rfl,hF',rfl,_,rfl,p,r,w,d,rfl,hF,hd,?_⟩
    refine ⟨_,rfl,_,_,rfl,rfl,⟨by decide,by decide⟩,?_⟩
    refine ⟨g / 2,Nat.div_lt_self hg (by decide),f ^^^ d,GF.dbl r w d,g / 2,rfl,?_,rfl,GF.dbl_lt R hd,?_⟩
    ·show [some (V.ref p),some (V.int x),some (V.int y),some (V.int (Builtin.bitXor f d)),some (V.int (GF.dbl r w d:Nat)),some (V.int ((g:Int) / 2))] = _
     rw [j7_,hdv]
    ·rw [<- inv,step,if_pos h1',Nat.xor_assoc]
   ·have h1':¬ g % 2 = 1:=by
     intro z
     apply h1
     apply decide_eq_true
     show V.int ((g:Int) % 2) = V.int 1
     congr 1
     omega
    obtain ⟨dx,hF'⟩:=id hF
    refine ⟨_,rfl,p,dx,_,rfl,hF',rfl,_,rfl,p,r,w,d,rfl,hF,hd,?_⟩
    refine ⟨_,rfl,_,_,rfl,rfl,⟨by decide,by decide⟩,?_⟩
    refine ⟨g / 2,Nat.div_lt_self hg (by decide),f,GF.dbl r w d,g / 2,rfl,?_,rfl,GF.dbl_lt R hd,?_⟩
    ·show [some (V.ref p),some (V.int x),some (V.int y),some (V.int f),some (V.int (GF.dbl r w d:Nat)),some (V.int ((g:Int) / 2))] = _
     rw [hdv]
    ·rw [<- inv,step,if_neg h1',Nat.zero_xor]
  ·have hg:g = 0:=by
    have:¬ ((0:Int) < g):=fun z=>h (decide_eq_true z)
    omega
   subst hg
   rw [GF.tm_zero,Nat.xor_zero] at inv
   refine ⟨_,rfl,?_⟩
   show Q (.int (f:Nat)) H'
   rw [inv]
   exact k
def vE_ (a:Adr):Sp:=fun vs H Q _=>∃ (p:Addr) (r w:Nat),vs = [.ref p]/\FieldAt a.C_Field H p r w/\GF.Good r w/\Q (.int ((2 ^ w - 1:Nat):Int)) H
theorem zd_ (T:Txt K mg a):FnOk P wo K mg base CX0 2 a.f_Field_doublings_of_one a.d_Field_doublings_of_one ["self"] (vE_ a):=by
 have G_Field_double:FnOk P wo K mg base CX0 1 a.f_Field_double a.d_Field_double ["self", "one"] (vN_ a):=zu_ T
 refine T.F_Field_doublings_of_one.ok (k:=1) sc_Field_doublings_of_one (fun vs H Q E h=>?_) (fun cdv A outer s H vs Q E hr h=>?_)
 ·obtain ⟨p,r,w,rfl,_⟩:=h
  rfl
 ·obtain ⟨p,r,w,rfl,hF,R,k⟩:=h
  obtain ⟨dx,hF'⟩:=id hF
  refine ⟨_,(qd_ (ql_ (i:=1) sc_Field_doublings_of_one.nd rfl (Or.inl rfl) (qF_ (pv 0) T.cl_Field T.me_Field_double G_Field_double (hr.mono (by decide)) T.b_Field_double .nil qp_ (qa_ qj_ qe_)))
   (qd_ (ql_ (i:=2) sc_Field_doublings_of_one.nd rfl (Or.inl rfl) qj_)
   (qd_ (yH_ PassesOwn.never (qt_ v3_ (pv 1) qj_ (qu_ _)) (qd_ (ql_ (i:=1) sc_Field_doublings_of_one.nd rfl (Or.inl rfl) (qF_ (pv 0) T.cl_Field T.me_Field_double G_Field_double (hr.mono (by decide)) T.b_Field_double .nil qp_ (qa_ (pv 1) qe_)))
   (qg_ (qjv_ (i:=2) sc_Field_doublings_of_one.nd rfl (Or.inl rfl) qj_ qjw_))))
   (qg_ (qq_ (pv 2)))))),?_⟩
  refine ⟨_,rfl,p,dx,_,rfl,hF',rfl,p,r,w,1,rfl,hF,GF.one_lt R.w1,?_⟩
  refine ⟨fun m σ H'=>∃ n:Nat,m = 2 ^ w - 1 - n/\σ = [some (.ref p),some (.int (GF.it r w n:Nat)),some (.int n)]/\H' = H/\1<=n/\n<=2 ^ w - 1,⟨_,1,rfl,rfl,rfl,Nat.le_refl _,R.last1⟩,?_⟩
  rintro m σ H' ⟨n,rfl,rfl,rfl,h1,hn⟩
  refine ⟨_,rfl,rfl,_,rfl,?_⟩
  refine ite2 (fun h=>⟨_,fun _ _ z=>z,?_⟩) (fun h=>?_)
  ·have hne:GF.it r w n ≠ 1:=by
    intro z
    rw [z] at h
    exact absurd h (by decide)
   have hlt:n < 2 ^ w - 1:=Nat.lt_of_le_of_ne hn fun z=>hne (by rw [z];exact R.back)
   refine ⟨_,rfl,p,dx,_,rfl,hF',rfl,_,rfl,p,r,w,_,rfl,hF,GF.it_lt R.rule R.w1 n,?_⟩
   refine ⟨_,rfl,_,_,rfl,rfl,?_⟩
   exact ⟨2 ^ w - 1 - (n + 1),by omega,n + 1,rfl,rfl,rfl,by omega,by omega⟩
  ·have he:GF.it r w n = 1:=by
    refine Classical.byContradiction fun z=>h ?_
    have:¬ (V.int (GF.it r w n:Nat) = V.int 1):=fun q=>z (by have:=V.int.inj q;omega)
    show (!decide (V.int (GF.it r w n:Nat) = V.int 1)) = true
    rw [decide_eq_false this]
    rfl
   have hnn:n = 2 ^ w - 1:=by
    refine Classical.byContradiction fun z=>R.first n h1 (by omega) he
   subst hnn
   exact ⟨_,rfl,k⟩
def qb8_ (a:Adr):Sp:=fun vs H Q _=>∃ (p dx:Addr) (r w:Nat),vs = [.ref p,.int r]/\H p = some (.ins a.C_Field dx [])/\GF.Good r w/\Q .non (upd H p (.ins a.C_Field dx (ff r w)))
theorem qaf_ (T:Txt K mg a):FnOk P wo K mg base CX0 3 a.f_Field_init a.d_Field_init ["self", "rule"] (qb8_ a):=by
 have G_Field_doublings_of_one:FnOk P wo K mg base CX0 2 a.f_Field_doublings_of_one a.d_Field_doublings_of_one ["self"] (vE_ a):=zd_ T
 refine T.F_Field_init.ok (k:=2) sc_Field_init (fun vs H Q E h=>?_) (fun cdv A outer s H vs Q E hr h=>?_)
 ·obtain ⟨p,dx,r,w,rfl,_⟩:=h
  rfl
 ·obtain ⟨p,dx,r,w,rfl,hp,R,k⟩:=h
  refine ⟨_,(qd_ (qD_ (PW.pt (ym_ (qt_ zt_ (pv 1) (zA_ (v:=.int 16) rfl T.v_LEAST_RULE ⟨_,rfl⟩) (qu_ _)) (ym_ (qt_ yF_ (pv 1) (zA_ (v:=.int 511) rfl T.v_GREATEST_RULE ⟨_,rfl⟩) (qu_ _)) (yA_ (qt_ jD_ (qn_ qV_ (pv 1) qj_) qj_ (qu_ _)))))) (qg_ jO_) qA_)
   (qd_ (jL_ (pv 0) (pv 1) rfl)
   (qd_ (jL_ (pv 0) (qn_ zi_ (z4_ PySem.F.plainAttrs_int PyProof.Rows.slot_int_bit_length PyProof.Rows.type_int_bit_length y5_ (pv 1)) qj_) rfl)
   (qd_ (jL_ (pv 0) (qn_ zi_ (qn_ v2_ qj_ (qC_ (pv 0) rfl)) qj_) rfl)
   (qd_ (ql_ (i:=2) sc_Field_init.nd rfl (Or.inl rfl) (zL_ (pv 0) T.cl_Field T.me_Field_doublings_of_one G_Field_doublings_of_one (hr.mono (by decide)) T.b_Field_doublings_of_one .nil qp_))
   (qg_ (qD_ (qt_ v3_ (pv 2) (qC_ (pv 0) rfl) (qu_ _)) (qg_ jO_) qA_))))))),?_⟩
  have h16:=R.lo16
  have h511:=R.hi511
  have hod:=R.odd
  refine ⟨_,rfl,_,_,rfl,rfl,_,rfl,?_⟩
  refine ite2 (fun h=>absurd (of_decide_eq_true h) (by omega)) (fun _=>?_)
  refine ⟨_,rfl,_,_,rfl,rfl,_,rfl,?_⟩
  refine ite2 (fun h=>absurd (of_decide_eq_true h) (by omega)) (fun _=>?_)
  refine ⟨_,rfl,_,_,rfl,rfl,p0 (by decide),rfl,_,rfl,?_⟩
  refine ite2 (fun h=>absurd (V.int.inj (of_decide_eq_true h)) (by omega)) (fun _=>?_)
  refine ⟨_,rfl,_,rfl,p,a.C_Field,dx,_,rfl,hp,T.cl_Field,T.no_Field_rule,(by decide),?_⟩
  refine ⟨_,rfl,rfl,_,rfl,rfl,_,_,rfl,rfl,_,rfl,p,a.C_Field,dx,_,rfl,qc_,T.cl_Field,T.no_Field_width,(by show (1:Nat) < 1000;decide),?_⟩
  have ew:((Builtin.Int.intBits (r:Int):Nat):Int) - 1 = (w:Int):=by
   rw [yg_ R.rule.lo R.rule.hi]
   omega
  dsimp only
  rw [ew,jA_]
  refine ⟨_,rfl,p,_,_,_,_,rfl,qc_,T.cl_Field,T.no_Field_width,rfl,_,_,rfl,rfl,⟨by omega,by have:=R.w8;omega,by decide⟩,_,_,rfl,rfl,?_⟩
  refine ⟨_,rfl,p,a.C_Field,dx,_,rfl,qc_,T.cl_Field,T.no_Field_last,(by show (2:Nat) < 1000;decide),?_⟩
  have el:(1:Int) * 2 ^ ((w:Int)).toNat - 1 = ((2 ^ w - 1:Nat):Int):=by
   have:((w:Int)).toNat = w:=by omega
   rw [this,Int.one_mul]
   have h1:0 < 2 ^ w:=Nat.two_pow_pos w
   have h2:((2 ^ w:Nat):Int) = (2:Int) ^ w:=by simp
   omega
  dsimp only
  rw [el,jA_]
  have hF:FieldAt a.C_Field (upd H p (.ins a.C_Field dx (ff r w))) p r w:=⟨dx,qc_⟩
  have ef:putF "last" (.int ((2 ^ w - 1:Nat):Int)) (putF "width" (.int (w:Int)) (putF "rule" (.int (r:Int)) [])) = ff r w:=rfl
  rw [ef]
  refine ⟨_,rfl,p,dx,_,rfl,qc_,rfl,p,r,w,rfl,hF,R,?_⟩
  refine ⟨_,rfl,_,rfl,p,_,_,_,_,rfl,qc_,T.cl_Field,T.no_Field_last,yZ_ r w,rfl,_,rfl,?_⟩
  refine ite2 (fun h=>?_) (fun _=>k)
  exact absurd h (by simp)
end
theorem Same.new {H:Hp}{p:Addr}{o:HO} (h:H p = none):Same H (upd H p o):=fun b u e=>by rw [qf_ (qm_ e h)];exact e
theorem qir_ (x k:Nat):(x:Int) * 2 ^ ((k:Int)).toNat = ((x * 2 ^ k:Nat):Int):=by
 have:((k:Int)).toNat = k:=by omega
 rw [this]
 simp
theorem vO_ (w:Nat):(1:Int) * 2 ^ ((w:Int)).toNat = ((2 ^ w:Nat):Int):=by
 have:=qir_ 1 w
 rw [Nat.one_mul] at this
 exact this
def cell (ns:List Int) (k:Nat):Int:=ns.getD k 0
section
variable {P:Program}{wo:World}{K:PySem.W.Frag}{mg:Str->Option Value}{base:Heap}{a:Adr}
def qis_ (K:PySem.W.Frag):Sp:=fun vs H Q _=>∃ (s:Addr) (ns:List Int) (k:Nat),vs = [.ref s,.int k]/\SqL K H s (ns.map V.int)/\k<=99/\ns.length<=63/\∀ c:Int,Q (.int c) H
theorem qc1_ (T:Txt K mg a):FnOk P wo K mg base CX0 1 a.f_cell a.d_cell ["_law_script", "_law_k"] (qis_ K):=by
 refine T.F_cell.ok (k:=0) sc_cell (fun vs H Q E h=>?_) (fun cdv A outer s H vs Q E hr h=>?_)
 ·obtain ⟨p,ns,k,rfl,_⟩:=h
  rfl
 ·obtain ⟨p,ns,k,rfl,hS,hk9,hn,q⟩:=h
  refine ⟨_,(qd_ (qD_ (qt_ zt_ (pv 1) (qy_ qv_ rfl T.n_len PySem.boot_len (qa_ (pv 0) qe_)) (qu_ _)) (qg_ (qq_ (qz_ qB_ (pv 0) (pv 1) (fun _ _=>rfl)))) qA_)
   (qd_ (ql_ (i:=2) sc_cell.nd rfl (Or.inl rfl) (qn_ qO_ (qn_ jP_ qj_ (pv 1)) qj_))
   (qd_ (qD_ (qt_ yF_ (qy_ qv_ rfl T.n_len PySem.boot_len (qa_ (pv 0) qe_)) qj_ (qu_ _)) (qg_ (ql_ (i:=2) sc_cell.nd rfl (Or.inl rfl) (qn_ qO_ (pv 2) (qn_ jP_ (qn_ qV_ (qz_ qB_ (pv 0) (qn_ qV_ (qn_ jP_ qj_ (pv 1)) (qy_ qv_ rfl T.n_len PySem.boot_len (qa_ (pv 0) qe_))) (fun _ _=>rfl)) qj_) (qn_ qO_ (pv 1) qj_))))) qA_)
   (qg_ (qq_ (qn_ qV_ (qn_ jP_ (pv 2) (pv 2)) qj_)))))),?_⟩
  have el:(ns.map V.int).length = ns.length:=List.length_map ..
  refine ⟨_,rfl,_,rfl,p,_,rfl,.inl hS,_,_,rfl,rfl,_,rfl,?_⟩
  refine ite2 (fun h=>?_) (fun h=>?_)
  ·have hk:k < ns.length:=by
    have:=of_decide_eq_true h
    rw [List.length_map] at this
    omega
   have e:(ns.map V.int)[k]? = some (V.int (ns.getD k 0)):=by
    rw [List.getElem?_map,List.getD_eq_getElem?_getD,List.getElem?_eq_getElem hk]
    rfl
   exact ⟨_,rfl,_,rfl,p,_,_,_,rfl,rfl,hS,qr_ e,q _⟩
  ·refine ⟨_,rfl,_,_,rfl,rfl,.inl ⟨by decide,by decide⟩,_,_,rfl,rfl,?_⟩
   refine ⟨_,rfl,p,_,rfl,.inl hS,_,_,rfl,rfl,_,rfl,?_⟩
   refine ite2 (fun h0=>?_) (fun h0=>?_)
   ·have hp:0 < ns.length:=by
     have:=of_decide_eq_true h0
     rw [List.length_map] at this
     omega
    obtain ⟨i,hi,ei⟩:∃ i:Nat,i < ns.length/\(7 * (k:Int)) % (((ns.map V.int).length:Nat):Int) = (i:Int):=by
     rw [el]
     exact ⟨(7 * k) % ns.length,Nat.mod_lt _ hp,by rw [Int.natCast_emod,Int.natCast_mul];rfl⟩
    have e:(ns.map V.int)[i]? = some (V.int (ns.getD i 0)):=by
     rw [List.getElem?_map,List.getD_eq_getElem?_getD,List.getElem?_eq_getElem hi]
     rfl
    have y1:ns.getD i 0 % 1000003 < 1000003:=by omega
    have y0:0<=ns.getD i 0 % 1000003:=by omega
    have b1:ns.getD i 0 % 1000003 * ((k:Int) + 3)<=ns.getD i 0 % 1000003 * 102:=Int.mul_le_mul_of_nonneg_left (by omega) y0
    have b0:0<=ns.getD i 0 % 1000003 * ((k:Int) + 3):=Int.mul_nonneg y0 (by omega)
    refine ⟨_,rfl,_,rfl,_,rfl,_,_,rfl,rfl,.inl ⟨by decide,by decide⟩,_,rfl,p,_,rfl,.inl hS,_,_,rfl,rfl,(by rw [el];omega),p,_,_,_,rfl,rfl,hS,(by rw [ei];exact qr_ e),_,_,rfl,rfl,(by show (0:Int) < 1000003;decide),_,rfl,_,_,rfl,rfl,_,_,rfl,rfl,.inl ⟨by omega,by omega⟩,_,_,rfl,rfl,?_⟩
    exact ⟨_,rfl,_,rfl,_,_,rfl,rfl,.inl ⟨by omega,by omega⟩,_,_,rfl,rfl,(by show (0:Int) < 1000003;decide),q _⟩
   ·exact ⟨_,rfl,_,rfl,_,_,rfl,rfl,.inl ⟨by omega,by omega⟩,_,_,rfl,rfl,(by show (0:Int) < 1000003;decide),q _⟩
end
def R81:List Nat:=[19,25,37,41,67,97,131,193,285,369]
theorem qkc_:∀ i,i < 10->∃ j,j < 48/\GF.rules.getD j 19 = R81.getD i 0:=by decide
theorem qg0_ (i:Nat) (h:i < 10):GF.Full (R81.getD i 0) (R81.getD i 0).log2:=by
 obtain ⟨j,hj,e⟩:=qkc_ i h
 have:=GF.ruleOf_full (j:Int)
 have e2:GF.ruleOf (j:Int) = R81.getD i 0:=by
  unfold GF.ruleOf
  rw [<- e]
  congr 1
  omega
 rw [e2] at this
 exact this
section
variable {P:Program}{wo:World}{K:PySem.W.Frag}{mg:Str->Option Value}{base:Heap}{a:Adr}
def qg1_:Sp:=fun vs H Q _=>∃ c:Int,vs = [.int c]/\∀ (r:Nat) H',GF.Full r r.log2->Same H H'->Q (.int r) H'
theorem qit_ (T:Txt K mg a):FnOk P wo K mg base CX0 1 a.f_rule a.d_rule ["_law_cell_here"] qg1_:=by
 refine T.F_rule.ok (k:=0) qio_ (fun vs H Q E h=>?_) (fun cdv A outer s H vs Q E hr h=>?_)
 ·obtain ⟨c,rfl,_⟩:=h
  rfl
 ·obtain ⟨c,rfl,q⟩:=h
  refine ⟨_,(@qg_ _ _ _ (qq_ (@qz_ _ _ _ _ _ _ _ qB_ (@qP_ _ _ _ _ (@qcu_ _ _ [19,25,37,41,67,97,131,193,285,369] (by kernel_rfl))) (qn_ qV_ (pv 0) qj_) (fun _ _=>rfl)))),?_⟩
  refine ⟨(by decide),fun p1 n1=>?_⟩
  obtain ⟨d,hd,e⟩:∃ d:Nat,d < 10/\c % 10 = (d:Int):=⟨(c % 10).toNat,by omega,by omega⟩
  have e1:(R81.map fun n:Nat=>V.int n)[d]? = some (V.int ((R81.getD d 0:Nat):Int)):=by
   rw [List.getElem?_map,List.getD_eq_getElem?_getD,List.getElem?_eq_getElem (show d < R81.length from hd)]
   rfl
  refine ⟨_,rfl,_,_,rfl,rfl,(by show (0:Int) < 10;decide),p1,(R81.map fun n:Nat=>V.int n),c % 10,_,rfl,rfl,SqL.of qc_,(by rw [e];exact qr_ e1),?_⟩
  exact q _ _ (qg0_ d hd) (Same.new n1)
end
section
variable {P:Program}{wo:World}{K:PySem.W.Frag}{mg:Str->Option Value}{base:Heap}{a:Adr}
theorem qiu_ {r w d:Nat} (h:((2 ^ w:Nat):Int)<=(d:Int) * 2):Builtin.bitXor ((d:Int) * 2) (r:Int) = ((GF.dbl r w d:Nat):Int):=by
 have e0:(d:Int) * 2 = ((2 * d:Nat):Int):=by omega
 try dsimp only
 rw [e0,j7_]
 unfold GF.dbl
 rw [if_pos (by omega)]
theorem qiv_ {r w d:Nat} (h:¬ ((2 ^ w:Nat):Int)<=(d:Int) * 2):(d:Int) * 2 = ((GF.dbl r w d:Nat):Int):=by
 unfold GF.dbl
 rw [if_neg (by omega)]
 omega
end
def rowV (row:List Nat):List V:=row.map fun (n:Nat)=>V.int (n:Int)
theorem qba_ {row:List Nat}{i:Nat} (h:i < row.length):(rowV row)[i]? = some (.int (row[i]:Nat)):=by
 unfold rowV
 rw [List.getElem?_map,List.getElem?_eq_getElem h]
 rfl
theorem qk_ (row:List Nat):(rowV row).length = row.length:=List.length_map _
theorem je_ {row:List Nat}{i:Nat}{v:V} (h:(rowV row)[i]? = some v):∃ x,row[i]? = some x/\v = .int (x:Nat):=by
 unfold rowV at h
 rw [List.getElem?_map] at h
 cases q:row[i]? with
 | none=>rw [q] at h;cases h
 | some x=>rw [q] at h;exact ⟨x,rfl,(Option.some.inj h).symm⟩
theorem jx_ (row:List Nat) (x:Nat):rowV row ++ [.int (x:Nat)] = rowV (row ++ [x]):=by unfold rowV;rw [List.map_append];rfl
theorem qbb_ (row:List Nat) (f:Nat->Nat) (g:V->V) (h:∀ n:Nat,g (.int (n:Int)) = .int ((f n:Nat):Int)):(rowV row).map g = rowV (row.map f):=by
 unfold rowV
 rw [List.map_map,List.map_map]
 apply List.map_congr_left
 intro n _
 exact h n
theorem vP_ {row:List Nat}{v:V} (h:v ∈ rowV row):∃ x ∈ row,v = .int (x:Nat):=by
 unfold rowV at h
 obtain ⟨x,hx,e⟩:=List.mem_map.mp h
 exact ⟨x,hx,e.symm⟩
theorem modN (c:Int) {n:Nat} (h:0 < n):∃ y:Nat,y < n/\c % (n:Int) = (y:Int):=by
 have hp:(0:Int) < (n:Int):=by omega
 have h1:=Int.emod_lt_of_pos c hp
 have h2:=Int.emod_nonneg c (Int.ne_of_gt hp)
 exact ⟨(c % (n:Int)).toNat,by omega,by omega⟩
theorem qfa_ {a:Adr}{H H1:Hp}{x dx:Addr}{r w:Nat} (s1:Same H H1) (nx:H1 x = none) (ndx:H1 dx = none):Same H (upd (upd (upd H1 dx (.own x)) x (.ins a.C_Field dx [])) x (.ins a.C_Field dx (ff r w))):=by
 rw [jA_]
 refine s1.trans fun b o e=>?_
 rw [qf_ (qm_ e nx),qf_ (qm_ e ndx)]
 exact e
theorem qkd_ {u v:V} (h:u = v):¬ (!decide (u = v)) = true:=by rw [decide_eq_true h];decide
theorem j4_ {n j:Nat} (h:j < n):ixN n (j:Int) = some j:=by
 unfold ixN
 rw [if_pos (by omega),if_pos (by omega),Int.toNat_natCast]
theorem qfb_ {row:List Nat}{k:Nat} (h:k<=row.length):cutV (rowV row) (some (k:Int)) none = rowV (row.drop k):=by
 unfold cutV
 rw [HT.sIx_none,HT.sIx_nat,qk_,Nat.min_eq_left h]
 unfold rowV
 rw [<- List.map_drop,← List.map_take]
 congr 1
 apply List.take_of_length_le
 rw [List.length_drop]
 exact Nat.le_refl _
def bf (fp:Addr) (w n:Nat):List (Str × V):=[("field",.ref fp),("many",.int n),("limit",.int (((2 ^ w) ^ n:Nat):Int))]
theorem y1_ (fp:Addr) (w n:Nat):(bf fp w n).lookup ("field" : Str) = some (.ref fp):=rfl
theorem qiw_ (fp:Addr) (w n:Nat):(bf fp w n).lookup ("many" : Str) = some (.int n):=rfl
structure BlocksAt (a:Adr) (H:Hp) (p fp:Addr) (r w n:Nat):Prop where
 ins:∃ dx,H p = some (.ins a.C_Blocks dx (bf fp w n))
 fld:FieldAt a.C_Field H fp r w
theorem BlocksAt.same {a:Adr}{H H':Hp}{p fp:Addr}{r w n:Nat} (h:BlocksAt a H p fp r w n) (s:Same H H'):BlocksAt a H' p fp r w n:=let ⟨dx,e⟩:=h.ins;⟨⟨dx,s _ _ e⟩,h.fld.same s⟩
theorem qdr_ {a:Adr}{H H1:Hp}{x dx fp:Addr}{w n:Nat} (s1:Same H H1) (nx:H1 x = none) (ndx:H1 dx = none):Same H (upd (upd (upd H1 dx (.own x)) x (.ins a.C_Blocks dx [])) x (.ins a.C_Blocks dx (bf fp w n))):=by
 rw [jA_]
 refine s1.trans fun b o e=>?_
 rw [qf_ (qm_ e nx),qf_ (qm_ e ndx)]
 exact e
section
variable {P:Program}{wo:World}{K:PySem.W.Frag}{mg:Str->Option Value}{base:Heap}{a:Adr}
def qbc_ (a:Adr):Sp:=fun vs H Q _=>∃ (p dx fp:Addr) (r w n:Nat),vs = [.ref p,.ref fp,.int n]/\H p = some (.ins a.C_Blocks dx [])/\FieldAt a.C_Field H fp r w/\p ≠ fp/\GF.Good r w/\1<=n/\n<=16/\Q .non (upd H p (.ins a.C_Blocks dx (bf fp w n)))
theorem uC_ (T:Txt K mg a):FnOk P wo K mg base CX0 1 a.f_Blocks_init a.d_Blocks_init ["self", "field", "many"] (qbc_ a):=by
 refine T.F_Blocks_init.ok (k:=0) sc_Blocks_init (fun vs H Q E h=>?_) (fun cdv A outer s H vs Q E hr h=>?_)
 ·obtain ⟨p,dx,fp,r,w,n,rfl,_⟩:=h
  rfl
 ·obtain ⟨p,dx,fp,r,w,n,rfl,hp,hF,hne,R,h1,h16,q⟩:=h
  have t16:=R.top16
  have t256:=R.top256
  refine ⟨_,(qd_ (qD_ (PW.pt (ym_ (qt_ zt_ (pv 2) qj_ (qu_ _)) (yA_ (qt_ yF_ (pv 2) (zA_ (v:=.int 16) rfl T.v_MOST_SYMBOLS ⟨_,rfl⟩) (qu_ _))))) (qg_ jO_) qA_)
   (qd_ (jL_ (pv 0) (pv 1) rfl)
   (qd_ (jL_ (pv 0) (pv 2) rfl)
   (qd_ (jL_ (pv 0) qj_ rfl)
   (qg_ (qK_ PassesOwn.never rfl (qW_ rfl T.n_range (qa_ (pv 2) qe_)) (qo_ (i:=3) sc_Blocks_init.nd rfl (Or.inl rfl)) (qg_ (jL_ (pv 0) (qn_ jP_ (qC_ (pv 0) rfl) (qn_ qO_ (qC_ (pv 1) rfl) qj_)) rfl)))))))),?_⟩
  refine ⟨_,rfl,_,_,rfl,rfl,_,rfl,?_⟩
  refine ite2 (fun h=>absurd (of_decide_eq_true h) (by omega)) (fun _=>?_)
  refine ⟨_,rfl,_,_,rfl,rfl,_,rfl,?_⟩
  refine ite2 (fun h=>absurd (of_decide_eq_true h) (by omega)) (fun _=>?_)
  refine ⟨_,rfl,_,rfl,p,a.C_Blocks,dx,_,rfl,hp,T.cl_Blocks,T.no_Blocks_field,(by decide),?_⟩
  refine ⟨_,rfl,_,rfl,p,a.C_Blocks,dx,_,rfl,qc_,T.cl_Blocks,T.no_Blocks_many,(by show (1:Nat) < 1000;decide),?_⟩
  refine ⟨_,rfl,p,a.C_Blocks,dx,_,rfl,qc_,T.cl_Blocks,T.no_Blocks_limit,(by show (2:Nat) < 1000;decide),?_⟩
  dsimp only
  rw [jA_,jA_]
  have ef:∀ v:V,putF "limit" v (putF "many" (.int (n:Int)) (putF "field" (.ref fp) [])) = [(("field" : Str),.ref fp),(("many" : Str),.int (n:Int)),(("limit" : Str),v)]:=fun v=>rfl
  rw [ef]
  refine ⟨_,rfl,_,rfl,by omega,by omega,jn_ (lo:=0) (n:=n) (fun i σ H'=>∃ v:Option V,σ = [some (.ref p),some (.ref fp),some (.int n),v] ∧ H' = upd H p (.ins a.C_Blocks dx [(("field" : Str),.ref fp),(("many" : Str),.int (n:Int)),(("limit" : Str),.int (((2 ^ w) ^ i:Nat):Int))])) ⟨none,rfl,rfl⟩ ?_ ?_⟩
  ·rintro i σ H' hi ⟨v,rfl,rfl⟩
   obtain ⟨dF,hF'⟩:=hF
   have el:(((2 ^ w - 1:Nat):Int) + 1) = ((2 ^ w:Nat):Int):=by omega
   refine ⟨_,rfl,p,_,_,_,_,rfl,qc_,T.cl_Blocks,T.no_Blocks_limit,rfl,_,rfl,fp,_,_,_,_,rfl,(by rw [qf_ hne.symm];exact hF'),T.cl_Field,T.no_Field_last,yZ_ r w,_,_,rfl,rfl,_,_,rfl,rfl,.inr ⟨by omega,by omega⟩,?_⟩
   refine ⟨_,rfl,p,a.C_Blocks,dx,_,rfl,qc_,T.cl_Blocks,T.no_Blocks_limit,(by show (3:Nat) < 1000;decide),?_⟩
   refine ⟨_,rfl,?_⟩
   rw [jA_]
   have e2:(((2 ^ w) ^ i:Nat):Int) * (((2 ^ w - 1:Nat):Int) + 1) = (((2 ^ w) ^ (i + 1):Nat):Int):=by
    rw [el,Nat.pow_succ,Int.natCast_mul]
   rw [<- e2]
   rfl
  ·rintro σ H' ⟨v,rfl,rfl⟩
   exact q
def qfc_ (a:Adr):Sp:=fun vs H Q _=>∃ (p fp:Addr) (r w n b:Nat),vs = [.ref p,.int b]/\BlocksAt a H p fp r w n/\GF.Good r w/\n<=16/\∀ D H',H D = none->Same H H'->H' D = some (.lst (rowV (GF.syms w n b)))->Q (.ref D) H'
theorem vw_ (T:Txt K mg a):FnOk P wo K mg base CX0 1 a.f_Blocks_symbols a.d_Blocks_symbols ["self", "block"] (qfc_ a):=by
 refine T.F_Blocks_symbols.ok (k:=0) sc_Blocks_symbols (fun vs H Q E h=>?_) (fun cdv A outer s H vs Q E hr h=>?_)
 ·obtain ⟨p,fp,r,w,n,b,rfl,_⟩:=h
  rfl
 ·obtain ⟨p,fp,r,w,n,b,rfl,hB,R,h16,q⟩:=h
  have t16:=R.top16
  have t256:=R.top256
  obtain ⟨dB,hB'⟩:=hB.ins
  obtain ⟨dF,hF'⟩:=hB.fld
  have el:(((2 ^ w - 1:Nat):Int) + 1) = ((2 ^ w:Nat):Int):=by omega
  refine ⟨_,(qd_ (ql_ (i:=2) sc_Blocks_symbols.nd rfl (Or.inl rfl) (qn_ qO_ (qC_ (qC_ (pv 0) rfl) rfl) qj_))
   (qd_ (ql_ (i:=3) sc_Blocks_symbols.nd rfl (Or.inl rfl) (qP_ qe_))
   (qd_ (ql_ (i:=4) sc_Blocks_symbols.nd rfl (Or.inl rfl) (pv 1))
   (qd_ (qK_ PassesOwn.never rfl (qW_ rfl T.n_range (qa_ (qC_ (pv 0) rfl) qe_)) (qo_ (i:=5) sc_Blocks_symbols.nd rfl (Or.inl rfl)) (qd_ (qU_ (jW_ PySem.F.plainAttrs_list PySem.F.slot_list_append PySem.F.type_list_append qQ_ (pv 3) (qa_ (qn_ qV_ (pv 4) (pv 2)) qe_)))
   (qg_ (ql_ (i:=4) sc_Blocks_symbols.nd rfl (Or.inl rfl) (qn_ j3_ (pv 4) (pv 2))))))
   (qg_ (qq_ (pv 3))))))),?_⟩
  refine ⟨_,rfl,p,_,_,_,_,rfl,hB',T.cl_Blocks,T.no_Blocks_field,y1_ fp w n,fp,_,_,_,_,rfl,hF',T.cl_Field,T.no_Field_last,yZ_ r w,_,_,rfl,rfl,?_⟩
  dsimp only
  rw [el]
  refine ⟨by decide,fun D nD=>?_⟩
  have s1:=Same.new (o:=.lst []) nD
  refine ⟨_,rfl,?_⟩
  refine ⟨_,rfl,p,_,_,_,_,rfl,s1 _ _ hB',T.cl_Blocks,T.no_Blocks_many,qiw_ fp w n,_,rfl,by omega,by omega,jn_ (lo:=0) (n:=n) (fun i σ H'=>∃ (v:Option V) (row:List Nat) (c:Nat),σ = [some (.ref p),some (.int b),some (.int ((2 ^ w:Nat):Int)),some (.ref D),some (.int c),v]/\Same H H'/\H' D = some (.lst (rowV row))/\row.length = i/\row ++ GF.syms w (n - i) c = GF.syms w n b)
   ⟨none,[],b,rfl,s1,qc_,rfl,rfl⟩ ?_ ?_⟩
  ·rintro i σ H' hi ⟨v,row,c,rfl,sm,hD,hl,inv⟩
   have hp:(0:Int) < ((2 ^ w:Nat):Int):=by omega
   have em:((c:Int) % ((2 ^ w:Nat):Int)) = ((c % 2 ^ w:Nat):Int):=(Int.natCast_emod _ _).symm
   have ed:((c:Int) / ((2 ^ w:Nat):Int)) = ((c / 2 ^ w:Nat):Int):=(Int.natCast_ediv _ _).symm
   refine ⟨_,rfl,.inl ⟨rfl,_,SqL.of hD⟩,_,rfl,_,rfl,_,_,rfl,rfl,p0 hp,D,_,_,rfl,rfl,hD,qeo_ (by rw [qk_];omega),?_⟩
   refine ⟨_,rfl,_,rfl,_,_,rfl,rfl,⟨hp,by omega⟩,?_⟩
   dsimp only
   rw [em,ed,jx_]
   refine ⟨_,row ++ [c % 2 ^ w],c / 2 ^ w,rfl,fun b' o e=>by rw [qf_ (qm_ e nD)];exact sm b' o e,qc_,by rw [List.length_append,hl];rfl,?_⟩
   rw [<- inv]
   have e1:n - i = (n - (i + 1)) + 1:=by omega
   rw [e1,GF.syms,List.append_assoc]
   rfl
  ·rintro σ H' ⟨v,row,c,rfl,sm,hD,hl,inv⟩
   rw [Nat.sub_self,GF.syms,List.append_nil] at inv
   rw [inv] at hD
   exact ⟨_,rfl,q D H' nD sm hD⟩
def qg2_ (K:PySem.W.Frag) (a:Adr):Sp:=fun vs H Q _=>∃ (p fp l:Addr) (r w n:Nat) (row:List Nat),vs = [.ref p,.ref l]/\BlocksAt a H p fp r w n/\GF.Good r w/\SqL K H l (rowV row)/\Q (.int ((GF.join w row:Nat):Int)) H
theorem vQ_ (T:Txt K mg a):FnOk P wo K mg base CX0 1 a.f_Blocks_joined a.d_Blocks_joined ["self", "some"] (qg2_ K a):=by
 refine T.F_Blocks_joined.ok (k:=0) sc_Blocks_joined (fun vs H Q E h=>?_) (fun cdv A outer s H vs Q E hr h=>?_)
 ·obtain ⟨p,fp,l,r,w,n,row,rfl,_⟩:=h
  rfl
 ·obtain ⟨p,fp,l,r,w,n,row,rfl,hB,R,hL,q⟩:=h
  have t16:=R.top16
  have t256:=R.top256
  obtain ⟨dB,hB'⟩:=hB.ins
  obtain ⟨dF,hF'⟩:=hB.fld
  have el:(((2 ^ w - 1:Nat):Int) + 1) = ((2 ^ w:Nat):Int):=by omega
  refine ⟨_,(qd_ (ql_ (i:=2) sc_Blocks_joined.nd rfl (Or.inl rfl) (qn_ qO_ (qC_ (qC_ (pv 0) rfl) rfl) qj_))
   (qd_ (ql_ (i:=3) sc_Blocks_joined.nd rfl (Or.inl rfl) qj_)
   (qd_ (qK_ PassesOwn.never rfl (qj4_ rfl T.n_reversed (qa_ (pv 1) qe_)) (qo_ (i:=4) sc_Blocks_joined.nd rfl (Or.inl rfl)) (qg_ (ql_ (i:=3) sc_Blocks_joined.nd rfl (Or.inl rfl) (qn_ qO_ (qn_ jP_ (pv 3) (pv 2)) (pv 4)))))
   (qg_ (qq_ (pv 3)))))),?_⟩
  refine ⟨_,rfl,p,_,_,_,_,rfl,hB',T.cl_Blocks,T.no_Blocks_field,y1_ fp w n,fp,_,_,_,_,rfl,hF',T.cl_Field,T.no_Field_last,yZ_ r w,_,_,rfl,rfl,?_⟩
  dsimp only
  rw [el]
  refine ⟨_,rfl,l,_,rfl,hL,qif_ (K:=K) (a:=l) (xs:=rowV row) (fun i σ H'=>∃ v:Option V,σ = [some (.ref p),some (.ref l),some (.int ((2 ^ w:Nat):Int)),some (.int ((GF.join w (row.drop (row.length - i)):Nat):Int)),v]/\H' = H) ⟨none,?_,rfl⟩ ?_ ?_ ?_⟩
  ·rw [Nat.sub_zero,List.drop_length]
   rfl
  ·rintro i σ H' _ ⟨v,_,rfl⟩
   exact hL
  ·rintro i v σ H' hi hx ⟨v0,rfl,rfl⟩
   rw [qk_] at hi hx
   obtain ⟨y,hy,rfl⟩:=je_ hx
   refine ⟨_,rfl,_,rfl,_,_,rfl,rfl,.inr ⟨by omega,by omega⟩,_,rfl,_,_,rfl,rfl,some (.int (y:Nat)),?_,rfl⟩
   have ed:row.drop (row.length - (i + 1)) = y :: row.drop (row.length - i):=by
    have e1:row.length - (i + 1) = row.length - 1 - i:=by omega
    have e2:row.length - i = row.length - 1 - i + 1:=by omega
    rw [e1,e2]
    have hlt:row.length - 1 - i < row.length:=by omega
    rw [List.drop_eq_getElem_cons hlt]
    congr 1
    rw [List.getElem?_eq_getElem hlt] at hy
    exact Option.some.inj hy
   rw [ed,GF.join,Int.natCast_add,Int.natCast_mul]
   rfl
  ·rintro σ H' ⟨v,rfl,rfl⟩
   rw [qk_,Nat.sub_self,List.drop_zero]
   exact ⟨_,rfl,q⟩
def qg3_ (a:Adr):Sp:=fun vs H Q _=>∃ (p fp:Addr) (r w n f b:Nat),vs = [.ref p,.int f,.int b]/\BlocksAt a H p fp r w n/\GF.Good r w/\n<=16/\f < 2 ^ w/\∀ H',Same H H'->Q (.int ((GF.join w ((GF.syms w n b).map (GF.tm r w f)):Nat):Int)) H'
theorem vR_ (T:Txt K mg a):FnOk P wo K mg base CX0 3 a.f_Blocks_scaled a.d_Blocks_scaled ["self", "factor", "block"] (qg3_ a):=by
 have G_Field_times:FnOk P wo K mg base CX0 2 _ _ _ _:=y0_ T
 have G_Blocks_joined:FnOk P wo K mg base CX0 1 _ _ _ _:=vQ_ T
 have G_Blocks_symbols:FnOk P wo K mg base CX0 1 _ _ _ _:=vw_ T
 refine T.F_Blocks_scaled.ok (k:=2) vM_ (fun vs H Q E h=>?_) (fun cdv A outer s H vs Q E hr h=>?_)
 ·obtain ⟨p,fp,r,w,n,f,b,rfl,_⟩:=h
  rfl
 ·obtain ⟨p,fp,r,w,n,f,b,rfl,hB,R,h16,hf,q⟩:=h
  obtain ⟨dB,hB'⟩:=hB.ins
  obtain ⟨dF,hF'⟩:=hB.fld
  refine ⟨_,(qg_ (qq_ (qF_ (pv 0) T.cl_Blocks T.me_Blocks_joined G_Blocks_joined (hr.mono (by decide)) T.b_Blocks_joined .nil qp_ (qa_ (jM_ (CompOk.of (cap:=[1,0]) (own:=["symbol"]) (by kernel_rfl)) rfl (q7_ (qF_ (pv 0) T.cl_Blocks T.me_Blocks_symbols G_Blocks_symbols (hr.mono (by decide)) T.b_Blocks_symbols .nil qp_ (qa_ (pv 2) qe_))) (fun _ _ _ _ _=>(qo_ (i:=2) (of_decide_eq_true (by kernel_rfl)) rfl (Or.inl rfl))) (fun _ _ _ _ _=>jw_) (fun _ _ _ _ _=>by exact (qF_ (by exact (uw_ (K:=K) rfl (pv 1) rfl)) T.cl_Field T.me_Field_times G_Field_times (hr.mono (by decide)) T.b_Field_times .nil qp_ (qa_ (pv 0) (qa_ (pv 2) qe_))))) qe_)))),?_⟩
  refine ⟨_,rfl,p,dB,_,rfl,hB',rfl,_,rfl,p,dB,_,rfl,hB',rfl,_,rfl,p,fp,r,w,n,b,rfl,hB,R,h16,fun l H1 nl s1 hl=>?_⟩
  refine ⟨l,rfl,⟨_,SqL.of hl⟩,fun D nD=>?_⟩
  refine ue_ (xs:=rowV (GF.syms w n b)) (f:=fun v=>match v with | .int i=>.int ((GF.tm r w f i.toNat:Nat):Int) | v=>v) (cs:=[some (.int f),some (.ref p)]) (SqL.of hl) nD rfl (Nat.le_trans (by rw [qk_,GF.syms_length];exact h16) (by decide)) (fun x H2 R2 hx s2 hR=>?_) (fun H2 s2 hD=>?_)
  ·obtain ⟨y,hy,rfl⟩:=vP_ hx
   have hF2:=s2 _ _ (s1 _ _ hF')
   refine ⟨_,rfl,p,_,_,_,_,rfl,s2 _ _ (s1 _ _ hB'),T.cl_Blocks,T.no_Blocks_field,y1_ fp w n,fp,dF,_,rfl,hF2,rfl,_,rfl,_,rfl,fp,r,w,f,y,rfl,⟨dF,hF2⟩,R.rule,hf,hR _ (Same.refl _)⟩
  ·rw [qbb_ (f:=GF.tm r w f) (h:=fun n=>rfl)] at hD
   exact ⟨p,fp,D,r,w,n,_,rfl,hB.same (s1.trans s2),R,SqL.of hD,q _ (s1.trans s2)⟩
end
section
variable {P:Program}{wo:World}{K:PySem.W.Frag}{mg:Str->Option Value}{base:Heap}{a:Adr}
def qg4_ (K:PySem.W.Frag) (a:Adr):Sp:=fun vs H Q _=>∃ (p fp lf lb:Addr) (r w n:Nat) (fs bs:List Nat),vs = [.ref p,.ref lf,.ref lb]/\BlocksAt a H p fp r w n/\GF.Good r w/\n<=16/\SqL K H lf (rowV fs)/\SqL K H lb (rowV bs)/\fs.length = bs.length/\(∀ f ∈ fs,f < 2 ^ w) ∧
 ∀ H',Same H H'->Q (.int ((GF.sumB r w n (fs.zip bs):Nat):Int)) H'
theorem qg5_ {fs bs:List Nat}{i f b:Nat} (hf:fs[i]? = some f) (hb:bs[i]? = some b):(fs.zip bs).take (i + 1) = (fs.zip bs).take i ++ [(f,b)]:=by
 rw [List.take_add_one]
 have:(fs.zip bs)[i]? = some (f,b):=by
  rw [List.zip,List.getElem?_zipWith,hf,hb]
 rw [this]
 rfl
theorem vS_ (T:Txt K mg a):FnOk P wo K mg base CX0 4 a.f_Blocks_summed a.d_Blocks_summed ["self", "factors", "some"] (qg4_ K a):=by
 have G_Blocks_scaled:FnOk P wo K mg base CX0 3 _ _ _ _:=vR_ T
 refine T.F_Blocks_summed.ok (k:=3) sc_Blocks_summed (fun vs H Q E h=>?_) (fun cdv A outer s H vs Q E hr h=>?_)
 ·obtain ⟨p,fp,lf,lb,r,w,n,fs,bs,rfl,_⟩:=h
  rfl
 ·obtain ⟨p,fp,lf,lb,r,w,n,fs,bs,rfl,hB,R,h16,hf,hb,hlen,hall,q⟩:=h
  refine ⟨_,(qd_ (ql_ (i:=3) sc_Blocks_summed.nd rfl (Or.inl rfl) qj_)
   (qd_ (qK_ PassesOwn.never rfl (z6_ rfl T.n_zip (qa_ (pv 1) (qa_ (pv 2) qe_))) (y4_ rfl (qL_ (qo_ (i:=4) sc_Blocks_summed.nd rfl (Or.inl rfl)) (qL_ (qo_ (i:=5) sc_Blocks_summed.nd rfl (Or.inl rfl)) j2_))) (qg_ (ql_ (i:=3) sc_Blocks_summed.nd rfl (Or.inl rfl) (qn_ zj_ (pv 3) (qF_ (pv 0) T.cl_Blocks T.me_Blocks_scaled G_Blocks_scaled (hr.mono (by decide)) T.b_Blocks_scaled .nil qp_ (qa_ (pv 4) (qa_ (pv 5) qe_)))))))
   (qg_ (qq_ (pv 3))))),?_⟩
  refine ⟨_,rfl,_,rfl,lf,lb,_,_,rfl,hf,hb,uu_ (K:=K) (l1:=lf) (l2:=lb) (xs:=rowV fs) (ys:=rowV bs) (fun i σ H'=>∃ v4 v5:Option V,σ = [some (.ref p),some (.ref lf),some (.ref lb),some (.int ((GF.sumB r w n ((fs.zip bs).take i):Nat):Int)),v4,v5]/\Same H H') ⟨none,none,rfl,Same.refl _⟩ ?_ (by rw [qk_,qk_];exact hlen) ?_ ?_⟩
  ·rintro i σ H' _ ⟨v4,v5,_,sm⟩
   exact ⟨sm.seq hf,sm.seq hb⟩
  ·rintro i u v T' σ H' hi hu hv hT ⟨v4,v5,rfl,sm⟩
   obtain ⟨f,hfi,rfl⟩:=je_ hu
   obtain ⟨b,hbi,rfl⟩:=je_ hv
   have s1:=sm.trans (Same.new (o:=.tup [V.int (f:Nat),V.int (b:Nat)]) hT)
   have hB1:=hB.same s1
   obtain ⟨dB,hB'⟩:=hB1.ins
   refine ⟨T',_,rfl,SqT.of qc_,rfl,_,_,rfl,_,_,rfl,rfl,?_⟩
   refine ⟨_,rfl,_,rfl,p,dB,_,rfl,hB',rfl,_,rfl,_,rfl,p,fp,r,w,n,f,b,rfl,hB1,R,h16,hall f (List.mem_of_getElem? hfi),fun H2 s2=>?_⟩
   refine ⟨_,_,rfl,rfl,some (.int (f:Nat)),some (.int (b:Nat)),?_,s1.trans s2⟩
   rw [qg5_ hfi hbi,GF.sumB_snoc]
   show [_,_,_,some (V.int (Builtin.bitXor _ _)),_,_] = _
   rw [j7_]
  ·rintro σ H' ⟨v4,v5,rfl,sm⟩
   have e:(fs.zip bs).take (rowV fs).length = fs.zip bs:=by
    rw [qk_]
    apply List.take_of_length_le
    rw [List.length_zip]
    omega
   rw [e]
   exact ⟨_,rfl,q H' sm⟩
end
structure TabAt (H:Hp) (ps:List Addr) (M:Nat) (row:Nat->List Nat):Prop where
 len:ps.length = M
 on:∀ (i:Nat) p,ps[i]? = some p->H p = some (.lst (rowV (row i)))
theorem TabAt.same {H H':Hp}{ps:List Addr}{M:Nat}{row:Nat->List Nat} (h:TabAt H ps M row) (s:Same H H'):TabAt H' ps M row:=⟨h.len,fun i p e=>s _ _ (h.on i p e)⟩
theorem TabAt.get {H:Hp}{ps:List Addr}{M:Nat}{row:Nat->List Nat} (h:TabAt H ps M row) {i:Nat} (hi:i < M):∃ p,ps[i]? = some p/\H p = some (.lst (rowV (row i))):=by
 have hl:i < ps.length:=by rw [h.len];exact hi
 exact ⟨ps[i],List.getElem?_eq_getElem hl,h.on i _ (List.getElem?_eq_getElem hl)⟩
theorem qG_ {ps:List Addr}{i:Nat}{p:Addr} (h:ps[i]? = some p):(ps.map V.ref)[i]? = some (.ref p):=by rw [List.getElem?_map,h];rfl
theorem jy_ {row:List Nat}{i:Nat} (h:i < row.length):(rowV row)[i]? = some (.int ((row.getD i 0:Nat):Int)):=by
 rw [qba_ h,List.getD_eq_getElem?_getD,List.getElem?_eq_getElem h]
 rfl
def yU_ (m at':Nat):List Nat:=(List.replicate m 0).set at' 1
theorem vt_ (n c:Nat):(List.replicate n [V.int (c:Int)]).flatten = rowV (List.replicate n c):=by
 induction n with
 | zero=>rfl
 | succ n ih=>rw [List.replicate_succ,List.flatten_cons,ih,List.replicate_succ];rfl
theorem vT_ (row:List Nat) (i x:Nat):(rowV row).set i (.int (x:Nat)) = rowV (row.set i x):=by
 unfold rowV
 rw [List.map_set]
def rowT (W:Nat) (T:Nat->Nat->Nat) (i:Nat):List Nat:=(List.range W).map (T i)
theorem qs_ (W:Nat) (T:Nat->Nat->Nat) (i:Nat):(rowT W T i).length = W:=by unfold rowT;rw [List.length_map,List.length_range]
theorem jd_ {W:Nat}{T:Nat->Nat->Nat}{i k:Nat} (h:k < W):(rowT W T i).getD k 0 = T i k:=by
 unfold rowT
 rw [List.getD_eq_getElem?_getD,List.getElem?_map,List.getElem?_range h]
 rfl
theorem yx_ {W:Nat}{T U:Nat->Nat->Nat}{i j:Nat} (h:∀ k,k < W->T i k = U j k):rowT W T i = rowT W U j:=List.map_congr_left fun k hk=>h k (List.mem_range.mp hk)
theorem zg_ {W:Nat}{T:Nat->Nat->Nat}{i n:Nat} (h:∀ k,k < W->T i k < n):∀ x ∈ rowT W T i,x < n:=fun x hx=>by
 obtain ⟨k,hk,rfl⟩:=List.mem_map.mp hx
 exact h k (List.mem_range.mp hk)
theorem TabAt.congr {H:Hp}{ps:List Addr}{M:Nat}{row row':Nat->List Nat} (h:TabAt H ps M row) (e:∀ i,i < M->row i = row' i):TabAt H ps M row' :=
 ⟨h.len,fun i p hi=>by
  have:i < M:=by
   rw [<- h.len]
   exact (List.getElem?_eq_some_iff.mp hi).1
  rw [<- e i this]
  exact h.on i p hi⟩
theorem TabAt.snoc {H H':Hp}{ps:List Addr}{n:Nat}{row:Nat->List Nat}{p:Addr} (h:TabAt H ps n row) (s:∀ q ∈ ps,H' q = H q) (hp:H' p = some (.lst (rowV (row n)))):TabAt H' (ps ++ [p]) (n + 1) row:=by
 refine ⟨by rw [List.length_append,h.len];rfl,fun i q e=>?_⟩
 rw [List.getElem?_append] at e
 split at e
 ·rw [s q (List.mem_of_getElem? e)]
  exact h.on i q e
 ·rename_i hge
  cases ht:i - ps.length with
  | zero =>
   rw [ht] at e
   have:p = q:=by simpa using e
   subst this
   have:i = n:=by have:=h.len;omega
   rw [this]
   exact hp
  | succ m=>rw [ht] at e;simp at e
def knV (ks:List Bool):List V:=ks.map V.bl
theorem vd_ (m i:Nat):(yU_ m i).length = m:=by unfold yU_;rw [List.length_set,List.length_replicate]
theorem vF_ (x y:List Nat):rowV x ++ rowV y = rowV (x ++ y):=by unfold rowV;rw [List.map_append]
theorem u0_ {W:Nat}{f:Nat->List Nat}{i:Nat} (h:(f i).length = W):rowT W (fun i k=>(f i).getD k 0) i = f i:=by
 unfold rowT
 apply List.ext_getElem
 ·rw [List.length_map,List.length_range,h]
 ·intro k k1 k2
  simp [k2]
theorem qds_ {N M i k:Nat}{l:Nat->Nat->Nat} (hk:k < N):(rowT N l i ++ yU_ M i).getD k 0 = l i k:=by
 rw [List.getD_eq_getElem?_getD,List.getElem?_append_left (by rw [qs_];exact hk),← List.getD_eq_getElem?_getD,jd_ hk]
theorem qb9_ {N M i j:Nat}{l:Nat->Nat->Nat} (hj:j < M):(rowT N l i ++ yU_ M i).getD (N + j) 0 = if j = i then 1 else 0:=by
 rw [List.getD_eq_getElem?_getD,List.getElem?_append_right (by rw [qs_];omega),qs_,Nat.add_sub_cancel_left]
 unfold yU_
 rw [List.getElem?_set]
 by_cases z:i = j
 ·rw [if_pos z,if_pos (by rw [List.length_replicate];omega),if_pos z.symm]
  rfl
 ·rw [if_neg z,if_neg (fun e=>z e.symm),List.getElem?_replicate,if_pos hj]
  rfl
theorem TabAt.upd {H:Hp}{ps:List Addr}{M:Nat}{row:Nat->List Nat}{d:Addr}{o:HO} (h:TabAt H ps M row) (n:d ∉ ps):TabAt (upd H d o) ps M row :=
 ⟨h.len,fun i p e=>by
  have np:p ≠ d:=fun z=>n (by rw [<- z];exact List.mem_of_getElem? e)
  rw [qf_ np]
  exact h.on i p e⟩
theorem qca_ {n:Nat}:(!decide (V.int (n:Int) = V.non)) = true:=by
 rw [decide_eq_false (fun z=>by cases z)]
 rfl
section
variable {P:Program}{wo:World}{K:PySem.W.Frag}{mg:Str->Option Value}{base:Heap}{a:Adr}
def qke_:Sp:=fun vs H Q _=>∃ (m i:Nat),vs = [.int m,.int i]/\i < m/\m<=30/\∀ D H',H D = none->Same H H'->H' D = some (.lst (rowV (yU_ m i)))->Q (.ref D) H'
theorem qc2_ (T:Txt K mg a):FnOk P wo K mg base CX0 1 a.f_unit a.d_unit ["many", "at"] qke_:=by
 refine T.F_unit.ok (k:=0) sc_unit (fun vs H Q E h=>?_) (fun cdv A outer s H vs Q E hr h=>?_)
 ·obtain ⟨m,i,rfl,_⟩:=h
  rfl
 ·obtain ⟨m,i,rfl,hi,hm,q⟩:=h
  refine ⟨_,(qd_ (ql_ (i:=2) sc_unit.nd rfl (Or.inl rfl) (qn_ zE_ (qP_ (qa_ qj_ qe_)) (pv 0)))
   (qd_ (ye_ qj_ (yi_ (pv 2) (pv 1) jS_))
   (qg_ (qq_ (pv 2))))),?_⟩
  refine ⟨(by decide),fun p1 n1=>⟨_,rfl,p1,_,_,rfl,rfl,qc_,by omega,by omega,?_,fun p2 n2=>?_⟩⟩
  ·rw [Int.toNat_natCast]
   show 1 * m<=sizeLine
   exact Nat.le_trans (by omega:1 * m<=30) (by decide)
  have eR:(List.replicate ((m:Int)).toNat [V.int 0]).flatten = rowV (List.replicate m 0):=by rw [Int.toNat_natCast];exact vt_ m 0
  rw [eR]
  refine ⟨_,rfl,_,rfl,p2,_,_,i,rfl,rfl,qc_,j4_ (by rw [qk_,List.length_replicate];exact hi),?_⟩
  have s12:=(Same.new (o:=.lst [V.int 0]) n1)
  refine ⟨_,rfl,q p2 _ (s12.free n2) ?_ ?_⟩
  ·rw [jA_]
   exact s12.trans (Same.new n2)
  ·rw [qc_]
   exact congrArg (fun l=>some (HO.lst l)) (vT_ _ _ 1)
end
section
variable {P:Program}{wo:World}{K:PySem.W.Frag}{mg:Str->Option Value}{base:Heap}{a:Adr}
def qix_ (a:Adr):Sp:=fun vs H Q _=>∃ (p:Addr) (r w x n:Nat),vs = [.ref p,.int x,.int n]/\FieldAt a.C_Field H p r w/\GF.Good r w/\x < 2 ^ w/\Q (.int (GF.pw r w x n:Nat)) H
theorem uD_ (T:Txt K mg a):FnOk P wo K mg base CX0 3 a.f_Field_power a.d_Field_power ["self", "one", "many"] (qix_ a):=by
 have G_Field_times:FnOk P wo K mg base CX0 2 _ _ _ _:=y0_ T
 refine T.F_Field_power.ok (k:=2) sc_Field_power (fun vs H Q E h=>?_) (fun cdv A outer s H vs Q E hr h=>?_)
 ·obtain ⟨p,r,w,x,n,rfl,_⟩:=h
  rfl
 ·obtain ⟨p,r,w,x,n,rfl,hF,g,hx,q⟩:=h
  obtain ⟨dx,hF'⟩:=id hF
  have t16:=g.top16
  refine ⟨_,(qd_ (ql_ (i:=3) sc_Field_power.nd rfl (Or.inl rfl) qj_)
   (qd_ (ql_ (i:=4) sc_Field_power.nd rfl (Or.inl rfl) (pv 1))
   (qd_ (ql_ (i:=5) sc_Field_power.nd rfl (Or.inl rfl) (pv 2))
   (qd_ (yH_ PassesOwn.never (qt_ yF_ (pv 5) qj_ (qu_ _)) (qd_ (qD_ (qt_ jD_ (qn_ qV_ (pv 5) qj_) qj_ (qu_ _)) (qg_ (ql_ (i:=3) sc_Field_power.nd rfl (Or.inl rfl) (qF_ (pv 0) T.cl_Field T.me_Field_times G_Field_times (hr.mono (by decide)) T.b_Field_times .nil qp_ (qa_ (pv 3) (qa_ (pv 4) qe_))))) qA_)
   (qd_ (ql_ (i:=4) sc_Field_power.nd rfl (Or.inl rfl) (qF_ (pv 0) T.cl_Field T.me_Field_times G_Field_times (hr.mono (by decide)) T.b_Field_times .nil qp_ (qa_ (pv 4) (qa_ (pv 4) qe_))))
   (qg_ (ql_ (i:=5) sc_Field_power.nd rfl (Or.inl rfl) (qn_ j3_ (pv 5) qj_))))))
   (qg_ (qq_ (pv 3))))))),?_⟩
  refine ⟨_,rfl,_,rfl,⟨fun m σ H'=>∃ (y s d:Nat),d = m/\σ = [some (.ref p),some (.int x),some (.int n),some (.int (y:Nat)),some (.int (s:Nat)),some (.int (d:Nat))]/\H' = H/\y < 2 ^ w/\s < 2 ^ w/\GF.tm r w y (GF.pw r w s d) = GF.pw r w x n,⟨_,1,x,n,rfl,rfl,rfl,by omega,hx,GF.one_tm g.rule g.w1 (GF.pw_lt g hx n)⟩,?_⟩⟩
  rintro m σ H' ⟨y,s,d,rfl,rfl,rfl,hy,hs,inv⟩
  refine ⟨_,rfl,_,_,rfl,rfl,_,rfl,?_⟩
  refine ite2 (fun h=>⟨_,fun _ _ z=>z,?_⟩) (fun h=>?_)
  ·have hd:0 < d:=by
    have:=of_decide_eq_true h
    omega
   have hdv:((d:Int) / 2) = ((d / 2:Nat):Int):=by omega
   have hss:=GF.tm_lt g.rule (b:=s) hs
   refine ⟨_,rfl,_,_,rfl,rfl,p0 (by decide),rfl,_,rfl,?_⟩
   refine ite2 (fun h1=>?_) (fun h1=>?_)
   ·have h1':d % 2 = 1:=by
     have:=V.int.inj (of_decide_eq_true h1)
     omega
    refine ⟨_,rfl,p,dx,_,rfl,hF',rfl,_,rfl,_,rfl,p,r,w,y,s,rfl,hF,g.rule,hy,?_⟩
    refine ⟨_,rfl,p,dx,_,rfl,hF',rfl,_,rfl,_,rfl,p,r,w,s,s,rfl,hF,g.rule,hs,?_⟩
    refine ⟨_,rfl,_,_,rfl,rfl,⟨by decide,by decide⟩,?_⟩
    try dsimp only
    rw [hdv]
    refine ⟨d / 2,Nat.div_lt_self hd (by decide),GF.tm r w y s,GF.tm r w s s,d / 2,rfl,rfl,rfl,GF.tm_lt g.rule hy,hss,?_⟩
    have e:d = 1 + 2 * (d / 2):=by omega
    rw [<- inv,GF.pw_half g hs]
    conv=>rhs;rw [e]
    rw [GF.pw_add g hs,GF.pw_one s g hs,GF.tm_assoc g.rule g.w1 hy hs]
   ·have h1':¬ d % 2 = 1:=by
     intro z
     apply h1
     apply decide_eq_true
     show V.int ((d:Int) % 2) = V.int 1
     congr 1
     omega
    refine ⟨_,rfl,p,dx,_,rfl,hF',rfl,_,rfl,_,rfl,p,r,w,s,s,rfl,hF,g.rule,hs,?_⟩
    refine ⟨_,rfl,_,_,rfl,rfl,⟨by decide,by decide⟩,?_⟩
    try dsimp only
    rw [hdv]
    refine ⟨d / 2,Nat.div_lt_self hd (by decide),y,GF.tm r w s s,d / 2,rfl,rfl,rfl,hy,hss,?_⟩
    have e:d = 2 * (d / 2):=by omega
    rw [<- inv,GF.pw_half g hs]
    conv=>rhs;rw [e]
  ·have hd:d = 0:=by
    have:¬ ((0:Int) < (d:Int)):=fun z=>h (decide_eq_true z)
    omega
   subst hd
   have e:GF.pw r w s 0 = 1:=rfl
   rw [e,GF.tm_one] at inv
   refine ⟨_,rfl,?_⟩
   show Q (.int (y:Nat)) H'
   rw [inv]
   exact q
end
section
variable {P:Program}{wo:World}{K:PySem.W.Frag}{mg:Str->Option Value}{base:Heap}{a:Adr}
def qkf_ (a:Adr):Sp:=fun vs H Q _=>∃ (p:Addr) (r w x:Nat),vs = [.ref p,.int x]/\FieldAt a.C_Field H p r w/\GF.Good r w/\0 < x/\x < 2 ^ w/\Q (.int (GF.pw r w x (2 ^ w - 1 - 1):Nat)) H
theorem qag_ (T:Txt K mg a):FnOk P wo K mg base CX0 4 a.f_Field_back a.d_Field_back ["self", "one"] (qkf_ a):=by
 have G_Field_power:FnOk P wo K mg base CX0 3 _ _ _ _:=uD_ T
 refine T.F_Field_back.ok (k:=3) qab_ (fun vs H Q E h=>?_) (fun cdv A outer s H vs Q E hr h=>?_)
 ·obtain ⟨p,r,w,x,rfl,_⟩:=h
  rfl
 ·obtain ⟨p,r,w,x,rfl,hF,g,h0,hx,q⟩:=h
  obtain ⟨dx,hF'⟩:=id hF
  have t16:=g.top16
  refine ⟨_,(qd_ (qD_ (qt_ jD_ (pv 1) qj_ (qu_ _)) (qg_ jO_) qA_)
   (qg_ (qq_ (qF_ (pv 0) T.cl_Field T.me_Field_power G_Field_power (hr.mono (by decide)) T.b_Field_power .nil qp_ (qa_ (pv 1) (qa_ (qn_ zi_ (qC_ (pv 0) rfl) qj_) qe_)))))),?_⟩
  refine ⟨_,rfl,rfl,_,rfl,?_⟩
  refine ite2 (fun h=>absurd (V.int.inj (of_decide_eq_true h)) (by omega)) (fun _=>?_)
  have e:(((2 ^ w - 1:Nat):Int) - 1) = ((2 ^ w - 1 - 1:Nat):Int):=by omega
  refine ⟨_,rfl,p,dx,_,rfl,hF',rfl,_,rfl,_,rfl,p,_,_,_,_,rfl,hF',T.cl_Field,T.no_Field_last,yZ_ r w,_,_,rfl,rfl,?_⟩
  try dsimp only
  rw [e]
  exact ⟨p,r,w,x,_,rfl,hF,g,hx,q⟩
def qbd_ (K:PySem.W.Frag) (a:Adr):Sp:=fun vs H Q _=>∃ (p l:Addr) (r w c:Nat) (row:List Nat),vs = [.ref p,.int c,.ref l]/\FieldAt a.C_Field H p r w/\GF.Good r w/\H l = some (.lst (rowV row))/\(∀ x ∈ row,x < 2 ^ w)/\row.length<=100/\∀ D H',H D = none->Same H H'->H' D = some (.lst (rowV (row.map fun s=>GF.tm r w s c)))->Q (.ref D) H'
theorem zH_ (T:Txt K mg a):FnOk P wo K mg base CX0 3 a.f_scaled_line a.d_scaled_line ["field", "factor", "line"] (qbd_ K a):=by
 have G_Field_times:FnOk P wo K mg base CX0 2 _ _ _ _:=y0_ T
 refine T.F_scaled_line.ok (k:=2) uz_ (fun vs H Q E h=>?_) (fun cdv A outer s H vs Q E hr h=>?_)
 ·obtain ⟨p,l,r,w,c,row,rfl,_⟩:=h
  rfl
 ·obtain ⟨p,l,r,w,c,row,rfl,hF,g,hl,hall,hlen,q⟩:=h
  obtain ⟨dx,hF'⟩:=id hF
  refine ⟨_,(qg_ (qq_ (jM_ (CompOk.of (cap:=[1,0]) (own:=["symbol"]) (by kernel_rfl)) rfl (q7_ (pv 2)) (fun _ _ _ _ _=>(qo_ (i:=2) (of_decide_eq_true (by kernel_rfl)) rfl (Or.inl rfl))) (fun _ _ _ _ _=>jw_) (fun _ _ _ _ _=>by exact (qF_ (pv 1) T.cl_Field T.me_Field_times G_Field_times (hr.mono (by decide)) T.b_Field_times .nil qp_ (qa_ (pv 2) (qa_ (pv 0) qe_))))))),?_⟩
  refine ⟨_,rfl,l,rfl,⟨_,SqL.of hl⟩,fun D nD=>?_⟩
  refine ue_ (xs:=rowV row) (f:=fun v=>match v with | .int i=>.int ((GF.tm r w i.toNat c:Nat):Int) | v=>v) (cs:=[some (.int c),some (.ref p)]) (SqL.of hl) nD rfl (Nat.le_trans (by rw [qk_];exact hlen) (by decide)) (fun x H2 R2 hx s2 hR=>?_) (fun H2 s2 hD=>?_)
  ·obtain ⟨y,hy,rfl⟩:=vP_ hx
   exact ⟨_,rfl,p,dx,_,rfl,s2 _ _ hF',rfl,_,rfl,_,rfl,p,r,w,y,c,rfl,hF.same s2,g.rule,hall y hy,hR _ (Same.refl _)⟩
  ·rw [qbb_ (f:=fun s=>GF.tm r w s c) (h:=fun n=>rfl)] at hD
   exact q D H2 nD s2 hD
def qg6_ (K:PySem.W.Frag):Sp:=fun vs H Q _=>∃ (l1 l2:Addr) (x y:List Nat),vs = [.ref l1,.ref l2]/\H l1 = some (.lst (rowV x))/\H l2 = some (.lst (rowV y))/\x.length = y.length/\x.length<=100/\∀ D H',H D = none->Same H H'->H' D = some (.lst (rowV (List.zipWith (fun s t=>s ^^^ t) x y)))->Q (.ref D) H'
theorem zZ_ (T:Txt K mg a):FnOk P wo K mg base CX0 1 a.f_sum_of_two a.d_sum_of_two ["one", "other"] (qg6_ K):=by
 refine T.F_sum_of_two.ok (k:=0) qac_ (fun vs H Q E h=>?_) (fun cdv A outer s H vs Q E hr h=>?_)
 ·obtain ⟨l1,l2,x,y,rfl,_⟩:=h
  rfl
 ·obtain ⟨l1,l2,x,y,rfl,h1,h2,hl,hlen,q⟩:=h
  refine ⟨_,(qg_ (qq_ (jM_ (CompOk.of (cap:=[]) (own:=["symbol", "another"]) (by kernel_rfl)) rfl (z6_ rfl T.n_zip (qa_ (pv 0) (qa_ (pv 1) qe_))) (fun _ _ _ _ _=>(vs_ (n:=2) (K:=K) rfl rfl (qL_ (qo_ (i:=0) (of_decide_eq_true (by kernel_rfl)) rfl (Or.inl rfl)) (qL_ (qo_ (i:=1) (of_decide_eq_true (by kernel_rfl)) rfl (Or.inl rfl)) j2_)))) (fun _ _ _ _ _=>jw_) (fun _ _ _ _ _=>by exact (qn_ zj_ (pv 0) (pv 1)))))),?_⟩
  refine ⟨_,rfl,_,rfl,l1,l2,_,_,rfl,SqL.of h1,SqL.of h2,fun D nD=>?_⟩
  refine qe1_ (xs:=rowV x) (ys:=rowV y) (f:=fun i=>.int ((x.getD i 0 ^^^ y.getD i 0:Nat):Int)) (cs:=[]) (SqL.of h1) (SqL.of h2) (by rw [qk_,qk_,hl]) nD rfl (Nat.le_trans (by rw [qk_];exact hlen) (by decide)) (fun i u v H2 R2 hu hv s2 hR=>?_) (fun H2 s2 hD=>q D H2 nD s2 ?_)
  ·obtain ⟨su,eu,rfl⟩:=je_ hu
   obtain ⟨sv,ev,rfl⟩:=je_ hv
   refine ⟨_,rfl,_,rfl,_,_,rfl,rfl,?_⟩
   try dsimp only
   rw [j7_]
   have e1:x.getD i 0 = su:=by rw [List.getD_eq_getElem?_getD,eu];rfl
   have e2:y.getD i 0 = sv:=by rw [List.getD_eq_getElem?_getD,ev];rfl
   rw [e1,e2] at hR
   exact hR _ (Same.refl _)
  ·rw [hD]
   congr 2
   rw [qk_]
   apply List.ext_getElem
   ·rw [List.length_map,List.length_range,qk_,List.length_zipWith,hl,Nat.min_self]
   ·intro i i1 i2
    rw [List.length_map,List.length_range] at i1
    have j2:i < y.length:=by omega
    simp [rowV,i1,j2]
end
section
variable {P:Program}{wo:World}{K:PySem.W.Frag}{mg:Str->Option Value}{base:Heap}{a:Adr}
def qiy_ (K:PySem.W.Frag):Sp:=fun vs H Q _=>∃ (l:Addr) (st pl M:Nat) (ps:List Addr) (row:Nat->List Nat),vs = [.ref l,.int st,.int pl]/\H l = some (.lst (ps.map V.ref))/\TabAt H ps M row/\(∀ i,i < M->pl < (row i).length)/\st<=M/\M<=8 ∧
 (∀ f,st<=f->f < M->(row f).getD pl 0 ≠ 0->Q (.int (f:Nat)) H)/\((∀ i,st<=i->i < M->(row i).getD pl 0 = 0)->Q .non H)
theorem qah_ (T:Txt K mg a):FnOk P wo K mg base CX0 1 a.f_first_with a.d_first_with ["lines", "start", "place"] (qiy_ K):=by
 refine T.F_first_with.ok (k:=0) sc_first_with (fun vs H Q E h=>?_) (fun cdv A outer s H vs Q E hr h=>?_)
 ·obtain ⟨l,st,pl,M,ps,row,rfl,_⟩:=h
  rfl
 ·obtain ⟨l,st,pl,M,ps,row,rfl,hl,ht,hp,hs,hm,q1,q2⟩:=h
  refine ⟨_,(qd_ (qK_ PassesOwn.never rfl (qeb_ rfl T.n_range (qa_ (pv 1) (qa_ (qy_ qv_ rfl T.n_len PySem.boot_len (qa_ (pv 0) qe_)) qe_))) (qo_ (i:=3) sc_first_with.nd rfl (Or.inl rfl)) (qg_ (qD_ (qt_ v3_ (qz_ qB_ (qz_ qB_ (pv 0) (pv 3) (fun _ _=>rfl)) (pv 2) (fun _ _=>rfl)) qj_ (qu_ _)) (qg_ (qq_ (pv 3))) qA_)))
   (qg_ (qq_ jo_))),?_⟩
  have hlen:((ps.map V.ref).length:Int) = (M:Nat):=by rw [List.length_map,ht.len]
  refine ⟨_,rfl,_,rfl,l,_,rfl,.inl (SqL.of hl),_,_,rfl,⟨by omega,by omega,by omega,by omega⟩,?_⟩
  have en:(((ps.map V.ref).length:Int) - (st:Nat)).toNat = M - st:=by rw [hlen];omega
  rw [en]
  refine jn_ (lo:=(st:Nat)) (n:=M - st) (fun i σ H'=>(∃ v:Option V,σ = [some (.ref l),some (.int st),some (.int pl),v])/\H' = H/\∀ k,st<=k->k < st + i->(row k).getD pl 0 = 0) ⟨⟨none,rfl⟩,rfl,fun k h1 h2=>by omega⟩ ?_ ?_
  ·rintro i σ H' hi ⟨⟨v,rfl⟩,rfl,inv⟩
   have ek:((st:Nat):Int) + (i:Nat) = ((st + i:Nat):Int):=by omega
   obtain ⟨p,ep,hp1⟩:=ht.get (i:=st + i) (by omega)
   have hpl:=hp (st + i) (by omega)
   rw [ek]
   refine ⟨_,rfl,_,rfl,l,_,_,_,rfl,rfl,SqL.of hl,qr_ (qG_ ep),_,rfl,p,_,_,_,rfl,rfl,SqL.of hp1,qr_ (jy_ hpl),rfl,_,rfl,?_⟩
   refine ite2 (fun h=>?_) (fun h=>?_)
   ·refine ⟨_,rfl,?_⟩
    refine q1 (st + i) (by omega) (by omega) fun z=>?_
    rw [z] at h
    revert h
    decide
   ·refine ⟨⟨_,rfl⟩,rfl,fun k h1 h2=>?_⟩
    by_cases e:k = st + i
    ·rw [e]
     apply Decidable.byContradiction
     intro z
     apply h
     rw [decide_eq_false]
     ·rfl
     ·intro y
      have:=V.int.inj y
      omega
    ·exact inv k h1 (by omega)
  ·rintro σ H' ⟨⟨v,rfl⟩,rfl,inv⟩
   exact q2 fun i h1 h2=>inv i h1 (by omega)
def qfd_ (K:PySem.W.Frag):Sp:=fun vs H Q _=>∃ (l:Addr) (h f M:Nat) (ps:List Addr) (row:Nat->List Nat),vs = [.ref l,.int h,.int f]/\H l = some (.lst (ps.map V.ref))/\TabAt H ps M row/\h < M/\f < M/\M<=8 ∧
 ∀ D H' ps',H D = none->Same H H'->H' D = some (.lst (ps'.map V.ref))->TabAt H' ps' M (fun i=>if i = h then row f else if i = f then row h else row i)->(∀ p ∈ ps',p ∈ ps)->Q (.ref D) H'
theorem qdt_ (T:Txt K mg a):FnOk P wo K mg base CX0 1 a.f_swapped a.d_swapped ["lines", "one", "other"] (qfd_ K):=by
 refine T.F_swapped.ok (k:=0) sc_swapped (fun vs H Q E h=>?_) (fun cdv A outer s H vs Q E hr h=>?_)
 ·obtain ⟨l,h,f,M,ps,row,rfl,_⟩:=h
  rfl
 ·obtain ⟨l,h,f,M,ps,row,rfl,hl,ht,hh,hf,hm,q⟩:=h
  refine ⟨_,(qd_ (ql_ (i:=3) sc_swapped.nd rfl (Or.inl rfl) (yj_ jT_ rfl T.n_list (by decide +kernel) (qa_ (pv 0) qe_)))
   (qd_ (ye_ (qz_ qB_ (pv 0) (pv 2) (fun _ _=>rfl)) (yi_ (pv 3) (pv 1) jS_))
   (qd_ (ye_ (qz_ qB_ (pv 0) (pv 1) (fun _ _=>rfl)) (yi_ (pv 3) (pv 2) jS_))
   (qg_ (qq_ (pv 3)))))),?_⟩
  obtain ⟨p1,e1,hp1⟩:=ht.get hf
  obtain ⟨p2,e2,hp2⟩:=ht.get hh
  refine ⟨_,rfl,l,_,rfl,.inl (SqL.of hl),fun D nD=>?_⟩
  have hll:h < (ps.map V.ref).length:=by rw [List.length_map,ht.len];exact hh
  have hlf:f < (ps.map V.ref).length:=by rw [List.length_map,ht.len];exact hf
  have lD:l ≠ D:=qm_ hl nD
  refine ⟨_,rfl,_,rfl,l,_,_,_,rfl,rfl,SqL.of (by rw [qf_ lD];exact hl),qr_ (qG_ e1),?_⟩
  refine ⟨_,rfl,_,rfl,D,_,_,h,rfl,rfl,qc_,j4_ hll,?_⟩
  refine ⟨_,rfl,_,rfl,l,_,_,_,rfl,rfl,SqL.of (by rw [jA_,qf_ lD];exact hl),qr_ (qG_ e2),?_⟩
  refine ⟨_,rfl,_,rfl,D,_,_,f,rfl,rfl,qc_,j4_ (by rw [List.length_set];exact hlf),?_⟩
  rw [jA_,jA_]
  have eps:(((ps.map V.ref).set h (.ref p1)).set f (.ref p2)) = (((ps.set h p1).set f p2).map V.ref):=by rw [List.map_set,List.map_set]
  rw [eps]
  refine ⟨_,rfl,q D _ _ nD (Same.new nD) qc_ ⟨by rw [List.length_set,List.length_set,ht.len],fun i p ei=>?_⟩ (fun p hp=>?_)⟩
  rotate_left
  ·rcases List.mem_or_eq_of_mem_set hp with z | z
   ·rcases List.mem_or_eq_of_mem_set z with z | z
    ·exact z
    ·rw [z]
     exact List.mem_of_getElem? e1
   ·rw [z]
    exact List.mem_of_getElem? e2
  have on:=fun i p e=>(Same.new (o:=.lst (((ps.set h p1).set f p2).map V.ref)) nD) _ _ (ht.on i p e)
  rw [List.getElem?_set,List.getElem?_set] at ei
  by_cases zf:f = i
  ·rw [if_pos zf,if_pos (by rw [List.length_set,ht.len];exact hf)] at ei
   subst zf
   have:=Option.some.inj ei
   subst this
   by_cases zh:f = h
   ·rw [if_pos zh]
    subst zh
    exact on f p2 e2
   ·rw [if_neg zh,if_pos rfl]
    exact on h p2 e2
  ·rw [if_neg zf] at ei
   by_cases zh:h = i
   ·rw [if_pos zh,if_pos (by rw [ht.len];exact hh)] at ei
    subst zh
    have:=Option.some.inj ei
    subst this
    rw [if_pos rfl]
    exact on f p1 e1
   ·rw [if_neg zh] at ei
    rw [if_neg (fun z=>zh z.symm),if_neg (fun z=>zf z.symm)]
    exact on i p ei
end
section
variable {P:Program}{wo:World}{K:PySem.W.Frag}{mg:Str->Option Value}{base:Heap}{a:Adr}
def qfe_ (K:PySem.W.Frag) (a:Adr):Sp:=fun vs H Q _=>∃ (fp l:Addr) (r w h pl M W:Nat) (ps:List Addr) (T:Nat->Nat->Nat),vs = [.ref fp,.ref l,.int h,.int pl]/\FieldAt a.C_Field H fp r w/\GF.Good r w/\H l = some (.lst (ps.map V.ref))/\TabAt H ps M (rowT W T)/\(∀ i k,i < M->k < W->T i k < 2 ^ w)/\W<=30/\pl < W/\h < M/\M<=8/\T h pl ≠ 0 ∧
 ∀ D H' ps',H D = none->Same H H'->H' D = some (.lst (ps'.map V.ref))->TabAt H' ps' M (rowT W (GF.clearT r w T h pl (GF.pw r w (T h pl) (2 ^ w - 1 - 1))))->(∀ p ∈ ps',p ∈ ps\/H p = none)->Q (.ref D) H'
theorem qdu_ (T:Txt K mg a):FnOk P wo K mg base CX0 5 a.f_cleared a.d_cleared ["field", "lines", "at", "place"] (qfe_ K a):=by
 have G_Field_back:FnOk P wo K mg base CX0 4 _ _ _ _:=qag_ T
 have G_scaled_line:FnOk P wo K mg base CX0 4 _ _ _ _:=(zH_ T).mono (by decide)
 have G_sum_of_two:FnOk P wo K mg base CX0 4 _ _ _ _:=(zZ_ T).mono (by decide)
 refine T.F_cleared.ok (k:=4) sc_cleared (fun vs H Q E h=>?_) (fun cdv A outer s H vs Q E hr h=>?_)
 ·obtain ⟨fp,l,r,w,h,pl,M,W,ps,t,rfl,_⟩:=h
  rfl
 ·obtain ⟨fp,l,r,w,h,pl,M,W,ps,t,rfl,hF,g,hl,ht,hlt,hW,hpl,hh,hm,h0,q⟩:=h
  obtain ⟨dx,hF'⟩:=id hF
  refine ⟨_,(qd_ (ql_ (i:=4) sc_cleared.nd rfl (Or.inl rfl) (qx_ G_scaled_line (hr.mono (by decide)) rfl T.m_scaled_line T.k_scaled_line T.b_scaled_line .nil qp_ (qa_ (pv 0) (qa_ (qF_ (pv 0) T.cl_Field T.me_Field_back G_Field_back (hr.mono (by decide)) T.b_Field_back .nil qp_ (qa_ (qz_ qB_ (qz_ qB_ (pv 1) (pv 2) (fun _ _=>rfl)) (pv 3) (fun _ _=>rfl)) qe_)) (qa_ (qz_ qB_ (pv 1) (pv 2) (fun _ _=>rfl)) qe_)))))
   (qd_ (ql_ (i:=5) sc_cleared.nd rfl (Or.inl rfl) (qP_ qe_))
   (qd_ (qK_ PassesOwn.never rfl (vr_ rfl T.n_enumerate (qa_ (pv 1) qe_)) (y4_ rfl (qL_ (qo_ (i:=6) sc_cleared.nd rfl (Or.inl rfl)) (qL_ (qo_ (i:=7) sc_cleared.nd rfl (Or.inl rfl)) j2_))) (qg_ (qD_ (qt_ jD_ (pv 6) (pv 2) (qu_ _)) (qg_ (qU_ (jW_ PySem.F.plainAttrs_list PySem.F.slot_list_append PySem.F.type_list_append qQ_ (pv 5) (qa_ (pv 4) qe_)))) (qg_ (qD_ (qt_ jD_ (qz_ qB_ (pv 7) (pv 3) (fun _ _=>rfl)) qj_ (qu_ _)) (qg_ (qU_ (jW_ PySem.F.plainAttrs_list PySem.F.slot_list_append PySem.F.type_list_append qQ_ (pv 5) (qa_ (pv 7) qe_)))) (qg_ (qU_ (jW_ PySem.F.plainAttrs_list PySem.F.slot_list_append PySem.F.type_list_append qQ_ (pv 5) (qa_ (qx_ G_sum_of_two (hr.mono (by decide)) rfl T.m_sum_of_two T.k_sum_of_two T.b_sum_of_two .nil qp_ (qa_ (pv 7) (qa_ (qx_ G_scaled_line (hr.mono (by decide)) rfl T.m_scaled_line T.k_scaled_line T.b_scaled_line .nil qp_ (qa_ (pv 0) (qa_ (qz_ qB_ (pv 7) (pv 3) (fun _ _=>rfl)) (qa_ (pv 4) qe_)))) qe_))) qe_)))))))))
   (qg_ (qq_ (pv 5)))))),?_⟩
  obtain ⟨ph,eh,hph⟩:=ht.get hh
  have hTh:t h pl < 2 ^ w:=hlt h pl hh hpl
  have eg:(rowT W t h).getD pl 0 = t h pl:=jd_ hpl
  have gt:=qr_ (jy_ (row:=rowT W t h) (i:=pl) (by rw [qs_];exact hpl))
  rw [eg] at gt
  refine ⟨_,rfl,_,rfl,fp,dx,_,rfl,hF',rfl,_,rfl,_,rfl,l,_,_,_,rfl,rfl,SqL.of hl,qr_ (qG_ eh),_,rfl,ph,_,_,_,rfl,rfl,SqL.of hph,gt,?_⟩
  refine ⟨fp,r,w,t h pl,rfl,hF,g,by omega,hTh,?_⟩
  generalize hc:GF.pw r w (t h pl) (2 ^ w - 1 - 1) = c at q
  refine ⟨_,rfl,_,rfl,l,_,_,_,rfl,rfl,SqL.of hl,qr_ (qG_ eh),?_⟩
  refine ⟨fp,ph,r,w,c,rowT W t h,rfl,hF,g,hph,zg_ fun k hk=>hlt h k hh hk,by rw [qs_];omega,fun hd H1 nhd s1 hhd=>?_⟩
  refine ⟨by decide,fun D nD=>⟨_,rfl,l,_,rfl,SqL.of ((Same.new nD) _ _ (s1 _ _ hl)),?_⟩⟩
  have hlen:(ps.map V.ref).length = M:=by rw [List.length_map,ht.len]
  refine qa5_ (fun i σ H'=>∃ (v u:Option V) (ps':List Addr),σ = [some (.ref fp),some (.ref l),some (.int h),some (.int pl),some (.ref hd),some (.ref D),v,u]/\Same H1 H'/\H' D = some (.lst (ps'.map V.ref))/\TabAt H' ps' i (rowT W (GF.clearT r w t h pl c))/\D ∉ ps'/\∀ p ∈ ps',p ∈ ps\/H p = none)
   ⟨none,none,[],rfl,Same.new nD,qc_,⟨rfl,fun i p e=>by simp at e⟩,by simp,by simp⟩ ?_ ?_ ?_
  ·rintro i σ H' hi ⟨v,u,ps',rfl,s2,_⟩
   exact SqL.of (s2 _ _ (s1 _ _ hl))
  ·rintro i u Tt σ H' hi hu nT ⟨v,u',ps',rfl,s2,hD,ht',nin,org⟩
   rw [hlen] at hi
   obtain ⟨p,ep,hp⟩:=ht.get hi
   have eu:u = .ref p:=by
    rw [qG_ ep] at hu
    exact (Option.some.inj hu).symm
   subst eu
   refine ⟨Tt,_,rfl,SqT.of qc_,rfl,_,_,rfl,_,_,rfl,rfl,?_⟩
   have s3:Same H' (upd H' Tt (.tup [.int (i:Nat),.ref p])):=Same.new nT
   have nD2:∀ q ∈ ps',H' q = upd H' Tt (.tup [.int (i:Nat),.ref p]) q:=fun q hq=>by
    rw [qf_]
    intro z
    obtain ⟨j,hj⟩:=List.getElem?_of_mem hq
    rw [z] at hj
    rw [ht'.on j _ hj] at nT
    cases nT
   generalize (upd H' Tt (.tup [.int (i:Nat),.ref p])) = H2 at s3 nD2
   have hd2:H2 hd = some (.lst (rowV ((rowT W t h).map fun s=>GF.tm r w s c))):=s3 _ _ (s2 _ _ hhd)
   have hp2:H2 p = some (.lst (rowV (rowT W t i))):=s3 _ _ (s2 _ _ (s1 _ _ hp))
   have hD2:H2 D = some (.lst (ps'.map V.ref)):=s3 _ _ hD
   have s12:Same H1 H2:=s2.trans s3
   have hip:t i pl < 2 ^ w:=hlt i pl hi hpl
   have i8:ps'.length < 8:=by rw [ht'.len];omega
   have fin:∀ p' H3,Same H2 H3->p' ≠ D->(p' ∈ ps\/H p' = none)->H3 p' = some (.lst (rowV (rowT W (GF.clearT r w t h pl c) i)))->∃ (v u:Option V) (ps'':List Addr),[some (V.ref fp),some (.ref l),some (.int h),some (.int pl),some (.ref hd),some (.ref D),some (.int (i:Nat)),some (.ref p)] = [some (.ref fp),some (.ref l),some (.int h),some (.int pl),some (.ref hd),some (.ref D),v,u]/\Same H1 (upd H3 D (.lst (ps'.map V.ref ++ [.ref p'])))/\(upd H3 D (.lst (ps'.map V.ref ++ [.ref p']))) D = some (.lst (ps''.map V.ref))/\TabAt (upd H3 D (.lst (ps'.map V.ref ++ [.ref p']))) ps'' (i + 1) (rowT W (GF.clearT r w t h pl c))/\D ∉ ps''/\∀ p ∈ ps'',p ∈ ps\/H p = none:=fun p' H3 s4 nz hor hp'=>by
    refine ⟨_,_,ps' ++ [p'],rfl,(s12.trans s4).up nD,?_,ht'.snoc (fun q hq=>?_) ?_,?_,fun q hq=>(List.mem_append.mp hq).elim (org q) fun z=>by rw [List.mem_singleton.mp z];exact hor⟩
    ·rw [qc_,List.map_append]
     rfl
    ·have nq:q ≠ D:=fun z=>nin (by rw [<- z];exact hq)
     rw [qf_ nq]
     obtain ⟨j,hj⟩:=List.getElem?_of_mem hq
     have e1:=ht'.on j _ hj
     rw [e1,s4 _ _ (s3 _ _ e1)]
    ·rw [qf_ nz]
     exact hp'
    ·intro z
     rcases List.mem_append.mp z with z | z
     ·exact nin z
     ·exact nz (List.mem_singleton.mp z).symm
   have fits:(ps'.map V.ref).length < sizeLine:=Nat.lt_trans (by rw [List.length_map];exact i8) (by decide)
   refine ⟨_,rfl,_,rfl,rfl,_,rfl,?_⟩
   refine ite2 (fun z=>?_) (fun z=>?_)
   ·have z':i = h:=by
     have:=V.int.inj (of_decide_eq_true z)
     omega
    refine ⟨_,rfl,.inl ⟨rfl,_,SqL.of hD2⟩,_,rfl,D,_,_,rfl,rfl,hD2,fits,?_⟩
    refine fin hd H2 (Same.refl _) (qm_ hhd nD) (.inr nhd) ?_
    rw [hd2,z']
    congr 3
    unfold rowT
    rw [List.map_map]
    exact List.map_congr_left fun k _=>by unfold GF.clearT;rw [if_pos rfl];rfl
   ·have z':i ≠ h:=fun e=>z (decide_eq_true (by rw [e]))
    have gi:=qr_ (jy_ (row:=rowT W t i) (i:=pl) (by rw [qs_];exact hpl))
    rw [jd_ hpl] at gi
    refine ⟨_,rfl,_,rfl,p,_,_,_,rfl,rfl,SqL.of hp2,gi,rfl,_,rfl,?_⟩
    refine ite2 (fun y=>?_) (fun y=>?_)
    ·have y':t i pl = 0:=by
      have:=V.int.inj (of_decide_eq_true y)
      omega
     refine ⟨_,rfl,.inl ⟨rfl,_,SqL.of hD2⟩,_,rfl,D,_,_,rfl,rfl,hD2,fits,?_⟩
     refine fin p H2 (Same.refl _) (qm_ (s1 _ _ hp) nD) (.inl (List.mem_of_getElem? ep)) ?_
     rw [hp2]
     congr 3
     refine yx_ fun k _=>?_
     unfold GF.clearT
     rw [if_neg z',y',GF.tm_zero,Nat.xor_zero]
    ·refine ⟨_,rfl,.inl ⟨rfl,_,SqL.of hD2⟩,_,rfl,_,rfl,_,rfl,_,rfl,p,_,_,_,rfl,rfl,SqL.of hp2,gi,_,rfl,?_⟩
     refine ⟨fp,hd,r,w,t i pl,_,rfl,hF.same (s1.trans s12),g,hd2,?_,?_,fun d3 H3 n3 s4 h3=>?_⟩
     ·intro x hx
      obtain ⟨k,hk,rfl⟩:=List.mem_map.mp hx
      exact GF.tm_lt g.rule (zg_ (fun k hk=>hlt h k hh hk) k hk)
     ·rw [List.length_map,qs_]
      omega
     ·refine ⟨p,d3,_,_,rfl,s4 _ _ hp2,h3,?_,?_,fun d4 H4 n4 s5 h4=>?_⟩
      ·rw [List.length_map,List.length_map,qs_,qs_]
      ·rw [qs_]
       omega
      ·have hD4:=s5 _ _ (s4 _ _ hD2)
       refine ⟨D,_,_,rfl,rfl,hD4,fits,?_⟩
       refine fin d4 H4 (s4.trans s5) (fun e=>?_) (.inr ((s1.trans (s12.trans s4)).free n4)) ?_
       ·rw [e,s4 _ _ hD2] at n4
        cases n4
       ·rw [h4]
        congr 3
        unfold rowT
        rw [List.map_map,List.map_map]
        apply List.ext_getElem
        ·simp
        ·intro k k1 k2
         simp [GF.clearT,z']
  ·rintro σ H' ⟨v,u,ps',rfl,s2,hD,ht',nin,org⟩
   rw [hlen] at ht'
   exact ⟨_,rfl,q D H' ps' (s1.free nD) (s1.trans s2) hD ht' org⟩
def qdv_ (K:PySem.W.Frag):Sp:=fun vs H Q _=>∃ (l hl:Addr) (m pl M W:Nat) (ps:List Addr) (hs:List Nat) (T:Nat->Nat->Nat),vs = [.ref l,.ref hl,.int m,.int pl]/\H l = some (.lst (ps.map V.ref))/\TabAt H ps M (rowT W T)/\H hl = some (.lst (rowV hs))/\hs.length<=M/\pl < m/\m<=30/\m<=W/\M<=8/\(∀ p ∈ hs,p < m) ∧
 ∀ D H',H D = none->Same H H'->H' D = some (.lst (rowV ((List.range m).map (GF.makeX T hs pl hs.length))))->Q (.ref D) H'
theorem qbe_ (T:Txt K mg a):FnOk P wo K mg base CX0 2 a.f_free_make a.d_free_make ["lines", "heads", "many", "place"] (qdv_ K):=by
 have G_unit:FnOk P wo K mg base CX0 1 _ _ _ _:=qc2_ T
 refine T.F_free_make.ok (k:=1) sc_free_make (fun vs H Q E h=>?_) (fun cdv A outer s H vs Q E hr h=>?_)
 ·obtain ⟨l,hl,m,pl,M,W,ps,hs,t,rfl,_⟩:=h
  rfl
 ·obtain ⟨l,hl,m,pl,M,W,ps,hs,t,rfl,h1,ht,h2,hhM,hpl,hm,hmW,hM8,hhs,q⟩:=h
  refine ⟨_,(qd_ (ql_ (i:=4) sc_free_make.nd rfl (Or.inl rfl) (qx_ G_unit (hr.mono (by decide)) rfl T.m_unit T.k_unit T.b_unit .nil qp_ (qa_ (pv 2) (qa_ (pv 3) qe_))))
   (qd_ (qK_ PassesOwn.never rfl (z6_ rfl T.n_zip (qa_ (pv 1) (qa_ (pv 0) qe_))) (y4_ rfl (qL_ (qo_ (i:=5) sc_free_make.nd rfl (Or.inl rfl)) (qL_ (qo_ (i:=6) sc_free_make.nd rfl (Or.inl rfl)) j2_))) (qg_ (ye_ (qz_ qB_ (pv 6) (pv 3) (fun _ _=>rfl)) (yi_ (pv 4) (pv 5) jS_))))
   (qg_ (qq_ (pv 4))))),?_⟩
  refine ⟨_,rfl,_,rfl,m,pl,rfl,hpl,hm,fun D H1 nD s1 hD=>?_⟩
  refine ⟨_,rfl,_,rfl,hl,l,_,_,rfl,SqL.of (s1 _ _ h2),SqL.of (s1 _ _ h1),?_⟩
  have hlen:(rowV hs).length = hs.length:=qk_ hs
  refine qgi_ (xs:=rowV hs) (fun i σ H'=>∃ (v u:Option V),σ = [some (.ref l),some (.ref hl),some (.int m),some (.int pl),some (.ref D),v,u]/\Same H H'/\H' D = some (.lst (rowV ((List.range m).map (GF.makeX t hs pl i)))))
   ⟨none,none,rfl,s1,?_⟩ ?_ ?_ ?_ ?_
  ·rw [hD]
   congr 3
   unfold yU_
   apply List.ext_getElem
   ·simp
   ·intro k k1 k2
    rw [List.getElem_set]
    simp [GF.makeX]
    by_cases z:pl = k
    ·rw [if_pos z,if_pos z.symm]
    ·rw [if_neg z,if_neg (fun e=>z e.symm)]
  ·rintro i σ H' hi ⟨v,u,rfl,s2,hD'⟩
   exact ⟨SqL.of (s2 _ _ h2),SqL.of (s2 _ _ h1)⟩
  ·rw [hlen,List.length_map,ht.len]
   exact hhM
  ·rintro i x y Tt σ H' hi hx hy nT ⟨v,u,rfl,s2,hD'⟩
   rw [hlen] at hi
   refine ⟨Tt,_,rfl,SqT.of qc_,rfl,_,_,rfl,_,_,rfl,rfl,?_⟩
   obtain ⟨xh,exh,rfl⟩:=je_ hx
   obtain ⟨p,ep,hp⟩:=ht.get (i:=i) (by omega)
   have ey:y = .ref p:=by
    rw [qG_ ep] at hy
    exact (Option.some.inj hy).symm
   subst ey
   have s3:Same H' (upd H' Tt (.tup [.int (xh:Nat),.ref p])):=Same.new nT
   generalize (upd H' Tt (.tup [.int (xh:Nat),.ref p])) = H2 at s3
   have gi:=qr_ (jy_ (row:=rowT W t i) (i:=pl) (by rw [qs_];omega))
   rw [jd_ (by omega)] at gi
   have hxm:xh < m:=hhs xh (List.mem_of_getElem? exh)
   refine ⟨_,rfl,_,rfl,p,_,_,_,rfl,rfl,SqL.of (s3 _ _ (s2 _ _ hp)),gi,?_⟩
   refine ⟨_,rfl,_,rfl,D,_,_,xh,rfl,rfl,s3 _ _ hD',j4_ (by rw [qk_,List.length_map,List.length_range];exact hxm),?_⟩
   refine ⟨_,_,rfl,(s2.trans s3).up nD,?_⟩
   rw [qc_,vT_]
   congr 3
   have eh:hs.getD i 0 = xh:=by rw [List.getD_eq_getElem?_getD,exh];rfl
   apply List.ext_getElem
   ·simp
   ·intro k k1 k2
    rw [List.getElem_set]
    simp [GF.makeX,exh]
    by_cases z:xh = k
    ·rw [if_pos z,if_pos z.symm]
    ·rw [if_neg z,if_neg (fun e=>z e.symm)]
  ·rintro σ H' ⟨v,u,rfl,s2,hD'⟩
   rw [hlen] at hD'
   exact ⟨_,rfl,q D H' nD s2 hD'⟩
end
section
variable {P:Program}{wo:World}{K:PySem.W.Frag}{mg:Str->Option Value}{base:Heap}{a:Adr}
structure Reck (r w N M:Nat) (l:Nat->Nat->Nat) (ks:List Bool) (pl:Nat) (by':List Nat):Prop where
 len:by'.length = M
 lt:∀ x ∈ by',x < 2 ^ w
 ok:∀ k,k < N->ks[k]? = some false->GF.dot r w M (fun j=>l j k) (fun j=>by'.getD j 0) = if k = pl then 1 else 0
structure Free (r w N M:Nat) (l:Nat->Nat->Nat) (ks:List Bool) (pl:Nat) (mk:List Nat):Prop where
 len:mk.length = N
 lt:∀ x ∈ mk,x < 2 ^ w
 one:mk.getD pl 0 = 1
 zero:∀ k,k < N->ks[k]? = some true->mk.getD k 0 = 0
 ok:∀ j,j < M->GF.dot r w N (l j) (fun k=>mk.getD k 0) = 0
def qff_ (H:Hp) (D:Addr) (r w N M:Nat) (l:Nat → Nat → Nat) (ks:List Bool) (pl:Nat):Prop:=(∃ e by',H D = some (.tup [.str "reckoned",.ref e]) ∧ H e = some (.lst (rowV by')) ∧ Reck r w N M l ks pl by') ∨ (∃ e mk,H D = some (.tup [.str "free",.ref e]) ∧ H e = some (.lst (rowV mk)) ∧ Free r w N M l ks pl mk)
end
section
variable {P:Program}{wo:World}{K:PySem.W.Frag}{mg:Str->Option Value}{base:Heap}{a:Adr}
def qkg_ (K:PySem.W.Frag) (a:Adr):Sp:=fun vs H Q _=>∃ (fp L kn:Addr) (r w N M pl:Nat) (pL:List Addr) (l:Nat->Nat->Nat) (ks:List Bool),vs = [.ref fp,.ref L,.ref kn,.int pl]/\FieldAt a.C_Field H fp r w/\GF.Full r w/\H L = some (.lst (pL.map V.ref))/\TabAt H pL M (rowT N l)/\(∀ i k,i < M->k < N->l i k < 2 ^ w)/\H kn = some (.lst (knV ks))/\ks.length = N/\N<=12/\M<=8/\pl < N/\ks[pl]? = some false ∧
 (∀ D H',Same H H'->H D = none->qff_ H' D r w N M l ks pl->(∀ t e,H' D = some (.tup [t,.ref e])->H e = none)->Q (.ref D) H')
theorem qdw_ (T:Txt K mg a):FnOk P wo K mg base CX0 6 a.f_told_of a.d_told_of ["field", "lines", "known", "place"] (qkg_ K a):=by
 have G_unit:FnOk P wo K mg base CX0 5 _ _ _ _:=(qc2_ T).mono (by decide)
 have G_first_with:FnOk P wo K mg base CX0 5 _ _ _ _:=(qah_ T).mono (by decide)
 have G_swapped:FnOk P wo K mg base CX0 5 _ _ _ _:=(qdt_ T).mono (by decide)
 have G_cleared:FnOk P wo K mg base CX0 5 _ _ _ _:=qdu_ T
 have G_free_make:FnOk P wo K mg base CX0 5 _ _ _ _:=(qbe_ T).mono (by decide)
 refine T.F_told_of.ok (k:=5) sc_told_of (fun vs H Q E h=>?_) (fun cdv A outer s H vs Q E hr h=>?_)
 ·obtain ⟨fp,L,kn,r,w,N,M,pl,pL,l,ks,rfl,_⟩:=h
  rfl
 ·obtain ⟨fp,L,kn,r,w,N,M,pl,pL,l,ks,rfl,hF,g,hL,ht,hlt,hkn,hks,hN,hM,hpl,hkp,q⟩:=h
  have q1:=fun D e by' H' s n ne h1 h2 h3=>q D H' s n (.inl ⟨e,by',h1,h2,h3⟩) (fun t e' h=>by rw [h1] at h;cases h;exact ne)
  have q2:=fun D e mk H' s n ne h1 h2 h3=>q D H' s n (.inr ⟨e,mk,h1,h2,h3⟩) (fun t e' h=>by rw [h1] at h;cases h;exact ne)
  refine ⟨_,(qd_ (qD_ (PW.pt (ym_ (qt_ zt_ (pv 3) qj_ (qu_ _)) (ym_ (qt_ qhx_ (pv 3) (qy_ qv_ rfl T.n_len PySem.boot_len (qa_ (pv 2) qe_)) (qu_ _)) (yA_ (jR_ (qz_ qB_ (pv 2) (pv 3) (fun _ _=>rfl))))))) (qg_ jO_) qA_)
   (qd_ (zG_ (i:=4) sc_told_of.nd rfl (Or.inl rfl) (CompOk.of (cap:=[1]) (own:=["at", "line"]) (by kernel_rfl)) rfl (vr_ rfl T.n_enumerate (qa_ (pv 1) qe_)) (fun _ _ _ _ _=>(vs_ (n:=2) (K:=K) rfl rfl (qL_ (qo_ (i:=1) (of_decide_eq_true (by kernel_rfl)) rfl (Or.inl rfl)) (qL_ (qo_ (i:=2) (of_decide_eq_true (by kernel_rfl)) rfl (Or.inl rfl)) j2_)))) (fun _ _ _ _ _=>jw_) (fun _ _ _ _ _=>by exact (qn_ v7_ (pv 2) (qx_ G_unit (hr.mono (by decide)) rfl T.m_unit T.k_unit T.b_unit .nil qp_ (qa_ (qy_ (u9_ (K:=K) rfl) rfl T.n_len PySem.boot_len (qa_ (pv 0) qe_)) (qa_ (pv 1) qe_))))))
   (qd_ (ql_ (i:=5) sc_told_of.nd rfl (Or.inl rfl) (qP_ qe_))
   (qd_ (qK_ PassesOwn.never rfl (qW_ rfl T.n_range (qa_ (qy_ qv_ rfl T.n_len PySem.boot_len (qa_ (pv 2) qe_)) qe_)) (qo_ (i:=6) sc_told_of.nd rfl (Or.inl rfl)) (qd_ (qD_ (PW.pt (ym_ (jR_ (qz_ qB_ (pv 2) (pv 6) (fun _ _=>rfl))) (yA_ (qt_ jD_ (pv 6) (pv 3) (qu_ _))))) (qg_ qbw_) qA_)
   (qd_ (ql_ (i:=7) sc_told_of.nd rfl (Or.inl rfl) (qx_ G_first_with (hr.mono (by decide)) rfl T.m_first_with T.k_first_with T.b_first_with .nil qp_ (qa_ (pv 4) (qa_ (qy_ qv_ rfl T.n_len PySem.boot_len (qa_ (pv 5) qe_)) (qa_ (pv 6) qe_)))))
   (qg_ (qD_ (qt_ zf_ (pv 7) jo_ (qu_ _)) (qd_ (ql_ (i:=4) sc_told_of.nd rfl (Or.inl rfl) (qx_ G_cleared (hr.mono (by decide)) rfl T.m_cleared T.k_cleared T.b_cleared .nil qp_ (qa_ (pv 0) (qa_ (qx_ G_swapped (hr.mono (by decide)) rfl T.m_swapped T.k_swapped T.b_swapped .nil qp_ (qa_ (pv 4) (qa_ (qy_ qv_ rfl T.n_len PySem.boot_len (qa_ (pv 5) qe_)) (qa_ (pv 7) qe_)))) (qa_ (qy_ qv_ rfl T.n_len PySem.boot_len (qa_ (pv 5) qe_)) (qa_ (pv 6) qe_))))))
   (qg_ (qU_ (jW_ PySem.F.plainAttrs_list PySem.F.slot_list_append PySem.F.type_list_append qQ_ (pv 5) (qa_ (pv 6) qe_))))) qA_)))))
   (qd_ (ql_ (i:=7) sc_told_of.nd rfl (Or.inl rfl) (qx_ G_first_with (hr.mono (by decide)) rfl T.m_first_with T.k_first_with T.b_first_with .nil qp_ (qa_ (pv 4) (qa_ (qy_ qv_ rfl T.n_len PySem.boot_len (qa_ (pv 5) qe_)) (qa_ (pv 3) qe_)))))
   (qd_ (qD_ (qt_ z1_ (pv 7) jo_ (qu_ _)) (qg_ (qq_ (yB_ (qa_ v0_ (qa_ (qx_ G_free_make (hr.mono (by decide)) rfl T.m_free_make T.k_free_make T.b_free_make .nil qp_ (qa_ (pv 4) (qa_ (pv 5) (qa_ (qy_ qv_ rfl T.n_len PySem.boot_len (qa_ (pv 2) qe_)) (qa_ (pv 3) qe_))))) qe_))))) qA_)
   (qd_ (ql_ (i:=8) sc_told_of.nd rfl (Or.inl rfl) (qat_ qcn_ (qz_ qB_ (qx_ G_cleared (hr.mono (by decide)) rfl T.m_cleared T.k_cleared T.b_cleared .nil qp_ (qa_ (pv 0) (qa_ (pv 4) (qa_ (pv 7) (qa_ (pv 3) qe_))))) (pv 7) (fun _ _=>rfl)) (qck_ (qy_ qv_ rfl T.n_len PySem.boot_len (qa_ (pv 2) qe_))) qcj_))
   (qg_ (qq_ (yB_ (qa_ v0_ (qa_ (pv 8) qe_)))))))))))),?_⟩
  have hS:SqL K H kn (knV ks):=SqL.of hkn
  have hkl:(knV ks).length = N:=by unfold knV;rw [List.length_map,hks]
  have hkat:∀ {k:Nat}{b:Bool},ks[k]? = some b->(knV ks)[k]? = some (.bl b):=fun {k b} e=>by unfold knV;rw [List.getElem?_map,e];rfl
  have hLl:(pL.map V.ref).length = M:=by rw [List.length_map,ht.len]
  refine ⟨_,rfl,_,_,rfl,rfl,_,rfl,?_⟩
  refine ite2 (fun z=>?_) (fun _=>?_)
  ·have:=of_decide_eq_true z
   omega
  refine ⟨_,rfl,_,rfl,kn,_,rfl,.inl hS,_,_,rfl,rfl,_,rfl,?_⟩
  refine ite2 (fun z=>?_) (fun _=>?_)
  ·have:=of_decide_eq_true z
   rw [hkl] at this
   omega
  refine ⟨_,rfl,_,rfl,kn,_,_,_,rfl,rfl,hS,qr_ (hkat hkp),_,rfl,?_⟩
  refine ite2 (fun z=>absurd z (by decide)) (fun _=>?_)
  refine ⟨_,rfl,L,_,rfl,SqL.of hL,fun D nD=>?_⟩
  refine qdp_ (xs:=pL.map V.ref) (row:=fun i=>rowV (rowT N l i ++ yU_ M i)) (cs:=[some (.ref L)]) (SqL.of hL) nD rfl (Nat.le_trans (by rw [hLl];exact hM) (by decide:8<=sizeLine)) (fun i u H2 R2 hu s2 hR=>?_) (fun ps H1 s1 hD hrows hfree hDn=>?_)
  ·have hi:i < M:=by
    rw [<- hLl]
    exact (List.getElem?_eq_some_iff.mp hu).1
   obtain ⟨p,ep,hp⟩:=ht.get hi
   have eu:u = .ref p:=by
    rw [qG_ ep] at hu
    exact (Option.some.inj hu).symm
   subst eu
   refine ⟨_,rfl,_,rfl,L,_,rfl,.inl (s2.seq (SqL.of hL)),_,rfl,?_⟩
   try dsimp only
   rw [hLl]
   refine ⟨M,i,rfl,hi,by omega,fun D3 H3 n3 s3 h3=>?_⟩
   refine ⟨p,D3,_,_,rfl,rfl,s3 _ _ (s2 _ _ hp),h3,?_,fun D4 n4=>?_⟩
   ·rw [qk_,qk_,qs_,vd_]
    exact Nat.le_trans (by omega:N + M<=30) (by decide)
   ·refine hR D4 _ (s3.free n4) (s3.trans (Same.new n4)) ?_
    rw [qc_,vF_]
  ·have ht1:TabAt H1 ps M (rowT (N + M) fun i k=>(rowT N l i ++ yU_ M i).getD k 0):=by
    refine ⟨by rw [hrows.len,hLl],fun i p e=>?_⟩
    rw [hrows.on i p e,u0_ (by rw [List.length_append,qs_,vd_])]
   have tb:=GF.Tab.start g hlt (T:=fun i k=>(rowT N l i ++ yU_ M i).getD k 0) (fun i k _ hk=>qds_ hk) (fun i j hi hj=>qb9_ hj)
   generalize (fun i k=>(rowT N l i ++ yU_ M i).getD k 0) = t0 at ht1 tb
   have hS1:=s1.seq hS
   refine ⟨by decide,fun Hd nH=>⟨_,rfl,kn,_,rfl,.inl ((Same.new nH).seq hS1),_,rfl,by rw [hkl];omega,by rw [hkl];omega,?_⟩⟩
   have en:(((knV ks).length:Nat):Int).toNat = N:=by rw [hkl];omega
   rw [en]
   refine jn_ (lo:=0) (n:=N) (fun o σ H'=>∃ (v6 v7:Option V) (S:Addr) (ps:List Addr) (hs:List Nat) (t:Nat->Nat->Nat),σ = [some (.ref fp),some (.ref L),some (.ref kn),some (.int pl),some (.ref S),some (.ref Hd),v6,v7,none]/\Same H H'/\H' S = some (.lst (ps.map V.ref))/\TabAt H' ps M (rowT (N + M) t)/\GF.Tab r w N M l t/\GF.Piv N M t hs (fun k=>k < o/\ks[k]? = some false/\k ≠ pl)/\H' Hd = some (.lst (rowV hs))/\S ≠ Hd/\Hd ∉ ps/\(∀ p ∈ hs,ks[p]? = some false/\p ≠ pl))
    ⟨none,none,D,ps,[],t0,rfl,(s1.trans (Same.new nH)),by rw [qf_ (qm_ hD nH)];exact hD,ht1.same (Same.new nH),tb,GF.Piv.start.weaken (fun k z=>absurd z.1 (Nat.not_lt_zero k)),qc_,qm_ hD nH,hrows.ne nH,by simp⟩ ?_ ?_
   ·rintro o σ H' ho ⟨v6,v7,S,ps,hs,t,rfl,s2,hS2,ht2,tb,pv,hH,nSH,nin,hun⟩
    have ek:(0:Int) + (o:Nat) = ((o:Nat):Int):=by omega
    rw [ek]
    obtain ⟨b,eb⟩:∃ b,ks[o]? = some b:=⟨_,List.getElem?_eq_getElem (by rw [hks];exact ho)⟩
    refine ⟨_,rfl,_,rfl,kn,_,_,_,rfl,rfl,s2.seq hS,qr_ (hkat eb),b,rfl,?_⟩
    refine ite2 (fun z=>iteT ?_) (fun z=>?_)
    ·exact ⟨_,_,S,ps,hs,t,rfl,s2,hS2,ht2,tb,pv.weaken (fun k y=>⟨by
      have nk:k ≠ o:=fun e=>by
       rw [e,eb,z] at y
       exact absurd (Option.some.inj y.2.1) (by decide)
      omega,y.2⟩),hH,nSH,nin,hun⟩
    ·have eb':ks[o]? = some false:=by
      rw [eb]
      cases b
      ·rfl
      ·exact absurd rfl z
     refine ⟨_,rfl,_,rfl,rfl,_,rfl,?_⟩
     refine ite2 (fun z=>?_) (fun z=>?_)
     ·exact ⟨_,_,S,ps,hs,t,rfl,s2,hS2,ht2,tb,pv.weaken (fun k y=>⟨by
       have nk:k ≠ o:=fun e=>y.2.2 (by
        have:=V.int.inj (of_decide_eq_true z)
        omega)
       omega,y.2⟩),hH,nSH,nin,hun⟩
     ·have nop:o ≠ pl:=fun e=>z (decide_eq_true (by rw [e]))
      refine ⟨_,rfl,_,rfl,Hd,_,rfl,.inl (SqL.of hH),_,rfl,?_⟩
      try dsimp only
      rw [qk_]
      refine ⟨S,hs.length,o,M,ps,rowT (N + M) t,rfl,hS2,ht2,fun i _=>by rw [qs_];omega,pv.hl,hM,fun f h1 h2 h3=>?_,fun h0=>?_⟩
      ·rw [jd_ (by omega)] at h3
       refine ⟨_,rfl,rfl,_,rfl,?_⟩
       refine ite2 (fun _=>?_) (fun z=>absurd qca_ z)
       refine ⟨_,rfl,_,rfl,_,rfl,Hd,_,rfl,.inl (SqL.of hH),_,rfl,?_⟩
       try dsimp only
       rw [qk_]
       refine ⟨S,hs.length,f,M,ps,rowT (N + M) t,rfl,hS2,ht2,by omega,h2,hM,fun D5 H5 ps5 n5 s5 hD5 ht5 org5=>?_⟩
       refine ⟨_,rfl,Hd,_,rfl,.inl (SqL.of (s5 _ _ hH)),_,rfl,?_⟩
       try dsimp only
       rw [qk_]
       have tsw:=tb.swap (h:=hs.length) (f:=f) (by omega) h2
       have eT:GF.swapT t hs.length f hs.length o = t f o:=by unfold GF.swapT;rw [if_pos rfl]
       have ht5':TabAt H5 ps5 M (rowT (N + M) (GF.swapT t hs.length f)):=ht5.congr fun i _=>by
        unfold GF.swapT
        by_cases z1:i = hs.length
        ·rw [if_pos z1]
         exact yx_ fun k _=>by rw [if_pos z1]
        ·rw [if_neg z1]
         by_cases z2:i = f
         ·rw [if_pos z2]
          exact yx_ fun k _=>by rw [if_neg z1,if_pos z2]
         ·rw [if_neg z2]
          exact yx_ fun k _=>by rw [if_neg z1,if_neg z2]
       refine ⟨fp,D5,r,w,hs.length,o,M,N + M,ps5,GF.swapT t hs.length f,rfl,hF.same (s2.trans s5),g.toGood,hD5,ht5',tsw.lt,by omega,by omega,by omega,hM,by rw [eT];exact h3,fun D6 H6 ps6 n6 s6 hD6 ht6 org6=>?_⟩
       rw [eT] at ht6
       have t3:t f o < 2 ^ w:=tb.lt f o h2 (by omega)
       have hc:=GF.pw_lt g.toGood t3 (2 ^ w - 1 - 1)
       have hinv:=GF.pw_back g (Nat.pos_of_ne_zero h3) t3
       have hc0:GF.pw r w (t f o) (2 ^ w - 1 - 1) ≠ 0:=fun z=>by
        rw [z,GF.tm_zero] at hinv
        exact absurd hinv (by decide)
       have tcl:=tsw.clear g hlt (h:=hs.length) (p:=o) (by omega) ho hc hc0
       have pv2:=pv.step g tb (p:=o) ho h1 h2 hc hinv
       generalize GF.clearT r w (GF.swapT t hs.length f) hs.length o (GF.pw r w (t f o) (2 ^ w - 1 - 1)) = t6 at ht6 tcl pv2
       have hH5:=s5 _ _ hH
       have hH6:=s6 _ _ hH5
       have nin6:Hd ∉ ps6:=fun z=>(org6 Hd z).elim (fun y=>nin (org5 Hd y)) fun y=>by rw [hH5] at y;cases y
       have nD6:D6 ≠ Hd:=fun z=>by rw [z,hH5] at n6;cases n6
       refine ⟨_,rfl,.inl ⟨rfl,_,SqL.of hH6⟩,_,rfl,Hd,_,_,rfl,rfl,hH6,?_,?_⟩
       ·rw [qk_]
        exact Nat.lt_trans (by omega:hs.length < 8) (by decide)
       ·refine ⟨_,_,D6,ps6,hs ++ [o],t6,rfl,(s2.trans (s5.trans s6)).up (s1.free nH),?_,ht6.upd nin6,tcl,pv2.weaken (fun k y=>?_),?_,nD6,nin6,fun p hp=>?_⟩
        ·rw [qf_ nD6]
         exact hD6
        ·by_cases z:k = o
         ·exact .inr z
         ·exact .inl ⟨by omega,y.2⟩
        ·rw [qc_,jx_]
        ·rcases List.mem_append.mp hp with y | y
         ·exact hun p y
         ·rw [List.mem_singleton.mp y]
          exact ⟨eb',nop⟩
      ·refine ⟨_,rfl,rfl,_,rfl,?_⟩
       refine ite2 (fun z=>absurd z (by decide)) (fun _=>?_)
       refine ⟨_,_,S,ps,hs,t,rfl,s2,hS2,ht2,tb,(pv.skip (p:=o) fun i h1 h2=>?_).weaken (fun k y=>?_),hH,nSH,nin,hun⟩
       ·rw [<- h0 i h1 h2,jd_ (by omega)]
       ·by_cases z:k = o
        ·exact .inr z
        ·exact .inl ⟨by omega,y.2⟩
   ·rintro σ H' ⟨v6,v7,S,ps,hs,t,rfl,s2,hS2,ht2,tb,pv,hH,nSH,nin,hun⟩
    refine ⟨_,rfl,_,rfl,Hd,_,rfl,.inl (SqL.of hH),_,rfl,?_⟩
    try dsimp only
    rw [qk_]
    have hS3:=s2.seq hS
    have hlthd:∀ p ∈ hs,p < N:=fun p hp=>by
     obtain ⟨j,hj⟩:=List.getElem?_of_mem hp
     exact pv.lt j p hj
    refine ⟨S,hs.length,pl,M,ps,rowT (N + M) t,rfl,hS2,ht2,fun i _=>by rw [qs_];omega,pv.hl,hM,fun f h1 h2 h3=>?_,fun h0=>?_⟩
    ·rw [jd_ (by omega)] at h3
     refine ⟨_,rfl,rfl,_,rfl,?_⟩
     refine ite2 (fun z=>absurd (of_decide_eq_true z) (fun y=>by cases y)) (fun _=>?_)
     refine ⟨_,rfl,_,rfl,_,rfl,_,rfl,?_⟩
     refine ⟨fp,S,r,w,f,pl,M,N + M,ps,t,rfl,hF.same s2,g.toGood,hS2,ht2,tb.lt,by omega,by omega,h2,hM,h3,fun D6 H6 ps6 n6 s6 hD6 ht6 org6=>?_⟩
     have t3:t f pl < 2 ^ w:=tb.lt f pl h2 (by omega)
     have hinv:=GF.pw_back g (Nat.pos_of_ne_zero h3) t3
     generalize hce:GF.pw r w (t f pl) (2 ^ w - 1 - 1) = c at ht6 hinv
     obtain ⟨p6,e6,hp6⟩:=ht6.get h2
     refine ⟨_,rfl,D6,_,_,_,rfl,rfl,SqL.of hD6,qr_ (qG_ e6),_,rfl,kn,_,rfl,.inl (s6.seq hS3),_,rfl,p6,_,rfl,SqL.of hp6,fun D7 n7=>?_⟩
     rw [hkl,qfb_ (by rw [qs_];omega)]
     have s27:=s2.trans (s6.trans (Same.new (o:=.lst (rowV ((rowT (N + M) (GF.clearT r w t f pl c) f).drop N))) n7))
     refine ⟨_,rfl,(show 2<=sizeLine by decide),fun D8 n8=>?_⟩
     have n8':=s27.free n8
     refine q1 D8 D7 ((rowT (N + M) (GF.clearT r w t f pl c) f).drop N) _ (s27.trans (Same.new n8)) n8' ((s2.trans s6).free n7) qc_ (by rw [qf_ (qm_ qc_ n8)];exact qc_) ?_
     have eby:∀ j,j < M->((rowT (N + M) (GF.clearT r w t f pl c) f).drop N).getD j 0 = GF.tm r w (t f (N + j)) c:=fun j hj=>by
      rw [List.getD_eq_getElem?_getD,List.getElem?_drop,← List.getD_eq_getElem?_getD,jd_ (by omega)]
      unfold GF.clearT
      rw [if_pos rfl]
     have rk:=GF.reckoned_ok g tb hlt pv h1 h2 hpl hinv
     refine ⟨by rw [List.length_drop,qs_];omega,fun x hx=>?_,fun k hk e=>?_⟩
     ·have hx':=List.mem_of_mem_drop hx
      obtain ⟨k,hk,rfl⟩:=List.mem_map.mp hx'
      have hk':=List.mem_range.mp hk
      unfold GF.clearT
      rw [if_pos rfl]
      exact GF.tm_lt g.rule (tb.lt f k h2 hk')
     ·rw [GF.dot_congr M (b:=fun j=>l j k) (y:=fun j=>GF.tm r w (t f (N + j)) c) fun j hj=>⟨rfl,eby j hj⟩]
      by_cases z:k = pl
      ·rw [if_pos z,z]
       exact rk.1
      ·rw [if_neg z]
       exact rk.2 k hk ⟨hk,e,z⟩
    ·refine ⟨_,rfl,rfl,_,rfl,?_⟩
     refine ite2 (fun _=>?_) (fun z=>absurd rfl z)
     refine ⟨_,rfl,_,rfl,_,rfl,kn,_,rfl,.inl hS3,_,rfl,?_⟩
     try dsimp only
     rw [hkl]
     refine ⟨S,Hd,N,pl,M,N + M,ps,hs,t,rfl,hS2,ht2,hH,pv.hl,hpl,by omega,by omega,hM,hlthd,fun D7 H7 n7 s7 h7=>?_⟩
     refine ⟨(show 2<=sizeLine by decide),fun D8 n8=>?_⟩
     have n8':=(s2.trans s7).free n8
     have nget:∀ s,s < hs.length->hs.getD s 0 ∈ hs:=fun s hs'=>List.mem_of_getElem? (GF.getD_at hs')
     have hnp:∀ s,s < hs.length->hs.getD s 0 ≠ pl:=fun s hs'=>(hun _ (nget s hs')).2
     have hz:∀ i,hs.length<=i->i < M->t i pl = 0:=fun i h1 h2=>by
      rw [<- h0 i h1 h2,jd_ (by omega)]
     have fr:=GF.free_ok g tb pv hpl hnp hz
     have gx:∀ k,k < N->((List.range N).map (GF.makeX t hs pl hs.length)).getD k 0 = GF.makeX t hs pl hs.length k:=fun k hk=>by
      rw [List.getD_eq_getElem?_getD,List.getElem?_map,List.getElem?_range hk]
      rfl
     refine q2 D8 D7 ((List.range N).map (GF.makeX t hs pl hs.length)) _ ((s2.trans s7).trans (Same.new n8)) n8' (s2.free n7) qc_ (by rw [qf_ (qm_ h7 n8)];exact h7) ⟨by rw [List.length_map,List.length_range],fun x hx=>?_,?_,fun k hk e=>?_,fun j hj=>?_⟩
     ·obtain ⟨k,hk,rfl⟩:=List.mem_map.mp hx
      exact GF.makeX_lt g tb pv hpl k _ (Nat.le_refl _)
     ·rw [gx pl hpl]
      exact GF.makeX_place _ (Nat.le_refl _) hnp
     ·rw [gx k hk]
      refine GF.makeX_none (fun z=>?_) _ (Nat.le_refl _) fun s hs' z=>?_
      ·rw [z,hkp] at e
       exact absurd (Option.some.inj e) (by decide)
      ·have:=(hun _ (nget s hs')).1
       rw [z,e] at this
       exact absurd (Option.some.inj this) (by decide)
     ·exact (GF.dot_congr N fun k hk=>⟨rfl,gx k hk⟩).trans (fr j hj)
end
theorem zS_ {K:PySem.W.Frag}{H:Hp}:∀ {xs:List V}{ds:List Dt},xs.length = ds.length->(∀ (i:Nat) v d,xs[i]? = some v->ds[i]? = some d->Sees K H v d)->SeesL K H xs ds
 | [],[],_,_=>by rw [SeesL]
 | v :: xs,d :: ds,hl,h=>by
  rw [SeesL]
  exact ⟨v,xs,rfl,h 0 v d rfl rfl,zS_ (by simpa using hl) fun i u e h1 h2=>h (i + 1) u e (by simpa using h1) (by simpa using h2)⟩
 | [],_ :: _,hl,_=>by simp at hl
 | _ :: _,[],hl,_=>by simp at hl
theorem zp_ {n:Nat}:∀ {ds:List Dt},(∀ d ∈ ds,depD d<=n)->yo_ ds<=n
 | [],_=>by rw [yo_];exact Nat.zero_le _
 | d :: ds,h=>by
  rw [yo_]
  have h1:=h d (List.mem_cons_self)
  have h2:=zp_ (ds:=ds) fun e he=>h e (List.mem_cons_of_mem _ he)
  omega
theorem zh_ {n i:Nat}{row:List Nat} (h:∀ x ∈ row,x < n) (hi:i < row.length):row.getD i 0 < n:=by
 rw [List.getD_eq_getElem?_getD,List.getElem?_eq_getElem hi]
 exact h _ (List.getElem_mem hi)
section
variable {P:Program}{wo:World}{K:PySem.W.Frag}{mg:Str->Option Value}{base:Heap}{a:Adr}
def qfg_:Sp:=fun vs H Q _=>∃ (L:Addr) (ps:List Addr) (M N:Nat) (l:Nat->Nat->Nat),vs = [.ref L]/\H L = some (.lst (ps.map V.ref))/\TabAt H ps M (rowT N l)/\1<=M/\M<=2/\1<=N/\N + M<=8/\Q .non H
theorem vU_ (T:Txt K mg a):FnOk P wo K mg base CX0 1 a.f_check_lengths a.d_check_lengths ["weights"] qfg_:=by
 refine T.F_check_lengths.ok (k:=0) sc_check_lengths (fun vs H Q E h=>?_) (fun cdv A outer s H vs Q E hr h=>?_)
 ·obtain ⟨L,ps,M,N,l,rfl,_⟩:=h
  rfl
 ·obtain ⟨L,ps,M,N,l,rfl,hL,ht,h1,h2,h3,h4,q⟩:=h
  have el:(ps.map V.ref).length = M:=by rw [List.length_map,ht.len]
  have er:∀ i,(rowV (rowT N l i)).length = N:=fun i=>by rw [qk_,qs_]
  obtain ⟨p0',e0,hp0⟩:=ht.get (i:=0) (by omega)
  refine ⟨_,(qd_ (qD_ (PW.pt (ym_ (qt_ zt_ (qy_ qv_ rfl T.n_len PySem.boot_len (qa_ (pv 0) qe_)) qj_ (qu_ _)) (yA_ (qt_ yF_ (qy_ qv_ rfl T.n_len PySem.boot_len (qa_ (pv 0) qe_)) (zA_ (v:=.int 2) rfl T.v_MOST_SUMS ⟨_,rfl⟩) (qu_ _))))) (qg_ jO_) qA_)
   (qd_ (ql_ (i:=1) sc_check_lengths.nd rfl (Or.inl rfl) (qy_ qv_ rfl T.n_len PySem.boot_len (qa_ (qz_ qB_ (pv 0) qj_ (fun _ _=>rfl)) qe_)))
   (qd_ (qD_ (PW.pt (ym_ (qt_ zt_ (pv 1) qj_ (qu_ _)) (yA_ (qt_ yF_ (qn_ qO_ (pv 1) (qy_ qv_ rfl T.n_len PySem.boot_len (qa_ (pv 0) qe_))) (zA_ (v:=.int 8) rfl T.v_MOST_ROLES ⟨_,rfl⟩) (qu_ _))))) (qg_ jO_) qA_)
   (qg_ (qK_ PassesOwn.never rfl (q7_ (pv 0)) (qo_ (i:=2) sc_check_lengths.nd rfl (Or.inl rfl)) (qg_ (qD_ (qt_ v3_ (qy_ qv_ rfl T.n_len PySem.boot_len (qa_ (pv 2) qe_)) (pv 1) (qu_ _)) (qg_ jO_) qA_))))))),?_⟩
  refine ⟨_,rfl,L,_,rfl,.inl (SqL.of hL),_,_,rfl,rfl,_,rfl,?_⟩
  refine ite2 (fun y=>absurd (of_decide_eq_true y) (by rw [el];omega)) (fun _=>?_)
  refine ⟨_,rfl,L,_,rfl,.inl (SqL.of hL),_,_,rfl,rfl,_,rfl,?_⟩
  refine ite2 (fun y=>absurd (of_decide_eq_true y) (by rw [el];omega)) (fun _=>?_)
  refine ⟨_,rfl,L,_,_,_,rfl,rfl,SqL.of hL,qr_ (j:=0) (qG_ e0),p0',_,rfl,.inl (SqL.of hp0),?_⟩
  try dsimp only
  rw [er 0]
  refine ⟨_,rfl,_,_,rfl,rfl,_,rfl,?_⟩
  refine ite2 (fun y=>absurd (of_decide_eq_true y) (by omega)) (fun _=>?_)
  refine ⟨_,rfl,_,rfl,L,_,rfl,.inl (SqL.of hL),_,_,rfl,rfl,_,_,rfl,rfl,_,rfl,?_⟩
  refine ite2 (fun y=>absurd (of_decide_eq_true y) (by rw [el];omega)) (fun _=>?_)
  refine ⟨_,rfl,L,rfl,⟨_,SqL.of hL⟩,j6_ (K:=K) (a:=L) (xs:=ps.map V.ref) (fun i σ H'=>(∃ v2:Option V,σ = [some (.ref L),some (.int (N:Nat)),v2])/\H' = H) ⟨⟨none,rfl⟩,rfl⟩ ?_ ?_ ?_⟩
  ·rintro i σ H' _ ⟨_,rfl⟩
   exact SqL.of hL
  ·rintro i v σ H' hv ⟨⟨v2,rfl⟩,rfl⟩
   have hi:i < M:=by rw [<- el];exact (List.getElem?_eq_some_iff.mp hv).1
   obtain ⟨p,ep,hp⟩:=ht.get hi
   rw [qG_ ep] at hv
   cases Option.some.inj hv
   refine ⟨_,rfl,p,_,rfl,.inl (SqL.of hp),_,rfl,rfl,_,rfl,?_⟩
   refine ite2 (fun y=>absurd y (qkd_ (by rw [er]))) (fun _=>⟨⟨_,rfl⟩,rfl⟩)
  ·rintro σ H' ⟨⟨v2,rfl⟩,rfl⟩
   exact q
def qfh_ (a:Adr):Sp:=fun vs H Q _=>∃ (fp L:Addr) (r w:Nat) (ps:List Addr) (M N:Nat) (l:Nat->Nat->Nat),vs = [.ref fp,.ref L]/\FieldAt a.C_Field H fp r w/\GF.Good r w/\H L = some (.lst (ps.map V.ref))/\TabAt H ps M (rowT N l)/\(∀ i k,i < M->k < N->l i k < 2 ^ w)/\1<=M/\M<=2/\1<=N/\N<=8/\(∀ i,i < M->∃ k,k < N/\l i k ≠ 0)/\(∀ k,k < N->∃ i,i < M/\l i k ≠ 0)/\∀ H',Same H H'->Q .non H'
theorem qc3_ {row:List Nat}{k:Nat} (hk:k < row.length) (h:row.getD k 0 ≠ 0):((row.map fun n:Nat=>(n:Int)).any fun i=>i != 0) = true:=by
 rw [List.any_eq_true]
 refine ⟨((row.getD k 0:Nat):Int),List.mem_map.mpr ⟨row.getD k 0,?_,rfl⟩,?_⟩
 ·rw [List.getD_eq_getElem?_getD,List.getElem?_eq_getElem hk]
  exact List.getElem_mem hk
 ·simp only [bne_iff_ne,ne_eq]
  omega
theorem u1_ (row:List Nat):rowV row = (row.map fun n:Nat=>(n:Int)).map V.int:=by
 unfold rowV
 rw [List.map_map]
 rfl
theorem vV_ (T:Txt K mg a):FnOk P wo K mg base CX0 1 a.f_check_weights a.d_check_weights ["field", "weights"] (qfh_ a):=by
 refine T.F_check_weights.ok (k:=0) sc_check_weights (fun vs H Q E h=>?_) (fun cdv A outer s H vs Q E hr h=>?_)
 ·obtain ⟨fp,L,r,w,ps,M,N,l,rfl,_⟩:=h
  rfl
 ·obtain ⟨fp,L,r,w,ps,M,N,l,rfl,hF,g,hL,ht,hlt,h1,h2,h3,h4,hrow,hcol,q⟩:=h
  obtain ⟨dF,hF'⟩:=id hF
  have t16:=g.top16
  have el:(ps.map V.ref).length = M:=by rw [List.length_map,ht.len]
  have er:∀ i,(rowV (rowT N l i)).length = N:=fun i=>by rw [qk_,qs_]
  obtain ⟨p0',e0,hp0⟩:=ht.get (i:=0) (by omega)
  refine ⟨_,(qd_ (qK_ PassesOwn.never rfl (q7_ (pv 1)) (qo_ (i:=2) sc_check_weights.nd rfl (Or.inl rfl)) (qd_ (qK_ PassesOwn.never rfl (q7_ (pv 2)) (qo_ (i:=3) sc_check_weights.nd rfl (Or.inl rfl)) (qg_ (qD_ (PW.pt (ym_ (qt_ zt_ (pv 3) qj_ (qu_ _)) (yA_ (qt_ yF_ (pv 3) (qC_ (pv 0) rfl) (qu_ _))))) (qg_ jO_) qA_)))
   (qg_ (qD_ (yJ_ (jR_ (qy_ (uY_ rfl) rfl T.n_any boot_any (qa_ (pv 2) qe_)))) (qg_ jO_) qA_))))
   (qg_ (qK_ PassesOwn.never rfl (qW_ rfl T.n_range (qa_ (qy_ qv_ rfl T.n_len PySem.boot_len (qa_ (qz_ qB_ (pv 1) qj_ (fun _ _=>rfl)) qe_)) qe_)) (qo_ (i:=4) sc_check_weights.nd rfl (Or.inr rfl)) (qg_ (qD_ (yJ_ (jR_ (qy_ (uY_ rfl) rfl T.n_any boot_any (qa_ (jM_ (CompOk.of (cap:=[4]) (own:=["some"]) (by kernel_rfl)) rfl (q7_ (pv 1)) (fun _ _ _ _ _=>(qo_ (i:=1) (of_decide_eq_true (by kernel_rfl)) rfl (Or.inl rfl))) (fun _ _ _ _ _=>jw_) (fun _ _ _ _ _=>by exact (qz_ (jU_ (K:=K) rfl) (pv 1) (pv 0) (fun _ _=>rfl)))) qe_)))) (qg_ jO_) qA_))))),?_⟩
  refine ⟨_,rfl,L,rfl,⟨_,SqL.of hL⟩,j6_ (K:=K) (a:=L) (xs:=ps.map V.ref) (fun i σ H'=>(∃ v2 v3 v4:Option V,σ = [some (.ref fp),some (.ref L),v2,v3,v4])/\H' = H) ⟨⟨none,none,none,rfl⟩,rfl⟩ ?_ ?_ ?_⟩
  ·rintro i σ H' _ ⟨_,rfl⟩
   exact SqL.of hL
  ·rintro i v σ H' hv ⟨⟨v2,v3,v4,rfl⟩,rfl⟩
   have hi:i < M:=by rw [<- el];exact (List.getElem?_eq_some_iff.mp hv).1
   obtain ⟨p,ep,hp⟩:=ht.get hi
   rw [qG_ ep] at hv
   cases Option.some.inj hv
   refine ⟨_,rfl,p,rfl,⟨_,SqL.of hp⟩,j6_ (K:=K) (a:=p) (xs:=rowV (rowT N l i)) (fun j σ H''=>(∃ v3:Option V,σ = [some (.ref fp),some (.ref L),some (.ref p),v3,v4])/\H'' = H') ⟨⟨_,rfl⟩,rfl⟩ ?_ ?_ ?_⟩
   ·rintro j σ H'' _ ⟨_,rfl⟩
    exact SqL.of hp
   ·rintro j u σ H'' hu ⟨⟨v3,rfl⟩,rfl⟩
    obtain ⟨y,ey,rfl⟩:=je_ hu
    have hy:y < 2 ^ w:=zg_ (fun k hk=>hlt i k hi hk) y (List.mem_of_getElem? ey)
    refine ⟨_,rfl,_,_,rfl,rfl,_,rfl,?_⟩
    refine ite2 (fun y=>absurd (of_decide_eq_true y) (by omega)) (fun _=>?_)
    refine ⟨_,rfl,_,rfl,fp,_,_,_,_,rfl,hF',T.cl_Field,T.no_Field_last,yZ_ r w,_,_,rfl,rfl,_,rfl,?_⟩
    refine ite2 (fun z=>absurd (of_decide_eq_true z) (by omega)) (fun _=>⟨⟨_,rfl⟩,rfl⟩)
   ·rintro σ H'' ⟨⟨v3,rfl⟩,rfl⟩
    obtain ⟨k,hk,hz⟩:=hrow i hi
    refine ⟨_,rfl,p,_,rfl,(by rw [<- u1_];exact SqL.of hp),_,rfl,?_⟩
    rw [qc3_ (k:=k) (by rw [qs_];exact hk) (by rw [jd_ hk];exact hz)]
    refine ite2 (fun z=>absurd z (by decide)) (fun _=>⟨⟨_,_,_,rfl⟩,rfl⟩)
  ·rintro σ H' ⟨⟨v2,v3,v4,rfl⟩,rfl⟩
   refine ⟨_,rfl,L,_,_,_,rfl,rfl,SqL.of hL,qr_ (j:=0) (qG_ e0),p0',_,rfl,.inl (SqL.of hp0),_,rfl,by rw [er];omega,by rw [er];omega,?_⟩
   have en:(((rowV (rowT N l 0)).length:Nat):Int).toNat = N:=by rw [er];omega
   rw [en]
   refine jn_ (lo:=0) (n:=N) (fun i σ H''=>(∃ v2 v3 v4:Option V,σ = [some (.ref fp),some (.ref L),v2,v3,v4])/\Same H' H'') ⟨⟨_,_,_,rfl⟩,Same.refl _⟩ ?_ ?_
   ·rintro k σ H'' hk ⟨⟨v2,v3,v4,rfl⟩,s1⟩
    have ek:(0:Int) + (k:Nat) = ((k:Nat):Int):=by omega
    rw [ek]
    refine ⟨_,rfl,L,rfl,⟨_,SqL.of (s1 _ _ hL)⟩,fun D nD=>?_⟩
    refine j8_ (xs:=ps.map V.ref) (f:=fun i=>.int ((l i k:Nat):Int)) (cs:=[some (.int (k:Nat))]) (SqL.of (s1 _ _ hL)) nD rfl (by rw [el];exact Nat.le_trans h2 (by decide)) (fun i u H2 R2 hu s2 hR=>?_) (fun H2 s2 hD=>?_)
    ·have hi:i < M:=by rw [<- el];exact (List.getElem?_eq_some_iff.mp hu).1
     obtain ⟨p,ep,hp⟩:=ht.get hi
     rw [qG_ ep] at hu
     cases Option.some.inj hu
     have gi:=qr_ (jy_ (row:=rowT N l i) (i:=k) (by rw [qs_];exact hk))
     rw [jd_ hk] at gi
     exact ⟨_,rfl,_,rfl,p,_,_,_,rfl,rfl,SqL.of ((s1.trans s2) _ _ hp),gi,hR _ (Same.refl _)⟩
    ·rw [el] at hD
     have e:((List.range M).map fun i=>V.int ((l i k:Nat):Int)) = (((List.range M).map fun i=>l i k).map fun n:Nat=>(n:Int)).map V.int:=by
      rw [List.map_map,List.map_map]
      rfl
     rw [e] at hD
     obtain ⟨i,hi,hz⟩:=hcol k hk
     refine ⟨D,_,rfl,SqL.of hD,_,rfl,?_⟩
     have gd:((List.range M).map fun i=>l i k).getD i 0 = l i k:=by
      rw [List.getD_eq_getElem?_getD,List.getElem?_map,List.getElem?_range hi]
      rfl
     rw [qc3_ (k:=i) (by rw [List.length_map,List.length_range];exact hi) (by rw [gd];exact hz)]
     refine ite2 (fun z=>absurd z (by decide)) (fun _=>⟨⟨_,_,_,rfl⟩,s1.trans s2⟩)
   ·rintro σ H'' ⟨⟨v2,v3,v4,rfl⟩,s1⟩
    exact q _ s1
def eqn (N:Nat) (l:Nat->Nat->Nat) (t k:Nat):Nat:=if k < N then l t k else if k - N = t then 1 else 0
theorem qc4_ (N M:Nat) (l:Nat->Nat->Nat) (t:Nat):rowT (N + M) (eqn N l) t = rowT N l t ++ (List.range M).map fun j=>if j = t then 1 else 0:=by
 unfold rowT
 rw [List.range_add,List.map_append,List.map_map]
 congr 1
 ·exact List.map_congr_left fun k hk=>by
   unfold eqn
   rw [if_pos (List.mem_range.mp hk)]
 ·exact List.map_congr_left fun k hk=>by
   show eqn N l t (N + k) = _
   unfold eqn
   rw [if_neg (by omega),Nat.add_sub_cancel_left]
def qbf_ (K:PySem.W.Frag):Sp:=fun vs H Q _=>∃ (L:Addr) (ps:List Addr) (M N t:Nat) (l:Nat->Nat->Nat),vs = [.ref L,.int t]/\H L = some (.lst (ps.map V.ref))/\TabAt H ps M (rowT N l)/\t < M/\N + M<=8/\∀ D H',H D = none->Same H H'->H' D = some (.lst (rowV (rowT (N + M) (eqn N l) t)))->Q (.ref D) H'
theorem uE_ (T:Txt K mg a):FnOk P wo K mg base CX0 1 a.f_equation_of a.d_equation_of ["weights", "total"] (qbf_ K):=by
 refine T.F_equation_of.ok (k:=0) sc_equation_of (fun vs H Q E h=>?_) (fun cdv A outer s H vs Q E hr h=>?_)
 ·obtain ⟨L,ps,M,N,t,l,rfl,_⟩:=h
  rfl
 ·obtain ⟨L,ps,M,N,t,l,rfl,hL,ht,htM,h8,q⟩:=h
  have el:(ps.map V.ref).length = M:=by rw [List.length_map,ht.len]
  obtain ⟨p,ep,hp⟩:=ht.get htM
  refine ⟨_,(qd_ (ql_ (i:=2) sc_equation_of.nd rfl (Or.inl rfl) (yj_ jT_ rfl T.n_list (by decide +kernel) (qa_ (qz_ qB_ (pv 0) (pv 1) (fun _ _=>rfl)) qe_)))
   (qd_ (qK_ PassesOwn.never rfl (qW_ rfl T.n_range (qa_ (qy_ qv_ rfl T.n_len PySem.boot_len (qa_ (pv 0) qe_)) qe_)) (qo_ (i:=3) sc_equation_of.nd rfl (Or.inl rfl)) (qg_ (qU_ (jW_ PySem.F.plainAttrs_list PySem.F.slot_list_append PySem.F.type_list_append qQ_ (pv 2) (qa_ (qf7_ (qt_ jD_ (pv 3) (pv 1) (qu_ _)) qj_ qj_) qe_)))))
   (qg_ (qq_ (pv 2))))),?_⟩
  refine ⟨_,rfl,_,rfl,L,_,_,_,rfl,rfl,SqL.of hL,qr_ (qG_ ep),p,_,rfl,.inl (SqL.of hp),fun D nD=>?_⟩
  have sD:=Same.new (o:=.lst (rowV (rowT N l t))) nD
  have hD:(upd H D (.lst (rowV (rowT N l t)))) D = some (.lst (rowV (rowT N l t))):=qc_
  generalize (upd H D (.lst (rowV (rowT N l t)))) = H1 at sD hD
  refine ⟨_,rfl,L,_,rfl,.inl (SqL.of (sD _ _ hL)),_,rfl,by rw [el];omega,by rw [el];omega,?_⟩
  have en:(((ps.map V.ref).length:Nat):Int).toNat = M:=by rw [el];omega
  rw [en]
  refine jn_ (lo:=0) (n:=M) (fun j σ H'=>(∃ v3:Option V,σ = [some (.ref L),some (.int t),some (.ref D),v3])/\Same H H'/\H' D = some (.lst (rowV (rowT N l t ++ (List.range j).map fun j=>if j = t then 1 else 0)))) ⟨⟨none,rfl⟩,sD,by rw [hD];simp⟩ ?_ ?_
  ·rintro j σ H' hj ⟨⟨v3,rfl⟩,s1,h1⟩
   have ej:(0:Int) + (j:Nat) = ((j:Nat):Int):=by omega
   rw [ej]
   have fits:(rowV (rowT N l t ++ (List.range j).map fun j=>if j = t then 1 else 0)).length < sizeLine:=by
    rw [qk_,List.length_append,qs_,List.length_map,List.length_range]
    exact Nat.lt_trans (by omega:N + j < 9) (by decide)
   have er:rowV (rowT N l t ++ (List.range (j + 1)).map fun j=>if j = t then 1 else 0) = rowV (rowT N l t ++ (List.range j).map fun j=>if j = t then 1 else 0) ++ [.int ((if j = t then 1 else 0:Nat):Int)]:=by
    rw [List.range_succ,List.map_append,← List.append_assoc,← vF_]
    rfl
   refine ⟨_,rfl,.inl ⟨rfl,_,SqL.of h1⟩,_,rfl,_,rfl,rfl,_,rfl,?_⟩
   by_cases z:j = t
   ·refine ite2 (fun _=>?_) (fun y=>absurd (decide_eq_true (by rw [z])) y)
    rw [if_pos z] at er
    exact ⟨D,_,_,rfl,rfl,h1,fits,⟨_,rfl⟩,s1.up nD,by rw [qc_,er];rfl⟩
   ·refine ite2 (fun y=>absurd (V.int.inj (of_decide_eq_true y)) (by omega)) (fun _=>?_)
    rw [if_neg z] at er
    exact ⟨D,_,_,rfl,rfl,h1,fits,⟨_,rfl⟩,s1.up nD,by rw [qc_,er];rfl⟩
  ·rintro σ H' ⟨⟨v3,rfl⟩,s1,h1⟩
   refine ⟨_,rfl,q D H' nD s1 ?_⟩
   rw [h1,qc4_]
end
def cf (bp:Addr) (M N:Nat) (Lp:Addr):List (Str × V):=[("blocks",.ref bp),("sums",.int M),("data",.int N),("roles",.int ((N + M:Nat):Int)),("lines",.ref Lp)]
theorem ve_ (bp:Addr) (M N:Nat) (Lp:Addr):(cf bp M N Lp).lookup ("blocks" : Str) = some (.ref bp):=rfl
theorem zq_ (bp:Addr) (M N:Nat) (Lp:Addr):(cf bp M N Lp).lookup ("roles" : Str) = some (.int ((N + M:Nat):Int)):=rfl
theorem qbg_ (bp:Addr) (M N:Nat) (Lp:Addr):(cf bp M N Lp).lookup ("lines" : Str) = some (.ref Lp):=rfl
structure Wts (w M N:Nat) (l:Nat->Nat->Nat):Prop where
 m1:1<=M
 m2:M<=2
 n1:1<=N
 n8:N + M<=8
 lt:∀ i k,i < M->k < N->l i k < 2 ^ w
 row:∀ i,i < M->∃ k,k < N/\l i k ≠ 0
 col:∀ k,k < N->∃ i,i < M/\l i k ≠ 0
theorem yf_ {w M N:Nat}{l:Nat->Nat->Nat} (W:Wts w M N l) (t16:16<=2 ^ w):∀ i k,i < M->k < N + M->eqn N l i k < 2 ^ w:=fun i k hi hk=>by
 unfold eqn
 split
 ·exact W.lt i k hi (by assumption)
 ·split <;> omega
structure CodeAt (a:Adr) (H:Hp) (c bp fp:Addr) (r w n M N:Nat) (l:Nat->Nat->Nat):Prop where
 ins:∃ dx Lp qs,H c = some (.ins a.C_Code dx (cf bp M N Lp))/\H Lp = some (.lst (qs.map V.ref))/\TabAt H qs M (rowT (N + M) (eqn N l))
 blk:BlocksAt a H bp fp r w n
theorem CodeAt.same {a:Adr}{H H':Hp}{c bp fp:Addr}{r w n M N:Nat}{l:Nat->Nat->Nat} (h:CodeAt a H c bp fp r w n M N l) (s:Same H H'):CodeAt a H' c bp fp r w n M N l :=
 let ⟨dx,Lp,qs,h1,h2,h3⟩:=h.ins
 ⟨⟨dx,Lp,qs,s _ _ h1,s _ _ h2,h3.same s⟩,h.blk.same s⟩
section
variable {P:Program}{wo:World}{K:PySem.W.Frag}{mg:Str->Option Value}{base:Heap}{a:Adr}
def qdx_ (a:Adr):Sp:=fun vs H Q _=>∃ (c dx bp fp L:Addr) (r w n M N:Nat) (ps:List Addr) (l:Nat->Nat->Nat),vs = [.ref c,.ref bp,.ref L]/\H c = some (.ins a.C_Code dx [])/\BlocksAt a H bp fp r w n/\GF.Good r w/\H L = some (.lst (ps.map V.ref))/\TabAt H ps M (rowT N l)/\Wts w M N l ∧
 ∀ H',(∀ b o,b ≠ c->H b = some o->H' b = some o)->CodeAt a H' c bp fp r w n M N l->Q .non H'
theorem qbh_ (T:Txt K mg a):FnOk P wo K mg base CX0 2 a.f_Code_init a.d_Code_init ["self", "blocks", "weights"] (qdx_ a):=by
 have G_check_lengths:FnOk P wo K mg base CX0 1 _ _ _ _:=vU_ T
 have G_check_weights:FnOk P wo K mg base CX0 1 _ _ _ _:=vV_ T
 have G_equation_of:FnOk P wo K mg base CX0 1 _ _ _ _:=uE_ T
 refine T.F_Code_init.ok (k:=1) qa8_ (fun vs H Q E h=>?_) (fun cdv A outer s H vs Q E hr h=>?_)
 ·obtain ⟨c,dx,bp,fp,L,r,w,n,M,N,ps,l,rfl,_⟩:=h
  rfl
 ·obtain ⟨c,dx,bp,fp,L,r,w,n,M,N,ps,l,rfl,hc,hB,g,hL,ht,W,q⟩:=h
  obtain ⟨dB,hB'⟩:=hB.ins
  have el:(ps.map V.ref).length = M:=by rw [List.length_map,ht.len]
  have er:∀ i,(rowV (rowT N l i)).length = N:=fun i=>by rw [qk_,qs_]
  obtain ⟨p0',e0,hp0⟩:=ht.get (i:=0) W.m1
  have n8:=W.n8
  refine ⟨_,(qd_ (qU_ (qx_ G_check_lengths (hr.mono (by decide)) rfl T.m_check_lengths T.k_check_lengths T.b_check_lengths .nil qp_ (qa_ (pv 2) qe_)))
   (qd_ (qU_ (qx_ G_check_weights (hr.mono (by decide)) rfl T.m_check_weights T.k_check_weights T.b_check_weights .nil qp_ (qa_ (qC_ (pv 1) rfl) (qa_ (pv 2) qe_))))
   (qd_ (jL_ (pv 0) (pv 1) rfl)
   (qd_ (jL_ (pv 0) (qy_ qv_ rfl T.n_len PySem.boot_len (qa_ (pv 2) qe_)) rfl)
   (qd_ (jL_ (pv 0) (qy_ qv_ rfl T.n_len PySem.boot_len (qa_ (qz_ qB_ (pv 2) qj_ (fun _ _=>rfl)) qe_)) rfl)
   (qd_ (jL_ (pv 0) (qn_ qO_ (qC_ (pv 0) rfl) (qC_ (pv 0) rfl)) rfl)
   (qg_ (jL_ (pv 0) (jM_ (CompOk.of (cap:=[2]) (own:=["total"]) (by kernel_rfl)) rfl (qW_ rfl T.n_range (qa_ (qC_ (pv 0) rfl) qe_)) (fun _ _ _ _ _=>(qo_ (i:=1) (of_decide_eq_true (by kernel_rfl)) rfl (Or.inl rfl))) (fun _ _ _ _ _=>jw_) (fun _ _ _ _ _=>by exact (qx_ G_equation_of (hr.mono (by decide)) rfl T.m_equation_of T.k_equation_of T.b_equation_of .nil qp_ (qa_ (pv 0) (qa_ (pv 1) qe_))))) rfl)))))))),?_⟩
  refine ⟨_,rfl,L,ps,M,N,l,rfl,hL,ht,W.m1,W.m2,W.n1,W.n8,?_⟩
  refine ⟨_,rfl,bp,_,_,_,_,rfl,hB',T.cl_Blocks,T.no_Blocks_field,y1_ fp w n,_,rfl,fp,L,r,w,ps,M,N,l,rfl,hB.fld,g,hL,ht,W.lt,W.m1,W.m2,W.n1,by omega,W.row,W.col,fun H1 s1=>?_⟩
  have hc1:=s1 _ _ hc
  have ncB:bp ≠ c:=fun z=>by
   rw [z,hc] at hB'
   have:=(HO.ins.inj (Option.some.inj hB')).2.2
   unfold bf at this
   cases this
  obtain ⟨dF,hF'⟩:=hB.fld
  have ncF:fp ≠ c:=fun z=>by
   rw [z,hc] at hF'
   have:=(HO.ins.inj (Option.some.inj hF')).2.2
   unfold ff at this
   cases this
  have ncL:L ≠ c:=fun z=>by rw [z,hc] at hL;cases hL
  have ncp:∀ (i:Nat) p,ps[i]? = some p->p ≠ c:=fun i p e z=>by
   have:=ht.on i p e
   rw [z,hc] at this
   cases this
  refine ⟨_,rfl,_,rfl,c,a.C_Code,dx,_,rfl,hc1,T.cl_Code,T.no_Code_blocks,(by decide),?_⟩
  refine ⟨_,rfl,L,_,rfl,.inl (SqL.of (by rw [qf_ ncL];exact s1 _ _ hL)),_,rfl,c,a.C_Code,dx,_,rfl,qc_,T.cl_Code,T.no_Code_sums,(by show (1:Nat) < 1000;decide),?_⟩
  refine ⟨_,rfl,L,_,_,_,rfl,rfl,SqL.of (by rw [qf_ ncL,qf_ ncL];exact s1 _ _ hL),qr_ (j:=0) (qG_ e0),p0',_,rfl,.inl (SqL.of (by rw [qf_ (ncp 0 _ e0),qf_ (ncp 0 _ e0)];exact s1 _ _ hp0)),_,rfl,c,a.C_Code,dx,_,rfl,qc_,T.cl_Code,T.no_Code_data,(by show (2:Nat) < 1000;decide),?_⟩
  refine ⟨_,rfl,c,_,_,_,_,rfl,qc_,T.cl_Code,T.no_Code_data,rfl,_,rfl,c,_,_,_,_,rfl,qc_,T.cl_Code,T.no_Code_sums,rfl,_,_,rfl,rfl,_,rfl,c,a.C_Code,dx,_,rfl,qc_,T.cl_Code,T.no_Code_roles,(by show (3:Nat) < 1000;decide),?_⟩
  dsimp only
  rw [jA_,jA_,jA_,el,er]
  have ef:putF "roles" (.int ((N:Int) + (M:Int))) (putF "data" (.int (N:Int)) (putF "sums" (.int (M:Int)) (putF "blocks" (.ref bp) []))) = [(("blocks" : Str),V.ref bp),(("sums" : Str),V.int M),(("data" : Str),V.int N),(("roles" : Str),V.int ((N + M:Nat):Int))]:=by
   rw [Int.natCast_add]
   rfl
  rw [ef]
  have hc2:(upd H1 c (.ins a.C_Code dx [(("blocks" : Str),V.ref bp),(("sums" : Str),V.int M),(("data" : Str),V.int N),(("roles" : Str),V.int ((N + M:Nat):Int))])) c = some (.ins a.C_Code dx [(("blocks" : Str),V.ref bp),(("sums" : Str),V.int M),(("data" : Str),V.int N),(("roles" : Str),V.int ((N + M:Nat):Int))]):=qc_
  have k2:∀ b o,b ≠ c → H b = some o → (upd H1 c (.ins a.C_Code dx [(("blocks" : Str),V.ref bp),(("sums" : Str),V.int M),(("data" : Str),V.int N),(("roles" : Str),V.int ((N + M:Nat):Int))])) b = some o:=fun b o z e=>by rw [qf_ z];exact s1 _ _ e
  generalize (upd H1 c (.ins a.C_Code dx [(("blocks" : Str),V.ref bp),(("sums" : Str),V.int M),(("data" : Str),V.int N),(("roles" : Str),V.int ((N + M:Nat):Int))])) = H2 at hc2 k2
  have hL2:=k2 _ _ ncL hL
  have ht2:TabAt H2 ps M (rowT N l):=⟨ht.len,fun i p e=>k2 _ _ (ncp i p e) (ht.on i p e)⟩
  refine ⟨_,rfl,c,_,_,_,_,rfl,hc2,T.cl_Code,T.no_Code_sums,rfl,_,rfl,by omega,by omega,fun D nD=>?_⟩
  rw [Int.toNat_natCast]
  refine qdn_ (n:=M) (row:=fun i=>rowV (rowT (N + M) (eqn N l) i)) (cs:=[some (.ref L)]) nD rfl (Nat.le_trans (by omega:M<=8) (by decide)) (fun i H3 R3 hi s3 hR=>?_) (fun qs H3 s3 hD hrows hf hdd=>?_)
  ·exact ⟨_,rfl,_,rfl,L,ps,M,N,i,l,rfl,s3 _ _ hL2,ht2.same s3,hi,W.n8,fun D4 H4 n4 s4 h4=>hR D4 H4 n4 s4 h4⟩
  ·have nDc:D ≠ c:=fun z=>by rw [z,hc2] at nD;cases nD
   have nqc:∀ (i:Nat) p,qs[i]? = some p->p ≠ c:=fun i p e z=>by
    have:=hf p (List.mem_of_getElem? e)
    rw [z,hc2] at this
    cases this
   refine ⟨_,rfl,c,a.C_Code,dx,_,rfl,s3 _ _ hc2,T.cl_Code,T.no_Code_lines,(by show (4:Nat) < 1000;decide),?_⟩
   refine q _ (fun b o z e=>?_) ⟨⟨dx,D,qs,qc_,?_,⟨hrows.len,fun i p e=>?_⟩⟩,⟨⟨dB,?_⟩,⟨dF,?_⟩⟩⟩
   ·rw [qf_ z]
    exact s3 _ _ (k2 b o z e)
   ·rw [qf_ nDc]
    exact hD
   ·rw [qf_ (nqc i p e)]
    exact hrows.on i p e
   ·rw [qf_ ncB]
    exact s3 _ _ (k2 _ _ ncB hB')
   ·rw [qf_ ncF]
    exact s3 _ _ (k2 _ _ ncF hF')
end
def zv_ (r w n M N:Nat) (l:Nat->Nat->Nat) (bs:List Nat):List Nat:=bs ++ (List.range M).map fun t=>GF.sumB r w n ((rowT N l t).zip bs)
def isMk (r w n M N:Nat) (l:Nat->Nat->Nat) (bs:List Nat):Bool:=(List.range M).all fun t=>decide (GF.sumB r w n ((rowT (N + M) (eqn N l) t).zip bs) = 0)
def valO:Option Nat->V
 | some b=>.int (b:Nat)
 | none=>.non
def rowO (os:List (Option Nat)):List V:=os.map valO
theorem qN_ (os:List (Option Nat)):(rowO os).length = os.length:=by unfold rowO;rw [List.length_map]
theorem jB_ {os:List (Option Nat)}{k:Nat}{o:Option Nat} (h:os[k]? = some o):(rowO os)[k]? = some (valO o):=by
 unfold rowO
 rw [List.getElem?_map,h]
 rfl
section
variable {P:Program}{wo:World}{K:PySem.W.Frag}{mg:Str->Option Value}{base:Heap}{a:Adr}
def qcb_ (a:Adr):Sp:=fun vs H Q _=>∃ (c bp fp:Addr) (r w n M N k:Nat) (l:Nat->Nat->Nat),vs = [.ref c,.int k]/\CodeAt a H c bp fp r w n M N l/\k < N + M/\Q .non H
theorem y8_ (T:Txt K mg a):FnOk P wo K mg base CX0 1 a.f_Code_check_role a.d_Code_check_role ["self", "role"] (qcb_ a):=by
 refine T.F_Code_check_role.ok (k:=0) va_ (fun vs H Q E h=>?_) (fun cdv A outer s H vs Q E hr h=>?_)
 ·obtain ⟨c,bp,fp,r,w,n,M,N,k,l,rfl,_⟩:=h
  rfl
 ·obtain ⟨c,bp,fp,r,w,n,M,N,k,l,rfl,hC,hk,q⟩:=h
  obtain ⟨dx,Lp,qs,h1,_,_⟩:=hC.ins
  refine ⟨_,(qg_ (qD_ (PW.pt (ym_ (qt_ zt_ (pv 1) qj_ (qu_ _)) (yA_ (qt_ qhx_ (pv 1) (qC_ (pv 0) rfl) (qu_ _))))) (qg_ jO_) qA_)),?_⟩
  refine ⟨_,rfl,_,_,rfl,rfl,_,rfl,?_⟩
  refine ite2 (fun y=>absurd (of_decide_eq_true y) (by omega)) (fun _=>?_)
  refine ⟨_,rfl,_,rfl,c,_,_,_,_,rfl,h1,T.cl_Code,T.no_Code_roles,zq_ bp M N Lp,_,_,rfl,rfl,_,rfl,?_⟩
  refine ite2 (fun y=>absurd (of_decide_eq_true y) (by omega)) (fun _=>q)
def qiz_ (K:PySem.W.Frag) (a:Adr):Sp:=fun vs H Q _=>∃ (c bp fp kn:Addr) (r w n M N pl:Nat) (l:Nat->Nat->Nat) (ks:List Bool),vs = [.ref c,.ref kn,.int pl]/\CodeAt a H c bp fp r w n M N l/\GF.Full r w/\Wts w M N l/\H kn = some (.lst (knV ks))/\ks.length = N + M/\pl < N + M/\ks[pl]? = some false ∧
 ∀ D H',Same H H'->H D = none->qff_ H' D r w (N + M) M (eqn N l) ks pl->(∀ t e,H' D = some (.tup [t,.ref e])->H e = none)->Q (.ref D) H'
theorem vf_ (T:Txt K mg a):FnOk P wo K mg base CX0 7 a.f_Code_told a.d_Code_told ["self", "known", "role"] (qiz_ K a):=by
 have G_told_of:FnOk P wo K mg base CX0 6 _ _ _ _:=qdw_ T
 refine T.F_Code_told.ok (k:=6) qa9_ (fun vs H Q E h=>?_) (fun cdv A outer s H vs Q E hr h=>?_)
 ·obtain ⟨c,bp,fp,kn,r,w,n,M,N,pl,l,ks,rfl,_⟩:=h
  rfl
 ·obtain ⟨c,bp,fp,kn,r,w,n,M,N,pl,l,ks,rfl,hC,g,W,hkn,hks,hpl,hkp,q⟩:=h
  obtain ⟨dx,Lp,qs,h1,h2,h3⟩:=hC.ins
  obtain ⟨dB,hB⟩:=hC.blk.ins
  have n8:=W.n8
  refine ⟨_,(qg_ (qq_ (qx_ G_told_of (hr.mono (by decide)) rfl T.m_told_of T.k_told_of T.b_told_of .nil qp_ (qa_ (qC_ (qC_ (pv 0) rfl) rfl) (qa_ (qC_ (pv 0) rfl) (qa_ (pv 1) (qa_ (pv 2) qe_))))))),?_⟩
  refine ⟨_,rfl,c,_,_,_,_,rfl,h1,T.cl_Code,T.no_Code_blocks,ve_ bp M N Lp,bp,_,_,_,_,rfl,hB,T.cl_Blocks,T.no_Blocks_field,y1_ fp w n,_,rfl,c,_,_,_,_,rfl,h1,T.cl_Code,T.no_Code_lines,qbg_ bp M N Lp,_,rfl,_,rfl,?_⟩
  exact ⟨fp,Lp,kn,r,w,N + M,M,pl,qs,eqn N l,ks,rfl,hC.blk.fld,g,h2,h3,yf_ W g.toGood.top16,hkn,hks,by omega,by have:=W.m2;omega,hpl,hkp,q⟩
def byL (r w M N:Nat) (l:Nat->Nat->Nat) (by':List Nat) (k:Nat):Nat:=GF.dot r w M (fun t=>eqn N l t k) (fun t=>by'.getD t 0)
def tells (r w M N:Nat) (l:Nat->Nat->Nat) (by':List Nat) (os:List (Option Nat)):List (Nat × Nat):=((List.range (N + M)).filter fun k=>(os.getD k none).isSome).map fun k=>(byL r w M N l by' k,(os.getD k none).getD 0)
def qdy_ (K:PySem.W.Frag) (a:Adr):Sp:=fun vs H Q _=>∃ (c bp fp bl rl:Addr) (r w n M N:Nat) (l:Nat->Nat->Nat) (by':List Nat) (os:List (Option Nat)),vs = [.ref c,.ref bl,.ref rl]/\CodeAt a H c bp fp r w n M N l/\GF.Good r w/\n<=16/\Wts w M N l/\H bl = some (.lst (rowV by'))/\by'.length = M/\H rl = some (.lst (rowO os))/\os.length = N + M ∧
 ∀ H',Same H H'->Q (.int ((GF.sumB r w n (tells r w M N l by' os):Nat):Int)) H'
theorem vx_ (T:Txt K mg a):FnOk P wo K mg base CX0 5 a.f_Code_summed_by a.d_Code_summed_by ["self", "by", "row"] (qdy_ K a):=by
 have G_sum_of_two:FnOk P wo K mg base CX0 4 _ _ _ _:=(zZ_ T).mono (by decide)
 have G_scaled_line:FnOk P wo K mg base CX0 4 _ _ _ _:=(zH_ T).mono (by decide)
 have G_Blocks_summed:FnOk P wo K mg base CX0 4 _ _ _ _:=vS_ T
 refine T.F_Code_summed_by.ok (k:=4) sc_Code_summed_by (fun vs H Q E h=>?_) (fun cdv A outer s H vs Q E hr h=>?_)
 ·obtain ⟨c,bp,fp,bl,rl,r,w,n,M,N,l,by',os,rfl,_⟩:=h
  rfl
 ·obtain ⟨c,bp,fp,bl,rl,r,w,n,M,N,l,by',os,rfl,hC,g,hn,W,hbl,hby,hrl,hos,q⟩:=h
  obtain ⟨dx,Lp,qs,h1,h2,h3⟩:=hC.ins
  have n8:=W.n8
  have t16:=g.top16
  have el:(qs.map V.ref).length = M:=by rw [List.length_map,h3.len]
  refine ⟨_,(qd_ (ql_ (i:=3) sc_Code_summed_by.nd rfl (Or.inr rfl) (qn_ zE_ (qP_ (qa_ qj_ qe_)) (qC_ (pv 0) rfl)))
   (qd_ (qK_ PassesOwn.never rfl (z6_ rfl T.n_zip (qa_ (pv 1) (qa_ (qC_ (pv 0) rfl) qe_))) (y4_ rfl (qL_ (qo_ (i:=4) sc_Code_summed_by.nd rfl (Or.inl rfl)) (qL_ (qo_ (i:=5) sc_Code_summed_by.nd rfl (Or.inl rfl)) j2_))) (qg_ (ql_ (i:=3) sc_Code_summed_by.nd rfl (Or.inr rfl) (qx_ G_sum_of_two (hr.mono (by decide)) rfl T.m_sum_of_two T.k_sum_of_two T.b_sum_of_two .nil qp_ (qa_ (pv 3) (qa_ (qx_ G_scaled_line (hr.mono (by decide)) rfl T.m_scaled_line T.k_scaled_line T.b_scaled_line .nil qp_ (qa_ (qC_ (qC_ (pv 0) rfl) rfl) (qa_ (pv 4) (qa_ (pv 5) qe_)))) qe_))))))
   (qd_ (zG_ (i:=6) sc_Code_summed_by.nd rfl (Or.inl rfl) (CompOk.of (cap:=[2]) (own:=["role"]) (by kernel_rfl)) rfl (qW_ rfl T.n_range (qa_ (qC_ (pv 0) rfl) qe_)) (fun _ _ _ _ _=>(qo_ (i:=1) (of_decide_eq_true (by kernel_rfl)) rfl (Or.inl rfl))) (fun _ _ _ _ _=>(ut_ (qt_ zf_ (qz_ (jU_ (K:=K) rfl) (pv 0) (pv 1) (fun _ _=>rfl)) jo_ (qu_ _)))) (fun _ _ _ _ _=>by exact (pv 1)))
   (qg_ (qq_ (qF_ (by exact (qC_ (pv 0) rfl)) T.cl_Blocks T.me_Blocks_summed G_Blocks_summed (hr.mono (by decide)) T.b_Blocks_summed .nil qp_ (qa_ (jM_ (CompOk.of (cap:=[3]) (own:=["role"]) (by kernel_rfl)) rfl (q7_ (pv 6)) (fun _ _ _ _ _=>(qo_ (i:=1) (of_decide_eq_true (by kernel_rfl)) rfl (Or.inl rfl))) (fun _ _ _ _ _=>jw_) (fun _ _ _ _ _=>by exact (qz_ (jU_ (K:=K) rfl) (pv 0) (pv 1) (fun _ _=>rfl)))) (qa_ (jM_ (CompOk.of (cap:=[2]) (own:=["role"]) (by kernel_rfl)) rfl (q7_ (pv 6)) (fun _ _ _ _ _=>(qo_ (i:=1) (of_decide_eq_true (by kernel_rfl)) rfl (Or.inl rfl))) (fun _ _ _ _ _=>jw_) (fun _ _ _ _ _=>by exact (qz_ (jU_ (K:=K) rfl) (pv 0) (pv 1) (fun _ _=>rfl)))) qe_)))))))),?_⟩
  refine ⟨(show 1<=sizeLine by decide),fun p1 n1=>⟨_,rfl,c,_,_,_,_,rfl,(Same.new n1) _ _ h1,T.cl_Code,T.no_Code_roles,zq_ bp M N Lp,p1,_,_,rfl,rfl,qc_,by omega,by omega,?_,fun p2 n2=>?_⟩⟩
  ·rw [Int.toNat_natCast]
   show 1 * (N + M)<=sizeLine
   exact Nat.le_trans (by omega:1 * (N + M)<=30) (by decide)
  have eR:(List.replicate (((N + M:Nat):Int)).toNat [V.int 0]).flatten = rowV ((List.range (N + M)).map fun k=>GF.dot r w 0 (fun t=>eqn N l t k) (fun t=>by'.getD t 0)):=by
   rw [Int.toNat_natCast]
   have:((List.range (N + M)).map fun k=>GF.dot r w 0 (fun t=>eqn N l t k) (fun t=>by'.getD t 0)) = List.replicate (N + M) 0:=by
    show ((List.range (N + M)).map fun _=>0) = _
    rw [List.map_const',List.length_range]
   rw [this]
   exact vt_ (N + M) 0
  rw [eR]
  have s1:=(Same.new (o:=.lst [V.int 0]) n1).trans (Same.new (o:=.lst (rowV ((List.range (N + M)).map fun k=>GF.dot r w 0 (fun t=>eqn N l t k) (fun t=>by'.getD t 0)))) n2)
  have hp2:(upd (upd H p1 (.lst [V.int 0])) p2 (.lst (rowV ((List.range (N + M)).map fun k=>GF.dot r w 0 (fun t=>eqn N l t k) (fun t=>by'.getD t 0))))) p2 = some (.lst (rowV ((List.range (N + M)).map fun k=>GF.dot r w 0 (fun t=>eqn N l t k) (fun t=>by'.getD t 0)))):=qc_
  generalize (upd (upd H p1 (.lst [V.int 0])) p2 (.lst (rowV ((List.range (N + M)).map fun k=>GF.dot r w 0 (fun t=>eqn N l t k) (fun t=>by'.getD t 0))))) = H1 at s1 hp2
  refine ⟨_,rfl,_,rfl,c,_,_,_,_,rfl,s1 _ _ h1,T.cl_Code,T.no_Code_lines,qbg_ bp M N Lp,bl,Lp,_,_,rfl,SqL.of (s1 _ _ hbl),SqL.of (s1 _ _ h2),uu_ (K:=K) (l1:=bl) (l2:=Lp) (xs:=rowV by') (ys:=qs.map V.ref) (fun i σ H'=>∃ (La:Addr) (v4 v5:Option V),σ = [some (.ref c),some (.ref bl),some (.ref rl),some (.ref La),v4,v5,none]/\Same H H'/\H' La = some (.lst (rowV ((List.range (N + M)).map fun k=>GF.dot r w i (fun t=>eqn N l t k) (fun t=>by'.getD t 0))))) ⟨p2,none,none,rfl,s1,hp2⟩ ?_ (by rw [qk_,hby,el]) ?_ ?_⟩
  ·rintro i σ H' _ ⟨La,v4,v5,_,sm,_⟩
   exact ⟨SqL.of (sm _ _ hbl),SqL.of (sm _ _ h2)⟩
  ·rintro i u v T' σ H' hi hu hv hT ⟨La,v4,v5,rfl,sm,hLa⟩
   obtain ⟨f,hfi,rfl⟩:=je_ hu
   have hi':i < M:=by rw [<- el];exact (List.getElem?_eq_some_iff.mp hv).1
   obtain ⟨p,ep,hp⟩:=h3.get hi'
   rw [qG_ ep] at hv
   cases Option.some.inj hv
   have s2:=sm.trans (Same.new (o:=.tup [V.int (f:Nat),V.ref p]) hT)
   have hLa2:=(Same.new (o:=.tup [V.int (f:Nat),V.ref p]) hT) _ _ hLa
   refine ⟨T',_,rfl,SqT.of qc_,rfl,_,_,rfl,_,_,rfl,rfl,?_⟩
   generalize (upd H' T' (.tup [V.int (f:Nat),V.ref p])) = H2 at s2 hLa2
   have hC2:=hC.same s2
   obtain ⟨dB,hB⟩:=hC2.blk.ins
   refine ⟨_,rfl,_,rfl,c,_,_,_,_,rfl,s2 _ _ h1,T.cl_Code,T.no_Code_blocks,ve_ bp M N Lp,bp,_,_,_,_,rfl,hB,T.cl_Blocks,T.no_Blocks_field,y1_ fp w n,_,rfl,_,rfl,?_⟩
   refine ⟨fp,p,r,w,f,rowT (N + M) (eqn N l) i,rfl,hC2.blk.fld,g,s2 _ _ hp,zg_ fun k hk=>yf_ W t16 i k hi' hk,by rw [qs_];omega,fun D3 H3 n3 s3 h3'=>?_⟩
   refine ⟨La,D3,_,_,rfl,s3 _ _ hLa2,h3',by rw [List.length_map,List.length_range,List.length_map,qs_],by rw [List.length_map,List.length_range];omega,fun D4 H4 n4 s4 h4=>?_⟩
   refine ⟨D4,_,_,rfl,s2.trans (s3.trans s4),?_⟩
   rw [h4]
   refine congrArg (fun l=>some (HO.lst (rowV l))) ?_
   have ef:by'.getD i 0 = f:=by rw [List.getD_eq_getElem?_getD,hfi];rfl
   unfold rowT
   apply List.ext_getElem?
   intro k
   rw [List.getElem?_zipWith,List.getElem?_map,List.getElem?_map,List.getElem?_map,List.getElem?_map]
   cases (List.range (N + M))[k]? with
   | none=>rfl
   | some x =>
    rw [<- ef]
    rfl
  ·rintro σ H' ⟨La,v4,v5,rfl,sm,hLa⟩
   rw [qk_,hby] at hLa
   have hC':=hC.same sm
   refine ⟨_,rfl,c,_,_,_,_,rfl,sm _ _ h1,T.cl_Code,T.no_Code_roles,zq_ bp M N Lp,_,rfl,by omega,by omega,fun tl ntl=>?_⟩
   rw [Int.toNat_natCast]
   have hat:∀ k,k < N + M->os[k]? = some (os.getD k none):=fun k hk=>by
    rw [List.getD_eq_getElem?_getD,List.getElem?_eq_getElem (by omega)]
    rfl
   refine vD_ (n:=N + M) (f:=fun k=>.int ((k:Nat):Int)) (b:=fun k=>(os.getD k none).isSome) (cs:=[some (.ref rl)]) ntl rfl (Nat.le_trans n8 (by decide)) (fun k H2 R2 hk s2 hR=>?_) (fun k H2 R2 hk hb s2 hR=>?_) (fun H2 s2 htl=>?_)
   ·refine ⟨_,rfl,_,rfl,rl,_,_,_,rfl,rfl,SqL.of (s2 _ _ (sm _ _ hrl)),qr_ (jB_ (hat k hk)),rfl,_,rfl,?_⟩
    have e:(!decide (valO (os.getD k none) = V.non)) = (os.getD k none).isSome:=by
     cases os.getD k none with
     | none=>rfl
     | some b=>exact by rw [decide_eq_false (fun z=>by cases z)];rfl
    rw [e]
    exact hR _ (Same.refl _)
   ·exact ⟨_,rfl,hR _ (Same.refl _)⟩
   have s12:=sm.trans s2
   have hC2:=hC.same s12
   obtain ⟨dB,hB⟩:=hC2.blk.ins
   have hLa2:=s2 _ _ hLa
   generalize hfl:(List.range (N + M)).filter (fun k=>(os.getD k none).isSome) = tks at htl
   have htk:∀ k ∈ tks,k < N + M/\(os.getD k none).isSome = true:=fun k hk=>by
    rw [<- hfl] at hk
    have:=List.mem_filter.mp hk
    exact ⟨List.mem_range.mp this.1,this.2⟩
   have htl':H2 tl = some (.lst (rowV tks)):=by
    rw [htl]
    rfl
   have hlen:tks.length<=8:=by
    rw [<- hfl]
    have:=List.length_filter_le (fun k=>(os.getD k none).isSome) (List.range (N + M))
    rw [List.length_range] at this
    omega
   refine ⟨_,rfl,c,_,_,_,_,rfl,s12 _ _ h1,T.cl_Code,T.no_Code_blocks,ve_ bp M N Lp,bp,dB,_,rfl,hB,rfl,?_⟩
   refine ⟨_,rfl,tl,rfl,⟨_,SqL.of htl'⟩,fun D1 nD1=>?_⟩
   refine j8_ (xs:=rowV tks) (f:=fun i=>.int ((byL r w M N l by' (tks.getD i 0):Nat):Int)) (cs:=[some (.ref La)]) (SqL.of htl') nD1 rfl (by rw [qk_];exact Nat.le_trans hlen (by decide)) (fun i u H3 R3 hu s3 hR=>?_) (fun H3 s3 hD1=>?_)
   ·obtain ⟨k,ek,rfl⟩:=je_ hu
    have hk:=(htk k (List.mem_of_getElem? ek)).1
    have eg:tks.getD i 0 = k:=by rw [List.getD_eq_getElem?_getD,ek];rfl
    rw [eg] at hR
    have gi:=qr_ (jy_ (row:=(List.range (N + M)).map fun k=>GF.dot r w M (fun t=>eqn N l t k) (fun t=>by'.getD t 0)) (i:=k) (by rw [List.length_map,List.length_range];exact hk))
    rw [List.getD_eq_getElem?_getD,List.getElem?_map,List.getElem?_range hk] at gi
    exact ⟨_,rfl,_,rfl,La,_,_,_,rfl,rfl,SqL.of (s3 _ _ hLa2),gi,hR _ (Same.refl _)⟩
   refine ⟨_,rfl,tl,rfl,⟨_,SqL.of (s3 _ _ htl')⟩,fun D2 nD2=>?_⟩
   refine j8_ (xs:=rowV tks) (f:=fun i=>.int (((os.getD (tks.getD i 0) none).getD 0:Nat):Int)) (cs:=[some (.ref rl)]) (SqL.of (s3 _ _ htl')) nD2 rfl (by rw [qk_];exact Nat.le_trans hlen (by decide)) (fun i u H4 R4 hu s4 hR=>?_) (fun H4 s4 hD2=>?_)
   ·obtain ⟨k,ek,rfl⟩:=je_ hu
    have hk:=htk k (List.mem_of_getElem? ek)
    have eg:tks.getD i 0 = k:=by rw [List.getD_eq_getElem?_getD,ek];rfl
    rw [eg] at hR
    have ev:valO (os.getD k none) = .int (((os.getD k none).getD 0:Nat):Int):=by
     cases hz:os.getD k none with
     | none=>rw [hz] at hk;exact absurd hk.2 (by decide)
     | some b=>rfl
    have gi:=qr_ (jB_ (hat k hk.1))
    rw [ev] at gi
    exact ⟨_,rfl,_,rfl,rl,_,_,_,rfl,rfl,SqL.of (s4 _ _ (s3 _ _ (s12 _ _ hrl))),gi,hR _ (Same.refl _)⟩
   rw [qk_] at hD1 hD2
   have e1:((List.range tks.length).map fun i=>V.int ((byL r w M N l by' (tks.getD i 0):Nat):Int)) = rowV (tks.map (byL r w M N l by')):=by
    unfold rowV
    apply List.ext_getElem?
    intro i
    rw [List.getElem?_map,List.getElem?_map,List.getElem?_map]
    by_cases hi:i < tks.length
    ·rw [List.getElem?_range hi,List.getElem?_eq_getElem hi]
     have eg:tks.getD i 0 = tks[i]:=by rw [List.getD_eq_getElem?_getD,List.getElem?_eq_getElem hi];rfl
     dsimp only [Option.map]
     rw [eg]
    ·rw [List.getElem?_eq_none (by rw [List.length_range];omega),List.getElem?_eq_none (by omega)]
     rfl
   have e2:((List.range tks.length).map fun i=>V.int (((os.getD (tks.getD i 0) none).getD 0:Nat):Int)) = rowV (tks.map fun k=>(os.getD k none).getD 0):=by
    unfold rowV
    apply List.ext_getElem?
    intro i
    rw [List.getElem?_map,List.getElem?_map,List.getElem?_map]
    by_cases hi:i < tks.length
    ·rw [List.getElem?_range hi,List.getElem?_eq_getElem hi]
     have eg:tks.getD i 0 = tks[i]:=by rw [List.getD_eq_getElem?_getD,List.getElem?_eq_getElem hi];rfl
     dsimp only [Option.map]
     rw [eg]
    ·rw [List.getElem?_eq_none (by rw [List.length_range];omega),List.getElem?_eq_none (by omega)]
     rfl
   rw [e1] at hD1
   rw [e2] at hD2
   have s14:=s12.trans (s3.trans s4)
   refine ⟨bp,fp,D1,D2,r,w,n,tks.map (byL r w M N l by'),tks.map (fun k=>(os.getD k none).getD 0),rfl,(hC.same s14).blk,g,hn,SqL.of (s4 _ _ hD1),SqL.of hD2,by rw [List.length_map,List.length_map],fun f hf=>?_,fun H5 s5=>?_⟩
   ·obtain ⟨k,hk,rfl⟩:=List.mem_map.mp hf
    exact GF.dot_lt g.rule M fun t ht=>yf_ W t16 t k ht (htk k hk).1
   ·have ez:(tks.map (byL r w M N l by')).zip (tks.map fun k=>(os.getD k none).getD 0) = tells r w M N l by' os:=by
     unfold tells
     rw [hfl,List.zip_map',]
    rw [ez]
    exact q _ (s14.trans s5)
def knO (os:List (Option Nat)):List Bool:=os.map Option.isSome
def qdz_ (K:PySem.W.Frag) (a:Adr):Sp:=fun vs H Q _=>∃ (c bp fp rl:Addr) (r w n M N k:Nat) (l:Nat->Nat->Nat) (os:List (Option Nat)),vs = [.ref c,.ref rl,.int k]/\CodeAt a H c bp fp r w n M N l/\GF.Full r w/\n<=16/\Wts w M N l/\H rl = some (.lst (rowO os))/\os.length = N + M/\k < N + M ∧
 (∀ b,os.getD k none = some b->Q (.int (b:Nat)) H)/\(os.getD k none = none->∀ H',Same H H'->(∀ by',Reck r w (N + M) M (eqn N l) (knO os) k by'->Q (.int ((GF.sumB r w n (tells r w M N l by' os):Nat):Int)) H')/\∀ mk,Free r w (N + M) M (eqn N l) (knO os) k mk->Q .non H')
theorem vW_ (T:Txt K mg a):FnOk P wo K mg base CX0 8 a.f_Code_reckoned a.d_Code_reckoned ["self", "row", "role"] (qdz_ K a):=by
 have G_Code_check_role:FnOk P wo K mg base CX0 7 _ _ _ _:=(y8_ T).mono (by decide)
 have G_Code_told:FnOk P wo K mg base CX0 7 _ _ _ _:=vf_ T
 have G_Code_summed_by:FnOk P wo K mg base CX0 7 _ _ _ _:=(vx_ T).mono (by decide)
 refine T.F_Code_reckoned.ok (k:=7) sc_Code_reckoned (fun vs H Q E h=>?_) (fun cdv A outer s H vs Q E hr h=>?_)
 ·obtain ⟨c,bp,fp,rl,r,w,n,M,N,k,l,os,rfl,_⟩:=h
  rfl
 ·obtain ⟨c,bp,fp,rl,r,w,n,M,N,k,l,os,rfl,hC,g,hn,W,hrl,hos,hk,q1,q2⟩:=h
  obtain ⟨dx,Lp,qs,h1,h2,h3⟩:=id hC.ins
  have n8:=W.n8
  have hat:os[k]? = some (os.getD k none):=by
   rw [List.getD_eq_getElem?_getD,List.getElem?_eq_getElem (by omega)]
   rfl
  refine ⟨_,(qd_ (qU_ (qF_ (pv 0) T.cl_Code T.me_Code_check_role G_Code_check_role (hr.mono (by decide)) T.b_Code_check_role .nil qp_ (qa_ (pv 2) qe_)))
   (qd_ (qD_ (qt_ zf_ (qz_ qB_ (pv 1) (pv 2) (fun _ _=>rfl)) jo_ (qu_ _)) (qg_ (qq_ (qz_ qB_ (pv 1) (pv 2) (fun _ _=>rfl)))) qA_)
   (qd_ (ql_ (i:=3) sc_Code_reckoned.nd rfl (Or.inl rfl) (qF_ (pv 0) T.cl_Code T.me_Code_told G_Code_told (hr.mono (by decide)) T.b_Code_told .nil qp_ (qa_ (jM_ (CompOk.of (cap:=[]) (own:=["block"]) (by kernel_rfl)) rfl (q7_ (pv 1)) (fun _ _ _ _ _=>(qo_ (i:=0) (of_decide_eq_true (by kernel_rfl)) rfl (Or.inl rfl))) (fun _ _ _ _ _=>jw_) (fun _ _ _ _ _=>by exact (yn_ zf_ (pv 0) jo_ (qu_ _)))) (qa_ (pv 2) qe_))))
   (qd_ (qD_ (qt_ jD_ (qz_ yL_ (pv 3) qj_ (fun _ _=>rfl)) v0_ (qu_ _)) (qg_ (qq_ jo_)) qA_)
   (qg_ (qq_ (qF_ (pv 0) T.cl_Code T.me_Code_summed_by G_Code_summed_by (hr.mono (by decide)) T.b_Code_summed_by .nil qp_ (qa_ (qz_ yL_ (pv 3) qj_ (fun _ _=>rfl)) (qa_ (pv 1) qe_))))))))),?_⟩
  refine ⟨_,rfl,c,dx,_,rfl,h1,rfl,_,rfl,c,bp,fp,r,w,n,M,N,k,l,rfl,hC,hk,?_⟩
  refine ⟨_,rfl,_,rfl,rl,_,_,_,rfl,rfl,SqL.of hrl,qr_ (jB_ hat),rfl,_,rfl,?_⟩
  cases hz:os.getD k none with
  | some b =>
   refine ite2 (fun _=>?_) (fun y=>absurd (by rw [decide_eq_false (fun z=>by cases z)];rfl) y)
   rw [hz] at hat
   exact ⟨_,rfl,_,rfl,rl,_,_,_,rfl,rfl,SqL.of hrl,qr_ (jB_ hat),q1 b hz⟩
  | none =>
   refine iteF ?_
   have q2:=q2 hz
   refine ⟨_,rfl,c,dx,_,rfl,h1,rfl,_,rfl,rl,rfl,⟨_,SqL.of hrl⟩,fun kn nkn=>?_⟩
   refine j8_ (xs:=rowO os) (f:=fun i=>.bl (os.getD i none).isSome) (cs:=[]) (SqL.of hrl) nkn rfl (by rw [qN_];exact Nat.le_trans (by omega:os.length<=8) (by decide)) (fun i u H2 R2 hu s2 hR=>?_) (fun H2 s2 hkn=>?_)
   ·have hi:i < os.length:=by rw [<- qN_];exact (List.getElem?_eq_some_iff.mp hu).1
    have hai:os[i]? = some (os.getD i none):=by
     rw [List.getD_eq_getElem?_getD,List.getElem?_eq_getElem hi]
     rfl
    rw [jB_ hai] at hu
    cases Option.some.inj hu
    refine ⟨_,rfl,rfl,?_⟩
    have e:(!decide (valO (os.getD i none) = V.non)) = (os.getD i none).isSome:=by
     cases os.getD i none with
     | none=>rfl
     | some b=>exact by rw [decide_eq_false (fun z=>by cases z)];rfl
    rw [e]
    exact hR _ (Same.refl _)
   rw [qN_] at hkn
   have ek:((List.range os.length).map fun i=>V.bl (os.getD i none).isSome) = knV (knO os):=by
    unfold knV knO
    apply List.ext_getElem?
    intro i
    rw [List.getElem?_map,List.getElem?_map,List.getElem?_map]
    by_cases hi:i < os.length
    ·rw [List.getElem?_range hi,List.getElem?_eq_getElem hi]
     have eg:os.getD i none = os[i]:=by rw [List.getD_eq_getElem?_getD,List.getElem?_eq_getElem hi];rfl
     dsimp only [Option.map]
     rw [eg]
    ·rw [List.getElem?_eq_none (by rw [List.length_range];omega),List.getElem?_eq_none (by omega)]
     rfl
   rw [ek] at hkn
   have hkl:(knO os).length = N + M:=by unfold knO;rw [List.length_map,hos]
   have hkk:(knO os)[k]? = some false:=by
    unfold knO
    rw [List.getElem?_map,hat,hz]
    rfl
   refine ⟨_,rfl,c,bp,fp,kn,r,w,n,M,N,k,l,knO os,rfl,hC.same s2,g,W,hkn,hkl,hk,hkk,fun D H3 s3 nD told _=>?_⟩
   have s13:=s2.trans s3
   have q3:=fun H' (s':Same H3 H')=>q2 H' (s13.trans s')
   rcases told with ⟨e,by',hD,he,hr'⟩ | ⟨e,mk,hD,he,hr'⟩
   ·refine ⟨_,rfl,D,_,_,_,rfl,rfl,SqT.of hD,rfl,rfl,_,rfl,?_⟩
    refine ite2 (fun z=>absurd (V.str.inj (of_decide_eq_true z)) (by decide)) (fun _=>?_)
    obtain ⟨dx3,Lp3,qs3,h13,_,_⟩:=(hC.same s13).ins
    refine ⟨_,rfl,c,dx3,_,rfl,h13,rfl,_,rfl,D,_,_,_,rfl,rfl,SqT.of hD,rfl,_,rfl,?_⟩
    exact ⟨c,bp,fp,e,rl,r,w,n,M,N,l,by',os,rfl,hC.same s13,g.toGood,hn,W,he,hr'.len,s13 _ _ hrl,hos,fun H4 s4=>(q3 H4 s4).1 by' hr'⟩
   ·refine ⟨_,rfl,D,_,_,_,rfl,rfl,SqT.of hD,rfl,rfl,_,rfl,?_⟩
    refine ite2 (fun _=>?_) (fun z=>absurd (decide_eq_true rfl) z)
    exact (q3 H3 (Same.refl _)).2 mk hr'
end
def tot (r w N:Nat) (l:Nat->Nat->Nat) (o k:Nat):Nat:=GF.tm r w (eqn N l 0 k) (eqn N l 1 o) ^^^ GF.tm r w (eqn N l 1 k) (eqn N l 0 o)
def jc_ (R:Nat) (ks:List Bool) (pl:Nat):List Nat:=(List.range R).filter fun k=>!(ks.getD k false) && !decide (k = pl)
def fixB (r w M N:Nat) (l:Nat->Nat->Nat) (ks:List Bool) (pl:Nat):Bool :=
 match jc_ (N + M) ks pl with
 | []=>true
 | o :: os=>if M = 1 then false else (o :: os ++ [pl]).all fun k=>decide ((tot r w N l o k ≠ 0) = (k = pl))
theorem yc_ {R:Nat}{ks:List Bool}{pl k:Nat} (h:k ∈ jc_ R ks pl):k < R/\ks.getD k false = false/\k ≠ pl:=by
 unfold jc_ at h
 have:=List.mem_filter.mp h
 have h2:=this.2
 rw [Bool.and_eq_true,Bool.not_eq_true',Bool.not_eq_true'] at h2
 exact ⟨List.mem_range.mp this.1,h2.1,of_decide_eq_false h2.2⟩
theorem qap_ {ks:List Bool}{k:Nat}{b:Bool} (hk:k < ks.length) (h:ks.getD k false = b):ks[k]? = some b:=by
 rw [List.getElem?_eq_getElem hk]
 rw [List.getD_eq_getElem?_getD,List.getElem?_eq_getElem hk] at h
 exact congrArg some h
theorem qi0_ {r w:Nat} (a x:Nat->Nat):GF.dot r w 2 a x = GF.tm r w (a 0) (x 0) ^^^ GF.tm r w (a 1) (x 1):=by
 show (0 ^^^ _) ^^^ _ = _
 rw [Nat.zero_xor]
theorem vu_ {N M:Nat}{l:Nat->Nat->Nat}{w:Nat} (W:Wts w M N l) {k:Nat} (hk:k < N + M):∃ t,t < M/\eqn N l t k ≠ 0:=by
 by_cases hjN:k < N
 ·obtain ⟨t,ht,hz⟩:=W.col k hjN
  refine ⟨t,ht,?_⟩
  unfold eqn
  rw [if_pos hjN]
  exact hz
 ·refine ⟨k - N,by omega,?_⟩
  unfold eqn
  rw [if_neg hjN,if_pos rfl]
  decide
theorem uk_ {a b:Nat} (h:a ^^^ b = 0):a = b:=by
 have:=congrArg (fun z=>z ^^^ b) h
 simp only [Nat.xor_assoc,Nat.xor_self,Nat.xor_zero,Nat.zero_xor] at this
 exact this
theorem qg7_ {r w N:Nat}{l:Nat->Nat->Nat}{ks:List Bool}{pl:Nat}{by':List Nat} (g:GF.Full r w) (W:Wts w 2 N l) (hks:ks.length = N + 2) (hpl:pl < N + 2) (hkp:ks.getD pl false = false) (f:Reck r w (N + 2) 2 (eqn N l) ks pl by') {o:Nat} (ho:o < N + 2) (hko:ks.getD o false = false) (hop:o ≠ pl) :
  ∀ k,k < N + 2->ks.getD k false = false->(tot r w N l o k ≠ 0 ↔ k = pl):=by
 have t16:=g.toGood.top16
 have R:=g.toGood.rule
 have w1:=g.toGood.w1
 have elt:∀ t k,t < 2->k < N + 2->eqn N l t k < 2 ^ w:=yf_ W t16
 have b0:by'.getD 0 0 < 2 ^ w:=zh_ f.lt (by rw [f.len];decide)
 have b1:by'.getD 1 0 < 2 ^ w:=zh_ f.lt (by rw [f.len];decide)
 have hk:∀ k,k < N + 2->ks.getD k false = false->GF.tm r w (eqn N l 0 k) (by'.getD 0 0) ^^^ GF.tm r w (eqn N l 1 k) (by'.getD 1 0) = if k = pl then 1 else 0:=fun k h1 h2=>by
  have:=f.ok k h1 (qap_ (by omega) h2)
  rw [qi0_] at this
  exact this
 have e0:=hk o ho hko
 rw [if_neg hop] at e0
 have e0:=uk_ e0
 generalize by'.getD 0 0 = y0 at b0 hk e0
 generalize by'.getD 1 0 = y1 at b1 hk e0
 have a0:=elt 0 o (by decide) ho
 have a1:=elt 1 o (by decide) ho
 have prop:∃ m,m < 2 ^ w/\m ≠ 0/\y0 = GF.tm r w m (eqn N l 1 o)/\y1 = GF.tm r w m (eqn N l 0 o):=by
  have hne:¬ (y0 = 0/\y1 = 0):=fun z=>by
   have:=hk pl hpl hkp
   rw [if_pos rfl,z.1,z.2,GF.tm_zero,GF.tm_zero] at this
   exact absurd this (by decide)
  obtain ⟨t,ht,hz⟩:=vu_ W ho
  have cancel:∀ {x y z:Nat},x < 2 ^ w->y < 2 ^ w->z < 2 ^ w->z ≠ 0->GF.tm r w x z = GF.tm r w y z->x = y:=fun {x y z} hx hy hz' z0 e=>by
   rw [GF.tm_comm R w1 hx hz',GF.tm_comm R w1 hy hz'] at e
   exact GF.tm_inj g z0 hz' hx hy e
  by_cases z1:eqn N l 1 o = 0
  ·have z0:eqn N l 0 o ≠ 0:=by
    have h2:t = 0\/t = 1:=by omega
    rcases h2 with rfl | rfl
    ·exact hz
    ·exact absurd z1 hz
   have hy0:y0 = 0:=by
    rw [z1,GF.zero_tm] at e0
    rcases (GF.tm_eq_zero g a0 b0).mp e0 with z | z
    ·exact absurd z z0
    ·exact z
   have inv:=GF.pw_back g (Nat.pos_of_ne_zero z0) a0
   have il:=GF.pw_lt g.toGood a0 (2 ^ w - 1 - 1)
   generalize GF.pw r w (eqn N l 0 o) (2 ^ w - 1 - 1) = v at inv il
   refine ⟨GF.tm r w y1 v,GF.tm_lt R b1,fun z=>?_,?_,?_⟩
   ·rcases (GF.tm_eq_zero g b1 il).mp z with z | z
    ·exact hne ⟨hy0,z⟩
    ·rw [z,GF.tm_zero] at inv
     exact absurd inv (by decide)
   ·rw [z1,GF.tm_zero,hy0]
   ·rw [GF.tm_assoc R w1 b1 il,GF.tm_comm R w1 il a0,inv,GF.tm_one]
  ·have inv:=GF.pw_back g (Nat.pos_of_ne_zero z1) a1
   have il:=GF.pw_lt g.toGood a1 (2 ^ w - 1 - 1)
   generalize GF.pw r w (eqn N l 1 o) (2 ^ w - 1 - 1) = v at inv il
   have hy0:y0 = GF.tm r w (GF.tm r w y0 v) (eqn N l 1 o):=by rw [GF.tm_assoc R w1 b0 il,GF.tm_comm R w1 il a1,inv,GF.tm_one]
   have hy1:y1 = GF.tm r w (GF.tm r w y0 v) (eqn N l 0 o):=by
    refine cancel b1 (GF.tm_lt R (GF.tm_lt R b0)) a1 z1 ?_
    rw [GF.tm_comm R w1 b1 a1,← e0,GF.tm_assoc R w1 (GF.tm_lt R b0) a0,GF.tm_comm R w1 a0 a1,← GF.tm_assoc R w1 (GF.tm_lt R b0) a1,← hy0,GF.tm_comm R w1 a0 b0]
   refine ⟨GF.tm r w y0 v,GF.tm_lt R b0,fun z=>?_,hy0,hy1⟩
   rw [z,GF.zero_tm] at hy0 hy1
   exact hne ⟨hy0,hy1⟩
 obtain ⟨m,ml,m0,rfl,rfl⟩:=prop
 intro k h1 h2
 have ek:=hk k h1 h2
 have c0:=elt 0 k (by decide) h1
 have c1:=elt 1 k (by decide) h1
 have et:GF.tm r w m (tot r w N l o k) = if k = pl then 1 else 0:=by
  rw [<- ek]
  unfold tot
  rw [GF.tm_xor_right,← GF.tm_assoc R w1 ml c0,GF.tm_comm R w1 ml c0,GF.tm_assoc R w1 c0 ml,← GF.tm_assoc R w1 ml c1,GF.tm_comm R w1 ml c1,GF.tm_assoc R w1 c1 ml]
 have tl:tot r w N l o k < 2 ^ w:=Nat.xor_lt_two_pow (GF.tm_lt R c0) (GF.tm_lt R c1)
 constructor
 ·intro z
  by_cases y:k = pl
  ·exact y
  ·rw [if_neg y] at et
   rcases (GF.tm_eq_zero g ml tl).mp et with x | x
   ·exact absurd x m0
   ·exact absurd x z
 ·intro y z
  rw [if_pos y,z,GF.tm_zero] at et
  exact absurd et (by decide)
theorem ul_ {r w R pl:Nat}{a x:Nat->Nat} (hpl:pl < R) (h:∀ k,k < R->k ≠ pl->GF.tm r w (a k) (x k) = 0):GF.dot r w R a x = GF.tm r w (a pl) (x pl):=by
 have key:∀ n,n<=R->GF.dot r w n a x = if pl < n then GF.tm r w (a pl) (x pl) else 0:=by
  intro n
  induction n with
  | zero=>intro _;rw [if_neg (Nat.not_lt_zero _)];rfl
  | succ n ih =>
   intro hn
   rw [GF.dot,ih (by omega)]
   by_cases z:n = pl
   ·subst z
    rw [if_neg (Nat.lt_irrefl _),if_pos (Nat.lt_succ_self _),Nat.zero_xor]
   ·rw [h n (by omega) z,Nat.xor_zero]
    by_cases y:pl < n
    ·rw [if_pos y,if_pos (by omega)]
    ·rw [if_neg y,if_neg (by omega)]
 rw [key R (Nat.le_refl _),if_pos hpl]
theorem u2_ {r w M N:Nat}{l:Nat->Nat->Nat}{ks:List Bool}{pl:Nat}{by':List Nat} (g:GF.Full r w) (W:Wts w M N l) (hks:ks.length = N + M) (hpl:pl < N + M) (hkp:ks.getD pl false = false) (f:Reck r w (N + M) M (eqn N l) ks pl by'):fixB r w M N l ks pl = true:=by
 unfold fixB
 have t16:=g.toGood.top16
 split
 ·rfl
 ·rename_i o os he
  have ho:=yc_ (R:=N + M) (ks:=ks) (pl:=pl) (k:=o) (by rw [he];exact List.mem_cons_self)
  by_cases hM:M = 1
  ·subst hM
   have b0:by'.getD 0 0 < 2 ^ w:=zh_ f.lt (by rw [f.len];decide)
   have e1:=f.ok o ho.1 (qap_ (by omega) ho.2.1)
   have e2:=f.ok pl hpl (qap_ (by omega) hkp)
   rw [if_neg ho.2.2] at e1
   rw [if_pos rfl] at e2
   have d1:∀ a x:Nat->Nat,GF.dot r w 1 a x = GF.tm r w (a 0) (x 0):=fun a x=>Nat.zero_xor _
   rw [d1] at e1 e2
   obtain ⟨t,ht,hz⟩:=vu_ W ho.1
   have t0:t = 0:=by omega
   subst t0
   rcases (GF.tm_eq_zero g (yf_ W t16 0 o (by decide) ho.1) b0).mp e1 with z | z
   ·exact absurd z hz
   ·rw [z,GF.tm_zero] at e2
    exact absurd e2 (by decide)
  ·have hM2:M = 2:=by have:=W.m1;have:=W.m2;omega
   subst hM2
   rw [if_neg hM,List.all_eq_true]
   have key:=qg7_ g W hks hpl hkp f ho.1 ho.2.1 ho.2.2
   intro k hk
   apply decide_eq_true
   rcases List.mem_append.mp hk with y | y
   ·have:=yc_ (R:=N + 2) (ks:=ks) (pl:=pl) (k:=k) (by rw [he];exact y)
    exact propext (key k this.1 this.2.1)
   ·rw [List.mem_singleton.mp y]
    exact propext (key pl hpl hkp)
theorem u3_ {r w M N:Nat}{l:Nat->Nat->Nat}{ks:List Bool}{pl:Nat}{mk:List Nat} (g:GF.Full r w) (W:Wts w M N l) (hks:ks.length = N + M) (hpl:pl < N + M) (hkp:ks.getD pl false = false) (f:Free r w (N + M) M (eqn N l) ks pl mk):fixB r w M N l ks pl = false:=by
 unfold fixB
 have t16:=g.toGood.top16
 have R:=g.toGood.rule
 have w1:=g.toGood.w1
 have mlt:∀ k,k < N + M->mk.getD k 0 < 2 ^ w:=fun k hk=>zh_ f.lt (by rw [f.len];exact hk)
 have none_of:∀ k,k < N + M->k ≠ pl->k ∉ jc_ (N + M) ks pl->mk.getD k 0 = 0:=fun k hk hne hno=>by
  refine f.zero k hk (qap_ (by omega) ?_)
  cases hb:ks.getD k false with
  | true=>rfl
  | false =>
   refine absurd ?_ hno
   unfold jc_
   refine List.mem_filter.mpr ⟨List.mem_range.mpr hk,?_⟩
   rw [hb,decide_eq_false hne]
   rfl
 split
 ·rename_i he
  obtain ⟨t,ht,hz⟩:=vu_ W hpl
  have e:=f.ok t ht
  rw [ul_ hpl fun k hk hne=>by rw [none_of k hk hne (by rw [he];simp),GF.tm_zero],f.one,GF.tm_one] at e
  exact absurd e hz
 ·rename_i o os he
  have ho:=yc_ (R:=N + M) (ks:=ks) (pl:=pl) (k:=o) (by rw [he];exact List.mem_cons_self)
  by_cases hM:M = 1
  ·rw [if_pos hM]
  ·have hM2:M = 2:=by have:=W.m1;have:=W.m2;omega
   subst hM2
   rw [if_neg hM,List.all_eq_false]
   have elt:∀ t k,t < 2->k < N + 2->eqn N l t k < 2 ^ w:=yf_ W t16
   refine Classical.byContradiction fun hall=>?_
   have hall':∀ k ∈ (o :: os ++ [pl]),(tot r w N l o k ≠ 0) = (k = pl):=fun k hk=>Classical.byContradiction fun z=>hall ⟨k,hk,fun y=>z (of_decide_eq_true y)⟩
   have h0:GF.dot r w (N + 2) (tot r w N l o) (fun k=>mk.getD k 0) = 0:=by
    show GF.dot r w (N + 2) (fun k=>GF.tm r w (eqn N l 0 k) (eqn N l 1 o) ^^^ GF.tm r w (eqn N l 1 k) (eqn N l 0 o)) (fun k=>mk.getD k 0) = 0
    rw [GF.dot_add R (N + 2) fun k hk=>⟨GF.tm_lt R (elt 0 k (by decide) hk),GF.tm_lt R (elt 1 k (by decide) hk)⟩]
    rw [GF.dot_scale R w1 (elt 1 o (by decide) ho.1) (N + 2) fun k hk=>⟨elt 0 k (by decide) hk,mlt k hk⟩,GF.dot_scale R w1 (elt 0 o (by decide) ho.1) (N + 2) fun k hk=>⟨elt 1 k (by decide) hk,mlt k hk⟩]
    have e0:=f.ok 0 (by decide)
    have e1:=f.ok 1 (by decide)
    rw [e0,e1,GF.zero_tm,GF.zero_tm]
    rfl
   rw [ul_ hpl fun k hk hne=>by
    by_cases hm:k ∈ jc_ (N + 2) ks pl
    ·have:=hall' k (List.mem_append_left _ (by rw [<- he];exact hm))
     have z:tot r w N l o k = 0:=Classical.byContradiction fun y=>hne (this.mp y)
     rw [z,GF.zero_tm]
    ·rw [none_of k hk hne hm,GF.tm_zero],f.one,GF.tm_one] at h0
   have:=hall' pl (List.mem_append_right _ (List.mem_singleton.mpr rfl))
   exact absurd h0 (this.mpr rfl)
theorem qkh_ {r w n M N:Nat}{l:Nat->Nat->Nat}{X:List Nat} (hX:X.length = N + M):isMk r w n M N l X = true ↔ ∀ t,t < M->GF.xsum (N + M) (fun j=>GF.sc r w n (eqn N l t j) (X.getD j 0)) = 0:=by
 have e:∀ t,GF.sumB r w n ((rowT (N + M) (eqn N l) t).zip X) = GF.xsum (N + M) (fun j=>GF.sc r w n (eqn N l t j) (X.getD j 0)):=fun t=>by
  have h:=GF.sumB_range (r:=r) (w:=w) (n:=n) (eqn N l t) (fun j=>X.getD j 0) (N + M)
  have hx:=GF.list_range X
  rw [hX] at hx
  rw [<- hx] at h
  exact h
 unfold isMk
 rw [List.all_eq_true]
 constructor
 ·intro h t ht
  rw [<- e]
  exact of_decide_eq_true (h t (List.mem_range.mpr ht))
 ·intro h t ht
  apply decide_eq_true
  rw [e]
  exact h t (List.mem_range.mp ht)
def yd_ (R:Nat) (os:List (Option Nat)) (X:List Nat):Prop:=∀ j,j < R->∀ b,os.getD j none = some b->X.getD j 0 = b
theorem zT_ {os:List (Option Nat)}{j:Nat} (hj:j < os.length) (h:os.getD j none = none):(knO os)[j]? = some false:=by
 unfold knO
 rw [List.getElem?_map,List.getElem?_eq_getElem hj]
 rw [List.getD_eq_getElem?_getD,List.getElem?_eq_getElem hj] at h
 have h:os[j] = none:=h
 rw [h]
 rfl
theorem qg8_ {os:List (Option Nat)}{j b:Nat} (hj:j < os.length) (h:os.getD j none = some b):(knO os)[j]? = some true:=by
 unfold knO
 rw [List.getElem?_map,List.getElem?_eq_getElem hj]
 rw [List.getD_eq_getElem?_getD,List.getElem?_eq_getElem hj] at h
 have h:os[j] = some b:=h
 rw [h]
 rfl
theorem tells_make {r w n M N k:Nat}{l:Nat->Nat->Nat}{os:List (Option Nat)}{X by':List Nat} (g:GF.Good r w) (W:Wts w M N l) (hos:os.length = N + M) (hX:X.length = N + M) (hlt:∀ b ∈ X,b < (2 ^ w) ^ n) (hk:k < N + M) (hz:os.getD k none = none) (hm:isMk r w n M N l X = true) (ha:yd_ (N + M) os X) (f:Reck r w (N + M) M (eqn N l) (knO os) k by') :
  GF.sumB r w n (tells r w M N l by' os) = X.getD k 0:=by
 have t16:=g.top16
 have hm:=(qkh_ hX).mp hm
 have h0:=GF.lines_zero g.rule g.w1 (n:=n) (m:=N + M) (e:=eqn N l) (x:=fun j=>X.getD j 0) (y:=fun t=>by'.getD t 0) M (fun t j ht hj=>yf_ W t16 t j ht hj) (fun t ht=>zh_ f.lt (by rw [f.len];exact ht)) hm
 unfold tells
 rw [GF.sumB_filter (fun k=>(os.getD k none).isSome) (byL r w M N l by') (fun k=>(os.getD k none).getD 0)]
 have h1:=GF.xsum_xor (fun j=>if (os.getD j none).isSome = true then GF.sc r w n (byL r w M N l by' j) ((os.getD j none).getD 0) else 0) (fun j=>GF.sc r w n (GF.dot r w M (fun t=>eqn N l t j) (fun t=>by'.getD t 0)) (X.getD j 0)) (N + M)
 rw [h0,Nat.xor_zero] at h1
 rw [<- h1,GF.xsum_single hk fun j hj hne=>?_]
 ·have e:=f.ok k hk (zT_ (by omega) hz)
  rw [if_pos rfl] at e
  rw [hz,e,GF.sc_one g.rule g.w1 (zh_ hlt (by rw [hX];exact hk))]
  have:(if (none:Option Nat).isSome = true then GF.sc r w n (byL r w M N l by' k) ((none:Option Nat).getD 0) else 0) = 0:=if_neg (by decide)
  rw [this]
  exact Nat.zero_xor _
 ·cases hb:os.getD j none with
  | none =>
   have e:=f.ok j hj (zT_ (by omega) hb)
   rw [if_neg hne] at e
   rw [e,GF.sc_zero,Nat.xor_zero]
   exact if_neg (by decide)
  | some b =>
   have:=ha j hj b hb
   show GF.sc r w n (byL r w M N l by' j) b ^^^ GF.sc r w n (GF.dot r w M (fun t=>eqn N l t j) (fun t=>by'.getD t 0)) (X.getD j 0) = 0
   rw [this]
   exact Nat.xor_self _
def qmn_ (r w n R:Nat) (X mk:List Nat) (c:Nat):List Nat:=(List.range R).map fun j=>X.getD j 0 ^^^ GF.sc r w n (mk.getD j 0) c
def plainL (i k:Nat):Nat:=if i = 0 then 1 else k + 1
theorem qfi_ {w M N:Nat} (t16:16<=2 ^ w) (h1:1<=M) (h2:M<=2) (h3:1<=N) (h8:N + M<=8):Wts w M N plainL where
 m1:=h1
 m2:=h2
 n1:=h3
 n8:=h8
 lt i k hi hk:=by
  unfold plainL
  split <;> omega
 row i hi:=⟨0,h3,by unfold plainL;split <;> decide⟩
 col k hk:=⟨0,h1,by unfold plainL;rw [if_pos rfl];decide⟩
def qmo_ (ks:List Bool):Nat:=ks.countP fun b=>!b
theorem qlh_ {F:Nat->Prop}{G:Prop} (Pz:Nat->Prop) (h:(∀ z,Pz z->F z)->G) (key:∀ z,Pz z->F z):G:=h key
theorem iteR {c:Bool}{A B:Prop} (hf:¬ c = true->B) (ht:c = true->A):if c = true then A else B:=by
 by_cases h:c = true
 ·rw [if_pos h];exact ht h
 ·rw [if_neg h];exact hf h
theorem qi1_ {x w:Nat} (h:x < 2 ^ w):Builtin.Int.intBits (x:Int)<=w:=by
 by_cases z:x = 0
 ·subst z
  exact Nat.zero_le _
 ·have h1:2 ^ x.log2<=x:=(Nat.le_log2 z).mp (Nat.le_refl _)
  have h2:x < 2 ^ (x.log2 + 1):=(Nat.log2_lt z).mp (Nat.lt_succ_self _)
  rw [yg_ h1 h2]
  exact (Nat.log2_lt z).mpr h
theorem u4_ {r w d:Nat} (R:GF.Rule r w) (hd:d < 2 ^ w):V.int ((Builtin.Int.intBits ((2:Int) * (d:Int)):Nat):Int) = V.int ((Builtin.Int.intBits (r:Int):Nat):Int) ↔ 2 ^ w<=2 * d:=by
 have e:(2:Int) * (d:Int) = ((2 * d:Nat):Int):=by omega
 rw [yg_ R.lo R.hi,e]
 constructor
 ·intro h
  have h:=V.int.inj h
  by_cases z:2 ^ w<=2 * d
  ·exact z
  ·have:=qi1_ (x:=2 * d) (w:=w) (by omega)
   omega
 ·intro h
  rw [yg_ h (by rw [Nat.pow_succ];omega)]
section
variable {P:Program}{wo:World}{K:PySem.W.Frag}{mg:Str->Option Value}{base:Heap}{a:Adr}
def qg9_:Sp:=fun vs H Q _=>∃ x y r w:Nat,vs = [.int x,.int y,.int r]/\GF.Rule r w/\w<=8/\x < 2 ^ w/\Q (.int (GF.tm r w x y:Nat)) H
theorem qbi_ (T:Txt K mg a):FnOk P wo K mg base CX0 1 a.f_times a.d_times ["_law_one", "_law_other", "_law_rule_here"] qg9_:=by
 refine T.F_times.ok (k:=0) sc_times (fun vs H Q E h=>?_) (fun cdv A outer s H vs Q E hr h=>?_)
 ·obtain ⟨x,y,r,w,rfl,_⟩:=h
  rfl
 ·obtain ⟨x,y,r,w,rfl,R,hw8,hx,q⟩:=h
  refine ⟨_,(qd_ (ql_ (i:=3) sc_times.nd rfl (Or.inl rfl) qj_)
   (qd_ (yH_ PassesOwn.never (qt_ yF_ (pv 1) qj_ (qu_ _)) (qd_ (qD_ (qt_ jD_ (qn_ qV_ (pv 1) qj_) qj_ (qu_ _)) (qg_ (ql_ (i:=3) sc_times.nd rfl (Or.inl rfl) (qn_ zj_ (pv 3) (pv 0)))) qA_)
   (qd_ (ql_ (i:=0) sc_times.nd rfl (Or.inl rfl) (qn_ jP_ qj_ (pv 0)))
   (qd_ (qD_ (qt_ jD_ (z4_ PySem.F.plainAttrs_int PyProof.Rows.slot_int_bit_length PyProof.Rows.type_int_bit_length y5_ (pv 0)) (z4_ PySem.F.plainAttrs_int PyProof.Rows.slot_int_bit_length PyProof.Rows.type_int_bit_length y5_ (pv 2)) (qu_ _)) (qg_ (ql_ (i:=0) sc_times.nd rfl (Or.inl rfl) (qn_ zj_ (pv 0) (pv 2)))) qA_)
   (qg_ (ql_ (i:=1) sc_times.nd rfl (Or.inl rfl) (qn_ j3_ (pv 1) qj_)))))))
   (qg_ (qq_ (pv 3))))),?_⟩
  refine ⟨fun m σ H'=>∃ f d g:Nat,g = m/\σ = [some (.int d),some (.int g),some (.int r),some (.int f)]/\H' = H/\d < 2 ^ w/\f ^^^ GF.tm r w d g = GF.tm r w x y,
   ⟨_,0,x,y,rfl,rfl,rfl,hx,Nat.zero_xor _⟩,?_⟩
  rintro m σ H' ⟨f,d,g,rfl,rfl,rfl,hd,inv⟩
  have hd256:d < 256:=Nat.lt_of_lt_of_le hd (Nat.pow_le_pow_right (by decide) hw8)
  refine ⟨_,rfl,_,_,rfl,rfl,_,rfl,?_⟩
  refine ite2 (fun h=>⟨_,fun _ _ z=>z,?_⟩) (fun h=>?_)
  ·have hg:0 < g:=by
    have:=of_decide_eq_true h
    omega
   have hdv:((g:Int) / 2) = ((g / 2:Nat):Int):=by omega
   have step:=GF.tm_step (r:=r) (w:=w) d g
   refine ⟨_,rfl,_,_,rfl,rfl,p0 (by decide),rfl,_,rfl,?_⟩
   refine qlh_ (fun f'=>f' ^^^ GF.tm r w (GF.dbl r w d) (g / 2) = GF.tm r w x y) (fun key=>by
    refine ite2 (fun h1=>?_) (fun h1=>?_)
    ·have h1':g % 2 = 1:=by
      have:=V.int.inj (of_decide_eq_true h1)
      omega
     have inv':f ^^^ d ^^^ GF.tm r w (GF.dbl r w d) (g / 2) = GF.tm r w x y:=by rw [<- inv,step,if_pos h1',Nat.xor_assoc]
     refine ⟨_,rfl,_,rfl,_,_,rfl,rfl,?_⟩
     try dsimp only
     rw [j7_]
     generalize f ^^^ d = f' at inv' ⊢
     exact key f' inv'
    ·have h1':¬ g % 2 = 1:=fun z=>h1 (decide_eq_true (by
      show V.int ((g:Int) % 2) = V.int 1
      congr 1
      omega))
     have inv':f ^^^ GF.tm r w (GF.dbl r w d) (g / 2) = GF.tm r w x y:=by rw [<- inv,step,if_neg h1',Nat.zero_xor]
     exact key f inv') ?_
   intro f' inv'
   refine ⟨_,rfl,_,_,rfl,rfl,.inl ⟨by decide,by decide⟩,?_⟩
   refine ⟨_,rfl,rfl,_,rfl,rfl,_,rfl,rfl,_,rfl,rfl,rfl,_,rfl,?_⟩
   try dsimp only
   refine ite2 (fun h2=>?_) (fun h2=>?_)
   ·have h2':=(u4_ R hd).mp (of_decide_eq_true h2)
    refine ⟨_,rfl,_,rfl,_,_,rfl,rfl,?_⟩
    refine ⟨_,rfl,_,_,rfl,rfl,⟨by decide,by decide⟩,?_⟩
    have e2:Builtin.bitXor ((2:Int) * (d:Int)) (r:Int) = ((GF.dbl r w d:Nat):Int):=by
     rw [Int.mul_comm]
     exact qiu_ (by omega)
    try dsimp only
    rw [e2,hdv]
    exact ⟨g / 2,Nat.div_lt_self hg (by decide),f',GF.dbl r w d,g / 2,rfl,rfl,rfl,GF.dbl_lt R hd,inv'⟩
   ·have h2':¬ 2 ^ w<=2 * d:=fun z=>h2 (decide_eq_true ((u4_ R hd).mpr z))
    refine ⟨_,rfl,_,_,rfl,rfl,⟨by decide,by decide⟩,?_⟩
    have e2:(2:Int) * (d:Int) = ((GF.dbl r w d:Nat):Int):=by
     rw [Int.mul_comm]
     exact qiv_ (r:=r) (by omega)
    try dsimp only
    rw [e2,hdv]
    exact ⟨g / 2,Nat.div_lt_self hg (by decide),f',GF.dbl r w d,g / 2,rfl,rfl,rfl,GF.dbl_lt R hd,inv'⟩
  ·have hg:g = 0:=by
    have:¬ ((0:Int) < g):=fun z=>h (decide_eq_true z)
    omega
   subst hg
   rw [GF.tm_zero,Nat.xor_zero] at inv
   refine ⟨_,rfl,?_⟩
   show Q (.int (f:Nat)) H'
   rw [inv]
   exact q
end
theorem qc5_ (r w f b i:Nat):GF.sc r w (i + 1) f b = GF.sc r w i f b + GF.tm r w f (b / (2 ^ w) ^ i % 2 ^ w) * (2 ^ w) ^ i:=by
 unfold GF.sc
 rw [GF.syms_range,GF.syms_range,List.range_succ,List.map_append,List.map_append,List.map_cons,List.map_nil,List.map_cons,List.map_nil,GF.join_snoc,List.length_map,List.length_map,List.length_range]
theorem qc6_ {r w f b i:Nat} (h:b / (2 ^ w) ^ i = 0):∀ j,GF.sc r w (i + j) f b = GF.sc r w i f b
 | 0=>rfl
 | j + 1=>by
  have e:b / (2 ^ w) ^ (i + j) = 0:=by
   rw [Nat.pow_add,← Nat.div_div_eq_div_mul,h,Nat.zero_div]
  rw [<- Nat.add_assoc,qc5_,e,Nat.zero_mod,GF.tm_zero,Nat.zero_mul,Nat.add_zero]
  exact qc6_ h j
section
variable {P:Program}{wo:World}{K:PySem.W.Frag}{mg:Str->Option Value}{base:Heap}{a:Adr}
def qfj_:Sp:=fun vs H Q _=>∃ f b r w n:Nat,vs = [.int f,.int b,.int r]/\GF.Good r w/\f < 2 ^ w/\b < (2 ^ w) ^ n/\Q (.int (GF.sc r w n f b:Nat)) H
theorem qfk_ (T:Txt K mg a):FnOk P wo K mg base CX0 2 a.f_scaled a.d_scaled ["_law_factor", "_law_block", "_law_rule_here"] qfj_:=by
 have G_times:FnOk P wo K mg base CX0 1 _ _ _ _:=qbi_ T
 refine T.F_scaled.ok (k:=1) sc_scaled (fun vs H Q E h=>?_) (fun cdv A outer s H vs Q E hr h=>?_)
 ·obtain ⟨f,b,r,w,n,rfl,_⟩:=h
  rfl
 ·obtain ⟨f,b,r,w,n,rfl,R,hf,hb,q⟩:=h
  have hw8:=R.w8
  have t256:=R.top256
  have t16:=R.top16
  refine ⟨_,(qd_ (ql_ (i:=3) sc_scaled.nd rfl (Or.inl rfl) (qn_ v2_ qj_ (qn_ zi_ (z4_ PySem.F.plainAttrs_int PyProof.Rows.slot_int_bit_length PyProof.Rows.type_int_bit_length y5_ (pv 2)) qj_)))
   (qd_ (ql_ (i:=4) sc_scaled.nd rfl (Or.inl rfl) qj_)
   (qd_ (ql_ (i:=5) sc_scaled.nd rfl (Or.inl rfl) qj_)
   (qd_ (yH_ PassesOwn.never (qt_ yF_ (pv 1) qj_ (qu_ _)) (qd_ (ql_ (i:=4) sc_scaled.nd rfl (Or.inl rfl) (qn_ qO_ (pv 4) (qn_ jP_ (qx_ G_times (hr.mono (by decide)) rfl T.m_times T.k_times T.b_times .nil qp_ (qa_ (pv 0) (qa_ (qn_ qV_ (pv 1) (pv 3)) (qa_ (pv 2) qe_)))) (pv 5))))
   (qd_ (ql_ (i:=1) sc_scaled.nd rfl (Or.inl rfl) (qn_ j3_ (pv 1) (pv 3)))
   (qg_ (ql_ (i:=5) sc_scaled.nd rfl (Or.inl rfl) (qn_ jP_ (pv 5) (pv 3)))))))
   (qg_ (qq_ (pv 4))))))),?_⟩
  have ew:((Builtin.Int.intBits (r:Int):Nat):Int) - 1 = (w:Int):=by
   rw [yg_ R.rule.lo R.rule.hi]
   omega
  refine ⟨_,rfl,rfl,_,rfl,rfl,_,_,rfl,rfl,?_⟩
  try dsimp only
  rw [ew]
  refine ⟨_,_,rfl,rfl,⟨by omega,by omega,by decide⟩,?_⟩
  try dsimp only
  rw [vO_]
  refine ⟨fun m σ H'=>∃ i:Nat,i<=n/\m = n - i/\σ = [some (.int f),some (.int ((b / (2 ^ w) ^ i:Nat):Int)),some (.int r),some (.int ((2 ^ w:Nat):Int)),some (.int ((GF.sc r w i f b:Nat):Int)),some (.int (((2 ^ w) ^ i:Nat):Int))]/\H' = H,
   ⟨_,0,Nat.zero_le _,rfl,by rw [Nat.pow_zero,Nat.div_one];rfl,rfl⟩,?_⟩
  rintro m σ H' ⟨i,hi,rfl,rfl,rfl⟩
  refine ⟨_,rfl,_,_,rfl,rfl,_,rfl,?_⟩
  refine ite2 (fun h=>⟨_,fun _ _ z=>z,?_⟩) (fun h=>?_)
  ·have hpos:0 < b / (2 ^ w) ^ i:=by
    have:=of_decide_eq_true h
    omega
   have hin:i < n:=by
    by_cases z:i < n
    ·exact z
    ·obtain rfl:i = n:=by omega
     rw [Nat.div_eq_of_lt hb] at hpos
     omega
   have e1:((b / (2 ^ w) ^ i:Nat):Int) % ((2 ^ w:Nat):Int) = ((b / (2 ^ w) ^ i % 2 ^ w:Nat):Int):=by rw [Int.natCast_emod]
   have e2:((b / (2 ^ w) ^ i:Nat):Int) / ((2 ^ w:Nat):Int) = ((b / (2 ^ w) ^ (i + 1):Nat):Int):=by rw [Nat.pow_succ,← Nat.div_div_eq_div_mul];exact (Int.natCast_ediv _ _).symm
   have tl:=GF.tm_lt R.rule hf (b:=b / (2 ^ w) ^ i % 2 ^ w)
   refine ⟨_,rfl,_,rfl,_,rfl,_,rfl,_,_,rfl,rfl,(by omega),?_⟩
   try dsimp only
   rw [e1]
   refine ⟨_,rfl,f,_,r,w,rfl,R.rule,hw8,hf,_,rfl,_,_,rfl,rfl,.inl ⟨by omega,by omega⟩,_,_,rfl,rfl,?_⟩
   refine ⟨_,rfl,_,rfl,_,_,rfl,rfl,⟨by omega,by omega⟩,?_⟩
   refine ⟨_,rfl,_,rfl,_,_,rfl,rfl,.inr ⟨by omega,by omega⟩,?_⟩
   try dsimp only
   rw [e2]
   refine ⟨n - (i + 1),by omega,i + 1,hin,rfl,?_,rfl⟩
   rw [qc5_,Nat.pow_succ,Int.natCast_add,Int.natCast_mul,Int.natCast_mul]
   rfl
  ·have hz:b / (2 ^ w) ^ i = 0:=by
    exact Nat.eq_zero_of_not_pos fun z=>h (decide_eq_true (Int.ofNat_lt.mpr z))
   have:=qc6_ (r:=r) (f:=f) hz (n - i)
   rw [Nat.add_sub_cancel' hi] at this
   refine ⟨_,rfl,?_⟩
   rw [<- this]
   exact q
end
def qli_ (i j:Int):Prop:=i.natAbs < 2 ^ 1024/\j.natAbs < 2 ^ 1024
theorem qc7_ {X:Cx}:OpR X (binaryOp .Mult) (rI qli_ fun i j=>.int (i * j)):=opI fun i j _ _ _ _ _ hc q=>mul_int q (IntMulOk.of_le (intBits_le_iff.mpr hc.1) (intBits_le_iff.mpr hc.2) (by decide))
theorem qai_ {α β:Type}{xs:List α}{ys:List β}{j:Nat}{x:α}{y:β} (hx:xs[j]? = some x) (hy:ys[j]? = some y):(xs.zip ys).take (j + 1) = (xs.zip ys).take j ++ [(x,y)]:=by
 have h:(xs.zip ys)[j]? = some (x,y):=List.getElem?_zip_eq_some (z:=(x,y)).mpr ⟨hx,hy⟩
 rw [List.take_add_one,h]
 rfl
section
variable {P:Program}{wo:World}{K:PySem.W.Frag}{mg:Str->Option Value}{base:Heap}{a:Adr}
def qi2_ (K:PySem.W.Frag):Sp:=fun vs H Q _=>∃ (sl wl:Addr) (ps:List Addr) (r w n M N:Nat) (l:Nat->Nat->Nat) (xs:List Nat),vs = [.ref sl,.ref wl,.int r]/\GF.Good r w/\H sl = some (.lst (rowV xs))/\xs.length = N/\N<=8/\M<=2/\(∀ x ∈ xs,x < (2 ^ w) ^ n)/\H wl = some (.lst (ps.map V.ref))/\TabAt H ps M (rowT N l)/\(∀ i k,i < M->k < N->l i k < 2 ^ w) ∧
 ∀ D H',Same H H'->H D = none->H' D = some (.lst (rowV (zv_ r w n M N l xs)))->Q (.ref D) H'
theorem qi3_ (T:Txt K mg a):FnOk P wo K mg base CX0 3 a.f_make a.d_make ["_law_some_here", "_law_weights_here", "_law_rule_here"] (qi2_ K):=by
 have G_scaled:FnOk P wo K mg base CX0 2 _ _ _ _:=qfk_ T
 refine T.F_make.ok (k:=2) sc_make (fun vs H Q E h=>?_) (fun cdv A outer s H vs Q E hr h=>?_)
 ·obtain ⟨sl,wl,ps,r,w,n,M,N,l,xs,rfl,_⟩:=h
  rfl
 ·obtain ⟨sl,wl,ps,r,w,n,M,N,l,xs,rfl,R,hsl,hN,hN8,hM2,hlt,hwl,ht,hl,q⟩:=h
  refine ⟨_,(qd_ (ql_ (i:=3) sc_make.nd rfl (Or.inl rfl) (yj_ jT_ rfl T.n_list (by decide +kernel) (qa_ (pv 0) qe_)))
   (qd_ (qK_ PassesOwn.never rfl (q7_ (pv 1)) (qo_ (i:=4) sc_make.nd rfl (Or.inl rfl)) (qd_ (ql_ (i:=5) sc_make.nd rfl (Or.inl rfl) qj_)
   (qd_ (qK_ PassesOwn.never rfl (z6_ rfl T.n_zip (qa_ (pv 4) (qa_ (pv 0) qe_))) (y4_ rfl (qL_ (qo_ (i:=6) sc_make.nd rfl (Or.inl rfl)) (qL_ (qo_ (i:=7) sc_make.nd rfl (Or.inl rfl)) j2_))) (qg_ (ql_ (i:=5) sc_make.nd rfl (Or.inl rfl) (qn_ zj_ (pv 5) (qx_ G_scaled (hr.mono (by decide)) rfl T.m_scaled T.k_scaled T.b_scaled .nil qp_ (qa_ (pv 6) (qa_ (pv 7) (qa_ (pv 2) qe_))))))))
   (qg_ (qU_ (jW_ PySem.F.plainAttrs_list PySem.F.slot_list_append PySem.F.type_list_append qQ_ (pv 3) (qa_ (pv 5) qe_)))))))
   (qg_ (qq_ (pv 3))))),?_⟩
  have el:(ps.map V.ref).length = M:=by rw [List.length_map,ht.len]
  refine ⟨_,rfl,sl,_,rfl,.inl (SqL.of hsl),fun D nD=>?_⟩
  have sD:=Same.new (o:=.lst (rowV xs)) nD
  have hD:(upd H D (.lst (rowV xs))) D = some (.lst (rowV xs)):=qc_
  generalize (upd H D (.lst (rowV xs))) = H1 at sD hD
  refine ⟨_,rfl,wl,rfl,⟨_,SqL.of (sD _ _ hwl)⟩,?_⟩
  refine j6_ (xs:=ps.map V.ref) (fun i σ H'=>(∃ v4 v5 v6 v7:Option V,σ = [some (.ref sl),some (.ref wl),some (.int r),some (.ref D),v4,v5,v6,v7])/\Same H H'/\H' D = some (.lst (rowV (xs ++ (List.range i).map fun t=>GF.sumB r w n ((rowT N l t).zip xs))))) ⟨⟨none,none,none,none,rfl⟩,sD,by rw [hD];simp⟩ ?_ ?_ ?_
  ·rintro i σ H' _ ⟨_,sm,_⟩
   exact SqL.of (sm _ _ hwl)
  ·rintro i x σ H' hx ⟨⟨v4,v5,v6,v7,rfl⟩,sm,h1⟩
   have hi:i < M:=by rw [<- el];exact (List.getElem?_eq_some_iff.mp hx).1
   obtain ⟨p,ep,hp⟩:=ht.get hi
   rw [qG_ ep] at hx
   cases Option.some.inj hx
   refine ⟨_,rfl,_,rfl,p,sl,_,_,rfl,SqL.of (sm _ _ hp),SqL.of (sm _ _ hsl),uu_ (K:=K) (l1:=p) (l2:=sl) (xs:=rowV (rowT N l i)) (ys:=rowV xs) (fun j σ H'=>(∃ v6 v7:Option V,σ = [some (.ref sl),some (.ref wl),some (.int r),some (.ref D),some (.ref p),some (.int ((GF.sumB r w n (((rowT N l i).zip xs).take j):Nat):Int)),v6,v7])/\Same H H'/\H' D = some (.lst (rowV (xs ++ (List.range i).map fun t=>GF.sumB r w n ((rowT N l t).zip xs))))) ⟨⟨_,_,rfl⟩,sm,h1⟩ ?_ (by rw [qk_,qk_,qs_,hN]) ?_ ?_⟩
   ·rintro j σ H2 _ ⟨_,s2,_⟩
    exact ⟨SqL.of (s2 _ _ hp),SqL.of (s2 _ _ hsl)⟩
   ·rintro j u v T' σ H2 hj hu hv hT ⟨⟨v6,v7,rfl⟩,s2,h2⟩
    obtain ⟨f,hf,rfl⟩:=je_ hu
    obtain ⟨b,hb,rfl⟩:=je_ hv
    have s3:=s2.trans (Same.new (o:=.tup [V.int (f:Nat),V.int (b:Nat)]) hT)
    have h3:=(Same.new (o:=.tup [V.int (f:Nat),V.int (b:Nat)]) hT) _ _ h2
    refine ⟨T',_,rfl,SqT.of qc_,rfl,_,_,rfl,_,_,rfl,rfl,?_⟩
    generalize (upd H2 T' (.tup [V.int (f:Nat),V.int (b:Nat)])) = H3 at s3 h3
    have hf':f < 2 ^ w:=by
     have hjN:j < N:=by
      have:=(List.getElem?_eq_some_iff.mp hf).1
      rw [qs_] at this
      exact this
     unfold rowT at hf
     rw [List.getElem?_map,List.getElem?_range hjN] at hf
     cases hf
     exact hl i j hi hjN
    refine ⟨_,rfl,_,rfl,_,rfl,_,rfl,f,b,r,w,n,rfl,R,hf',hlt b (List.mem_of_getElem? hb),_,_,rfl,rfl,?_⟩
    try dsimp only
    rw [j7_]
    refine ⟨⟨some (.int (f:Nat)),some (.int (b:Nat)),?_⟩,s3,h3⟩
    rw [qai_ hf hb,GF.sumB_snoc]
    rfl
   ·rintro σ H2 ⟨⟨v6,v7,rfl⟩,s2,h2⟩
    have fits:(rowV (xs ++ (List.range i).map fun t=>GF.sumB r w n ((rowT N l t).zip xs))).length < sizeLine:=by
     rw [qk_,List.length_append,List.length_map,List.length_range]
     exact Nat.lt_trans (by omega:xs.length + i < 11) (by decide)
    refine ⟨_,rfl,.inl ⟨rfl,_,SqL.of h2⟩,_,rfl,D,_,_,rfl,rfl,h2,fits,⟨_,_,_,_,rfl⟩,s2.up nD,?_⟩
    have ez:((rowT N l i).zip xs).take (rowV (rowT N l i)).length = (rowT N l i).zip xs:=List.take_of_length_le (by rw [qk_,List.length_zip];omega)
    rw [qc_,ez,List.range_succ,List.map_append,← List.append_assoc,jx_]
    rfl
  ·rintro σ H' ⟨⟨v4,v5,v6,v7,rfl⟩,sm,h1⟩
   rw [el] at h1
   exact ⟨_,rfl,q D H' sm nD h1⟩
def qi4_ (K:PySem.W.Frag):Sp:=fun vs H Q _=>∃ (s:Addr) (ns:List Int) (st N L:Nat),vs = [.ref s,.int st,.int N,.int L]/\SqL K H s (ns.map V.int)/\ns.length<=63/\st + N<=99/\N<=8/\0 < L/\L<=2 ^ 128 ∧
 ∀ D H' xs,Same H H'->H D = none->H' D = some (.lst (rowV xs))->xs.length = N->(∀ x ∈ xs,x < L)->Q (.ref D) H'
theorem qi5_ (T:Txt K mg a):FnOk P wo K mg base CX0 2 a.f_some a.d_some ["_law_script", "_law_start", "_law_many", "_law_limit"] (qi4_ K):=by
 have G_cell:FnOk P wo K mg base CX0 1 _ _ _ _:=qc1_ T
 refine T.F_some.ok (k:=1) sc_some (fun vs H Q E h=>?_) (fun cdv A outer s H vs Q E hr h=>?_)
 ·obtain ⟨sa,ns,st,N,L,rfl,_⟩:=h
  rfl
 ·obtain ⟨sa,ns,st,N,L,rfl,hS,hn,hst,hN8,hL0,hL,q⟩:=h
  refine ⟨_,(qd_ (ql_ (i:=4) sc_some.nd rfl (Or.inl rfl) (qP_ qe_))
   (qd_ (qK_ PassesOwn.never rfl (qW_ rfl T.n_range (qa_ (pv 2) qe_)) (qo_ (i:=5) sc_some.nd rfl (Or.inl rfl)) (qd_ (ql_ (i:=6) sc_some.nd rfl (Or.inl rfl) (qn_ qV_ (qx_ G_cell (hr.mono (by decide)) rfl T.m_cell T.k_cell T.b_cell .nil qp_ (qa_ (pv 0) (qa_ (qn_ qO_ (pv 1) (pv 5)) qe_))) (pv 3)))
   (qg_ (qU_ (jW_ PySem.F.plainAttrs_list PySem.F.slot_list_append PySem.F.type_list_append qQ_ (pv 4) (qa_ (qn_ qV_ (qn_ qc7_ (pv 6) (qn_ qO_ (qn_ qO_ (qn_ qjy_ qj_ qj_) qj_) (qn_ qc7_ qj_ (pv 5)))) (pv 3)) qe_))))))
   (qg_ (qq_ (pv 4))))),?_⟩
  refine ⟨Nat.zero_le _,fun D nD=>?_⟩
  have sD:=Same.new (o:=.lst []) nD
  have hD:(upd H D (.lst [])) D = some (.lst []):=qc_
  generalize (upd H D (.lst [])) = H1 at sD hD
  have hLp:(0:Int) < (L:Int):=by omega
  refine ⟨_,rfl,_,rfl,by omega,by omega,?_⟩
  rw [Int.toNat_natCast]
  refine jn_ (lo:=0) (n:=N) (fun i σ H'=>(∃ v5 v6:Option V,σ = [some (.ref sa),some (.int st),some (.int N),some (.int L),some (.ref D),v5,v6])/\Same H H'/\∃ xs:List Nat,H' D = some (.lst (rowV xs))/\xs.length = i/\∀ x ∈ xs,x < L) ⟨⟨none,none,rfl⟩,sD,[],hD,rfl,fun x hx=>absurd hx List.not_mem_nil⟩ ?_ ?_
  ·rintro i σ H' hi ⟨⟨v5,v6,rfl⟩,sm,xs,h1,hxl,hx⟩
   have ei:(0:Int) + (i:Nat) = ((i:Nat):Int):=by omega
   rw [ei]
   refine ⟨_,rfl,_,rfl,_,rfl,_,_,rfl,rfl,?_⟩
   try dsimp only
   rw [show (st:Int) + (i:Int) = ((st + i:Nat):Int) by omega]
   refine ⟨sa,ns,st + i,rfl,sm.seq hS,by omega,hn,fun c=>?_⟩
   obtain ⟨y,hy,ey⟩:=modN c hL0
   refine ⟨_,rfl,_,_,rfl,rfl,p0 hLp,?_⟩
   try dsimp only
   rw [ey]
   have big:∀ z:Nat,z<=2 ^ 128->(z:Int).natAbs < 2 ^ 1024:=fun z h=>by
    rw [Int.natAbs_natCast]
    exact Nat.lt_of_le_of_lt h (by decide +kernel)
   have hi8:i < 8:=by omega
   refine ⟨_,rfl,.inl ⟨rfl,_,SqL.of h1⟩,_,rfl,_,_,rfl,rfl,⟨by decide,by decide,by decide⟩,_,_,rfl,rfl,_,rfl,_,_,rfl,rfl,⟨by decide +kernel,big i (Nat.le_trans (Nat.le_of_lt hi8) (by decide))⟩,_,_,rfl,rfl,_,_,rfl,rfl,⟨big y (by omega),?_⟩,?_⟩
   ·have e:(10:Int) ^ (39:Int).toNat + 7 + 2 * (i:Int) = ((10 ^ 39 + 7 + 2 * i:Nat):Int):=by
     rw [Int.natCast_add,Int.natCast_mul]
     rfl
    rw [e,Int.natAbs_natCast]
    exact Nat.lt_of_le_of_lt (show 10 ^ 39 + 7 + 2 * i<=10 ^ 39 + 7 + 2 * 8 by omega) (by decide +kernel)
   obtain ⟨z,hz,ez⟩:=modN ((y:Int) * ((10:Int) ^ (39:Int).toNat + 7 + 2 * (i:Int))) hL0
   refine ⟨_,rfl,_,_,rfl,rfl,p0 hLp,?_⟩
   try dsimp only
   rw [ez]
   have fits:(rowV xs).length < sizeLine:=by
    rw [qk_]
    exact Nat.lt_trans (by omega:xs.length < 9) (by decide)
   refine ⟨D,_,_,rfl,rfl,h1,fits,⟨_,_,rfl⟩,sm.up nD,xs ++ [z],by rw [qc_,← jx_],by rw [List.length_append,hxl];rfl,fun x hx'=>?_⟩
   rcases List.mem_append.mp hx' with y | y
   ·exact hx x y
   ·rw [List.mem_singleton.mp y];exact hz
  ·rintro σ H' ⟨⟨v5,v6,rfl⟩,sm,xs,h1,hxl,hx⟩
   exact ⟨_,rfl,q D H' xs sm nD h1 hxl hx⟩
def qha_:Sp:=fun vs H Q _=>∃ c:Int,vs = [.int c]/\∀ (t:Addr) (H':Hp) (N M:Nat),1<=M->M<=2->1<=N->N + M<=8->H t = none->Same H H'->H' t = some (.tup [.int (N:Nat),.int (M:Nat)])->Q (.ref t) H'
theorem qhb_ (T:Txt K mg a):FnOk P wo K mg base CX0 1 a.f_sizes a.d_sizes ["_law_cell_here"] qha_:=by
 refine T.F_sizes.ok (k:=0) sc_sizes (fun vs H Q E h=>?_) (fun cdv A outer s H vs Q E hr h=>?_)
 ·obtain ⟨c,rfl,_⟩:=h
  rfl
 ·obtain ⟨c,rfl,q⟩:=h
  refine ⟨_,(qd_ (ql_ (i:=1) sc_sizes.nd rfl (Or.inl rfl) (qn_ qO_ qj_ (qn_ qV_ (pv 0) qj_)))
   (qg_ (qq_ (yB_ (qa_ (qn_ qO_ qj_ (qn_ qV_ (qn_ j3_ (pv 0) qj_) (qn_ zi_ qj_ (pv 1)))) (qa_ (pv 1) qe_)))))),?_⟩
  obtain ⟨m0,hm0,em0⟩:=modN c (n:=2) (by decide)
  have em0:c % 2 = (m0:Int):=em0
  refine ⟨_,rfl,_,_,rfl,rfl,p0 (by decide),_,_,rfl,rfl,?_⟩
  try dsimp only
  rw [em0,show (1:Int) + (m0:Int) = ((1 + m0:Nat):Int) by omega]
  obtain ⟨n0,hn0,en0⟩:=modN (c / 2) (n:=8 - (1 + m0)) (by omega)
  have e8:(8:Int) - ((1 + m0:Nat):Int) = ((8 - (1 + m0):Nat):Int):=by omega
  refine ⟨_,rfl,_,_,rfl,rfl,⟨by decide,by decide⟩,_,rfl,_,_,rfl,rfl,_,_,rfl,rfl,(by rw [e8];omega),_,_,rfl,rfl,_,rfl,(by show 2<=sizeLine;decide),fun t nt=>?_⟩
  refine q t _ (1 + n0) (1 + m0) (by omega) (by omega) (by omega) (by omega) nt (Same.new nt) ?_
  rw [qc_]
  try dsimp only
  rw [e8,en0]
  rfl
def qhc_:Sp:=fun vs H Q _=>∃ (c:Int) (R:Nat),vs = [.int c,.int R]/\R<=8/\∀ D H' (cs:List Nat),Same H H'->H D = none->H' D = some (.lst (rowV cs))->cs.length = R->(∀ x ∈ cs,1<=x/\x<=9)->Q (.ref D) H'
theorem qhd_ (T:Txt K mg a):FnOk P wo K mg base CX0 1 a.f_costs a.d_costs ["_law_cell_here", "_law_roles"] qhc_:=by
 refine T.F_costs.ok (k:=0) sc_costs (fun vs H Q E h=>?_) (fun cdv A outer s H vs Q E hr h=>?_)
 ·obtain ⟨c,R,rfl,_⟩:=h
  rfl
 ·obtain ⟨c,R,rfl,hR,q⟩:=h
  refine ⟨_,(qd_ (ql_ (i:=2) sc_costs.nd rfl (Or.inl rfl) (qn_ qV_ (pv 0) qj_))
   (qd_ (ql_ (i:=3) sc_costs.nd rfl (Or.inl rfl) (qP_ qe_))
   (qd_ (qK_ PassesOwn.never rfl (qW_ rfl T.n_range (qa_ (pv 1) qe_)) (qo_ (i:=4) sc_costs.nd rfl (Or.inl rfl)) (qd_ (qU_ (jW_ PySem.F.plainAttrs_list PySem.F.slot_list_append PySem.F.type_list_append qQ_ (pv 3) (qa_ (qn_ qO_ qj_ (qn_ qV_ (pv 2) qj_)) qe_)))
   (qg_ (ql_ (i:=2) sc_costs.nd rfl (Or.inl rfl) (qn_ j3_ (pv 2) qj_)))))
   (qg_ (qq_ (pv 3)))))),?_⟩
  obtain ⟨z0,_,ez0⟩:=modN c (n:=43046721) (by decide)
  refine ⟨_,rfl,_,_,rfl,rfl,p0 (by decide),?_⟩
  try dsimp only
  rw [show c % 43046721 = (z0:Int) from ez0]
  refine ⟨Nat.zero_le _,fun D nD=>?_⟩
  have sD:=Same.new (o:=.lst []) nD
  have hD:(upd H D (.lst [])) D = some (.lst []):=qc_
  generalize (upd H D (.lst [])) = H1 at sD hD
  refine ⟨_,rfl,_,rfl,by omega,by omega,?_⟩
  rw [Int.toNat_natCast]
  refine jn_ (lo:=0) (n:=R) (fun i σ H'=>(∃ (v4:Option V) (z:Nat),σ = [some (.int c),some (.int R),some (.int z),some (.ref D),v4])/\Same H H'/\∃ cs:List Nat,H' D = some (.lst (rowV cs))/\cs.length = i/\∀ x ∈ cs,1<=x/\x<=9) ⟨⟨none,z0,rfl⟩,sD,[],hD,rfl,fun x hx=>absurd hx List.not_mem_nil⟩ ?_ ?_
  ·rintro i σ H' hi ⟨⟨v4,z,rfl⟩,sm,cs,h1,hcl,hx⟩
   have fits:(rowV cs).length < sizeLine:=by
    rw [qk_]
    exact Nat.lt_trans (by omega:cs.length < 9) (by decide)
   refine ⟨_,rfl,.inl ⟨rfl,_,SqL.of h1⟩,_,rfl,_,_,rfl,rfl,p0 (by decide),_,_,rfl,rfl,D,_,_,rfl,rfl,h1,fits,?_⟩
   refine ⟨_,rfl,_,_,rfl,rfl,⟨by decide,by decide⟩,?_⟩
   try dsimp only
   rw [show (z:Int) / 9 = ((z / 9:Nat):Int) by omega,show (1:Int) + (z:Int) % 9 = ((1 + z % 9:Nat):Int) by omega]
   refine ⟨⟨_,_,rfl⟩,sm.up nD,cs ++ [1 + z % 9],by rw [qc_,← jx_],by rw [List.length_append,hcl];rfl,fun x hx'=>?_⟩
   rcases List.mem_append.mp hx' with y | y
   ·exact hx x y
   ·rw [List.mem_singleton.mp y];omega
  ·rintro σ H' ⟨⟨v4,z,rfl⟩,sm,cs,h1,hcl,hx⟩
   exact ⟨_,rfl,q D H' cs sm nD h1 hcl hx⟩
end
def fx (r w M N:Nat) (l:Nat->Nat->Nat) (ks:List Bool) (k:Nat):Bool:=ks.getD k false || fixB r w M N l ks k
theorem qki_ {ks:List Bool}{k:Nat} (h:k < ks.length):ks[k]? = some (ks.getD k false):=by
 rw [List.getD_eq_getElem?_getD,List.getElem?_eq_getElem h]
 rfl
section
variable {P:Program}{wo:World}{K:PySem.W.Frag}{mg:Str->Option Value}{base:Heap}{a:Adr}
def qi6_ (K:PySem.W.Frag) (a:Adr):Sp:=fun vs H Q _=>∃ (c bp fp kn:Addr) (r w n M N k:Nat) (l:Nat->Nat->Nat) (ks:List Bool),vs = [.ref c,.ref kn,.int k]/\CodeAt a H c bp fp r w n M N l/\GF.Full r w/\Wts w M N l/\H kn = some (.lst (knV ks))/\ks.length = N + M/\k < N + M/\∀ H',Same H H'->Q (.bl (fx r w M N l ks k)) H'
theorem qaj_ (T:Txt K mg a):FnOk P wo K mg base CX0 8 a.f_Code_fixes a.d_Code_fixes ["self", "known", "role"] (qi6_ K a):=by
 have G_Code_check_role:FnOk P wo K mg base CX0 7 _ _ _ _:=(y8_ T).mono (by decide)
 have G_Code_told:FnOk P wo K mg base CX0 7 _ _ _ _:=vf_ T
 refine T.F_Code_fixes.ok (k:=7) qad_ (fun vs H Q E h=>?_) (fun cdv A outer s H vs Q E hr h=>?_)
 ·obtain ⟨c,bp,fp,kn,r,w,n,M,N,k,l,ks,rfl,_⟩:=h
  rfl
 ·obtain ⟨c,bp,fp,kn,r,w,n,M,N,k,l,ks,rfl,hC,g,W,hkn,hks,hk,q⟩:=h
  obtain ⟨dx,Lp,qs,h1,h2,h3⟩:=id hC.ins
  refine ⟨_,(qd_ (qU_ (qF_ (pv 0) T.cl_Code T.me_Code_check_role G_Code_check_role (hr.mono (by decide)) T.b_Code_check_role .nil qp_ (qa_ (pv 2) qe_)))
   (qg_ (qq_ (qkx_ (qz_ qB_ (pv 1) (pv 2) (fun _ _=>rfl)) (z0_ (yn_ jD_ (qz_ yL_ (qF_ (pv 0) T.cl_Code T.me_Code_told G_Code_told (hr.mono (by decide)) T.b_Code_told .nil qp_ (qa_ (pv 1) (qa_ (pv 2) qe_))) qj_ (fun _ _=>rfl)) v0_ (qu_ _))))))),?_⟩
  refine ⟨_,rfl,c,dx,_,rfl,h1,rfl,_,rfl,c,bp,fp,r,w,n,M,N,k,l,rfl,hC,hk,?_⟩
  have hb:=qki_ (ks:=ks) (k:=k) (by omega)
  have hka:(knV ks)[k]? = some (.bl (ks.getD k false)):=by unfold knV;rw [List.getElem?_map,hb];rfl
  refine ⟨_,rfl,_,rfl,kn,_,_,_,rfl,rfl,SqL.of hkn,qr_ hka,_,rfl,?_⟩
  unfold fx at q
  cases hz:ks.getD k false with
  | true =>
   rw [hz] at q
   refine ite2 (fun _=>?_) (fun z=>absurd rfl z)
   exact q H (Same.refl _)
  | false =>
   rw [hz] at q hb
   refine ite2 (fun z=>absurd z (by decide)) (fun _=>?_)
   refine ⟨_,rfl,c,dx,_,rfl,h1,rfl,_,rfl,_,rfl,c,bp,fp,kn,r,w,n,M,N,k,l,ks,rfl,hC,g,W,hkn,hks,hk,hb,fun D H1 s1 nD told fr=>?_⟩
   rcases told with ⟨e,by',hD,he,hr'⟩ | ⟨e,mk,hD,he,hr'⟩
   ·refine ⟨D,_,_,_,rfl,rfl,SqT.of hD,rfl,rfl,?_⟩
    try dsimp only
    rw [decide_eq_true rfl]
    have:=q H1 s1
    rw [u2_ g W hks hk hz hr'] at this
    exact this
   ·refine ⟨D,_,_,_,rfl,rfl,SqT.of hD,rfl,rfl,?_⟩
    try dsimp only
    rw [decide_eq_false (fun z=>absurd (V.str.inj z) (by decide))]
    have:=q H1 s1
    rw [u3_ g W hks hk hz hr'] at this
    exact this
def qd0_ (K:PySem.W.Frag) (a:Adr):Sp:=fun vs H Q _=>∃ (c bp fp kn so:Addr) (r w n M N:Nat) (l:Nat->Nat->Nat) (ks:List Bool) (rs:List Nat),vs = [.ref c,.ref kn,.ref so]/\CodeAt a H c bp fp r w n M N l/\GF.Full r w/\Wts w M N l/\H kn = some (.lst (knV ks))/\ks.length = N + M/\SqL K H so (rowV rs)/\(∀ k ∈ rs,k < N + M)/\∀ H',Same H H'->Q (.bl (rs.all (fx r w M N l ks))) H'
theorem vg_ (T:Txt K mg a):FnOk P wo K mg base CX0 9 a.f_fixes_all a.d_fixes_all ["code", "known", "some"] (qd0_ K a):=by
 have G_Code_fixes:FnOk P wo K mg base CX0 8 _ _ _ _:=qaj_ T
 refine T.F_fixes_all.ok (k:=8) sc_fixes_all (fun vs H Q E h=>?_) (fun cdv A outer s H vs Q E hr h=>?_)
 ·obtain ⟨c,bp,fp,kn,so,r,w,n,M,N,l,ks,rs,rfl,_⟩:=h
  rfl
 ·obtain ⟨c,bp,fp,kn,so,r,w,n,M,N,l,ks,rs,rfl,hC,g,W,hkn,hks,hso,hrs,q⟩:=h
  refine ⟨_,(qd_ (qK_ PassesOwn.never rfl (q7_ (pv 2)) (qo_ (i:=3) sc_fixes_all.nd rfl (Or.inl rfl)) (qg_ (qD_ (yJ_ (jR_ (qF_ (pv 0) T.cl_Code T.me_Code_fixes G_Code_fixes (hr.mono (by decide)) T.b_Code_fixes .nil qp_ (qa_ (pv 1) (qa_ (pv 3) qe_))))) (qg_ (qq_ yI_)) qA_)))
   (qg_ (qq_ yI_))),?_⟩
  refine ⟨_,rfl,so,rfl,⟨_,hso⟩,?_⟩
  refine j6_ (xs:=rowV rs) (fun i σ H'=>(∃ v3:Option V,σ = [some (.ref c),some (.ref kn),some (.ref so),v3])/\Same H H'/\(rs.take i).all (fx r w M N l ks) = true) ⟨⟨none,rfl⟩,Same.refl _,rfl⟩ ?_ ?_ ?_
  ·rintro i σ H' _ ⟨_,sm,_⟩
   exact sm.seq hso
  ·rintro i x σ H' hx ⟨⟨v3,rfl⟩,sm,hal⟩
   obtain ⟨k,ek,rfl⟩:=je_ hx
   have hk:=hrs k (List.mem_of_getElem? ek)
   have hC':=hC.same sm
   obtain ⟨dx,Lp,qs,h1,_,_⟩:=id hC'.ins
   refine ⟨_,rfl,c,dx,_,rfl,h1,rfl,_,rfl,_,rfl,c,bp,fp,kn,r,w,n,M,N,k,l,ks,rfl,hC',g,W,sm _ _ hkn,hks,hk,fun H2 s2=>?_⟩
   refine ⟨_,rfl,?_⟩
   cases hz:fx r w M N l ks k with
   | true =>
    refine ite2 (fun z=>absurd z (by decide)) (fun _=>⟨⟨_,rfl⟩,sm.trans s2,?_⟩)
    rw [List.take_add_one,ek,List.all_append,hal]
    show (true && ([k].all (fx r w M N l ks))) = true
    rw [List.all_cons,hz]
    rfl
   | false =>
    refine ite2 (fun _=>?_) (fun z=>absurd rfl z)
    have:rs.all (fx r w M N l ks) = false:=by
     rw [Bool.eq_false_iff]
     intro z
     have:=List.all_eq_true.mp z k (List.mem_of_getElem? ek)
     rw [hz] at this
     cases this
    rw [this] at q
    exact q H2 (sm.trans s2)
  ·rintro σ H' ⟨⟨v3,rfl⟩,sm,hal⟩
   rw [qk_,List.take_length] at hal
   rw [hal] at q
   exact q H' sm
def af (c f cl rl sl:Addr):List (Str × V):=[("code",.ref c),("ask",.ref f),("costs",.ref cl),("row",.ref rl),("asked",.ref sl)]
theorem vv_ (c f cl rl sl:Addr):(af c f cl rl sl).lookup ("code" : Str) = some (.ref c):=rfl
theorem qkj_ (c f cl rl sl:Addr):(af c f cl rl sl).lookup ("ask" : Str) = some (.ref f):=rfl
theorem zr_ (c f cl rl sl:Addr):(af c f cl rl sl).lookup ("costs" : Str) = some (.ref cl):=rfl
theorem zs_ (c f cl rl sl:Addr):(af c f cl rl sl).lookup ("row" : Str) = some (.ref rl):=rfl
theorem zU_ (c f cl rl sl:Addr):(af c f cl rl sl).lookup ("asked" : Str) = some (.ref sl):=rfl
def qfl_ (K:PySem.W.Frag) (a:Adr):Sp:=fun vs H Q _=>∃ (x dx c bp fp f cl0:Addr) (r w n M N:Nat) (l:Nat->Nat->Nat) (cs:List (Option Nat)),vs = [.ref x,.ref c,.ref f,.ref cl0]/\H x = some (.ins a.C_Asking dx [])/\CodeAt a H c bp fp r w n M N l/\Wts w M N l/\SqL K H cl0 (rowO cs)/\cs.length<=8 ∧
 ∀ H' cl rl sl,(∀ b o,b ≠ x->H b = some o->H' b = some o)->H' x = some (.ins a.C_Asking dx (af c f cl rl sl))->H cl = none->H rl = none->H sl = none->cl ≠ rl->cl ≠ sl->rl ≠ sl->H' cl = some (.lst (rowO cs))->H' rl = some (.lst (rowO (List.replicate (N + M) none)))->H' sl = some (.lst (rowV []))->Q .non H'
theorem uF_ (T:Txt K mg a):FnOk P wo K mg base CX0 1 a.f_Asking_init a.d_Asking_init ["self", "code", "ask", "costs"] (qfl_ K a):=by
 refine T.F_Asking_init.ok (k:=0) uA_ (fun vs H Q E h=>?_) (fun cdv A outer s H vs Q E hr h=>?_)
 ·obtain ⟨x,dx,c,bp,fp,f,cl0,r,w,n,M,N,l,cs,rfl,_⟩:=h
  rfl
 ·obtain ⟨x,dx,c,bp,fp,f,cl0,r,w,n,M,N,l,cs,rfl,hx,hC,W,hcl0,hcs,q⟩:=h
  obtain ⟨dc,Lp,qs,h1,_,_⟩:=id hC.ins
  have n8:=W.n8
  have hcx:c ≠ x:=fun z=>by
   rw [z,hx] at h1
   have:=(HO.ins.inj (Option.some.inj h1)).2.2
   unfold cf at this
   cases this
  refine ⟨_,(qd_ (jL_ (pv 0) (pv 1) rfl)
   (qd_ (jL_ (pv 0) (pv 2) rfl)
   (qd_ (jL_ (pv 0) (yj_ jT_ rfl T.n_list (by decide +kernel) (qa_ (pv 3) qe_)) rfl)
   (qd_ (jL_ (pv 0) (qn_ zE_ (qP_ (qa_ jo_ qe_)) (qC_ (pv 1) rfl)) rfl)
   (qg_ (jL_ (pv 0) (qP_ qe_) rfl)))))),?_⟩
  refine ⟨_,rfl,_,rfl,x,a.C_Asking,dx,_,rfl,hx,T.cl_Asking,T.no_Asking_code,(by decide),?_⟩
  refine ⟨_,rfl,_,rfl,x,a.C_Asking,dx,_,rfl,qc_,T.cl_Asking,T.no_Asking_ask,(by show (1:Nat) < 1000;decide),?_⟩
  dsimp only
  rw [jA_]
  have ef2:putF "ask" (.ref f) (putF "code" (.ref c) []) = [(("code" : Str),V.ref c),(("ask" : Str),.ref f)]:=rfl
  rw [ef2]
  have fr:∀ {fs:List (Str × V)}{b:Addr},(upd H x (.ins a.C_Asking dx fs)) b = none->H b = none:=fun {fs b} z=>by
   by_cases e:b = x
   ·rw [e,qc_] at z;cases z
   ·rwa [qf_ e] at z
  have hcl1:SqL K (upd H x (.ins a.C_Asking dx [(("code" : Str),V.ref c),(("ask" : Str),.ref f)])) cl0 (rowO cs):=by
   rcases hcl0 with (z | ⟨o,z⟩) | z
   ·exact .inl (.inl (by rw [qf_ (y2_ z hx (fun y=>by cases y))];exact z))
   ·exact .inl (.inr ⟨o,by rw [qf_ (y2_ z hx (fun y=>by cases y))];exact z⟩)
   ·exact .inr z
  refine ⟨_,rfl,cl0,_,rfl,.inl hcl1,fun cl ncl=>?_⟩
  have ncl0:=fr ncl
  have nclx:x ≠ cl:=fun z=>by rw [<- z,qc_] at ncl;cases ncl
  refine ⟨_,rfl,x,a.C_Asking,dx,_,rfl,(by rw [qf_ nclx];exact qc_),T.cl_Asking,T.no_Asking_costs,(by show (2:Nat) < 1000;decide),?_⟩
  refine ⟨(show 1<=sizeLine by decide),fun p1 n1=>?_⟩
  have n1x:x ≠ p1:=fun z=>by rw [<- z,qc_] at n1;cases n1
  have n1c:p1 ≠ cl:=fun z=>by rw [z,qf_ (Ne.symm nclx),qc_] at n1;cases n1
  have hcA:(upd (upd (upd (upd H x (.ins a.C_Asking dx [(("code" : Str),V.ref c),(("ask" : Str),.ref f)])) cl (.lst (rowO cs))) x (.ins a.C_Asking dx (putF "costs" (.ref cl) [(("code" : Str),V.ref c),(("ask" : Str),.ref f)]))) p1 (.lst [V.non])) c = some (.ins a.C_Code dc (cf bp M N Lp)):=by
   have n2:c ≠ p1:=fun z=>by
    rw [<- z,qf_ hcx,qf_ (fun y=>by rw [y,ncl0] at h1;cases h1),qf_ hcx,h1] at n1
    cases n1
   rw [qf_ n2,qf_ hcx,qf_ (fun y=>by rw [y,ncl0] at h1;cases h1),qf_ hcx]
   exact h1
  refine ⟨_,rfl,c,_,_,_,_,rfl,hcA,T.cl_Code,T.no_Code_roles,zq_ bp M N Lp,p1,_,_,rfl,rfl,qc_,by omega,by omega,?_,fun rl nrl=>?_⟩
  ·rw [Int.toNat_natCast]
   show 1 * (N + M)<=sizeLine
   exact Nat.le_trans (by omega:1 * (N + M)<=30) (by decide)
  have nrx:x ≠ rl:=fun z=>by rw [<- z,qf_ n1x,qc_] at nrl;cases nrl
  have nrp:rl ≠ p1:=fun z=>by rw [z,qc_] at nrl;cases nrl
  have nrc:rl ≠ cl:=fun z=>by rw [z,qf_ (Ne.symm n1c),qf_ (Ne.symm nclx),qc_] at nrl;cases nrl
  have nrl0:H rl = none:=by
   rw [qf_ nrp,qf_ (Ne.symm nrx),qf_ nrc,qf_ (Ne.symm nrx)] at nrl
   exact nrl
  refine ⟨_,rfl,x,a.C_Asking,dx,_,rfl,(by rw [qf_ nrx,qf_ n1x];exact qc_),T.cl_Asking,T.no_Asking_row,(by show (3:Nat) < 1000;decide),?_⟩
  refine ⟨Nat.zero_le _,fun sl nsl=>?_⟩
  have nsx:x ≠ sl:=fun z=>by rw [<- z,qc_] at nsl;cases nsl
  have nsr:sl ≠ rl:=fun z=>by rw [z,qf_ (Ne.symm nrx),qc_] at nsl;cases nsl
  have nsp:sl ≠ p1:=fun z=>by rw [z,qf_ (Ne.symm n1x),qf_ (Ne.symm nrp),qc_] at nsl;cases nsl
  have nsc:sl ≠ cl:=fun z=>by rw [z,qf_ (Ne.symm nclx),qf_ (Ne.symm nrc),qf_ (Ne.symm n1c),qf_ (Ne.symm nclx),qc_] at nsl;cases nsl
  have nsl0:H sl = none:=by
   rw [qf_ (Ne.symm nsx),qf_ nsr,qf_ nsp,qf_ (Ne.symm nsx),qf_ nsc,qf_ (Ne.symm nsx)] at nsl
   exact nsl
  have n1H:H p1 = none:=by
   rw [qf_ (Ne.symm n1x),qf_ n1c,qf_ (Ne.symm n1x)] at n1
   exact n1
  refine ⟨_,rfl,x,a.C_Asking,dx,_,rfl,(by rw [qf_ nsx];exact qc_),T.cl_Asking,T.no_Asking_asked,(by show (4:Nat) < 1000;decide),?_⟩
  refine q _ cl rl sl (fun b o hb hz=>?_) qc_ ncl0 nrl0 nsl0 (Ne.symm nrc) (Ne.symm nsc) (Ne.symm nsr) ?_ ?_ ?_
  ·have f1:∀ y,H y = none->b ≠ y:=fun y ny e=>by rw [e,ny] at hz;cases hz
   rw [qf_ hb,qf_ (f1 sl nsl0),qf_ hb,qf_ (f1 rl nrl0),qf_ (f1 p1 n1H),qf_ hb,qf_ (f1 cl ncl0),qf_ hb]
   exact hz
  ·rw [qf_ (Ne.symm nclx),qf_ (Ne.symm nsc),qf_ (Ne.symm nclx),qf_ (Ne.symm nrc),qf_ (Ne.symm n1c),qf_ (Ne.symm nclx),qc_]
  ·rw [qf_ (Ne.symm nrx),qf_ (Ne.symm nsr),qf_ (Ne.symm nrx),qc_]
   have:(List.replicate (((N + M:Nat):Int)).toNat [V.non]).flatten = rowO (List.replicate (N + M) none):=by
    rw [Int.toNat_natCast]
    unfold rowO
    rw [List.map_replicate]
    generalize N + M = R
    induction R with
    | zero=>rfl
    | succ R ih=>rw [List.replicate_succ,List.flatten_cons,ih];rfl
   rw [this]
  ·rw [qf_ (Ne.symm nsx),qc_]
   rfl
end
theorem okC2 {P:Program}{w:World}{K:PySem.W.Frag}{mg:Str->Option Value}{base:Heap}{x qual:Str}{st:Stmt}{f:Addr}{N ps:List Str}{k:Nat}{sp:Sp}{oc:Value}{od an:Option Addr}{osl:Array (Option Value)}{kV doc pm cdv ct:Value} (lk:K.lookup f = some ⟨oc,od,.func (PySem.W.fnOf x qual (qi_ st) (qh_ st) (qb_ st) .none kV doc pm an cdv ct),osl⟩) (hcd:PySem.W.codeIn K cdv qual = true) (S:FnScope N ps (qb_ st)) (len:∀ vs H Q E,sp vs H Q E->vs.length = ps.length)
  (hbody:∀ (A:Around) (outer:List Env) (s:Shared) (H:Hp) (vs:List V) (Q:VK) (E:XK),Room k (A.deeper (envOfC qual (qb_ st) s.heap.objs.size f cdv))->sp vs H Q E →
   ∃ t,PSR (cxOf CX0 P w K mg base N qual (qb_ st) f cdv A outer s H E).nox (qh_ st) t/\t (fun v σ H'=>∃ cvs,qe3_ N (qb_ st) (cellsFrom (s.heap.objs.size + 1) (qb_ st).names []) σ cvs/\((∀ c v,cvs.lookup c = some v->H' c = none/\H c = none)->Q v (trC cvs H'))) (start N vs) H):FnOk P w K mg base CX0 (k + 1) f (PySem.W.fnOf x qual (qi_ st) (qh_ st) (qb_ st) .none kV doc pm an cdv ct) ps sp:=by
 refine ⟨len,fun A outer s H args us vs Q E hr e0 hb r hsp=>?_⟩
 have hl:=len _ _ _ _ hsp
 have KX:K.In s.heap:=e0.mod.kin.keeps fun b o e=>(e0.bs b o e).1
 have lim:s.heap.NoLimit:=e0.mod.nolimit.keeps fun b o e=>(e0.bs b o e).1
 have hkind:∀ y ∈ ps.zip us,(qb_ st).names.lookup y.1 = some .local\/((qb_ st).names.lookup y.1 = some .cell/\((cellsFrom (s.heap.objs.size + 1) (qb_ st).names []).lookup y.1).isSome = true):=fun ⟨n,v⟩ hy=>by
  rcases S.par n (List.of_mem_zip hy).1 with q | q
  ·exact .inl q
  ·exact .inr ⟨q,PySem.W.cellsFrom_some _ _ _ (.inl q)⟩
 refine codeAny_call_function hr.depth (KX _ _ lk) rfl S.co S.gen rfl (PySem.W.codeRec_of KX hcd) (hb _ _ _ _ ?_)
 refine wpAny_newFunctionEnv_cells S.kind hkind fun env he s1 y=>?_
 subst he
 refine ⟨lim.keeps y.toInCall.keep,codeAny_func ?_⟩
 obtain ⟨t,ht,hq⟩:=hbody A outer s H vs Q E (hr.deeper _) hsp
 have I:Inv (cxOf CX0 P w K mg base N qual (qb_ st) f cdv A outer s H E) [] (start N vs) H s1:=uO_ S hr.hd e0 hl r y
 refine wpAny_mono (ht [] s1 (start N vs) H _ (I.wish _) hq) (fun fl s' hs=>?_) fun e s' hs=>False.elim hs
 obtain ⟨v,σ',H',u,rfl,J0,rv,cvs,hcs,hQ⟩:=hs
 have J:=J0.unwish
 have B:Un (frs outer) [] H H' s.heap s'.heap:=J.base
 have cell:∀ c v,cvs.lookup c = some v->H' c = none/\s.heap.objs.size<=c/\∃ u,RelV v u/\s'.heap.IsCell c (some u):=fun c v e=>by
  obtain ⟨i,y,h1,h2,h3,h4⟩:=hcs c v e
  obtain ⟨m,hn,hl⟩:=J.loc
  obtain ⟨u,ru,l⟩:=hl i y v h1 h2 (.inr (.inl h4))
  refine ⟨J.freeC y c h3,J.ok.cab y c rfl h3,u,ru,?_⟩
  rcases l with ⟨l,_⟩ | ⟨_,c',e',z⟩
  ·have l:(qb_ st).names.lookup y = some .local:=l
   rw [h4] at l
   cases l
  ·have e':(cellsFrom (s.heap.objs.size + 1) (qb_ st).names []).lookup y = some c':=e'
   rw [h3] at e'
   cases e'
   exact z
 have outE:∀ b o,s.heap.get? b = some o->cvs.lookup b = none:=fun b o e=>by
  cases z:cvs.lookup b with
  | none=>rfl
  | some v=>exact absurd (Heap.lt_size e) (Nat.not_lt.mpr (cell b v z).2.1)
 have outH:∀ b x,H' b = some x->cvs.lookup b = none:=fun b x e=>by
  cases z:cvs.lookup b with
  | none=>rfl
  | some v=>rw [(cell b v z).1] at e;cases e
 refine ⟨v,trC cvs H',J.os,J.bare,⟨B.keep,B.slot,fun b o e n hx=>(jN_ (outE b o e)).trans (B.free b o e n hx),B.there,fun b xs e=>?_,fun b o x e=>?_,fun b ps e=>?_⟩,qcw_ J.hok (fun c v e=>(cell c v e).1) (fun c v e=>(cell c v e).2.2),rv,hQ fun c v e=>⟨(cell c v e).1,e0.hok.fresh (cell c v e).2.1⟩⟩
 ·have z:=B.tups b xs e
  exact (jN_ (outH b _ z)).trans z
 ·have z:=B.frzs b o x e
  exact (jN_ (outH b _ z)).trans z
 ·obtain ⟨more,z⟩:=B.tbls b ps e
  exact ⟨more,(jN_ (outH b _ z)).trans z⟩
theorem qfm_ {P:Program}{w:World}{K:PySem.W.Frag}{mg:Str->Option Value}{base:Heap}{x qual:Str}{st:Stmt}{f c t:Addr}{fd:FuncData}{N ps:List Str}{k:Nat}{sp:Sp} (F:FunT K x qual st f fd c t) (S:FnScope N ps (qb_ st)) (len:∀ vs H Q E,sp vs H Q E->vs.length = ps.length)
  (hbody:∀ (A:Around) (outer:List Env) (s:Shared) (H:Hp) (vs:List V) (Q:VK) (E:XK),Room k (A.deeper (envOfC qual (qb_ st) s.heap.objs.size f (.ref c)))->sp vs H Q E →
   ∃ t,PSR (cxOf CX0 P w K mg base N qual (qb_ st) f (.ref c) A outer s H E).nox (qh_ st) t/\t (fun v σ H'=>∃ cvs,qe3_ N (qb_ st) (cellsFrom (s.heap.objs.size + 1) (qb_ st).names []) σ cvs/\((∀ c v,cvs.lookup c = some v->H' c = none/\H c = none)->Q v (trC cvs H'))) (start N vs) H):FnOk P w K mg base CX0 (k + 1) f fd ps sp:=by
 obtain ⟨oc,od,kV,doc,pm,an,ct,osl,rfl,lk,hcd⟩:=F.ex
 exact okC2 lk hcd S len hbody
def TabS (H:Hp) (t:Addr) (p:Pos) (q:Str):Prop:=∃ ps,H t = some (.tbl ps)/\(ps = #[]\/∃ c',ps = #[rawInt p.line,rawInt p.col,.ref c']/\H c' = some (yG_ q c'))
theorem TabS.keep {H H':Hp}{t:Addr}{p:Pos}{q:Str} (h:TabS H t p q) (k:Same H H'):TabS H' t p q:=by
 obtain ⟨ps,h1,h2⟩:=h
 refine ⟨ps,k _ _ h1,?_⟩
 rcases h2 with h2 | ⟨c',e,h2⟩
 ·exact .inl h2
 ·exact .inr ⟨c',e,k _ _ h2⟩
theorem qfn_ {P:Addr}{pos:Pos}{q:Str}{mk:Value->Value->Value->Value->FuncData}{σ:L2.St}{H:Hp}{Q:VK} (ht:TabS H P pos q)
  (h:∀ (H1:Hp) (c' fa:Addr) (doc pm ctv:Value),(∀ b o,b ≠ P->H b = some o->H1 b = some o)->TabS H1 P pos q->H fa = none->H1 fa = some (FunO fa (mk doc pm (.ref c') ctv))->H1 c' = some (yG_ q c')->(∀ b,H1 b = none->H b = none)->Q (.ref fa) H1):tFn P pos q mk σ H Q:=by
 obtain ⟨ps,hP,h2⟩:=ht
 rcases h2 with rfl | ⟨c0,rfl,hc0⟩
 ·refine ⟨#[],hP,trivial,.inl ⟨rfl,fun c' fa doc pm ctv n1 n2 ne=>h _ c' fa doc pm ctv (fun b o hb e=>?_) ⟨_,?_,.inr ⟨c',rfl,?_⟩⟩ n2 qc_ ?_ fun b e=>?_⟩⟩
  ·rw [qf_ (qm_ e n2),qf_ (qm_ e n1),qf_ hb];exact e
  ·rw [qf_ (qm_ hP n2),qf_ (qm_ hP n1)];exact qc_
  ·rw [qf_ ne.symm];exact qc_
  ·rw [qf_ ne.symm];exact qc_
  ·by_cases z1:b = fa
   ·rw [z1];exact n2
   rw [qf_ z1] at e
   by_cases z2:b = c'
   ·rw [z2];exact n1
   rw [qf_ z2] at e
   by_cases z3:b = P
   ·rw [z3,qc_] at e;cases e
   rwa [qf_ z3] at e
 ·refine ⟨_,hP,⟨⟩,.inr ⟨c0,?_,hc0,fun fa doc pm ctv n=>h _ c0 fa doc pm ctv (fun b o _ e=>?_) ⟨_,?_,.inr ⟨c0,rfl,?_⟩⟩ n qc_ ?_ fun b e=>?_⟩⟩
  ·show codeAmong pos [rawInt pos.line,rawInt pos.col,.ref c0] = some (.ref c0)
   simp [codeAmong,rawInt]
  ·rw [qf_ (qm_ e n)];exact e
  ·rw [qf_ (qm_ hP n)];exact hP
  ·rw [qf_ (qm_ hc0 n)];exact hc0
  ·rw [qf_ (qm_ hc0 n)];exact hc0
  ·by_cases z1:b = fa
   ·rw [z1];exact n
   rwa [qf_ z1] at e
def inA:Stmt:=(qh_ yh_).getD 0 (.Pass ⟨0,0,0,0⟩)
def posD:Stmt->Pos
 | .FunctionDef _ _ _ _ _ _ _ _ _ p=>p
 | _=>⟨0,0,0,0⟩
def qA:Str:="_law_asker" ++ Str.ofString ".<locals>." ++ Str.ofString "_law_ask"
def clA (c1 c2:Addr):List (Str × Addr):=[("_law_seen_here",c2),("_law_row",c1)]
structure AskerAt (H:Hp) (f rw z:Addr):Prop where
 ex:∃ (c' c1 c2:Addr) (doc pm ctv:Value),H f = some (FunO f (PySem.W.fnX "_law_ask" qA (qi_ inA) (qh_ inA) (qb_ inA) (clA c1 c2) .none .none doc pm none (.ref c') ctv)) ∧ H c' = some (yG_ qA c') ∧ H c1 = some (CelO c1 (.ref rw)) ∧ H c2 = some (CelO c2 (.ref z)) ∧ c1 ≠ c2
theorem AskerAt.same {H H':Hp}{f rw z:Addr} (h:AskerAt H f rw z) (s:Same H H'):AskerAt H' f rw z:=by
 obtain ⟨c',c1,c2,doc,pm,ctv,h1,h2,h3,h4,h5⟩:=h.ex
 exact ⟨c',c1,c2,doc,pm,ctv,s _ _ h1,s _ _ h2,s _ _ h3,s _ _ h4,h5⟩
section
variable {P:Program}{wo:World}{K:PySem.W.Frag}{mg:Str->Option Value}{base:Heap}{a:Adr}
def qi7_ (a:Adr):Sp:=fun vs H Q _=>∃ (rw z:Addr),vs = [.ref rw,.ref z]/\TabS H a.t_asker (posD inA) qA ∧
 ∀ (H':Hp) (f:Addr),(∀ b o,b ≠ a.t_asker->H b = some o->H' b = some o)->TabS H' a.t_asker (posD inA) qA->H f = none->AskerAt H' f rw z->(∀ b,H' b = none->H b = none)->Q (.ref f) H'
theorem qhe_ (T:Txt K mg a) (B:Tb base mg a):FnOk P wo K mg base CX0 1 a.f_asker a.d_asker ["_law_row", "_law_seen_here"] (qi7_ a):=by
 refine qfm_ T.F_asker (k:=0) sc_asker (fun vs H Q E h=>?_) (fun A outer s H vs Q E hr h=>?_)
 ·obtain ⟨rw,sl,rfl,_⟩:=h
  rfl
 ·obtain ⟨rw,z,rfl,ht,q⟩:=h
  refine ⟨_,(qgq_ (qj8_ (i:=2) (T.F_asker.tab B.b_asker B.n_asker) rfl sc_asker.nd rfl (Or.inl rfl))
   (qik_ (pv 2))),?_⟩
  unfold tRC tRR tAsg
  refine qfn_ (q:=qA) (pos:=posD inA) ht fun H1 c' fa doc pm ctv k1 t1 n1 hf hc fr=>?_
  refine ⟨_,rfl,[(s.heap.objs.size + 1,.ref rw),(s.heap.objs.size + 1 + 1,.ref z)],?_,fun hcv=>?_⟩
  ·intro c v e
   rw [List.lookup_cons] at e
   split at e
   ·rename_i h
    cases e
    cases eq_of_beq h
    exact ⟨0,_,rfl,rfl,rfl,rfl⟩
   ·rw [List.lookup_cons] at e
    split at e
    ·rename_i h
     cases e
     cases eq_of_beq h
     exact ⟨1,_,rfl,rfl,rfl,rfl⟩
    ·cases e
  ·have ne:s.heap.objs.size + 1 ≠ s.heap.objs.size + 1 + 1:=by omega
   have l1:[(s.heap.objs.size + 1,V.ref rw),(s.heap.objs.size + 1 + 1,.ref z)].lookup (s.heap.objs.size + 1) = some (.ref rw):=by rw [List.lookup_cons];simp
   have l2:[(s.heap.objs.size + 1,V.ref rw),(s.heap.objs.size + 1 + 1,.ref z)].lookup (s.heap.objs.size + 1 + 1) = some (.ref z):=by rw [List.lookup_cons,beq_eq_false_iff_ne.mpr (Ne.symm ne)];simp
   have out:∀ {b:Addr}{o:HO},H1 b = some o->[(s.heap.objs.size + 1,V.ref rw),(s.heap.objs.size + 1 + 1,.ref z)].lookup b = none:=fun {b o} e=>by
    cases y:[(s.heap.objs.size + 1,V.ref rw),(s.heap.objs.size + 1 + 1,.ref z)].lookup b with
    | none=>rfl
    | some v=>rw [(hcv b v y).1] at e;cases e
   have sm:Same H1 (trC [(s.heap.objs.size + 1,V.ref rw),(s.heap.objs.size + 1 + 1,.ref z)] H1):=fun b o e=>(jN_ (out e)).trans e
   refine q _ fa (fun b o hb e=>sm b o (k1 b o hb e)) (t1.keep sm) n1 ⟨c',s.heap.objs.size + 1,s.heap.objs.size + 1 + 1,doc,pm,ctv,sm _ _ hf,sm _ _ hc,z9_ l1,z9_ l2,ne⟩ fun b e=>?_
   cases y:[(s.heap.objs.size + 1,V.ref rw),(s.heap.objs.size + 1 + 1,.ref z)].lookup b with
   | none=>exact fr b ((jN_ y).symm.trans e)
   | some v=>rw [z9_ y] at e;cases e
def qfo_:SpV:=fun f vs H Q=>∃ (fa rw z:Addr) (k:Nat) (srow:List (Option Nat)) (as:List Nat),f = .ref fa/\vs = [.int k]/\AskerAt H fa rw z/\H rw = some (.lst (rowO srow))/\H z = some (.lst (rowV as))/\k < srow.length/\as.length < 900/\rw ≠ z/\Q (valO (srow.getD k none)) (upd H z (.lst (rowV (as ++ [k]))))
theorem qkk_ (T:Txt K mg a):ug_ P wo K mg base 1 qfo_:=by
 intro A outer s H f us vs Q hr e0 r h
 obtain ⟨fa,rw,z,k,srow,as,rfl,rfl,hA,hrow,hz,hk,has,hne,q⟩:=h
 obtain ⟨c',c1,c2,doc,pm,ctv,h1,h2,h3,h4,h5⟩:=hA.ex
 refine ⟨fa,_,rfl,h1,?_⟩
 have l1:[(c1,V.ref rw),(c2,.ref z)].lookup c1 = some (.ref rw):=by rw [List.lookup_cons];simp
 have l2:[(c1,V.ref rw),(c2,.ref z)].lookup c2 = some (.ref z):=by
  rw [List.lookup_cons,beq_eq_false_iff_ne.mpr (Ne.symm h5)]
  simp
 have L:∀ c v,[(c1,V.ref rw),(c2,.ref z)].lookup c = some v->(c = c1/\v = .ref rw)\/(c = c2/\v = .ref z):=fun c v e=>by
  rw [List.lookup_cons] at e
  split at e
  ·rename_i h
   cases e
   exact .inl ⟨eq_of_beq h,rfl⟩
  ·rw [List.lookup_cons] at e
   split at e
   ·rename_i h
    cases e
    exact .inr ⟨eq_of_beq h,rfl⟩
   ·cases e
 have at_:∀ c v,[(c1,V.ref rw),(c2,.ref z)].lookup c = some v->H c = some (CelO c v):=fun c v e=>by
  rcases L c v e with ⟨rfl,rfl⟩ | ⟨rfl,rfl⟩
  ·exact h3
  ·exact h4
 refine qij_ (k:=0) (cvs:=[(c1,V.ref rw),(c2,.ref z)]) (vs:=[.int ((k:Nat):Int)]) (N:=["_law_role", "_law_seen_here", "_law_row"]) (ps:=["_law_role"]) (σ0:=[some (.int ((k:Nat):Int)),some (.ref z),some (.ref rw)]) ⟨rfl,rfl,rfl,by decide +kernel,rfl,by decide +kernel,by decide +kernel⟩ hr e0 r h1 h2 ?_ ?_ ?_ (qd_ (qU_ (jW_ PySem.F.plainAttrs_list PySem.F.slot_list_append PySem.F.type_list_append qQ_ (pv 1) (qa_ (pv 0) qe_)))
   (qg_ (qq_ (qz_ qB_ (pv 2) (pv 0) (fun _ _=>rfl))))) ?_
 ·obtain ⟨u,rfl,_⟩:=zb_ r
  rfl
 ·have J:∀ x c,(clA c1 c2).lookup x = some c → (x = "_law_seen_here" ∧ c = c2) ∨ (x = "_law_row" ∧ c = c1):=fun x c e=>by
   unfold clA at e
   rw [List.lookup_cons] at e
   split at e
   ·rename_i h
    cases e
    exact .inl ⟨eq_of_beq h,rfl⟩
   ·rw [List.lookup_cons] at e
    split at e
    ·rename_i h
     cases e
     exact .inr ⟨eq_of_beq h,rfl⟩
    ·cases e
  refine ⟨fun x y c e1 e2=>?_,fun x hx=>?_,fun x c e=>?_,at_⟩
  ·rcases J x c e1 with ⟨rfl,rfl⟩ | ⟨rfl,rfl⟩
   ·rcases J y c e2 with ⟨rfl,_⟩ | ⟨_,z⟩
    ·rfl
    ·exact absurd z.symm h5
   ·rcases J y c e2 with ⟨_,z⟩ | ⟨rfl,_⟩
    ·exact absurd z h5
    ·rfl
  ·have d:∀ q ∈ (qb_ inA).names,q.2 = .free → q.1 = "_law_seen_here" ∨ q.1 = "_law_row":=by decide +kernel
   have d:=d (x,.free) (PySem.mem_of_lookup hx) rfl
   rcases d with d | d
   ·have d:x = _:=d
    subst d
    exact ⟨c2,rfl⟩
   ·have d:x = _:=d
    subst d
    exact ⟨c1,rfl⟩
  ·rcases J x c e with ⟨_,rfl⟩ | ⟨_,rfl⟩
   ·exact ⟨_,l2⟩
   ·exact ⟨_,l1⟩
 ·refine ⟨rfl,fun i x v e1 e2=>?_⟩
  match i,e1,e2 with
  | 0,e1,e2=>exact .inl ⟨e1,by cases e2;rfl⟩
  | 1,e1,e2 =>
   cases e1
   cases e2
   exact .inr ⟨rfl,c2,rfl,l2⟩
  | 2,e1,e2 =>
   cases e1
   cases e2
   exact .inr ⟨rfl,c1,rfl,l1⟩
 ·have no:∀ {b:Addr}{xs:List V},H b = some (.lst xs)->[(c1,V.ref rw),(c2,.ref z)].lookup b = none:=fun {b xs} e=>by
   cases y:[(c1,V.ref rw),(c2,.ref z)].lookup b with
   | none=>rfl
   | some v=>rw [at_ b v y] at e;cases e
  have hz':=(jm_ (no hz)).trans hz
  have fits:(rowV as).length < sizeLine:=by
   rw [qk_]
   exact Nat.lt_trans has (by decide)
  have hrow':(upd (untr [(c1,V.ref rw),(c2,.ref z)] H) z (.lst (rowV (as ++ [k])))) rw = some (.lst (rowO srow)):=by
   rw [qf_ hne,jm_ (no hrow)]
   exact hrow
  refine ⟨_,rfl,.inl ⟨rfl,_,SqL.of hz'⟩,_,rfl,z,_,_,rfl,rfl,hz',fits,?_⟩
  rw [jx_]
  refine ⟨_,rfl,_,rfl,rw,_,_,_,rfl,rfl,SqL.of hrow',qr_ (jB_ (o:=srow.getD k none) (by rw [List.getD_eq_getElem?_getD,List.getElem?_eq_getElem hk];rfl)),?_⟩
  have e:trC [(c1,V.ref rw),(c2,.ref z)] (upd (untr [(c1,V.ref rw),(c2,.ref z)] H) z (.lst (rowV (as ++ [k])))) = upd H z (.lst (rowV (as ++ [k]))):=by
   funext b
   cases y:[(c1,V.ref rw),(c2,.ref z)].lookup b with
   | some v =>
    have nz:b ≠ z:=fun e=>by rw [e,no hz] at y;cases y
    rw [z9_ y,qf_ nz,at_ b v y]
   | none =>
    rw [jN_ y]
    by_cases nz:b = z
    ·rw [nz,qc_,qc_]
    ·rw [qf_ nz,qf_ nz,jm_ y]
  show Q (valO (srow.getD k none)) (trC _ _)
  rw [e]
  exact q
end
def posL:Pos:=⟨61,32,61,69⟩
def qL:Str:="Asking.order" ++ Str.ofString ".<locals>." ++ Str.ofString "<lambda>"
structure AskR where
 A:Addr
 c:Addr
 bp:Addr
 fp:Addr
 f:Addr
 cl:Addr
 rl:Addr
 sl:Addr
 rw:Addr
 z:Addr
structure AskI (a:Adr) (H0:Hp) (R:AskR) (r w n M N:Nat) (l:Nat->Nat->Nat) (cs srow:List (Option Nat)):Prop where
 code:CodeAt a H0 R.c R.bp R.fp r w n M N l
 full:GF.Full r w
 n16:n<=16
 W:Wts w M N l
 obj:∃ dx,H0 R.A = some (.ins a.C_Asking dx (af R.c R.f R.cl R.rl R.sl))
 cost:H0 R.cl = some (.lst (rowO cs))
 csl:cs.length = N + M
 asker:AskerAt H0 R.f R.rw R.z
 row:H0 R.rw = some (.lst (rowO srow))
 srl:srow.length = N + M
 nrl:H0 R.rl = none
 nsl:H0 R.sl = none
 nz:H0 R.z = none
 nt:H0 a.t_Asking_order = none
 d1:R.rl ≠ R.sl
 d2:R.rl ≠ R.z
 d3:R.sl ≠ R.z
structure AskM (a:Adr) (H0 H:Hp) (R:AskR) (n:Nat) (os:List (Option Nat)) (as:List Nat):Prop where
 sm:Same H0 H
 hr:H R.rl = some (.lst (rowO os))
 hs:H R.sl = some (.lst (rowV as))
 hz:H R.z = some (.lst (rowV as))
 tab:TabS H a.t_Asking_order posL qL
 osl:os.length = n
 nd:as.Nodup
 lt:∀ k ∈ as,k < n
theorem vh_:∀ (n:Nat) (as:List Nat),as.Nodup->(∀ k ∈ as,k < n)->as.length<=n
 | 0,[],_,_=>Nat.le_refl _
 | 0,k :: _,_,h=>absurd (h k (.head _)) (Nat.not_lt_zero k)
 | n + 1,as,nd,h=>by
  by_cases z:n ∈ as
  ·have e:=List.length_erase_of_mem z
   have ih:=vh_ n (as.erase n) (nd.erase n) fun k hk=>by
    have h1:=h k (List.mem_of_mem_erase hk)
    have h2:k ≠ n:=fun e=>by
     subst e
     exact (List.Nodup.mem_erase_iff nd).mp hk |>.1 rfl
    omega
   omega
  ·exact Nat.le_succ_of_le (vh_ n as nd fun k hk=>by
    have h1:=h k hk
    have h2:k ≠ n:=fun e=>z (e ▸ hk)
    omega)
theorem AskM.asl {a:Adr}{H0 H:Hp}{R:AskR}{n:Nat}{os:List (Option Nat)}{as:List Nat} (h:AskM a H0 H R n os as):as.length<=n:=vh_ n as h.nd h.lt
def mayB (cs:List (Option Nat)) (as:List Nat) (k:Nat):Bool:=(cs.getD k none).isSome && !as.contains k
theorem um_ (k:Nat):∀ as:List Nat,inV (.int (k:Nat)) (rowV as) = as.contains k
 | []=>rfl
 | x :: as=>by
  have ih:=um_ k as
  unfold inV rowV at ih ⊢
  rw [List.map_cons,List.any_cons,ih,List.contains_cons]
  congr 1
  show eqV (.int (x:Nat)) (.int (k:Nat)) = (k == x)
  show (((x:Nat):Int) == ((k:Nat):Int)) = (k == x)
  by_cases z:x = k
  ·subst z;simp
  ·have h1:((x:Nat):Int) ≠ ((k:Nat):Int):=by omega
   rw [beq_eq_false_iff_ne.mpr h1,beq_eq_false_iff_ne.mpr (Ne.symm z)]
theorem vX_ (as:List Nat):(rowV as).all yM_ = true:=by
 unfold rowV
 rw [List.all_map]
 exact List.all_eq_true.mpr fun _ _=>rfl
theorem yD_ {os:List (Option Nat)}{k:Nat} (h:k < os.length):os[k]? = some (os.getD k none):=by
 rw [List.getD_eq_getElem?_getD,List.getElem?_eq_getElem h]
 rfl
theorem uG_ (o:Option Nat):(!decide (valO o = V.non)) = o.isSome:=by
 cases o with
 | none=>rfl
 | some b=>rw [decide_eq_false (fun z=>by cases z)];rfl
section
variable {P:Program}{wo:World}{K:PySem.W.Frag}{mg:Str->Option Value}{base:Heap}{a:Adr}
def qlj_ (a:Adr):Sp:=fun vs H Q _=>∃ (H0:Hp) (R:AskR) (r w n M N k:Nat) (l:Nat->Nat->Nat) (cs srow os:List (Option Nat)) (as:List Nat),vs = [.ref R.A,.int k]/\AskI a H0 R r w n M N l cs srow/\AskM a H0 H R (N + M) os as/\k < N + M/\Q (.bl (mayB cs as k)) H
theorem y9_ (T:Txt K mg a):FnOk P wo K mg base CX0 1 a.f_Asking_may a.d_Asking_may ["self", "role"] (qlj_ a):=by
 refine T.F_Asking_may.ok (k:=0) qae_ (fun vs H Q E h=>?_) (fun cdv A outer s H vs Q E hr h=>?_)
 ·obtain ⟨H0,R,r,w,n,M,N,k,l,cs,srow,os,as,rfl,_⟩:=h
  rfl
 ·obtain ⟨H0,R,r,w,n,M,N,k,l,cs,srow,os,as,rfl,I,J,hk,q⟩:=h
  obtain ⟨dx,hA⟩:=I.obj
  have hA:=J.sm _ _ hA
  refine ⟨_,(qg_ (qq_ (v1_ (yn_ zf_ (qz_ qB_ (qC_ (pv 0) rfl) (pv 1) (fun _ _=>rfl)) jo_ (qu_ _)) (z0_ (yn_ z3_ (pv 1) (qC_ (pv 0) rfl) rfl))))),?_⟩
  refine ⟨_,rfl,R.A,_,_,_,_,rfl,hA,T.cl_Asking,T.no_Asking_costs,zr_ _ _ _ _ _,_,rfl,R.cl,_,_,_,rfl,rfl,SqL.of (J.sm _ _ I.cost),qr_ (jB_ (yD_ (by rw [I.csl];exact hk))),rfl,_,rfl,?_⟩
  rw [uG_]
  unfold mayB at q
  cases hz:(cs.getD k none).isSome with
  | false =>
   rw [hz] at q
   exact q
  | true =>
   rw [hz] at q
   refine ⟨_,rfl,_,rfl,R.A,_,_,_,_,rfl,hA,T.cl_Asking,T.no_Asking_asked,zU_ _ _ _ _ _,R.sl,_,rfl,.inl (SqL.of J.hs),rfl,vX_ as,?_⟩
   rw [um_]
   exact q
end
theorem TabS.up {H:Hp}{t x:Addr}{p:Pos}{q:Str}{xs:List V}{o:HO} (h:TabS H t p q) (hx:H x = some (.lst xs)):TabS (upd H x o) t p q:=by
 obtain ⟨ps,h1,h2⟩:=h
 refine ⟨ps,by rw [qf_ (y2_ h1 hx (fun y=>by cases y))];exact h1,?_⟩
 rcases h2 with h2 | ⟨c',e,h2⟩
 ·exact .inl h2
 ·exact .inr ⟨c',e,by rw [qf_ (y2_ h2 hx (fun y=>by cases y))];exact h2⟩
theorem AskM.same {a:Adr}{H0 H H':Hp}{R:AskR}{n:Nat}{os:List (Option Nat)}{as:List Nat} (h:AskM a H0 H R n os as) (s:Same H H'):AskM a H0 H' R n os as :=
 ⟨h.sm.trans s,s _ _ h.hr,s _ _ h.hs,s _ _ h.hz,h.tab.keep s,h.osl,h.nd,h.lt⟩
def tk (cs srow os:List (Option Nat)) (as:List Nat) (k:Nat):List (Option Nat) × List Nat:=if mayB cs as k = true then (os.set k (srow.getD k none),as ++ [k]) else (os,as)
theorem zV_ (os:List (Option Nat)) (k:Nat) (o:Option Nat):(rowO os).set k (valO o) = rowO (os.set k o):=by
 unfold rowO
 rw [List.map_set]
theorem qi8_ {cs:List (Option Nat)}{as:List Nat}{k:Nat} (h:mayB cs as k = true):k ∉ as:=fun z=>by
 unfold mayB at h
 rw [List.contains_iff_mem.mpr z,Bool.not_true,Bool.and_false] at h
 cases h
theorem qd1_ {as:List Nat}{k:Nat} (h:as.Nodup) (n:k ∉ as):(as ++ [k]).Nodup:=List.nodup_append.mpr ⟨h,List.pairwise_singleton _ k,fun x hx y hy e=>by
 rw [List.mem_singleton.mp hy] at e
 exact n (e ▸ hx)⟩
section
variable {P:Program}{wo:World}{K:PySem.W.Frag}{mg:Str->Option Value}{base:Heap}{a:Adr}
def qkl_ (a:Adr):Sp:=fun vs H Q _=>∃ (H0:Hp) (R:AskR) (r w n M N k:Nat) (l:Nat->Nat->Nat) (cs srow os:List (Option Nat)) (as:List Nat),vs = [.ref R.A,.int k]/\AskI a H0 R r w n M N l cs srow/\AskM a H0 H R (N + M) os as/\k < N + M/\∀ H',AskM a H0 H' R (N + M) (tk cs srow os as k).1 (tk cs srow os as k).2->Q (valO ((tk cs srow os as k).1.getD k none)) H'
theorem zI_ (T:Txt K mg a):FnOk P wo K mg base CX0 2 a.f_Asking_take a.d_Asking_take ["self", "role"] (qkl_ a):=by
 have G_Asking_may:FnOk P wo K mg base CX0 1 _ _ _ _:=y9_ T
 have CK:ug_ P wo K mg base 1 qfo_:=qkk_ T
 refine T.F_Asking_take.ok (k:=1) uB_ (fun vs H Q E h=>?_) (fun cdv A outer s H vs Q E hr h=>?_)
 ·obtain ⟨H0,R,r,w,n,M,N,k,l,cs,srow,os,as,rfl,_⟩:=h
  rfl
 ·obtain ⟨H0,R,r,w,n,M,N,k,l,cs,srow,os,as,rfl,I,J,hk,q⟩:=h
  obtain ⟨dx,hA⟩:=I.obj
  have n8:=I.W.n8
  have hasl:=J.asl
  refine ⟨_,(qd_ (qD_ (jR_ (qF_ (pv 0) T.cl_Asking T.me_Asking_may G_Asking_may (hr.mono (by decide)) T.b_Asking_may .nil qp_ (qa_ (pv 1) qe_))) (qd_ (qU_ (jW_ PySem.F.plainAttrs_list PySem.F.slot_list_append PySem.F.type_list_append qQ_ (qC_ (pv 0) rfl) (qa_ (pv 1) qe_)))
   (qg_ (ye_ (qgr_ CK (hr.mono (by decide)) (pv 0) (qa_ (pv 1) qe_)) (yi_ (qC_ (pv 0) rfl) (pv 1) jS_)))) qA_)
   (qg_ (qq_ (qz_ qB_ (qC_ (pv 0) rfl) (pv 1) (fun _ _=>rfl))))),?_⟩
  refine ⟨_,rfl,R.A,dx,_,rfl,J.sm _ _ hA,rfl,_,rfl,H0,R,r,w,n,M,N,k,l,cs,srow,os,as,rfl,I,J,hk,?_⟩
  cases hz:mayB cs as k with
  | true =>
   refine ⟨_,rfl,ite2 (fun _=>?_) (fun y=>absurd rfl y)⟩
   have fits:(rowV as).length < sizeLine:=by
    rw [qk_]
    exact Nat.lt_of_le_of_lt hasl (Nat.lt_of_le_of_lt n8 (by decide))
   have hsm1:=J.sm.up (o:=.lst (rowV (as ++ [k]))) I.nsl
   refine ⟨_,rfl,R.A,_,_,_,_,rfl,J.sm _ _ hA,T.cl_Asking,T.no_Asking_asked,zU_ _ _ _ _ _,.inl ⟨rfl,_,SqL.of J.hs⟩,_,rfl,R.sl,_,_,rfl,rfl,J.hs,fits,?_⟩
   rw [jx_]
   have hfd:=(I.asker.ex)
   obtain ⟨c',c1,c2,doc,pm,ctv,hf,hc,h3,h4,h5⟩:=hfd
   refine ⟨_,rfl,R.A,_,_,_,R.f,_,rfl,hsm1 _ _ hA,T.cl_Asking,T.no_Asking_ask,qkj_ _ _ _ _ _,hsm1 _ _ hf,_,rfl,hsm1 _ _ hf,R.f,R.rw,R.z,k,srow,as,rfl,rfl,I.asker.same hsm1,hsm1 _ _ I.row,(by rw [qf_ (Ne.symm I.d3)];exact J.hz),by rw [I.srl];exact hk,by omega,(fun y=>by have:=I.row;rw [y,I.nz] at this;cases this),?_⟩
   have hsm2:=hsm1.up (o:=.lst (rowV (as ++ [k]))) I.nz
   have hrl:(upd (upd H R.sl (.lst (rowV (as ++ [k])))) R.z (.lst (rowV (as ++ [k])))) R.rl = some (.lst (rowO os)):=by
    rw [qf_ I.d2,qf_ I.d1]
    exact J.hr
   refine ⟨_,rfl,R.A,_,_,_,_,rfl,hsm2 _ _ hA,T.cl_Asking,T.no_Asking_row,zs_ _ _ _ _ _,_,rfl,R.rl,_,_,k,rfl,rfl,hrl,j4_ (by rw [qN_,J.osl];exact hk),?_⟩
   rw [zV_]
   have hsm3:=hsm2.up (o:=.lst (rowO (os.set k (srow.getD k none)))) I.nrl
   have J3:AskM a H0 (upd (upd (upd H R.sl (.lst (rowV (as ++ [k])))) R.z (.lst (rowV (as ++ [k])))) R.rl (.lst (rowO (os.set k (srow.getD k none))))) R (N + M) (os.set k (srow.getD k none)) (as ++ [k]):=by
    refine ⟨hsm3,qc_,?_,?_,((J.tab.up J.hs).up (x:=R.z) (xs:=rowV as) ?_).up hrl,by rw [List.length_set,J.osl],qd1_ J.nd (qi8_ hz),fun x hx=>?_⟩
    ·rw [qf_ (Ne.symm I.d1),qf_ I.d3];exact qc_
    ·rw [qf_ (Ne.symm I.d2)];exact qc_
    ·rw [qf_ (Ne.symm I.d3)];exact J.hz
    ·rcases List.mem_append.mp hx with y | y
     ·exact J.lt x y
     ·rw [List.mem_singleton.mp y];exact hk
   have e:tk cs srow os as k = (os.set k (srow.getD k none),as ++ [k]):=by unfold tk;rw [if_pos hz]
   rw [e] at q
   exact ⟨_,rfl,R.A,_,_,_,_,rfl,hsm3 _ _ hA,T.cl_Asking,T.no_Asking_row,zs_ _ _ _ _ _,_,rfl,R.rl,_,_,_,rfl,rfl,SqL.of qc_,qr_ (jB_ (yD_ (by rw [List.length_set,J.osl];exact hk))),q _ J3⟩
  | false =>
   refine ⟨_,rfl,ite2 (fun y=>by cases y) (fun _=>?_)⟩
   have e:tk cs srow os as k = (os,as):=by unfold tk;rw [if_neg (by rw [hz];decide)]
   rw [e] at q
   exact ⟨_,rfl,R.A,_,_,_,_,rfl,J.sm _ _ hA,T.cl_Asking,T.no_Asking_row,zs_ _ _ _ _ _,_,rfl,R.rl,_,_,_,rfl,rfl,SqL.of J.hr,qr_ (jB_ (yD_ (by rw [J.osl];exact hk))),q _ J⟩
end
theorem qfp_ (ns:List Int):preSum (fun i=>ns.getD i 0) ns.length = ns.sum:=by
 have h:∀ (f:Nat->Int) (j:Nat),preSum f j = ((List.range j).map f).sum:=fun f j=>by
  induction j with
  | zero=>rfl
  | succ j ih =>
   have e:preSum f (j + 1) = preSum f j + f j:=rfl
   rw [e,ih,List.range_succ,List.map_append,List.sum_append]
   simp
 rw [h]
 congr 1
 apply List.ext_getElem?
 intro i
 rw [List.getElem?_map]
 by_cases hi:i < ns.length
 ·rw [List.getElem?_range hi,List.getElem?_eq_getElem hi,Option.map_some,List.getD_eq_getElem?_getD,List.getElem?_eq_getElem hi]
  rfl
 ·rw [List.getElem?_eq_none (by rw [List.length_range];omega),List.getElem?_eq_none (by omega)]
  rfl
theorem qfq_ {X:Cx} (hc:X.calm = true):yE_ X (.builtin "sum") (fun xs H Q=>∃ (p:Addr) (ns:List Int),xs = [.ref p] ∧ SqL X.K H p (ns.map V.int) ∧ ns.length ≤ 1000 ∧ (∀ y ∈ ns,0 ≤ y ∧ y ≤ 1000000) ∧ Q (.int ns.sum) H):=by
 intro pins s σ H xs us Q I r h
 obtain ⟨p,ns,rfl,hq,hn,hb,q⟩:=h
 obtain ⟨u,rfl,rx⟩:=zb_ r
 cases rx
 obtain ⟨its,rv,⟨o,nn,e1,e2,e3,e4⟩,hz⟩:=I.list hq
 have hne:p ≠ s.heap.objs.size:=Nat.ne_of_lt (Heap.lt_size e1)
 have hl:its.toArray.size = ns.length:=by
  have:=rv.length
  rw [List.length_map] at this
  simp [this]
 have hv:∀ j,0<=ns.getD j 0/\ns.getD j 0<=1000000:=fun j=>by
  by_cases hj:j < ns.length
  ·rw [List.getD_eq_getElem?_getD,List.getElem?_eq_getElem hj]
   exact hb _ (List.getElem_mem hj)
  ·rw [List.getD_eq_getElem?_getD,List.getElem?_eq_none (by omega)]
   exact ⟨by decide,by decide⟩
 have hs:∀ j,0<=preSum (fun i=>ns.getD i 0) j/\preSum (fun i=>ns.getD i 0) j<=1000000 * (j:Int)/\∀ i,i < j->ns.getD i 0<=preSum (fun i=>ns.getD i 0) j:=fun j=>by
  induction j with
  | zero=>exact ⟨Int.le_refl _,Int.le_refl _,fun i h=>absurd h (Nat.not_lt_zero _)⟩
  | succ j ih =>
   have e:preSum (fun i=>ns.getD i 0) (j + 1) = preSum (fun i=>ns.getD i 0) j + ns.getD j 0:=rfl
   have:=hv j
   rw [e]
   refine ⟨by omega,by omega,fun i h=>?_⟩
   by_cases y:i = j
   ·subst y;omega
   ·have:=ih.2.2 i (by omega)
    omega
 refine call_sum_walk (wpAny_pyIter_list ⟨o,e1,e2,nn,e4⟩ ?_)
 refine ⟨_,_,_,_,_,_,fun i=>ns.getD i 0,rfl,Walks.list (A:=X.A.in1) (show X.A.in1.handled = none from I.ok.hd hc) s.heap.objs.size p hne its.toArray,⟨⟨_,Heap.get?_push_size _ rfl,rfl,rfl⟩,⟨o,Heap.get?_push_of_some _ e1,e2,nn,e4⟩⟩,fun b hb=>?_,fun i v hv=>zQ_ rv hv,fun j hj=>?_,fun h' tk t' kp=>?_⟩
 ·show b < (s.heap.push _).objs.size
  rw [Heap.size_push]
  rcases List.mem_cons.mp hb with z | z
  ·rw [z];exact Nat.lt_succ_self _
  ·rw [List.mem_singleton.mp z];exact Nat.lt_succ_of_lt (Heap.lt_size e1)
 ·have h1:=hv j
  have h2:=hs (j + 1)
  rw [hl] at hj
  have h3:=h2.2.1
  have h4:=h2.1
  show InLong (ns.getD j 0)/\InLong (preSum (fun i=>ns.getD i 0) (j + 1))
  generalize preSum (fun i=>ns.getD i 0) (j + 1) = pp at h3 h4
  unfold InLong
  omega
 ·rw [hl]
  rw [<- qfp_] at q
  exact ⟨.int _,H,I.kept (t':=tk) fun b o e=>kp b o (fun z=>by rw [List.mem_singleton.mp z] at e;exact absurd (Heap.lt_size e) (Nat.lt_irrefl _)) (Heap.get?_push_of_some _ e),⟨_,rfl⟩,q⟩
section
variable {P:Program}{wo:World}{K:PySem.W.Frag}{mg:Str->Option Value}{base:Heap}{a:Adr}
theorem qkm_ (os:List (Option Nat)):((List.range os.length).map fun i=>V.bl (os.getD i none).isSome) = knV (knO os):=by
 unfold knV knO
 apply List.ext_getElem?
 intro i
 rw [List.getElem?_map,List.getElem?_map,List.getElem?_map]
 by_cases hi:i < os.length
 ·rw [List.getElem?_range hi,List.getElem?_eq_getElem hi]
  have eg:os.getD i none = os[i]:=by rw [List.getD_eq_getElem?_getD,List.getElem?_eq_getElem hi];rfl
  dsimp only [Option.map]
  rw [eg]
 ·rw [List.getElem?_eq_none (by rw [List.length_range];omega),List.getElem?_eq_none (by omega)]
  rfl
theorem yy_ (os:List (Option Nat)):(knO os).length = os.length:=by unfold knO;rw [List.length_map]
def qi9_ (a:Adr):Sp:=fun vs H Q _=>∃ (H0:Hp) (R:AskR) (r w n M N:Nat) (l:Nat->Nat->Nat) (cs srow os:List (Option Nat)) (as:List Nat),vs = [.ref R.A]/\AskI a H0 R r w n M N l cs srow/\AskM a H0 H R (N + M) os as/\∀ D H',Same H H'->H D = none->H' D = some (.lst (knV (knO os)))->Q (.ref D) H'
theorem zw_ (T:Txt K mg a):FnOk P wo K mg base CX0 1 a.f_Asking_known a.d_Asking_known ["self"] (qi9_ a):=by
 refine T.F_Asking_known.ok (k:=0) ui_ (fun vs H Q E h=>?_) (fun cdv A outer s H vs Q E hr h=>?_)
 ·obtain ⟨H0,R,r,w,n,M,N,l,cs,srow,os,as,rfl,_⟩:=h
  rfl
 ·obtain ⟨H0,R,r,w,n,M,N,l,cs,srow,os,as,rfl,I,J,q⟩:=h
  obtain ⟨dx,hA⟩:=I.obj
  have n8:=I.W.n8
  have hosl:=J.osl
  refine ⟨_,(qg_ (qq_ (jM_ (CompOk.of (cap:=[]) (own:=["block"]) (by kernel_rfl)) rfl (q7_ (qC_ (pv 0) rfl)) (fun _ _ _ _ _=>(qo_ (i:=0) (of_decide_eq_true (by kernel_rfl)) rfl (Or.inl rfl))) (fun _ _ _ _ _=>jw_) (fun _ _ _ _ _=>by exact (yn_ zf_ (pv 0) jo_ (qu_ _)))))),?_⟩
  refine ⟨_,rfl,R.A,_,_,_,_,rfl,J.sm _ _ hA,T.cl_Asking,T.no_Asking_row,zs_ _ _ _ _ _,R.rl,rfl,⟨_,SqL.of J.hr⟩,fun kn nkn=>?_⟩
  refine j8_ (xs:=rowO os) (f:=fun i=>.bl (os.getD i none).isSome) (cs:=[]) (SqL.of J.hr) nkn rfl (by rw [qN_];exact Nat.le_trans (by omega:os.length<=8) (by decide)) (fun i u H2 R2 hu s2 hR=>?_) (fun H2 s2 hkn=>?_)
  ·have hi:i < os.length:=by rw [<- qN_];exact (List.getElem?_eq_some_iff.mp hu).1
   rw [jB_ (yD_ hi)] at hu
   cases Option.some.inj hu
   refine ⟨_,rfl,rfl,?_⟩
   rw [uG_]
   exact hR _ (Same.refl _)
  rw [qN_,qkm_] at hkn
  exact q kn H2 s2 nkn hkn
def qhf_ (K:PySem.W.Frag) (a:Adr):Sp:=fun vs H Q _=>∃ (H0:Hp) (R:AskR) (so:Addr) (r w n M N:Nat) (l:Nat->Nat->Nat) (cs srow os:List (Option Nat)) (as rs:List Nat),vs = [.ref R.A,.ref so]/\AskI a H0 R r w n M N l cs srow/\AskM a H0 H R (N + M) os as/\SqL K H so (rowV rs)/\(∀ k ∈ rs,k < N + M)/\∀ H',Same H H'->Q (.bl (rs.all (fx r w M N l (knO os)))) H'
theorem un_ (T:Txt K mg a):FnOk P wo K mg base CX0 10 a.f_Asking_fixes a.d_Asking_fixes ["self", "some"] (qhf_ K a):=by
 have G_Asking_known:FnOk P wo K mg base CX0 9 _ _ _ _:=(zw_ T).mono (by decide)
 have G_fixes_all:FnOk P wo K mg base CX0 9 _ _ _ _:=vg_ T
 refine T.F_Asking_fixes.ok (k:=9) uj_ (fun vs H Q E h=>?_) (fun cdv A outer s H vs Q E hr h=>?_)
 ·obtain ⟨H0,R,so,r,w,n,M,N,l,cs,srow,os,as,rs,rfl,_⟩:=h
  rfl
 ·obtain ⟨H0,R,so,r,w,n,M,N,l,cs,srow,os,as,rs,rfl,I,J,hso,hrs,q⟩:=h
  obtain ⟨dx,hA⟩:=I.obj
  refine ⟨_,(qg_ (qq_ (qx_ G_fixes_all (hr.mono (by decide)) rfl T.m_fixes_all T.k_fixes_all T.b_fixes_all .nil qp_ (qa_ (qC_ (pv 0) rfl) (qa_ (zL_ (pv 0) T.cl_Asking T.me_Asking_known G_Asking_known (hr.mono (by decide)) T.b_Asking_known .nil qp_) (qa_ (pv 1) qe_)))))),?_⟩
  refine ⟨_,rfl,R.A,_,_,_,_,rfl,J.sm _ _ hA,T.cl_Asking,T.no_Asking_code,vv_ _ _ _ _ _,_,rfl,R.A,dx,_,rfl,J.sm _ _ hA,rfl,H0,R,r,w,n,M,N,l,cs,srow,os,as,rfl,I,J,fun D H1 s1 nD hD=>?_⟩
  exact ⟨_,rfl,R.c,R.bp,R.fp,D,so,r,w,n,M,N,l,knO os,rs,rfl,I.code.same (J.sm.trans s1),I.full,I.W,hD,by rw [yy_,J.osl],s1.seq hso,hrs,fun H' s'=>q H' (s1.trans s')⟩
def qfr_ (K:PySem.W.Frag) (a:Adr):Sp:=fun vs H Q _=>∃ (H0:Hp) (R:AskR) (so:Addr) (r w n M N:Nat) (l:Nat->Nat->Nat) (cs srow os:List (Option Nat)) (as rs:List Nat),vs = [.ref R.A,.ref so]/\AskI a H0 R r w n M N l cs srow/\AskM a H0 H R (N + M) os as/\SqL K H so (rowV rs)/\rs.length<=8/\(∀ k ∈ rs,k < N + M/\(cs.getD k none).isSome = true/\(cs.getD k none).getD 0<=1000000)/\∀ H',Same H H'->Q (.int (((rs.map fun k=>(((cs.getD k none).getD 0:Nat):Int)).sum:Int))) H'
theorem vi_ (T:Txt K mg a):FnOk P wo K mg base CX0 1 a.f_Asking_cost_sum a.d_Asking_cost_sum ["self", "some"] (qfr_ K a):=by
 refine T.F_Asking_cost_sum.ok (k:=0) vb_ (fun vs H Q E h=>?_) (fun cdv A outer s H vs Q E hr h=>?_)
 ·obtain ⟨H0,R,so,r,w,n,M,N,l,cs,srow,os,as,rs,rfl,_⟩:=h
  rfl
 ·obtain ⟨H0,R,so,r,w,n,M,N,l,cs,srow,os,as,rs,rfl,I,J,hso,hrl,hrs,q⟩:=h
  obtain ⟨dx,hA⟩:=I.obj
  refine ⟨_,(qg_ (qq_ (qy_ (qfq_ rfl) rfl T.n_sum PyProof.Rows.Boot.sum (qa_ (jM_ (CompOk.of (cap:=[0]) (own:=["role"]) (by kernel_rfl)) rfl (q7_ (pv 1)) (fun _ _ _ _ _=>(qo_ (i:=1) (of_decide_eq_true (by kernel_rfl)) rfl (Or.inl rfl))) (fun _ _ _ _ _=>jw_) (fun _ _ _ _ _=>by exact (qz_ (jU_ (K:=K) rfl) (uw_ (K:=K) rfl (pv 0) rfl) (pv 1) (fun _ _=>rfl)))) qe_)))),?_⟩
  refine ⟨_,rfl,so,rfl,⟨_,hso⟩,fun D nD=>?_⟩
  refine j8_ (xs:=rowV rs) (f:=fun i=>.int (((cs.getD (rs.getD i 0) none).getD 0:Nat):Int)) (cs:=[some (.ref R.A)]) hso nD rfl (by rw [qk_];exact Nat.le_trans hrl (by decide)) (fun i u H2 R2 hu s2 hR=>?_) (fun H2 s2 hD=>?_)
  ·obtain ⟨k,ek,rfl⟩:=je_ hu
   obtain ⟨h1,h2,h3⟩:=hrs k (List.mem_of_getElem? ek)
   have eg:rs.getD i 0 = k:=by rw [List.getD_eq_getElem?_getD,ek];rfl
   rw [eg] at hR
   have ev:valO (cs.getD k none) = .int (((cs.getD k none).getD 0:Nat):Int):=by
    cases hz:cs.getD k none with
    | none=>rw [hz] at h2;cases h2
    | some b=>rfl
   have gi:=qr_ (jB_ (yD_ (os:=cs) (k:=k) (by rw [I.csl];exact h1)))
   rw [ev] at gi
   exact ⟨_,rfl,R.A,_,_,_,_,rfl,s2 _ _ (J.sm _ _ hA),T.cl_Asking,T.no_Asking_costs,zr_ _ _ _ _ _,_,rfl,R.cl,_,_,_,rfl,rfl,SqL.of (s2 _ _ (J.sm _ _ I.cost)),gi,hR _ (Same.refl _)⟩
  rw [qk_] at hD
  have ex:((List.range rs.length).map fun i=>V.int (((cs.getD (rs.getD i 0) none).getD 0:Nat):Int)) = (rs.map fun k=>(((cs.getD k none).getD 0:Nat):Int)).map V.int:=by
   rw [List.map_map]
   apply List.ext_getElem?
   intro i
   rw [List.getElem?_map,List.getElem?_map]
   by_cases hi:i < rs.length
   ·rw [List.getElem?_range hi,List.getElem?_eq_getElem hi]
    have eg:rs.getD i 0 = rs[i]:=by rw [List.getD_eq_getElem?_getD,List.getElem?_eq_getElem hi];rfl
    dsimp only [Option.map]
    rw [eg]
    rfl
   ·rw [List.getElem?_eq_none (by rw [List.length_range];omega),List.getElem?_eq_none (by omega)]
    rfl
  rw [ex] at hD
  refine ⟨D,_,rfl,SqL.of hD,by rw [List.length_map];omega,fun y hy=>?_,q H2 s2⟩
  obtain ⟨k,hk,rfl⟩:=List.mem_map.mp hy
  have:=(hrs k hk).2.2
  omega
def qfs_ (a:Adr):Sp:=fun vs H Q _=>∃ (H0:Hp) (R:AskR) (r w n M N k:Nat) (l:Nat->Nat->Nat) (cs srow os:List (Option Nat)) (as X:List Nat),vs = [.ref R.A,.int k]/\AskI a H0 R r w n M N l cs srow/\AskM a H0 H R (N + M) os as/\k < N + M/\X.length = N + M/\(∀ b ∈ X,b < (2 ^ w) ^ n)/\isMk r w n M N l X = true/\yd_ (N + M) os X/\∀ H',Same H H'->Q (if fx r w M N l (knO os) k = true then .int ((X.getD k 0:Nat):Int) else .non) H'
theorem vj_ (T:Txt K mg a):FnOk P wo K mg base CX0 9 a.f_Asking_block_of a.d_Asking_block_of ["self", "role"] (qfs_ a):=by
 have G_Code_reckoned:FnOk P wo K mg base CX0 8 _ _ _ _:=vW_ T
 refine T.F_Asking_block_of.ok (k:=8) vc_ (fun vs H Q E h=>?_) (fun cdv A outer s H vs Q E hr h=>?_)
 ·obtain ⟨H0,R,r,w,n,M,N,k,l,cs,srow,os,as,X,rfl,_⟩:=h
  rfl
 ·obtain ⟨H0,R,r,w,n,M,N,k,l,cs,srow,os,as,X,rfl,I,J,hk,hX,hlt,hm,hag,q⟩:=h
  obtain ⟨dx,hA⟩:=I.obj
  have hC:=I.code.same J.sm
  obtain ⟨dc,Lp,qs,hc,_,_⟩:=id hC.ins
  refine ⟨_,(qg_ (qq_ (qF_ (by exact (qC_ (pv 0) rfl)) T.cl_Code T.me_Code_reckoned G_Code_reckoned (hr.mono (by decide)) T.b_Code_reckoned .nil qp_ (qa_ (qC_ (pv 0) rfl) (qa_ (pv 1) qe_))))),?_⟩
  refine ⟨_,rfl,R.A,_,_,_,_,rfl,J.sm _ _ hA,T.cl_Asking,T.no_Asking_code,vv_ _ _ _ _ _,R.c,dc,_,rfl,hc,rfl,_,rfl,R.A,_,_,_,_,rfl,J.sm _ _ hA,T.cl_Asking,T.no_Asking_row,zs_ _ _ _ _ _,_,rfl,?_⟩
  refine ⟨R.c,R.bp,R.fp,R.rl,r,w,n,M,N,k,l,os,rfl,hC,I.full,I.n16,I.W,J.hr,J.osl,hk,fun b hb=>?_,fun hz H' s'=>⟨fun by' hr'=>?_,fun mk hf=>?_⟩⟩
  ·have e:fx r w M N l (knO os) k = true:=by
    unfold fx
    rw [List.getD_eq_getElem?_getD,qg8_ (by rw [J.osl];exact hk) hb]
    rfl
   have:=q H (Same.refl _)
   rw [e,if_pos rfl,hag k hk b hb] at this
   exact this
  ·have kz:=zT_ (by rw [J.osl];exact hk) hz
   have kg:(knO os).getD k false = false:=by rw [List.getD_eq_getElem?_getD,kz];rfl
   have e:fx r w M N l (knO os) k = true:=by
    unfold fx
    rw [u2_ I.full I.W (by rw [yy_,J.osl]) hk kg hr',Bool.or_true]
   have:=q H' s'
   rw [e,if_pos rfl,← tells_make I.full.toGood I.W J.osl hX hlt hk hz hm hag hr'] at this
   exact this
  ·have kz:=zT_ (by rw [J.osl];exact hk) hz
   have kg:(knO os).getD k false = false:=by rw [List.getD_eq_getElem?_getD,kz];rfl
   have e:fx r w M N l (knO os) k = false:=by
    unfold fx
    rw [u3_ I.full I.W (by rw [yy_,J.osl]) hk kg hf,kg]
    rfl
   have:=q H' s'
   rw [e,if_neg (by decide)] at this
   exact this
def jQ_ (cs srow:List (Option Nat)):List Nat->List (Option Nat)->List Nat->List (Option Nat) × List Nat
 | [],os,as=>(os,as)
 | k :: ks,os,as=>if ((tk cs srow os as k).1.getD k none).isSome = true then jQ_ cs srow ks (tk cs srow os as k).1 (tk cs srow os as k).2 else tk cs srow os as k
def qja_ (K:PySem.W.Frag) (a:Adr):Sp:=fun vs H Q _=>∃ (H0:Hp) (R:AskR) (so:Addr) (r w n M N:Nat) (l:Nat->Nat->Nat) (cs srow os:List (Option Nat)) (as rs:List Nat),vs = [.ref R.A,.ref so]/\AskI a H0 R r w n M N l cs srow/\AskM a H0 H R (N + M) os as/\SqL K H0 so (rowV rs)/\(∀ k ∈ rs,k < N + M)/\∀ H',AskM a H0 H' R (N + M) (jQ_ cs srow rs os as).1 (jQ_ cs srow rs os as).2->Q .non H'
theorem zW_ (T:Txt K mg a):FnOk P wo K mg base CX0 3 a.f_Asking_take_along a.d_Asking_take_along ["self", "some"] (qja_ K a):=by
 have G_Asking_take:FnOk P wo K mg base CX0 2 _ _ _ _:=zI_ T
 refine T.F_Asking_take_along.ok (k:=2) sc_Asking_take_along (fun vs H Q E h=>?_) (fun cdv A outer s H vs Q E hr h=>?_)
 ·obtain ⟨H0,R,so,r,w,n,M,N,l,cs,srow,os,as,rs,rfl,_⟩:=h
  rfl
 ·obtain ⟨H0,R,so,r,w,n,M,N,l,cs,srow,os,as,rs,rfl,I,J,hso,hrs,q⟩:=h
  obtain ⟨dx,hA⟩:=I.obj
  refine ⟨_,(qg_ (qK_ PassesOwn.never rfl (q7_ (pv 1)) (qo_ (i:=2) sc_Asking_take_along.nd rfl (Or.inl rfl)) (qg_ (qD_ (qt_ z1_ (qF_ (pv 0) T.cl_Asking T.me_Asking_take G_Asking_take (hr.mono (by decide)) T.b_Asking_take .nil qp_ (qa_ (pv 2) qe_)) jo_ (qu_ _)) (qg_ qf8_) qA_)))),?_⟩
  refine ⟨_,rfl,so,rfl,⟨_,J.sm.seq hso⟩,?_⟩
  refine j6_ (xs:=rowV rs) (fun i σ H'=>(∃ v2:Option V,σ = [some (.ref R.A),some (.ref so),v2])/\∃ os' as',AskM a H0 H' R (N + M) os' as'/\jQ_ cs srow rs os as = jQ_ cs srow (rs.drop i) os' as') ⟨⟨none,rfl⟩,os,as,J,rfl⟩ ?_ ?_ ?_
  ·rintro i σ H' _ ⟨_,_,_,J',_⟩
   exact J'.sm.seq hso
  ·rintro i x σ H' hx ⟨⟨v2,rfl⟩,os',as',J',e'⟩
   obtain ⟨k,ek,rfl⟩:=je_ hx
   have hk:=hrs k (List.mem_of_getElem? ek)
   have hi:=(List.getElem?_eq_some_iff.mp ek).1
   have ed:rs.drop i = k :: rs.drop (i + 1):=by
    rw [List.drop_eq_getElem_cons hi,(List.getElem?_eq_some_iff.mp ek).2]
   refine ⟨_,rfl,R.A,dx,_,rfl,J'.sm _ _ hA,rfl,_,rfl,H0,R,r,w,n,M,N,k,l,cs,srow,os',as',rfl,I,J',hk,fun H2 J2=>?_⟩
   refine ⟨rfl,_,rfl,?_⟩
   rw [ed] at e'
   have e2:jQ_ cs srow (k :: rs.drop (i + 1)) os' as' = if ((tk cs srow os' as' k).1.getD k none).isSome = true then jQ_ cs srow (rs.drop (i + 1)) (tk cs srow os' as' k).1 (tk cs srow os' as' k).2 else tk cs srow os' as' k:=rfl
   rw [e2] at e'
   cases hz:(tk cs srow os' as' k).1.getD k none with
   | none =>
    refine ite2 (fun _=>?_) (fun y=>absurd rfl y)
    rw [hz,if_neg (by decide)] at e'
    rw [e'] at q
    exact q H2 J2
   | some b =>
    refine ite2 (fun y=>absurd (of_decide_eq_true y) (fun z=>by cases z)) (fun _=>?_)
    rw [hz,if_pos (show (some b).isSome = true from rfl)] at e'
    exact ⟨⟨_,rfl⟩,_,_,J2,e'⟩
  ·rintro σ H' ⟨⟨v2,rfl⟩,os',as',J',e'⟩
   rw [qk_,List.drop_length] at e'
   rw [e'] at q
   exact q H' J'
end
def ckO (cs:List (Option Nat)) (k:Nat):Int:=(((cs.getD k none).getD 0:Nat):Int)
section
variable {P:Program}{wo:World}{K:PySem.W.Frag}{mg:Str->Option Value}{base:Heap}{a:Adr}
def qjb_ (a:Adr):Sp:=fun vs H Q _=>∃ (H0:Hp) (R:AskR) (r w n M N:Nat) (l:Nat->Nat->Nat) (cs srow os:List (Option Nat)) (as:List Nat),vs = [.ref R.A]/\AskI a H0 R r w n M N l cs srow/\AskM a H0 H R (N + M) os as ∧
 ∀ D H' ms,AskM a H0 H' R (N + M) os as->(∀ b o,b ≠ a.t_Asking_order->H b = some o->H' b = some o)->H D = none->H' D = some (.lst (rowV ms))->ms.Perm ((List.range (N + M)).filter (mayB cs as))->ms.Pairwise (klt (ckO cs))->Q (.ref D) H'
theorem uo_ (T:Txt K mg a) (B:Tb base mg a):FnOk P wo K mg base CX0 5 a.f_Asking_order a.d_Asking_order ["self"] (qjb_ a):=by
 have G_Asking_may:FnOk P wo K mg base CX0 4 _ _ _ _:=(y9_ T).mono (by decide)
 refine T.F_Asking_order.ok (k:=4) sc_Asking_order (fun vs H Q E h=>?_) (fun A outer s H vs Q E hr h=>?_)
 ·obtain ⟨H0,R,r,w,n,M,N,l,cs,srow,os,as,rfl,_⟩:=h
  rfl
 ·obtain ⟨H0,R,r,w,n,M,N,l,cs,srow,os,as,rfl,I,J,q⟩:=h
  obtain ⟨dx,hA⟩:=I.obj
  have n8:=I.W.n8
  have hC:=I.code.same J.sm
  obtain ⟨dc,Lp,qs,hc,_,_⟩:=id hC.ins
  refine ⟨_,(qd_ (zG_ (i:=1) sc_Asking_order.nd rfl (Or.inl rfl) (CompOk.of (cap:=[0]) (own:=["role"]) (by kernel_rfl)) rfl (qW_ rfl T.n_range (qa_ (qC_ (qC_ (pv 0) rfl) rfl) qe_)) (fun _ _ _ _ _=>(qo_ (i:=1) (of_decide_eq_true (by kernel_rfl)) rfl (Or.inl rfl))) (fun _ _ _ _ _=>(ut_ (jR_ (qF_ (pv 0) T.cl_Asking T.me_Asking_may G_Asking_may (hr.mono (by decide)) T.b_Asking_may .nil qp_ (qa_ (pv 1) qe_))))) (fun _ _ _ _ _=>by exact (pv 1)))
   (qg_ (qq_ (qgx_ (k:=0) (p:="role") (y:="self") (j:=0) (T.F_Asking_order.tab B.b_Asking_order B.n_Asking_order) rfl (hr.mono (by decide)) rfl T.n_sorted (pv 1) ⟨rfl,rfl,rfl,by decide +kernel,rfl,by decide +kernel,by decide +kernel⟩ rfl (by decide +kernel) rfl rfl rfl rfl (fun _ _ _ _=>rfl) (fun _ _ _ _ _ _ hr=>(yB_ (qa_ (qz_ (jU_ (K:=K) rfl) (uw_ (K:=K) rfl (pv 1) rfl) (pv 0) (fun _ _=>rfl)) (qa_ (pv 0) qe_)))))))),?_⟩
  refine ⟨_,rfl,R.A,_,_,_,_,rfl,J.sm _ _ hA,T.cl_Asking,T.no_Asking_code,vv_ _ _ _ _ _,R.c,_,_,_,_,rfl,hc,T.cl_Code,T.no_Code_roles,zq_ R.bp M N Lp,_,rfl,by omega,by omega,fun fl nfl=>?_⟩
  rw [Int.toNat_natCast]
  refine vD_ (n:=N + M) (f:=fun k=>.int ((k:Nat):Int)) (b:=mayB cs as) (cs:=[some (.ref R.A)]) nfl rfl (Nat.le_trans n8 (by decide)) (fun k H2 R2 hk s2 hR=>?_) (fun k H2 R2 hk hb s2 hR=>?_) (fun H2 s2 hfl=>?_)
  ·refine ⟨_,rfl,R.A,dx,_,rfl,s2 _ _ (J.sm _ _ hA),rfl,_,rfl,H0,R,r,w,n,M,N,k,l,cs,srow,os,as,rfl,I,J.same s2,hk,?_⟩
   exact ⟨_,rfl,hR _ (Same.refl _)⟩
  ·exact ⟨_,rfl,hR _ (Same.refl _)⟩
  have J2:=J.same s2
  have hfl':H2 fl = some (.lst (rowV ((List.range (N + M)).filter (mayB cs as)))):=hfl
  refine ⟨_,rfl,?_⟩
  refine qfn_ (q:=qL) (pos:=posL) J2.tab fun H3 c' fa doc pm ctv k3 t3 n3 hf3 hc3 fr3=>?_
  have ht:∀ {b:Addr}{xs:List V},H2 b = some (.lst xs)->b ≠ a.t_Asking_order:=fun {b xs} e=>by
   obtain ⟨ps,hp,_⟩:=J2.tab
   exact y2_ e hp (fun y=>by cases y)
  have h0:∀ {b:Addr}{o:HO},H0 b = some o->b ≠ a.t_Asking_order:=fun {b o} e=>qm_ e I.nt
  have J3:AskM a H0 H3 R (N + M) os as:=⟨fun b o e=>k3 b o (h0 e) (J2.sm b o e),k3 _ _ (ht J2.hr) J2.hr,k3 _ _ (ht J2.hs) J2.hs,k3 _ _ (ht J2.hz) J2.hz,t3,J2.osl,J2.nd,J2.lt⟩
  refine ⟨fl,(List.range (N + M)).filter (mayB cs as),ckO cs,8,.ref R.A,rfl,SqL.of (k3 _ _ (ht hfl') hfl'),List.Pairwise.filter _ List.nodup_range,fun k hk=>?_,?_,rfl,fun k H' hk sm=>?_,fun D H' ms n1 n2 sm pm pw=>?_⟩
  ·have:=List.mem_range.mp (List.mem_filter.mp hk).1
   omega
  ·have:=List.length_filter_le (mayB cs as) (List.range (N + M))
   rw [List.length_range] at this
   omega
  ·have hk1:=List.mem_range.mp (List.mem_filter.mp hk).1
   have hk2:=(List.mem_filter.mp hk).2
   have J':=J3.same sm
   have ev:valO (cs.getD k none) = .int (ckO cs k):=by
    unfold mayB at hk2
    unfold ckO
    cases hz:cs.getD k none with
    | none=>rw [hz] at hk2;cases hk2
    | some b=>rfl
   have gi:=qr_ (jB_ (yD_ (os:=cs) (k:=k) (by rw [I.csl];exact hk1)))
   rw [ev] at gi
   exact ⟨_,rfl,R.A,_,_,_,_,rfl,J'.sm _ _ hA,T.cl_Asking,T.no_Asking_costs,zr_ _ _ _ _ _,_,rfl,R.cl,_,_,_,rfl,rfl,SqL.of (J'.sm _ _ I.cost),gi,_,rfl,(by show 2<=sizeLine;decide),fun p np=>⟨p,rfl,qc_,Same.new np⟩⟩
  ·have s4:Same H3 (upd H' D (.lst (j9_ ms))):=sm.up n1
   refine q D _ ms (J3.same s4) (fun b o hb e=>s4 b o (k3 b o hb (s2 b o e))) ?_ qc_ pm pw
   exact s2.free (fr3 D n1)
end
def knW (ks:List Bool):List Nat->List Bool
 | []=>ks
 | k :: way=>knW (ks.set k true) way
theorem qhg_ (ks:List Bool) (k:Nat):∀ way,knW ks (way ++ [k]) = (knW ks way).set k true:=fun way=>by
 induction way generalizing ks with
 | nil=>rfl
 | cons x way ih=>exact ih _
theorem up_ (ks:List Bool):∀ way,(knW ks way).length = ks.length:=fun way=>by
 induction way generalizing ks with
 | nil=>rfl
 | cons x way ih =>
  show (knW (ks.set x true) way).length = _
  rw [ih,List.length_set]
theorem qjc_ (ks:List Bool) (k:Nat):(knV ks).set k (.bl true) = knV (ks.set k true):=by
 unfold knV
 rw [List.map_set]
theorem zx_ {ms:List Nat}{j k:Nat} (h:ms[j]? = some k):ms.take (j + 1) = ms.take j ++ [k]:=by
 rw [List.take_add_one,h]
 rfl
def vY_ (r w M N:Nat) (l:Nat->Nat->Nat) (ks:List Bool) (rs ms:List Nat) (j:Nat):Prop :=
 j<=ms.length/\rs.all (fx r w M N l (knW ks (ms.take j))) = true/\∀ i,i < j->rs.all (fx r w M N l (knW ks (ms.take i))) = false
def qbj_ (r w M N:Nat) (l:Nat->Nat->Nat) (ks:List Bool) (rs ms:List Nat):Prop:=∀ i,i<=ms.length->rs.all (fx r w M N l (knW ks (ms.take i))) = false
section
variable {P:Program}{wo:World}{K:PySem.W.Frag}{mg:Str->Option Value}{base:Heap}{a:Adr}
def qhh_ (a:Adr):Sp:=fun vs H Q _=>∃ (H0:Hp) (R:AskR) (so:Addr) (r w n M N:Nat) (l:Nat->Nat->Nat) (cs srow os:List (Option Nat)) (as rs:List Nat),vs = [.ref R.A,.ref so]/\AskI a H0 R r w n M N l cs srow/\AskM a H0 H R (N + M) os as/\H so = some (.lst (rowV rs))/\(∀ k ∈ rs,k < N + M) ∧
 ∀ H' ms,AskM a H0 H' R (N + M) os as->(∀ b o,b ≠ a.t_Asking_order->H b = some o->H' b = some o)->ms.Perm ((List.range (N + M)).filter (mayB cs as))->ms.Pairwise (klt (ckO cs)) →
  (∀ D j,vY_ r w M N l (knO os) rs ms j->H D = none->H' D = some (.lst (rowV (ms.take j)))->Q (.ref D) H')/\(qbj_ r w M N l (knO os) rs ms->Q .non H')
theorem vZ_ (T:Txt K mg a) (B:Tb base mg a):FnOk P wo K mg base CX0 10 a.f_Asking_detour a.d_Asking_detour ["self", "some"] (qhh_ a):=by
 have G_Asking_order:FnOk P wo K mg base CX0 9 _ _ _ _:=(uo_ T B).mono (by decide)
 have G_Asking_known:FnOk P wo K mg base CX0 9 _ _ _ _:=(zw_ T).mono (by decide)
 have G_fixes_all:FnOk P wo K mg base CX0 9 _ _ _ _:=vg_ T
 refine T.F_Asking_detour.ok (k:=9) sc_Asking_detour (fun vs H Q E h=>?_) (fun cdv A outer s H vs Q E hr h=>?_)
 ·obtain ⟨H0,R,so,r,w,n,M,N,l,cs,srow,os,as,rs,rfl,_⟩:=h
  rfl
 ·obtain ⟨H0,R,so,r,w,n,M,N,l,cs,srow,os,as,rs,rfl,I,J,hso,hrs,q⟩:=h
  obtain ⟨dx,hA⟩:=I.obj
  have n8:=I.W.n8
  have hst:so ≠ a.t_Asking_order:=by
   obtain ⟨ps,hp,_⟩:=J.tab
   exact y2_ hso hp (fun y=>by cases y)
  refine ⟨_,(qd_ (ql_ (i:=2) sc_Asking_detour.nd rfl (Or.inl rfl) (zL_ (pv 0) T.cl_Asking T.me_Asking_order G_Asking_order (hr.mono (by decide)) T.b_Asking_order .nil qp_))
   (qd_ (ql_ (i:=3) sc_Asking_detour.nd rfl (Or.inl rfl) (zL_ (pv 0) T.cl_Asking T.me_Asking_known G_Asking_known (hr.mono (by decide)) T.b_Asking_known .nil qp_))
   (qd_ (ql_ (i:=4) sc_Asking_detour.nd rfl (Or.inl rfl) (qP_ qe_))
   (qd_ (yH_ PassesOwn.never (yJ_ (jR_ (qx_ G_fixes_all (hr.mono (by decide)) rfl T.m_fixes_all T.k_fixes_all T.b_fixes_all .nil qp_ (qa_ (qC_ (pv 0) rfl) (qa_ (pv 3) (qa_ (pv 1) qe_)))))) (qd_ (qD_ (qt_ jD_ (qy_ qv_ rfl T.n_len PySem.boot_len (qa_ (pv 4) qe_)) (qy_ qv_ rfl T.n_len PySem.boot_len (qa_ (pv 2) qe_)) (qu_ _)) (qg_ (qq_ jo_)) qA_)
   (qd_ (ql_ (i:=5) sc_Asking_detour.nd rfl (Or.inl rfl) (qz_ qB_ (pv 2) (qy_ qv_ rfl T.n_len PySem.boot_len (qa_ (pv 4) qe_)) (fun _ _=>rfl)))
   (qd_ (ye_ yI_ (yi_ (pv 3) (pv 5) jS_))
   (qg_ (qU_ (jW_ PySem.F.plainAttrs_list PySem.F.slot_list_append PySem.F.type_list_append qQ_ (pv 4) (qa_ (pv 5) qe_))))))))
   (qg_ (qq_ (pv 4))))))),?_⟩
  refine ⟨_,rfl,R.A,dx,_,rfl,J.sm _ _ hA,rfl,H0,R,r,w,n,M,N,l,cs,srow,os,as,rfl,I,J,fun D1 H1 ms J1 k1 nD1 hD1 pm pw=>?_⟩
  have q:=fun H' (s:Same H1 H')=>q H' ms (J1.same s) (fun b o hb e=>s b o (k1 b o hb e)) pm pw
  have hso1:=k1 _ _ hst hso
  have ml:ms.length<=8:=by
   rw [pm.length_eq]
   have:=List.length_filter_le (mayB cs as) (List.range (N + M))
   rw [List.length_range] at this
   omega
  have mlt:∀ k ∈ ms,k < N + M:=fun k hk=>List.mem_range.mp (List.mem_filter.mp (pm.mem_iff.mp hk)).1
  refine ⟨_,rfl,R.A,dx,_,rfl,J1.sm _ _ hA,rfl,H0,R,r,w,n,M,N,l,cs,srow,os,as,rfl,I,J1,fun D2 H2 s2 nD2 hD2=>?_⟩
  refine ⟨Nat.zero_le _,fun D3 nD3=>?_⟩
  have d23:D2 ≠ D3:=qm_ hD2 nD3
  have nD3':H1 D3 = none:=s2.free nD3
  have frD:∀ D,H1 D = none->H D = none:=fun D e=>by
   cases z:H D with
   | none=>rfl
   | some o =>
    by_cases y:D = a.t_Asking_order
    ·obtain ⟨ps,hp,_⟩:=J1.tab
     rw [y,hp] at e;cases e
    ·rw [k1 D o y z] at e;cases e
  have hD3:(upd H2 D3 (.lst [])) D3 = some (.lst (rowV (ms.take 0))):=qc_
  have hD2':(upd H2 D3 (.lst [])) D2 = some (.lst (knV (knW (knO os) (ms.take 0)))):=by rw [qf_ d23];exact hD2
  have s3:Same H1 (upd H2 D3 (.lst [])):=s2.up nD3'
  generalize (upd H2 D3 (.lst [])) = H3 at hD3 hD2' s3
  refine ⟨fun m σ H'=>∃ (j:Nat) (v5:Option V),m = ms.length - j/\j<=ms.length/\σ = [some (.ref R.A),some (.ref so),some (.ref D1),some (.ref D2),some (.ref D3),v5]/\Same H1 H'/\H' D2 = some (.lst (knV (knW (knO os) (ms.take j))))/\H' D3 = some (.lst (rowV (ms.take j)))/\∀ i,i < j->rs.all (fx r w M N l (knW (knO os) (ms.take i))) = false,
   ⟨_,0,none,rfl,Nat.zero_le _,rfl,s3,hD2',hD3,fun i hi=>absurd hi (Nat.not_lt_zero i)⟩,?_⟩
  rintro m σ H' ⟨j,v5,rfl,hj,rfl,sm,h2,h3,hno⟩
  have J':=J1.same sm
  refine ⟨_,rfl,R.A,_,_,_,_,rfl,J'.sm _ _ hA,T.cl_Asking,T.no_Asking_code,vv_ _ _ _ _ _,_,rfl,_,rfl,?_⟩
  refine ⟨R.c,R.bp,R.fp,D2,so,r,w,n,M,N,l,knW (knO os) (ms.take j),rs,rfl,I.code.same J'.sm,I.full,I.W,h2,by rw [up_,yy_,J.osl],SqL.of (sm _ _ hso1),hrs,fun H4 s4=>?_⟩
  refine ⟨_,rfl,?_⟩
  have sm4:=sm.trans s4
  cases hz:rs.all (fx r w M N l (knW (knO os) (ms.take j))) with
  | true =>
   refine ite2 (fun y=>absurd y (by decide)) (fun _=>?_)
   exact ⟨_,rfl,(q H4 sm4).1 D3 j ⟨hj,hz,hno⟩ (frD D3 nD3') (s4 _ _ h3)⟩
  | false =>
   refine ite2 (fun _=>⟨_,fun _ _ z=>z,?_⟩) (fun y=>absurd rfl y)
   refine ⟨_,rfl,D3,_,rfl,.inl (SqL.of (s4 _ _ h3)),_,rfl,D1,_,rfl,.inl (SqL.of (sm4 _ _ hD1)),rfl,_,rfl,?_⟩
   have e1:(rowV (ms.take j)).length = j:=by rw [qk_,List.length_take];omega
   rw [e1,qk_]
   by_cases hjm:j = ms.length
   ·refine ite2 (fun _=>?_) (fun y=>absurd (decide_eq_true (by rw [hjm])) y)
    refine (q H4 sm4).2 fun i hi=>?_
    by_cases y:i = j
    ·rw [y];exact hz
    ·exact hno i (by omega)
   ·refine ite2 (fun y=>absurd (V.int.inj (of_decide_eq_true y)) (by omega)) (fun _=>?_)
    have hjl:j < ms.length:=by omega
    have gk:ms[j]? = some ms[j]:=List.getElem?_eq_getElem hjl
    have hk:=mlt _ (List.getElem_mem hjl)
    have ek:(rowV ms)[j]? = some (.int (ms[j]:Nat)):=qba_ hjl
    refine ⟨_,rfl,_,rfl,D3,_,rfl,.inl (SqL.of (s4 _ _ h3)),?_⟩
    rw [e1]
    refine ⟨D1,_,_,_,rfl,rfl,SqL.of (sm4 _ _ hD1),qr_ ek,?_⟩
    refine ⟨_,rfl,_,rfl,D2,_,_,ms[j],rfl,rfl,s4 _ _ h2,j4_ (by unfold knV;rw [List.length_map,up_,yy_,J.osl];exact hk),?_⟩
    rw [qjc_,← qhg_,← zx_ gk]
    have h3':(upd H4 D2 (.lst (knV (knW (knO os) (ms.take (j + 1)))))) D3 = some (.lst (rowV (ms.take j))):=by
     rw [qf_ (Ne.symm d23)]
     exact s4 _ _ h3
    have fits:(rowV (ms.take j)).length < sizeLine:=by
     rw [e1]
     exact Nat.lt_of_lt_of_le (by omega:j < 8) (by decide)
    refine ⟨_,rfl,.inl ⟨rfl,_,SqL.of h3'⟩,_,rfl,D3,_,_,rfl,rfl,h3',fits,?_⟩
    rw [jx_,← zx_ gk]
    refine ⟨ms.length - (j + 1),by omega,j + 1,_,rfl,hjl,rfl,(sm4.up nD2).up nD3',?_,qc_,fun i hi=>?_⟩
    ·rw [qf_ d23];exact qc_
    ·by_cases y:i = j
     ·rw [y];exact hz
     ·exact hno i (by omega)
end
theorem AskI.ext {a:Adr}{H0:Hp}{R:AskR}{r w n M N:Nat}{l:Nat->Nat->Nat}{cs srow:List (Option Nat)}{D:Addr}{o:HO} (I:AskI a H0 R r w n M N l cs srow) (nD:H0 D = none) (h1:R.rl ≠ D) (h2:R.sl ≠ D) (h3:R.z ≠ D) (h4:a.t_Asking_order ≠ D):AskI a (upd H0 D o) R r w n M N l cs srow:=by
 have s:=Same.new (o:=o) nD
 obtain ⟨dx,hA⟩:=I.obj
 exact ⟨I.code.same s,I.full,I.n16,I.W,⟨dx,s _ _ hA⟩,s _ _ I.cost,I.csl,I.asker.same s,s _ _ I.row,I.srl,by rw [qf_ h1];exact I.nrl,by rw [qf_ h2];exact I.nsl,by rw [qf_ h3];exact I.nz,by rw [qf_ h4];exact I.nt,I.d1,I.d2,I.d3⟩
theorem AskM.ext {a:Adr}{H0 H:Hp}{R:AskR}{n:Nat}{os:List (Option Nat)}{as:List Nat}{D:Addr}{o:HO} (J:AskM a H0 H R n os as) (hD:H D = some o):AskM a (upd H0 D o) H R n os as :=
 ⟨fun b u e=>by
  by_cases z:b = D
  ·rw [z,qc_] at e
   cases e
   rw [z];exact hD
  ·rw [qf_ z] at e
   exact J.sm b u e,J.hr,J.hs,J.hz,J.tab,J.osl,J.nd,J.lt⟩
theorem AskM.base {a:Adr}{H0 H0' H:Hp}{R:AskR}{n:Nat}{os:List (Option Nat)}{as:List Nat} (J:AskM a H0' H R n os as) (s:Same H0 H0'):AskM a H0 H R n os as:=⟨s.trans J.sm,J.hr,J.hs,J.hz,J.tab,J.osl,J.nd,J.lt⟩
theorem AskM.away {a:Adr}{H0 H:Hp}{R:AskR}{n:Nat}{os:List (Option Nat)}{as:List Nat}{D:Addr} (J:AskM a H0 H R n os as) (nD:H D = none):R.rl ≠ D/\R.sl ≠ D/\R.z ≠ D/\a.t_Asking_order ≠ D:=by
 obtain ⟨ps,hp,_⟩:=J.tab
 exact ⟨qm_ J.hr nD,qm_ J.hs nD,qm_ J.hz nD,qm_ hp nD⟩
section
variable (r w M N:Nat) (l:Nat->Nat->Nat) (cs srow:List (Option Nat)) (k:Nat)
def sumC (cs:List (Option Nat)) (rs:List Nat):Int:=(rs.map fun k=>ckO cs k).sum
inductive RdS:List (Option Nat)->List Nat->List (Option Nat)->List Nat->Bool->Prop
 | fixed {os as}:fx r w M N l (knO os) k = true->RdS os as os as true
 | none {os as ms}:fx r w M N l (knO os) k = false->ms.Perm ((List.range (N + M)).filter (mayB cs as))->ms.Pairwise (klt (ckO cs))->qbj_ r w M N l (knO os) [k] ms->RdS os as os as false
 | own {os as ms j os' as' b}:fx r w M N l (knO os) k = false->ms.Perm ((List.range (N + M)).filter (mayB cs as))->ms.Pairwise (klt (ckO cs))->vY_ r w M N l (knO os) [k] ms j->mayB cs as k = true->ckO cs k<=sumC cs (ms.take j)->RdS (tk cs srow os as k).1 (tk cs srow os as k).2 os' as' b->RdS os as os' as' b
 | way {os as ms j os' as' b}:fx r w M N l (knO os) k = false->ms.Perm ((List.range (N + M)).filter (mayB cs as))->ms.Pairwise (klt (ckO cs))->vY_ r w M N l (knO os) [k] ms j->¬ (mayB cs as k = true/\ckO cs k<=sumC cs (ms.take j))->RdS (jQ_ cs srow (ms.take j) os as).1 (jQ_ cs srow (ms.take j) os as).2 os' as' b->RdS os as os' as' b
end
theorem qbk_ {R:Nat}{cs srow os:List (Option Nat)}{as X:List Nat}{k:Nat} (hl:os.length = R) (hs:yd_ R srow X) (ho:yd_ R os X) (hk:k < R):yd_ R (tk cs srow os as k).1 X:=by
 unfold tk
 split
 ·intro j hj b hb
  by_cases z:j = k
  ·subst z
   rw [List.getD_eq_getElem?_getD,List.getElem?_set_self (by omega)] at hb
   exact hs j hj b hb
  ·rw [List.getD_eq_getElem?_getD,List.getElem?_set_ne (Ne.symm z),← List.getD_eq_getElem?_getD] at hb
   exact ho j hj b hb
 ·exact ho
theorem qkn_ {cs srow os:List (Option Nat)}{as:List Nat}{k:Nat}:(tk cs srow os as k).1.length = os.length:=by
 unfold tk
 split
 ·exact List.length_set
 ·rfl
theorem uH_ {cs srow os:List (Option Nat)}{as:List Nat}{k:Nat} (h:mayB cs as k = true):(tk cs srow os as k).2.length = as.length + 1:=by
 unfold tk
 rw [if_pos h]
 exact List.length_append
theorem qh1_ {cs srow os:List (Option Nat)}{as:List Nat}{k:Nat}:as.length<=(tk cs srow os as k).2.length:=by
 unfold tk
 split
 ·rw [List.length_append];exact Nat.le_add_right _ _
 ·exact Nat.le_refl _
theorem vG_ {R:Nat}{cs srow:List (Option Nat)}{X:List Nat} (hs:yd_ R srow X):∀ (ks:List Nat) (os:List (Option Nat)) (as:List Nat),os.length = R->(∀ k ∈ ks,k < R)->yd_ R os X->yd_ R (jQ_ cs srow ks os as).1 X
 | [],_,_,_,_,h=>h
 | k :: ks,os,as,hl,hk,h=>by
  have h1:=qbk_ (cs:=cs) (as:=as) hl hs h (hk k (.head _))
  unfold jQ_
  split
  ·exact vG_ hs ks _ _ (by rw [qkn_,hl]) (fun j hj=>hk j (.tail _ hj)) h1
  ·exact h1
theorem qbl_ {cs srow:List (Option Nat)}:∀ (ks:List Nat) (os:List (Option Nat)) (as:List Nat),as.length<=(jQ_ cs srow ks os as).2.length
 | [],_,_=>Nat.le_refl _
 | k :: ks,os,as=>by
  unfold jQ_
  split
  ·exact Nat.le_trans qh1_ (qbl_ ks _ _)
  ·exact qh1_
theorem qd2_ {cs srow:List (Option Nat)}{k:Nat}{ks:List Nat}{os:List (Option Nat)}{as:List Nat} (h:mayB cs as k = true):as.length + 1<=(jQ_ cs srow (k :: ks) os as).2.length:=by
 unfold jQ_
 split
 ·rw [<- uH_ (srow:=srow) (os:=os) h]
  exact qbl_ ks _ _
 ·rw [uH_ h]
  exact Nat.le_refl _
theorem qko_ {F:Hp->Prop}{G:Prop} (Pz:Hp->Prop) (h:(∀ z,Pz z->F z)->G) (key:∀ z,Pz z->F z):G:=h key
section
variable {P:Program}{wo:World}{K:PySem.W.Frag}{mg:Str->Option Value}{base:Heap}{a:Adr}
def qkp_ (a:Adr):Sp:=fun vs H Q _=>∃ (H0:Hp) (R:AskR) (r w n M N k:Nat) (l:Nat->Nat->Nat) (cs srow os:List (Option Nat)) (as X:List Nat),vs = [.ref R.A,.int k]/\AskI a H0 R r w n M N l cs srow/\AskM a H0 H R (N + M) os as/\k < N + M/\(∀ j,(cs.getD j none).getD 0<=1000000)/\X.length = N + M/\(∀ b ∈ X,b < (2 ^ w) ^ n)/\isMk r w n M N l X = true/\yd_ (N + M) srow X/\yd_ (N + M) os X ∧
 ∀ H' os' as' b,RdS r w M N l cs srow k os as os' as' b->yd_ (N + M) os' X->AskM a H0 H' R (N + M) os' as'->Q (if b = true then .int ((X.getD k 0:Nat):Int) else .non) H'
theorem qbm_ (T:Txt K mg a) (B:Tb base mg a):FnOk P wo K mg base CX0 11 a.f_read_role a.d_read_role ["asking", "role"] (qkp_ a):=by
 have G_Asking_fixes:FnOk P wo K mg base CX0 10 _ _ _ _:=un_ T
 have G_Asking_detour:FnOk P wo K mg base CX0 10 _ _ _ _:=vZ_ T B
 have G_Asking_may:FnOk P wo K mg base CX0 10 _ _ _ _:=(y9_ T).mono (by decide)
 have G_Asking_cost_sum:FnOk P wo K mg base CX0 10 _ _ _ _:=(vi_ T).mono (by decide)
 have G_Asking_take:FnOk P wo K mg base CX0 10 _ _ _ _:=(zI_ T).mono (by decide)
 have G_Asking_take_along:FnOk P wo K mg base CX0 10 _ _ _ _:=(zW_ T).mono (by decide)
 have G_Asking_block_of:FnOk P wo K mg base CX0 10 _ _ _ _:=(vj_ T).mono (by decide)
 refine T.F_read_role.ok (k:=10) sc_read_role (fun vs H Q E h=>?_) (fun cdv A outer s H vs Q E hr h=>?_)
 ·obtain ⟨H0,R,r,w,n,M,N,k,l,cs,srow,os,as,X,rfl,_⟩:=h
  rfl
 ·obtain ⟨H0,R,r,w,n,M,N,k,l,cs,srow,os,as,X,rfl,I,J,hk,hc6,hX,hlt,hm,hsX,hoX,q⟩:=h
  obtain ⟨dx,hA⟩:=I.obj
  have n8:=I.W.n8
  refine ⟨_,(qd_ (yH_ PassesOwn.never (yJ_ (jR_ (qF_ (pv 0) T.cl_Asking T.me_Asking_fixes G_Asking_fixes (hr.mono (by decide)) T.b_Asking_fixes .nil qp_ (qa_ (qP_ (qa_ (pv 1) qe_)) qe_)))) (qd_ (ql_ (i:=2) sc_read_role.nd rfl (Or.inl rfl) (qF_ (pv 0) T.cl_Asking T.me_Asking_detour G_Asking_detour (hr.mono (by decide)) T.b_Asking_detour .nil qp_ (qa_ (qP_ (qa_ (pv 1) qe_)) qe_)))
   (qd_ (qD_ (qt_ z1_ (pv 2) jo_ (qu_ _)) (qg_ (qq_ jo_)) qA_)
   (qg_ (qD_ (PW.pt (qd8_ (jR_ (qF_ (pv 0) T.cl_Asking T.me_Asking_may G_Asking_may (hr.mono (by decide)) T.b_Asking_may .nil qp_ (qa_ (pv 1) qe_))) (qcf_ (qt_ qk5_ (qz_ qB_ (qC_ (pv 0) rfl) (pv 1) (fun _ _=>rfl)) (qF_ (pv 0) T.cl_Asking T.me_Asking_cost_sum G_Asking_cost_sum (hr.mono (by decide)) T.b_Asking_cost_sum .nil qp_ (qa_ (pv 2) qe_)) (qu_ _))))) (qg_ (qU_ (qF_ (pv 0) T.cl_Asking T.me_Asking_take G_Asking_take (hr.mono (by decide)) T.b_Asking_take .nil qp_ (qa_ (pv 1) qe_)))) (qg_ (qU_ (qF_ (pv 0) T.cl_Asking T.me_Asking_take_along G_Asking_take_along (hr.mono (by decide)) T.b_Asking_take_along .nil qp_ (qa_ (pv 2) qe_)))))))))
   (qg_ (qq_ (qF_ (pv 0) T.cl_Asking T.me_Asking_block_of G_Asking_block_of (hr.mono (by decide)) T.b_Asking_block_of .nil qp_ (qa_ (pv 1) qe_))))),?_⟩
  refine ⟨fun m σ H'=>∃ (os1:List (Option Nat)) (as1:List Nat) (v2:Option V),m = (N + M) - as1.length/\σ = [some (.ref R.A),some (.int (k:Nat)),v2]/\AskM a H0 H' R (N + M) os1 as1/\yd_ (N + M) os1 X/\∀ os' as' b,RdS r w M N l cs srow k os1 as1 os' as' b->RdS r w M N l cs srow k os as os' as' b,
   ⟨_,os,as,none,rfl,rfl,J,hoX,fun _ _ _ h=>h⟩,?_⟩
  rintro m σ H1 ⟨os1,as1,v2,rfl,rfl,J1,hoX1,hrd⟩
  refine ⟨_,rfl,R.A,dx,_,rfl,J1.sm _ _ hA,rfl,_,rfl,(by show 1<=sizeLine;decide),fun p1 n1=>?_⟩
  have J2:=J1.same (Same.new (o:=.lst [V.int (k:Nat)]) n1)
  have hp1:(upd H1 p1 (.lst [V.int (k:Nat)])) p1 = some (.lst (rowV [k])):=qc_
  generalize (upd H1 p1 (.lst [V.int (k:Nat)])) = H2 at J2 hp1
  have hk1:∀ j ∈ [k],j < N + M:=fun j hj=>by rw [List.mem_singleton.mp hj];exact hk
  refine ⟨H0,R,p1,r,w,n,M,N,l,cs,srow,os1,as1,[k],rfl,I,J2,SqL.of hp1,hk1,fun H3 s3=>?_⟩
  have J3:=J2.same s3
  refine ⟨_,rfl,?_⟩
  have efx:[k].all (fx r w M N l (knO os1)) = fx r w M N l (knO os1) k:=by
   rw [List.all_cons,List.all_nil,Bool.and_true]
  rw [efx]
  cases hz:fx r w M N l (knO os1) k with
  | true =>
   refine ite2 (fun y=>absurd y (by decide)) (fun _=>?_)
   refine ⟨_,rfl,R.A,dx,_,rfl,J3.sm _ _ hA,rfl,_,rfl,H0,R,r,w,n,M,N,k,l,cs,srow,os1,as1,X,rfl,I,J3,hk,hX,hlt,hm,hoX1,fun H4 s4=>?_⟩
   rw [hz]
   exact q H4 os1 as1 true (hrd _ _ _ (.fixed hz)) hoX1 (J3.same s4)
  | false =>
   refine ite2 (fun _=>⟨_,fun _ _ z=>z,?_⟩) (fun y=>absurd rfl y)
   refine ⟨_,rfl,R.A,dx,_,rfl,J3.sm _ _ hA,rfl,_,rfl,(by show 1<=sizeLine;decide),fun p2 n2=>?_⟩
   have J4:=J3.same (Same.new (o:=.lst [V.int (k:Nat)]) n2)
   have hp2:(upd H3 p2 (.lst [V.int (k:Nat)])) p2 = some (.lst (rowV [k])):=qc_
   generalize (upd H3 p2 (.lst [V.int (k:Nat)])) = H4 at J4 hp2
   refine ⟨H0,R,p2,r,w,n,M,N,l,cs,srow,os1,as1,[k],rfl,I,J4,hp2,hk1,fun H5 ms J5 k5 pm pw=>⟨fun D j hd nD hD=>?_,fun hd=>?_⟩⟩
   ·have nD0:H0 D = none:=J4.sm.free nD
    obtain ⟨a1,a2,a3,a4⟩:=J4.away nD
    have mlt:∀ x ∈ ms.take j,x < N + M/\mayB cs as1 x = true:=fun x hx=>by
     have:=List.mem_filter.mp (pm.mem_iff.mp (List.mem_of_mem_take hx))
     exact ⟨List.mem_range.mp this.1,this.2⟩
    have hj8:(ms.take j).length<=8:=by
     have h1:=List.length_filter_le (mayB cs as1) (List.range (N + M))
     rw [List.length_range,← pm.length_eq] at h1
     rw [List.length_take]
     omega
    have hcs:∀ x ∈ ms.take j,x < N + M/\(cs.getD x none).isSome = true/\(cs.getD x none).getD 0<=1000000:=fun x hx=>by
     obtain ⟨h1,h2⟩:=mlt x hx
     unfold mayB at h2
     exact ⟨h1,(Bool.and_eq_true _ _ ▸ h2).1,hc6 x⟩
    refine ⟨_,rfl,rfl,_,rfl,?_⟩
    refine ite2 (fun y=>absurd (of_decide_eq_true y) (fun z=>by cases z)) (fun _=>?_)
    refine ⟨_,rfl,R.A,dx,_,rfl,J5.sm _ _ hA,rfl,_,rfl,H0,R,r,w,n,M,N,k,l,cs,srow,os1,as1,rfl,I,J5,hk,?_⟩
    have hasl:=J5.asl
    refine qko_ (fun H6=>Same H5 H6/\¬ (mayB cs as1 k = true/\ckO cs k<=sumC cs (ms.take j))) (fun key=>by
     cases hy:mayB cs as1 k with
     | true =>
      refine ⟨_,rfl,ite2 (fun _=>?_) (fun y=>absurd rfl y)⟩
      have ev:valO (cs.getD k none) = .int (ckO cs k):=by
       unfold mayB at hy
       unfold ckO
       cases hv:cs.getD k none with
       | none=>rw [hv] at hy;cases hy
       | some b=>rfl
      have gi:=qr_ (jB_ (yD_ (os:=cs) (k:=k) (by rw [I.csl];exact hk)))
      rw [ev] at gi
      refine ⟨_,rfl,R.A,_,_,_,_,rfl,J5.sm _ _ hA,T.cl_Asking,T.no_Asking_costs,zr_ _ _ _ _ _,_,rfl,R.cl,_,_,_,rfl,rfl,SqL.of (J5.sm _ _ I.cost),gi,_,rfl,R.A,dx,_,rfl,J5.sm _ _ hA,rfl,_,rfl,H0,R,D,r,w,n,M,N,l,cs,srow,os1,as1,ms.take j,rfl,I,J5,SqL.of hD,hj8,hcs,fun H6 s6=>?_⟩
      refine ⟨_,_,rfl,rfl,_,rfl,?_⟩
      refine iteR (fun hc=>?_) (fun hc=>?_)
      ·exact key H6 ⟨s6,fun z=>hc (decide_eq_true z.2)⟩
      ·have J6:=J5.same s6
       refine ⟨_,rfl,R.A,dx,_,rfl,J6.sm _ _ hA,rfl,_,rfl,H0,R,r,w,n,M,N,k,l,cs,srow,os1,as1,rfl,I,J6,hk,fun H7 J7=>?_⟩
       refine ⟨(N + M) - (tk cs srow os1 as1 k).2.length,?_,_,_,_,rfl,rfl,J7,qbk_ J1.osl hsX hoX1 hk,fun os' as' b h=>hrd _ _ _ (.own hz pm pw hd hy (of_decide_eq_true hc) h)⟩
       have:=J7.asl
       rw [uH_ hy] at this ⊢
       omega
     | false =>
      refine ⟨_,rfl,ite2 (fun y=>absurd y (by decide)) (fun _=>?_)⟩
      refine ite2 (fun y=>absurd y (by decide)) (fun _=>?_)
      exact key H5 ⟨Same.refl _,fun z=>absurd z.1 (by rw [hy];decide)⟩) ?_
    rintro H6 ⟨s6,hnot⟩
    have J6:=J5.same s6
    refine ⟨_,rfl,R.A,dx,_,rfl,J6.sm _ _ hA,rfl,_,rfl,?_⟩
    refine ⟨upd H0 D (.lst (rowV (ms.take j))),R,D,r,w,n,M,N,l,cs,srow,os1,as1,ms.take j,rfl,I.ext nD0 a1 a2 a3 a4,J6.ext (s6 _ _ hD),SqL.of qc_,fun x hx=>(mlt x hx).1,fun H7 J7=>?_⟩
    have J8:=J7.base (Same.new nD0)
    refine ⟨(N + M) - (jQ_ cs srow (ms.take j) os1 as1).2.length,?_,_,_,_,rfl,rfl,J8,vG_ hsX _ _ _ J1.osl (fun x hx=>(mlt x hx).1) hoX1,fun os' as' b h=>hrd _ _ _ (.way hz pm pw hd hnot h)⟩
    have hj0:∃ m0 rest,ms.take j = m0 :: rest:=by
     cases e:ms.take j with
     | nil =>
      have:=hd.2.1
      rw [e] at this
      have h2:[k].all (fx r w M N l (knO os1)) = true:=this
      rw [efx,hz] at h2
      cases h2
     | cons m0 rest=>exact ⟨m0,rest,rfl⟩
    obtain ⟨m0,rest,e0⟩:=hj0
    have h1:=qd2_ (srow:=srow) (ks:=rest) (os:=os1) (mlt m0 (by rw [e0];exact .head _)).2
    have h2:=J8.asl
    rw [e0] at h2 ⊢
    omega
   ·refine ⟨_,rfl,rfl,_,rfl,?_⟩
    refine ite2 (fun _=>?_) (fun y=>absurd rfl y)
    have:=q H5 os1 as1 false (hrd _ _ _ (.none hz pm pw hd)) hoX1 J5
    rw [if_neg (by decide)] at this
    exact this
end
def dRow (row:List Nat):Dt:=.lst (row.map fun n=>.int ((n:Nat):Int))
theorem u5_ {K:PySem.W.Frag}{H:Hp}{p:Addr}{row:List Nat} (h:H p = some (.lst (rowV row))):Sees K H (.ref p) (dRow row):=by
 unfold dRow
 rw [Sees]
 refine ⟨p,_,rfl,SqL.of h,zS_ (by rw [qk_,List.length_map]) fun i v d h1 h2=>?_⟩
 obtain ⟨x,ex,rfl⟩:=je_ h1
 rw [List.getElem?_map,ex] at h2
 have:=Option.some.inj h2
 subst this
 rw [Sees]
theorem qhi_ (row:List Nat):depD (dRow row)<=60:=by
 unfold dRow
 rw [depD]
 have:yo_ (row.map fun n=>Dt.int ((n:Nat):Int))<=0:=zp_ fun d hd=>by
  obtain ⟨n,_,rfl⟩:=List.mem_map.mp hd
  rw [depD]
  ·exact Nat.zero_le _
  all_goals (intro _ h;cases h)
 omega
def dTab (M:Nat) (row:Nat->List Nat):Dt:=.lst ((List.range M).map fun i=>dRow (row i))
def dOpt:Option Nat->Dt
 | none=>.non
 | some n=>.int ((n:Nat):Int)
def zy_ (os:List (Option Nat)):Dt:=.lst (os.map dOpt)
theorem zz_ {K:PySem.W.Frag}{H:Hp}{p:Addr}{os:List (Option Nat)} (h:H p = some (.lst (rowO os))):Sees K H (.ref p) (zy_ os):=by
 unfold zy_
 rw [Sees]
 refine ⟨p,_,rfl,SqL.of h,zS_ (by rw [qN_,List.length_map]) fun i v d h1 h2=>?_⟩
 unfold rowO at h1
 rw [List.getElem?_map] at h1 h2
 cases ho:os[i]? with
 | none=>rw [ho] at h1;cases h1
 | some o =>
  rw [ho] at h1 h2
  have h1:=Option.some.inj h1
  have h2:=Option.some.inj h2
  subst h1
  subst h2
  cases o with
  | none=>show Sees K H .non .non;rw [Sees]
  | some n=>show Sees K H (.int _) (.int _);rw [Sees]
theorem qbn_ (os:List (Option Nat)):depD (zy_ os)<=60:=by
 unfold zy_
 rw [depD]
 have:yo_ (os.map dOpt)<=0:=zp_ fun d hd=>by
  obtain ⟨n,_,rfl⟩:=List.mem_map.mp hd
  cases n with
  | none=>
   show depD .non<=0
   rw [depD]
   ·exact Nat.zero_le _
   all_goals (intro _ h;cases h)
  | some n =>
   show depD (.int _)<=0
   rw [depD]
   ·exact Nat.zero_le _
   all_goals (intro _ h;cases h)
 omega
structure OkA (R:Nat) (cs srow os:List (Option Nat)) (as:List Nat):Prop where
 osl:os.length = R
 there:∀ k ∈ as,(cs.getD k none).isSome = true
 is:∀ k,k < R->os.getD k none = if k ∈ as then srow.getD k none else none
theorem qbo_ {R:Nat}{cs srow os:List (Option Nat)}{as:List Nat}{k:Nat} (h:OkA R cs srow os as) (hk:k < R):OkA R cs srow (tk cs srow os as k).1 (tk cs srow os as k).2:=by
 unfold tk
 by_cases hm:mayB cs as k = true
 ·rw [if_pos hm]
  refine ⟨by rw [List.length_set,h.osl],fun j hj=>?_,fun j hj=>?_⟩
  ·rcases List.mem_append.mp hj with z | z
   ·exact h.there j z
   ·rw [List.mem_singleton.mp z]
    unfold mayB at hm
    exact (Bool.and_eq_true _ _ ▸ hm).1
  ·by_cases z:j = k
   ·subst z
    rw [List.getD_eq_getElem?_getD,List.getElem?_set_self (by rw [h.osl];exact hj),if_pos (List.mem_append_right _ (.head _))]
    rfl
   ·rw [List.getD_eq_getElem?_getD,List.getElem?_set_ne (Ne.symm z),← List.getD_eq_getElem?_getD,h.is j hj]
    by_cases y:j ∈ as
    ·rw [if_pos y,if_pos (List.mem_append_left _ y)]
    ·rw [if_neg y,if_neg (fun e=>by
      rcases List.mem_append.mp e with e | e
      ·exact y e
      ·exact z (List.mem_singleton.mp e))]
 ·rw [if_neg hm]
  exact h
theorem vk_ {R:Nat}{cs srow:List (Option Nat)}:∀ (ks:List Nat) (os:List (Option Nat)) (as:List Nat),(∀ k ∈ ks,k < R)->OkA R cs srow os as->OkA R cs srow (jQ_ cs srow ks os as).1 (jQ_ cs srow ks os as).2
 | [],_,_,_,h=>h
 | k :: ks,os,as,hk,h=>by
  have h1:=qbo_ h (hk k (.head _))
  unfold jQ_
  split
  ·exact vk_ ks _ _ (fun j hj=>hk j (.tail _ hj)) h1
  ·exact h1
theorem qjd_ {R j:Nat}{ms:List Nat}{f:Nat->Bool} (pm:ms.Perm ((List.range R).filter f)):∀ x ∈ ms.take j,x < R:=fun x hx=>List.mem_range.mp (List.mem_filter.mp (pm.mem_iff.mp (List.mem_of_mem_take hx))).1
theorem qje_ {r w M N k:Nat}{l:Nat->Nat->Nat}{cs srow os os':List (Option Nat)}{as as':List Nat}{b:Bool} (hk:k < N + M) (h:RdS r w M N l cs srow k os as os' as' b):OkA (N + M) cs srow os as->OkA (N + M) cs srow os' as':=by
 induction h with
 | fixed _=>exact id
 | none _ _ _ _=>exact id
 | own _ _ _ _ _ _ _ ih=>exact fun z=>ih (qbo_ z hk)
 | way _ pm _ _ _ _ ih=>exact fun z=>ih (vk_ _ _ _ (qjd_ pm) z)
theorem u6_ {k:Nat}:∀ as:List Nat,as.Nodup->(rowV as).countP (fun z=>eqV z (.int (k:Nat)))<=1
 | [],_=>Nat.zero_le _
 | x :: as,nd=>by
  have nd':=List.nodup_cons.mp nd
  have ih:=u6_ (k:=k) as nd'.2
  unfold rowV at ih ⊢
  rw [List.map_cons,List.countP_cons]
  by_cases z:x = k
  ·subst z
   have:(List.map (fun n:Nat=>V.int (n:Int)) as).countP (fun z=>eqV z (.int (x:Nat))) = 0:=by
    rw [List.countP_eq_zero]
    intro v hv
    obtain ⟨y,hy,rfl⟩:=List.mem_map.mp hv
    have ne:((y:Nat):Int) ≠ ((x:Nat):Int):=fun e=>nd'.1 (by have e2:y = x:=(by omega);rw [<- e2];exact hy)
    show ¬ (((y:Nat):Int) == ((x:Nat):Int)) = true
    rw [beq_eq_false_iff_ne.mpr ne]
    decide
   rw [this]
   split <;> omega
  ·have ne:((x:Nat):Int) ≠ ((k:Nat):Int):=by omega
   have:(eqV (V.int (x:Nat)) (.int (k:Nat))) = false:=by
    show (((x:Nat):Int) == ((k:Nat):Int)) = false
    exact beq_eq_false_iff_ne.mpr ne
   rw [if_neg (by rw [this];decide)]
   exact ih
def dueO (R:Nat) (srow:List (Option Nat)) (as:List Nat):List (Option Nat):=(List.range R).map fun k=>if k ∈ as then srow.getD k none else none
theorem qhj_ {R k:Nat}{srow:List (Option Nat)}{as:List Nat} (hk:k < R):(dueO R srow as).set k (srow.getD k none) = dueO R srow (as ++ [k]):=by
 unfold dueO
 apply List.ext_getElem?
 intro i
 by_cases hi:i < R
 ·rw [List.getElem?_map,List.getElem?_range hi]
  by_cases z:i = k
  ·subst z
   rw [List.getElem?_set_self (by rw [List.length_map,List.length_range];exact hi),Option.map_some,if_pos (List.mem_append_right _ (.head _))]
  ·rw [List.getElem?_set_ne (Ne.symm z),List.getElem?_map,List.getElem?_range hi,Option.map_some,Option.map_some]
   by_cases y:i ∈ as
   ·rw [if_pos y,if_pos (List.mem_append_left _ y)]
   ·rw [if_neg y,if_neg (fun e=>by
     rcases List.mem_append.mp e with e | e
     ·exact y e
     ·exact z (List.mem_singleton.mp e))]
 ·rw [List.getElem?_eq_none (by rw [List.length_set,List.length_map,List.length_range];omega),List.getElem?_eq_none (by rw [List.length_map,List.length_range];omega)]
theorem qkq_ {R:Nat}{cs srow os:List (Option Nat)}{as:List Nat} (h:OkA R cs srow os as):dueO R srow as = os:=by
 unfold dueO
 apply List.ext_getElem?
 intro i
 by_cases hi:i < R
 ·rw [List.getElem?_map,List.getElem?_range hi,Option.map_some,← h.is i hi]
  exact (yD_ (by rw [h.osl];exact hi)).symm
 ·rw [List.getElem?_eq_none (by rw [List.length_map,List.length_range];omega),List.getElem?_eq_none (by rw [h.osl];omega)]
theorem qjf_ (R:Nat) (srow:List (Option Nat)):dueO R srow [] = List.replicate R none:=by
 unfold dueO
 have:(fun k:Nat=>if k ∈ ([]:List Nat) then srow.getD k none else none) = fun _=>none:=by
  funext k
  rw [if_neg List.not_mem_nil]
 rw [this,List.map_const',List.length_range]
theorem qjg_ (R:Nat):(List.replicate R [V.non]).flatten = rowO (List.replicate R none):=by
 unfold rowO
 rw [List.map_replicate]
 induction R with
 | zero=>rfl
 | succ R ih=>rw [List.replicate_succ,List.flatten_cons,ih];rfl
section
variable {P:Program}{wo:World}{K:PySem.W.Frag}{mg:Str->Option Value}{base:Heap}{a:Adr}
def qhk_:Sp:=fun vs H Q _=>∃ x:Int,vs = [.int x]/\Q (.bl true) H
theorem qhl_ (T:Txt K mg a):FnOk P wo K mg base CX0 1 a.f_whole a.d_whole ["_law_found"] qhk_:=by
 refine T.F_whole.ok (k:=0) qgy_ (fun vs H Q E h=>?_) (fun cdv A outer s H vs Q E hr h=>?_)
 ·obtain ⟨x,rfl,_⟩:=h
  rfl
 ·obtain ⟨x,rfl,q⟩:=h
  refine ⟨_,(qg_ (qq_ (v1_ (qy_ zN_ rfl T.n_isinstance boot_isinstance (qa_ (pv 0) (qa_ (vm_ (v:=.ty "int") rfl T.n_int (by decide +kernel) rfl) qe_))) (z0_ (qd9_ (qy_ zN_ rfl T.n_isinstance boot_isinstance (qa_ (pv 0) (qa_ (vm_ (v:=.ty "bool") rfl T.n_bool (by decide +kernel) rfl) qe_)))))))),?_⟩
  refine ⟨_,rfl,_,_,_,_,rfl,.int _,vK_ _ _,_,rfl,iteT ?_⟩
  exact ⟨_,rfl,_,_,_,_,rfl,.int _,qa3_ _,_,rfl,q⟩
def qkr_ (K:PySem.W.Frag) (a:Adr):Sp:=fun vs H Q _=>∃ (H0:Hp) (R:AskR) (ch:Addr) (r w n M N:Nat) (l:Nat->Nat->Nat) (cs srow os:List (Option Nat)) (as:List Nat),vs = [.ref R.A,.ref R.z,.ref R.rw,.ref ch]/\AskI a H0 R r w n M N l cs srow/\AskM a H0 H R (N + M) os as/\H ch = some (.lst (rowO cs))/\OkA (N + M) cs srow os as/\∀ H',Same H H'->Q (.bl true) H'
theorem qjh_ (T:Txt K mg a):FnOk P wo K mg base CX0 1 a.f_seen a.d_seen ["_law_asking", "_law_seen_here", "_law_row", "_law_costs_here"] (qkr_ K a):=by
 refine T.F_seen.ok (k:=0) sc_seen (fun vs H Q E h=>?_) (fun cdv A outer s H vs Q E hr h=>?_)
 ·obtain ⟨H0,R,ch,r,w,n,M,N,l,cs,srow,os,as,rfl,_⟩:=h
  rfl
 ·obtain ⟨H0,R,ch,r,w,n,M,N,l,cs,srow,os,as,rfl,I,J,hch,ok,q⟩:=h
  obtain ⟨dx,hA⟩:=I.obj
  have n8:=I.W.n8
  have hA:=J.sm _ _ hA
  refine ⟨_,(qd_ (qD_ (PW.pt (ym_ (yJ_ (jR_ (qy_ zN_ rfl T.n_isinstance boot_isinstance (qa_ (qC_ (pv 0) rfl) (qa_ (vm_ (v:=.ty "list") rfl T.n_list (by decide +kernel) rfl) qe_))))) (ym_ (qt_ (qew_ hr.units) (qC_ (pv 0) rfl) (pv 1) (qu_ _)) (yA_ (qt_ (qew_ hr.units) (qC_ (pv 0) rfl) (pv 3) (qu_ _)))))) (qg_ (qq_ yI_)) qA_)
   (qd_ (ql_ (i:=4) sc_seen.nd rfl (Or.inl rfl) (qn_ zE_ (qP_ (qa_ jo_ qe_)) (qy_ qv_ rfl T.n_len PySem.boot_len (qa_ (pv 2) qe_))))
   (qd_ (qK_ PassesOwn.never rfl (q7_ (pv 1)) (qo_ (i:=5) sc_seen.nd rfl (Or.inl rfl)) (qd_ (qD_ (PW.pt (ym_ (qt_ yF_ (jW_ PySem.F.plainAttrs_list PySem.F.slot_list_count PySem.F.type_list_count qgk_ (pv 1) (qa_ (pv 5) qe_)) qj_ (qu_ _)) (yA_ (qt_ z1_ (qz_ qB_ (pv 3) (pv 5) (fun _ _=>rfl)) jo_ (qu_ _))))) (qg_ (qq_ yI_)) qA_)
   (qg_ (ye_ (qz_ qB_ (pv 2) (pv 5) (fun _ _=>rfl)) (yi_ (pv 4) (pv 5) jS_)))))
   (qg_ (qq_ (v1_ (qy_ zN_ rfl T.n_isinstance boot_isinstance (qa_ (qC_ (pv 0) rfl) (qa_ (vm_ (v:=.ty "list") rfl T.n_list (by decide +kernel) rfl) qe_))) (z0_ (yn_ (qev_ hr.units) (qC_ (pv 0) rfl) (pv 4) (qu_ _))))))))),?_⟩
  refine ⟨_,rfl,R.A,_,_,_,_,rfl,hA,T.cl_Asking,T.no_Asking_asked,zU_ _ _ _ _ _,_,_,_,_,rfl,.lst J.hs,vK_ _ _,_,rfl,?_⟩
  refine ite2 (fun z=>absurd z (by decide)) (fun _=>?_)
  refine ⟨_,rfl,R.A,_,_,_,_,rfl,hA,T.cl_Asking,T.no_Asking_asked,zU_ _ _ _ _ _,_,rfl,dRow as,dRow as,u5_ J.hs,u5_ J.hz,rfl,rfl,⟨_,rfl⟩,qhi_ as,_,rfl,?_⟩
  refine ite2 (fun z=>absurd z (by rw [yW_];decide)) (fun _=>?_)
  refine ⟨_,rfl,R.A,_,_,_,_,rfl,hA,T.cl_Asking,T.no_Asking_costs,zr_ _ _ _ _ _,_,rfl,zy_ cs,zy_ cs,zz_ (J.sm _ _ I.cost),zz_ hch,rfl,rfl,⟨_,rfl⟩,qbn_ cs,_,rfl,?_⟩
  refine ite2 (fun z=>absurd z (by rw [yW_];decide)) (fun _=>?_)
  have hrw:=J.sm _ _ I.row
  refine ⟨(show 1<=sizeLine by decide),fun p1 n1=>?_⟩
  refine ⟨_,rfl,R.rw,_,rfl,.inl (SqL.of ((Same.new n1) _ _ hrw)),p1,_,_,rfl,rfl,qc_,by rw [qN_,I.srl];omega,by rw [qN_,I.srl];omega,?_,fun D nD=>?_⟩
  ·rw [qN_,I.srl,Int.toNat_natCast]
   show 1 * (N + M)<=sizeLine
   exact Nat.le_trans (by omega:1 * (N + M)<=30) (by decide)
  have s1:Same H (upd (upd H p1 (.lst [V.non])) D (.lst (List.replicate (((rowO srow).length:Nat):Int).toNat [V.non]).flatten)):=(Same.new n1).trans (Same.new nD)
  have hD:(upd (upd H p1 (.lst [V.non])) D (.lst (List.replicate (((rowO srow).length:Nat):Int).toNat [V.non]).flatten)) D = some (.lst (rowO (dueO (N + M) srow (as.take 0)))):=by
   rw [qc_,qN_,I.srl,Int.toNat_natCast,qjg_]
   show _ = some (HO.lst (rowO (dueO (N + M) srow [])))
   rw [qjf_]
  have nD0:H D = none:=(Same.new n1).free nD
  generalize (upd (upd H p1 (.lst [V.non])) D (.lst (List.replicate (((rowO srow).length:Nat):Int).toNat [V.non]).flatten)) = H1 at s1 hD
  refine ⟨_,rfl,R.z,rfl,⟨_,SqL.of (s1 _ _ J.hz)⟩,?_⟩
  refine j6_ (xs:=rowV as) (fun i σ H'=>(∃ v5:Option V,σ = [some (.ref R.A),some (.ref R.z),some (.ref R.rw),some (.ref ch),some (.ref D),v5])/\Same H H'/\H' D = some (.lst (rowO (dueO (N + M) srow (as.take i))))) ⟨⟨none,rfl⟩,s1,hD⟩ ?_ ?_ ?_
  ·rintro i σ H' _ ⟨_,sm,_⟩
   exact SqL.of (sm _ _ J.hz)
  ·rintro i x σ H' hx ⟨⟨v5,rfl⟩,sm,h1⟩
   obtain ⟨k,ek,rfl⟩:=je_ hx
   have hkm:=List.mem_of_getElem? ek
   have hk:=J.lt k hkm
   refine ⟨_,rfl,.inl ⟨rfl,_,SqL.of (sm _ _ J.hz)⟩,_,rfl,R.z,_,_,rfl,rfl,sm _ _ J.hz,rfl,fun z hz=>?_,_,_,rfl,rfl,_,rfl,?_⟩
   ·obtain ⟨y,_,rfl⟩:=vP_ hz
    rfl
   have hc1:=u6_ (k:=k) as J.nd
   refine ite2 (fun z=>absurd (of_decide_eq_true z) (by omega)) (fun _=>?_)
   refine ⟨_,rfl,_,rfl,ch,_,_,_,rfl,rfl,SqL.of (sm _ _ hch),qr_ (jB_ (yD_ (by rw [I.csl];exact hk))),rfl,_,rfl,?_⟩
   have hth:=ok.there k hkm
   refine ite2 (fun z=>?_) (fun _=>?_)
   ·have:=uG_ (cs.getD k none)
    rw [z,hth] at this
    cases this
   refine ⟨_,rfl,_,rfl,R.rw,_,_,_,rfl,rfl,SqL.of (sm _ _ hrw),qr_ (jB_ (yD_ (by rw [I.srl];exact hk))),_,rfl,_,rfl,D,_,_,k,rfl,rfl,h1,j4_ (by rw [qN_];unfold dueO;rw [List.length_map,List.length_range];exact hk),?_⟩
   rw [zV_,qhj_ hk,← zx_ ek]
   exact ⟨⟨_,rfl⟩,sm.up nD0,qc_⟩
  ·rintro σ H' ⟨⟨v5,rfl⟩,sm,h1⟩
   rw [qk_,List.take_length,qkq_ ok] at h1
   refine ⟨_,rfl,R.A,_,_,_,_,rfl,sm _ _ hA,T.cl_Asking,T.no_Asking_row,zs_ _ _ _ _ _,_,_,_,_,rfl,.lst (sm _ _ J.hr),vK_ _ _,_,rfl,iteT ?_⟩
   refine ⟨_,rfl,R.A,_,_,_,_,rfl,sm _ _ hA,T.cl_Asking,T.no_Asking_row,zs_ _ _ _ _ _,_,rfl,zy_ os,zy_ os,zz_ (sm _ _ J.hr),zz_ h1,rfl,rfl,⟨_,rfl⟩,qbn_ os,?_⟩
   rw [yW_]
   exact q H' sm
end
def qM_ (xs:List Addr) (H:Hp):Hp:=fun b=>if b ∈ xs then none else H b
theorem ze_ (xs:List Addr) (H:Hp):Same (qM_ xs H) H:=fun b o e=>by
 unfold qM_ at e
 split at e
 ·cases e
 ·exact e
theorem jK_ {xs:List Addr}{H:Hp}{b:Addr} (h:b ∈ xs):qM_ xs H b = none:=by unfold qM_;rw [if_pos h]
theorem jV_ {xs:List Addr}{H:Hp}{b:Addr} (h:b ∉ xs):qM_ xs H b = H b:=by unfold qM_;rw [if_neg h]
theorem zX_ {G H:Hp}{xs:List Addr} (s:Same G H) (h:∀ x ∈ xs,G x = none):Same G (qM_ xs H):=fun b o e=>by
 rw [jV_ (fun z=>by rw [h b z] at e;cases e)]
 exact s b o e
def gapP (cs srow:List (Option Nat)) (k:Nat):Bool:=(cs.getD k none).isNone || (srow.getD k none).isNone
theorem qhm_ (ks:List Bool) (k:Nat) (hk:k < ks.length):∀ way:List Nat,(knW ks way).getD k false = (ks.getD k false || way.contains k):=fun way=>by
 induction way generalizing ks with
 | nil=>show ks.getD k false = _;simp
 | cons x way ih =>
  show (knW (ks.set x true) way).getD k false = _
  rw [ih (ks.set x true) (by rw [List.length_set];exact hk),List.contains_cons]
  by_cases z:x = k
  ·subst z
   rw [List.getD_eq_getElem?_getD,List.getElem?_set_self hk]
   simp
  ·rw [List.getD_eq_getElem?_getD,List.getElem?_set_ne z,← List.getD_eq_getElem?_getD,beq_eq_false_iff_ne.mpr (Ne.symm z),Bool.false_or]
theorem qhn_ {a:Adr} (ys:List Addr) {G H3 H5:Hp}{x dx c bp fp f cl rl sl rw z:Addr}{r w n M N:Nat}{l:Nat->Nat->Nat}{cs srow:List (Option Nat)} (sG:Same G H3) (code:CodeAt a G c bp fp r w n M N l) (full:GF.Full r w) (n16:n<=16) (W:Wts w M N l) (row:G rw = some (.lst (rowO srow))) (srl:srow.length = N + M) (nzG:G z = none) (ntG:G a.t_Asking_order = none) (ask:AskerAt H3 f rw z) (hz:H3 z = some (.lst (rowV []))) (tab:TabS H3 a.t_Asking_order posL qL) (csl:cs.length = N + M)
  (nx:H3 x = none) (ndx:H3 dx = none) (k5:∀ b o,b ≠ x->(upd (upd H3 dx (.own x)) x (.ins a.C_Asking dx [])) b = some o->H5 b = some o) (hx5:H5 x = some (.ins a.C_Asking dx (af c f cl rl sl))) (ncl:(upd (upd H3 dx (.own x)) x (.ins a.C_Asking dx [])) cl = none) (nrl:(upd (upd H3 dx (.own x)) x (.ins a.C_Asking dx [])) rl = none) (nsl:(upd (upd H3 dx (.own x)) x (.ins a.C_Asking dx [])) sl = none) (d1:cl ≠ rl) (d2:cl ≠ sl) (d3:rl ≠ sl) (hcl:H5 cl = some (.lst (rowO cs))) (hrl:H5 rl = some (.lst (rowO (List.replicate (N + M) none)))) (hsl:H5 sl = some (.lst (rowV []))) (hys:∀ y ∈ ys,G y = none/\∃ xs,H3 y = some (.lst xs)) :
  AskI a (qM_ (z :: rl :: sl :: a.t_Asking_order :: ys) H5) ⟨x,c,bp,fp,f,cl,rl,sl,rw,z⟩ r w n M N l cs srow/\AskM a (qM_ (z :: rl :: sl :: a.t_Asking_order :: ys) H5) H5 ⟨x,c,bp,fp,f,cl,rl,sl,rw,z⟩ (N + M) (List.replicate (N + M) none) []/\Same G (qM_ (z :: rl :: sl :: a.t_Asking_order :: ys) H5)/\Same H3 H5:=by
 have fr:∀ {b:Addr},(upd (upd H3 dx (.own x)) x (.ins a.C_Asking dx [])) b = none->H3 b = none:=fun {b} e=>by
  by_cases z1:b = x
  ·rw [z1];exact nx
  rw [qf_ z1] at e
  by_cases z2:b = dx
  ·rw [z2];exact ndx
  rwa [qf_ z2] at e
 have s35:Same H3 H5:=fun b o e=>k5 b o (qm_ e nx) (by rw [qf_ (qm_ e nx),qf_ (qm_ e ndx)];exact e)
 have ncl3:=fr ncl
 have nrl3:=fr nrl
 have nsl3:=fr nsl
 obtain ⟨ps,hp,_⟩:=id tab
 have ht5:=s35 _ _ hp
 have hz5:=s35 _ _ hz
 have hid:∀ {b:Addr}{o:HO},H3 b = some o->(∀ xs,o ≠ .lst xs)->(∀ xs,o ≠ .tbl xs)->b ∉ (z :: rl :: sl :: a.t_Asking_order :: ys):=fun {b o} e n1 n2 hb=>by
  rcases List.mem_cons.mp hb with y | hb
  ·rw [y,hz] at e;exact n1 _ (Option.some.inj e).symm
  rcases List.mem_cons.mp hb with y | hb
  ·rw [y,nrl3] at e;cases e
  rcases List.mem_cons.mp hb with y | hb
  ·rw [y,nsl3] at e;cases e
  rcases List.mem_cons.mp hb with y | hb
  ·rw [y,hp] at e;exact n2 _ (Option.some.inj e).symm
  ·obtain ⟨_,xs,hy⟩:=hys b hb
   rw [hy] at e;exact n1 _ (Option.some.inj e).symm
 have sGh:Same G (qM_ (z :: rl :: sl :: a.t_Asking_order :: ys) H5):=zX_ (sG.trans s35) fun b hb=>by
  rcases List.mem_cons.mp hb with y | hb
  ·rw [y];exact nzG
  rcases List.mem_cons.mp hb with y | hb
  ·rw [y];exact sG.free nrl3
  rcases List.mem_cons.mp hb with y | hb
  ·rw [y];exact sG.free nsl3
  rcases List.mem_cons.mp hb with y | hb
  ·rw [y];exact ntG
  ·exact (hys b hb).1
 have hx:x ∉ (z :: rl :: sl :: a.t_Asking_order :: ys):=fun hb=>by
  rcases List.mem_cons.mp hb with y | hb
  ·rw [y,hz5] at hx5;cases hx5
  rcases List.mem_cons.mp hb with y | hb
  ·rw [y,hrl] at hx5;cases hx5
  rcases List.mem_cons.mp hb with y | hb
  ·rw [y,hsl] at hx5;cases hx5
  rcases List.mem_cons.mp hb with y | hb
  ·rw [y,ht5] at hx5;cases hx5
  ·obtain ⟨_,xs,hy⟩:=hys x hb
   rw [nx] at hy;cases hy
 have hc:cl ∉ (z :: rl :: sl :: a.t_Asking_order :: ys):=fun hb=>by
  rcases List.mem_cons.mp hb with y | hb
  ·rw [y,hz] at ncl3;cases ncl3
  rcases List.mem_cons.mp hb with y | hb
  ·exact d1 y
  rcases List.mem_cons.mp hb with y | hb
  ·exact d2 y
  rcases List.mem_cons.mp hb with y | hb
  ·rw [y,ht5] at hcl;cases hcl
  ·obtain ⟨_,xs,hy⟩:=hys cl hb
   rw [ncl3] at hy;cases hy
 obtain ⟨c',c1,c2,doc,pm,ctv,a1,a2,a3,a4,a5⟩:=ask.ex
 have ex:∀ {b:Addr}{φ:Heap->Prop},H3 b = some (.ext φ)->qM_ (z :: rl :: sl :: a.t_Asking_order :: ys) H5 b = some (.ext φ):=fun {b φ} e=>by
  rw [jV_ (hid e (fun _ y=>by cases y) (fun _ y=>by cases y))]
  exact s35 _ _ e
 refine ⟨⟨code.same sGh,full,n16,W,⟨dx,?_⟩,?_,csl,⟨c',c1,c2,doc,pm,ctv,ex a1,ex a2,ex a3,ex a4,a5⟩,sGh _ _ row,srl,jK_ (by simp),jK_ (by simp),jK_ (by simp),jK_ (by simp),d3,qm_ hz nrl3 |>.symm,qm_ hz nsl3 |>.symm⟩,⟨ze_ _ _,hrl,hsl,hz5,tab.keep s35,List.length_replicate,List.nodup_nil,fun k hk=>absurd hk List.not_mem_nil⟩,sGh,s35⟩
 ·rw [jV_ hx];exact hx5
 ·rw [jV_ hc];exact hcl
theorem qbp_ (R k:Nat):(List.replicate R (none:Option Nat)).getD k none = none:=by
 rw [List.getD_eq_getElem?_getD,List.getElem?_replicate]
 split <;> rfl
theorem qc8_ (R:Nat) (cs srow:List (Option Nat)):OkA R cs srow (List.replicate R none) []:=⟨List.length_replicate,fun k hk=>absurd hk List.not_mem_nil,fun k _=>by
 rw [qbp_,if_neg List.not_mem_nil]⟩
theorem qft_ (R:Nat) (X:List Nat):yd_ R (List.replicate R none) X:=fun j _ b hb=>by
 rw [qbp_] at hb
 cases hb
theorem TabS.kp {H H':Hp}{t t':Addr}{p:Pos}{q:Str}{ps:Array Value} (h:TabS H t p q) (ne:t ≠ t') (ht:H t' = some (.tbl ps)) (k:∀ b o,b ≠ t'->H b = some o->H' b = some o):TabS H' t p q:=by
 obtain ⟨ps',h1,h2⟩:=h
 refine ⟨ps',k _ _ ne h1,?_⟩
 rcases h2 with h2 | ⟨c',e,h2⟩
 ·exact .inl h2
 ·exact .inr ⟨c',e,k _ _ (y2_ h2 ht (fun y=>by cases y)) h2⟩
theorem TabS.hide {H:Hp}{t:Addr}{p:Pos}{q:Str}{xs:List Addr} (h:TabS H t p q) (ht:t ∉ xs) (hx:∀ x ∈ xs,(∃ ys,H x = some (.lst ys))\/∃ ps,H x = some (.tbl ps)):TabS (qM_ xs H) t p q:=by
 obtain ⟨ps,h1,h2⟩:=h
 refine ⟨ps,by rw [jV_ ht];exact h1,?_⟩
 rcases h2 with h2 | ⟨c',e,h2⟩
 ·exact .inl h2
 ·refine .inr ⟨c',e,?_⟩
  rw [jV_ fun z=>?_]
  ·exact h2
  ·rcases hx c' z with ⟨ys,y⟩ | ⟨ys,y⟩
   ·rw [h2] at y;cases y
   ·rw [h2] at y;cases y
theorem qji_ (r w n M N:Nat) (l:Nat->Nat->Nat) (bs:List Nat) (g:GF.Good r w) (W:Wts w M N l) (hb:bs.length = N):isMk r w n M N l (zv_ r w n M N l bs) = true:=by
 unfold isMk zv_
 rw [List.all_eq_true]
 intro t ht
 have ht:=List.mem_range.mp ht
 apply decide_eq_true
 rw [qc4_,List.zip_append (by rw [qs_,hb]),GF.sumB_append]
 have h1:=GF.sumB_unit g.rule g.w1 (n:=n) (t:=t) M 0 ((List.range M).map fun t=>GF.sumB r w n ((rowT N l t).zip bs)) (by rw [List.length_map,List.length_range]) fun b hb=>by
  obtain ⟨j,hj,rfl⟩:=List.mem_map.mp hb
  exact GF.sumB_lt g.rule (zg_ fun k hk=>W.lt j k (List.mem_range.mp hj) hk)
 simp only [Nat.add_zero] at h1
 rw [h1,if_pos (by omega),Nat.sub_zero,List.getD_eq_getElem?_getD,List.getElem?_map,List.getElem?_range ht]
 exact Nat.xor_self _
theorem qho_ (r w n M N:Nat) (l:Nat->Nat->Nat) (bs:List Nat) (hb:bs.length = N):(zv_ r w n M N l bs).length = N + M:=by
 unfold zv_
 rw [List.length_append,List.length_map,List.length_range,hb]
theorem qjj_ {r w n M N:Nat}{l:Nat->Nat->Nat}{bs:List Nat} (g:GF.Good r w) (W:Wts w M N l) (hlt:∀ b ∈ bs,b < (2 ^ w) ^ n):∀ b ∈ zv_ r w n M N l bs,b < (2 ^ w) ^ n:=fun b hb=>by
 unfold zv_ at hb
 rcases List.mem_append.mp hb with h | h
 ·exact hlt b h
 ·obtain ⟨j,hj,rfl⟩:=List.mem_map.mp h
  exact GF.sumB_lt g.rule (zg_ fun k hk=>W.lt j k (List.mem_range.mp hj) hk)
def Itp (lo:Int) (n:Nat):It:=⟨fun i _=>i < n,fun i H x H'=>H' = H/\x = .int (lo + i * 2),fun i _=>n<=i⟩
theorem qcc_ {P:Program}{w:World}{K:PySem.W.Frag}{tg:Expr} (it:Addr) (lo:Int) (n:Nat):Turn P w K tg (Itp lo n) [it] it (fun i h=>IsRangeIter h it (lo + (i:Nat) * 2) ((n:Int) - (i:Nat)) 2) where
 mem:=by simp
 obj:=fun i h st b hb=>by
  have e:b = it:=by simpa using hb
  subst e
  exact ⟨_,st,fun v z=>by
   have z':Data.fields _ = Data.cell v:=z
   cases z'⟩
 keep:=fun i h h' st k=>k it (by simp) _ st
 item:=by
  intro X hP hw hK hc i pins s σ H E I hf st hg
  subst hP hw hK
  obtain ⟨f0,f1,f2,f3,f4,f5⟩:=hf it (by simp)
  have W:=Walks.range (prog:=X.prog) (w:=X.w) (I.ok.hd hc) it lo 2 n
  refine W.item i s _ _ hg st fun v h' tk hv st' kk=>?_
  obtain ⟨t,rfl⟩:=hv
  have I1:Inv X pins σ H { s with heap:=h',toks:=tk }:=I.turned (fun b o hb e=>kk b o (by simpa using hb) e) f0 f1 f3 f4 f5
  exact ⟨_,rfl,qal_ (s:={ s with heap:=h',toks:=tk }) (n:="range_iterator") st' rfl rfl (by decide) ⟨.int (lo + i * 2),H,I1,⟨t,rfl⟩,⟨rfl,rfl⟩,st',fun b hb=>(hf b hb).1⟩⟩
 done:=by
  intro X hP hw hK hc i pins s σ H E I hf st hg
  subst hP hw hK
  obtain ⟨f0,f1,f2,f3,f4,f5⟩:=hf it (by simp)
  exact wpAny_pyNext_range_end (I.ok.hd hc) st (by have:n<=i:=hg;omega) fun h' eb=>⟨rfl,I.turned (t':=s.toks) (fun b o hb e=>eb b o hb e) f0 f1 f3 f4 f5⟩
 self:=fun _ _ _ _ _ st h=>wpAny_pyIter_rangeiter st h
def qlk_ (ta:TA):TI:=fun σ H R=>ta σ H fun vs H1=>∃ i j:Int,vs = [.int i,.int j,.int 2]/\(0<=i/\i < 1000/\i < j/\j < 1000)/\R (Itp i ((j - i + 1) / 2).toNat) H1
theorem qfu_ {X:Cx}{tg:Expr}{a b c:Expr}{ta:TA}{p pos:Pos} (hg:Gl X "range") (hm:X.mg "range" = none) (ha:PA X [a,b,c] ta) (hs:starEach [a,b,c] X.env = [(false,eval a X.env),(false,eval b X.env),(false,eval c X.env)]:=by rfl) (hs2:starEach [b,c] X.env = [(false,eval b X.env),(false,eval c X.env)]:=by rfl) :
  PI X tg (.Call (.Name "range" p) [a,b,c] [] pos) (qlk_ ta):=by
 intro pins s σ H R I h
 refine Call_ (yz_ I hg hm boot_range (PyProof.Rows.callWith_type1 (thn (ha pos pins s σ H _ I h) fun us s1 ⟨vs,H1,I1,r1,q1⟩=>?_) (by rw [hs,hs2]) (by rw [hs2];rfl)))
 obtain ⟨i,j,e,⟨q1,q2,q3,q4⟩,q⟩:=q1
 subst e
 cases r1 with
 | cons r rr =>
  cases rr with
  | cons r' rr =>
   cases rr with
   | cons r2 rr =>
    cases rr
    obtain ⟨t,rfl⟩:=r
    obtain ⟨t',rfl⟩:=r'
    obtain ⟨t2,rfl⟩:=r2
    have hd:Builtin.divisionGoesByPylong (j - i) 2 = false:=by
     unfold Builtin.divisionGoesByPylong
     have:(decide ((if ((2:Int) == 0) = true then 0 else Nat.log2 (Int.natAbs 2) / 30 + 1) > 300)) = false:=by decide
     dsimp only
     rw [this,Bool.false_and]
    have rs:Builtin.Range.rangeSize i j 2 = (j - i - 1) / 2 + 1:=by
     unfold Builtin.Range.rangeSize
     rw [if_pos (by decide),if_pos q3]
    have fl:∀ z:Int,-10000 < z->z < 10000->Builtin.Range.rangeFitsLong z = true:=fun z h1 h2=>by
     unfold Builtin.Range.rangeFitsLong
     rw [Bool.and_eq_true]
     exact ⟨decide_eq_true (by omega),decide_eq_true (by omega)⟩
    have sm:Builtin.Range.small i j 2 = true:=by
     unfold Builtin.Range.small
     rw [rs,fl i (by omega) (by omega),fl j (by omega) (by omega),fl 2 (by decide) (by decide),fl ((j - i - 1) / 2 + 1) (by omega) (by omega),if_pos (by decide),fl (j + (2 - 1)) (by omega) (by omega),Bool.or_true]
     rfl
    refine call_range_3 (by decide) ?_ (.inl hd)
    refine wpAny_pyIter_range (IsRange.new ..) sm ?_
    have I2:Inv X pins σ H1 { s1 with heap:=s1.heap.push { cls:=.type "range",data:=.fields #[.int i t,.int j t',.int 2 t2] } }:=I1.kept (t':=s1.toks) fun b o e=>Heap.get?_push_of_some _ e
    refine ⟨(s1.heap.push { cls:=.type "range",data:=.fields #[.int i t,.int j t',.int 2 t2] }).objs.size,[(s1.heap.push { cls:=.type "range",data:=.fields #[.int i t,.int j t',.int 2 t2] }).objs.size],_,_,H1,rfl,
     I2.kept (t':=s1.toks) fun b o e=>Heap.get?_push_of_some _ e,qcc_ _ i ((j - i + 1) / 2).toNat,?_,fun b hb=>?_,q⟩
    ·have e1:i + ((0:Nat):Int) * 2 = i:=by simp
     have e2:((((j - i + 1) / 2).toNat:Nat):Int) - ((0:Nat):Int) = Builtin.Range.rangeSize i j 2:=by rw [rs];omega
     show IsRangeIter _ _ (i + ((0:Nat):Int) * 2) (((((j - i + 1) / 2).toNat:Nat):Int) - ((0:Nat):Int)) 2
     rw [e1,e2]
     exact Heap.get?_push_size _ rfl
    ·have e:b = (s1.heap.push { cls:=.type "range",data:=.fields #[.int i t,.int j t',.int 2 t2] }).objs.size:=by simpa using hb
     subst e
     exact I2.fpOk (Nat.le_refl _) (I2.hok.fresh (Nat.le_refl _))
theorem qd3_ {lo:Int}{n:Nat}{g:TG}{tb:TS}{D:Ends}{σ:L2.St}{H:Hp} (Pv:Nat->L2.St->Hp->Prop) (h0:Pv 0 σ H)
  (hs:∀ i σ H,i < n->Pv i σ H->g (.int (lo + i * 2)) σ H fun σ2 H2=>tb { D with nx:=Pv (i + 1),ct:=Pv (i + 1),bk:=D.nx } σ2 H2) (hd:∀ σ H,Pv n σ H->D.nx σ H) :
  ∃ W:Nat->Nat->L2.St->Hp->Prop,(∃ m,W 0 m σ H)/\∀ i m σ H,W i m σ H →
   ((Itp lo n).stop i H/\D.nx σ H)\/((Itp lo n).go i H/\∃ N:L2.St->Hp->Prop,(∀ σ' H',N σ' H'->∃ m',m' < m/\W (i + 1) m' σ' H')/\∀ x H',(Itp lo n).yld i H x H'->g x σ H' fun σ2 H2=>tb { D with nx:=N,ct:=N,bk:=D.nx } σ2 H2):=by
 refine ⟨fun i m σ H=>m = n - i/\i<=n/\Pv i σ H,⟨n,by simp,Nat.zero_le _,h0⟩,?_⟩
 rintro i m σ H ⟨rfl,hi,p⟩
 by_cases hlt:i < n
 ·refine .inr ⟨hlt,Pv (i + 1),fun σ' H' p'=>⟨n - (i + 1),by omega,rfl,hlt,p'⟩,fun x H' y=>?_⟩
  obtain ⟨e,rfl⟩:=y
  subst e
  exact hs i σ _ hlt p
 ·have e:i = n:=by omega
  exact .inl ⟨by show n<=i;omega,hd σ H (e ▸ p)⟩
theorem qd4_ {K:PySem.W.Frag}{l:Addr}{xs:List V}{f:Nat->V}{b:Nat->Bool}{k:Nat}{tt:TT}{te:TE}{cs:L2.St}{H1:Hp}{D:Addr}{Q:Hp->Prop} (h1:SqL K H1 l xs) (hD:H1 D = none) (hk:k = cs.length) (hn:xs.length<=sizeLine)
  (ht:∀ i u H (R:Bool->Hp->Prop),xs[i]? = some u->Same H1 H->(∀ H4,Same H H4->R (b i) H4)->tt (cs ++ [some (.int (i:Nat)),some u]) H R)
  (he:∀ i u H (R:V->Hp->Prop),xs[i]? = some u->b i = true->Same H1 H->(∀ H4,Same H H4->R (f i) H4)->te (cs ++ [some (.int (i:Nat)),some u]) H R)
  (hQ:∀ H,Same H1 H->H D = some (.lst (((List.range xs.length).filter b).map f))->Q H):jp_ (Ite K l xs) (gTup K 2 (yK_ (qZ_ k) (yK_ (qZ_ (k + 1)) gNil))) tt te (cs ++ [none,none]) H1 D Q:=by
 refine ⟨fun i m ys σ H=>m = xs.length - i/\i<=xs.length/\Same H1 H/\ys = ((List.range i).filter b).map f/\H D = some (.lst ys)/\∃ o1 o2,σ = cs ++ [o1,o2],⟨xs.length,rfl,Nat.zero_le _,(Same.refl _).up hD,rfl,qc_,none,none,rfl⟩,?_⟩
 rintro i m ys σ H ⟨rfl,hi,sm,rfl,hd,o1,o2,rfl⟩
 refine ⟨hd,?_⟩
 by_cases hlt:i < xs.length
 ·refine .inr ⟨⟨sm.seq h1,hlt⟩,fun x H' y=>?_⟩
  obtain ⟨T,u,hT,rfl,hu,rfl⟩:=y
  refine uy_ hk hT fun H2 s2=>?_
  refine ht i u H2 _ hu (sm.trans s2) fun H4 s4=>?_
  have s24:=s2.trans s4
  have er:(List.range (i + 1)).filter b = (List.range i).filter b ++ (if b i = true then [i] else []):=by
   rw [List.range_succ,List.filter_append]
   congr 1
   by_cases z:b i = true
   ·rw [if_pos z,List.filter_cons_of_pos z,List.filter_nil]
   ·rw [if_neg z,List.filter_cons_of_neg z,List.filter_nil]
  by_cases z:b i = true
  ·rw [if_pos z]
   refine he i u H4 _ hu z (sm.trans s24) fun H5 s5=>⟨s5 _ _ (s24 _ _ hd),?_,xs.length - (i + 1),by omega,rfl,hlt,((sm.trans s24).trans s5).up hD,?_,qc_,_,_,rfl⟩
   ·rw [List.length_map]
    have:=List.length_filter_le b (List.range i)
    rw [List.length_range] at this
    omega
   ·rw [er,if_pos z,List.map_append]
    rfl
  ·rw [if_neg z]
   refine ⟨xs.length - (i + 1),by omega,rfl,hlt,sm.trans s24,?_,s24 _ _ hd,_,_,rfl⟩
   rw [er,if_neg z,List.append_nil]
 ·have e:i = xs.length:=by omega
  subst e
  exact .inl ⟨⟨sm.seq h1,Nat.le_refl _⟩,hQ H sm hd⟩
theorem qjk_ {r w N o k:Nat}{l:Nat->Nat->Nat} (g:GF.Good r w) (h0o:eqn N l 0 o < 2 ^ w) (h1o:eqn N l 1 o < 2 ^ w) (h0k:eqn N l 0 k < 2 ^ w) (h1k:eqn N l 1 k < 2 ^ w):tot r w N l o k = tot r w N l k o:=by
 unfold tot
 rw [GF.tm_comm g.rule g.w1 h0k h1o,GF.tm_comm g.rule g.w1 h1k h0o,Nat.xor_comm]
theorem qbq_ {r w:Nat} (g:GF.Full r w) {xa ya xb yb xc yc:Nat} (h1:xa < 2 ^ w) (h2:ya < 2 ^ w) (h3:xb < 2 ^ w) (h4:yb < 2 ^ w) (h5:xc < 2 ^ w) (h6:yc < 2 ^ w) (hx:xa ≠ 0) (e1:GF.tm r w xa yb = GF.tm r w ya xb) (e2:GF.tm r w xa yc = GF.tm r w ya xc):GF.tm r w xb yc = GF.tm r w yb xc:=by
 have R:=g.toGood.rule
 have w1:=g.toGood.w1
 refine GF.tm_inj g hx h1 (GF.tm_lt R h3) (GF.tm_lt R h4) ?_
 rw [<- GF.tm_assoc R w1 h1 h3,← GF.tm_assoc R w1 h1 h4,e1,GF.tm_comm R w1 h1 h3,GF.tm_assoc R w1 h3 h1,e2,← GF.tm_assoc R w1 h3 h2,GF.tm_comm R w1 h3 h2]
theorem qfv_ {r w M N o a b:Nat}{l:Nat->Nat->Nat} (g:GF.Full r w) (W:Wts w M N l) (hM:M = 2) (ho:o < N + M) (ha:a < N + M) (hb:b < N + M) (e1:tot r w N l o a = 0) (e2:tot r w N l o b = 0):tot r w N l a b = 0:=by
 subst hM
 have t16:=g.toGood.top16
 have R:=g.toGood.rule
 have w1:=g.toGood.w1
 have lt:∀ t k,t < 2->k < N + 2->eqn N l t k < 2 ^ w:=yf_ W t16
 have o0:=lt 0 o (by decide) ho
 have o1:=lt 1 o (by decide) ho
 have a0:=lt 0 a (by decide) ha
 have a1:=lt 1 a (by decide) ha
 have b0:=lt 0 b (by decide) hb
 have b1:=lt 1 b (by decide) hb
 obtain ⟨t,ht,hne⟩:=vu_ W ho
 unfold tot at e1 e2 ⊢
 have e1:=uk_ e1
 have e2:=uk_ e2
 have c1:GF.tm r w (eqn N l 0 o) (eqn N l 1 a) = GF.tm r w (eqn N l 1 o) (eqn N l 0 a):=by rw [GF.tm_comm R w1 o0 a1,GF.tm_comm R w1 o1 a0];exact e1.symm
 have c2:GF.tm r w (eqn N l 0 o) (eqn N l 1 b) = GF.tm r w (eqn N l 1 o) (eqn N l 0 b):=by rw [GF.tm_comm R w1 o0 b1,GF.tm_comm R w1 o1 b0];exact e2.symm
 have key:GF.tm r w (eqn N l 0 b) (eqn N l 1 a) = GF.tm r w (eqn N l 1 b) (eqn N l 0 a):=by
  rw [GF.tm_comm R w1 b0 a1,GF.tm_comm R w1 b1 a0]
  match t,ht,hne with
  | 0,_,hne=>exact (qbq_ g o0 o1 a0 a1 b0 b1 hne c1 c2).symm
  | 1,_,hne=>exact qbq_ g o1 o0 a1 a0 b1 b0 hne c1.symm c2.symm
 rw [key,Nat.xor_self]
def FixP (r w M N:Nat) (l:Nat->Nat->Nat) (ks:List Bool) (pl:Nat):Prop:=∀ o ∈ jc_ (N + M) ks pl,M = 2/\(∀ k ∈ jc_ (N + M) ks pl,tot r w N l o k = 0)/\tot r w N l o pl ≠ 0
theorem qfw_ {r w M N pl:Nat}{l:Nat->Nat->Nat}{ks:List Bool} (g:GF.Full r w) (W:Wts w M N l) (hpl:pl < N + M):fixB r w M N l ks pl = true ↔ FixP r w M N l ks pl:=by
 have t16:=g.toGood.top16
 unfold fixB FixP
 cases h:jc_ (N + M) ks pl with
 | nil=>exact ⟨fun _ o ho=>absurd ho List.not_mem_nil,fun _=>rfl⟩
 | cons o os =>
  have mem:∀ k ∈ o :: os,k < N + M/\k ≠ pl:=fun k hk=>by
   have:=yc_ (h ▸ hk)
   exact ⟨this.1,this.2.2⟩
  dsimp only
  by_cases hM:M = 1
  ·rw [if_pos hM]
   exact ⟨fun z=>(by cases z),fun z=>by have:=(z o (.head _)).1;omega⟩
  have hM2:M = 2:=by have:=W.m1;have:=W.m2;omega
  rw [if_neg hM,List.all_eq_true]
  have lt:∀ t k,t < M->k < N + M->eqn N l t k < 2 ^ w:=yf_ W t16
  have sy:∀ a b,a < N + M->b < N + M->tot r w N l a b = tot r w N l b a:=fun a b ha hb=>qjk_ g.toGood (lt 0 a (by omega) ha) (lt 1 a (by omega) ha) (lt 0 b (by omega) hb) (lt 1 b (by omega) hb)
  have ho:=(mem o (.head _)).1
  constructor
  ·intro z
   have z1:∀ k ∈ o :: os,tot r w N l o k = 0:=fun k hk=>by
    have:=of_decide_eq_true (z k (List.mem_append_left _ hk))
    exact Decidable.byContradiction fun y=>(mem k hk).2 (this ▸ y)
   have z2:tot r w N l o pl ≠ 0:=by
    have:=of_decide_eq_true (z pl (List.mem_append_right _ (.head _)))
    rw [this]
   intro a ha
   refine ⟨hM2,fun k hk=>qfv_ g W hM2 ho (mem a ha).1 (mem k hk).1 (z1 a ha) (z1 k hk),fun y=>z2 ?_⟩
   exact qfv_ g W hM2 (mem a ha).1 ho hpl (by rw [sy a o (mem a ha).1 ho];exact z1 a ha) y
  ·intro z k hk
   have zo:=z o (.head _)
   refine decide_eq_true (propext ⟨fun y=>?_,fun y=>?_⟩)
   ·rcases List.mem_append.mp hk with hk | hk
    ·exact absurd (zo.2.1 k hk) y
    ·exact List.mem_singleton.mp hk
   ·rw [y];exact zo.2.2
theorem qc9_ {r w M N pl:Nat}{l:Nat->Nat->Nat}{ks ks':List Bool} (g:GF.Full r w) (W:Wts w M N l) (hpl:pl < N + M) (hs:∀ k,k < N + M->ks.getD k false = true->ks'.getD k false = true) (h:fx r w M N l ks pl = true):fx r w M N l ks' pl = true:=by
 unfold fx at h ⊢
 rw [Bool.or_eq_true] at h ⊢
 rcases h with h | h
 ·exact .inl (hs pl hpl h)
 ·refine .inr ((qfw_ g W hpl).mpr fun o ho=>?_)
  have P:=(qfw_ g W hpl).mp h
  have sub:∀ k ∈ jc_ (N + M) ks' pl,k ∈ jc_ (N + M) ks pl:=fun k hk=>by
   have m:=yc_ hk
   unfold jc_
   refine List.mem_filter.mpr ⟨List.mem_range.mpr m.1,?_⟩
   have:ks.getD k false = false:=by
    cases e:ks.getD k false with
    | false=>rfl
    | true=>have:=hs k m.1 e;rw [m.2.1] at this;cases this
   rw [this,decide_eq_false m.2.2]
   rfl
  have p:=P o (sub o ho)
  exact ⟨p.1,fun k hk=>p.2.1 k (sub k hk),p.2.2⟩
def stB (R:Nat) (cs srow:List (Option Nat)):List Bool:=(List.range R).map fun j=>(cs.getD j none).isSome && (srow.getD j none).isSome
theorem qbr_ {R j:Nat}{cs srow:List (Option Nat)} (h:j < R):(stB R cs srow).getD j false = ((cs.getD j none).isSome && (srow.getD j none).isSome):=by
 unfold stB
 rw [List.getD_eq_getElem?_getD,List.getElem?_map,List.getElem?_range h]
 rfl
theorem qbs_ {os:List (Option Nat)}{j:Nat}:(knO os).getD j false = (os.getD j none).isSome:=by
 unfold knO
 rw [List.getD_eq_getElem?_getD,List.getElem?_map,List.getD_eq_getElem?_getD]
 cases os[j]? <;> rfl
theorem qks_ {r w M N k:Nat}{l:Nat->Nat->Nat}{cs srow os os':List (Option Nat)}{as as':List Nat}{b:Bool} (g:GF.Full r w) (W:Wts w M N l) (hk:k < N + M) (h:RdS r w M N l cs srow k os as os' as' b):OkA (N + M) cs srow os as->b = fx r w M N l (stB (N + M) cs srow) k:=by
 induction h with
 | fixed z =>
  rename_i os as
  intro ok
  refine (qc9_ g W hk (fun j hj y=>?_) z).symm
  rw [qbs_,ok.is j hj] at y
  by_cases m:j ∈ as
  ·rw [if_pos m] at y
   rw [qbr_ hj,ok.there j m,y]
   rfl
  ·rw [if_neg m] at y;cases y
 | none _ pm _ hd =>
  rename_i os as ms _ _
  intro ok
  have h0:=hd ms.length (Nat.le_refl _)
  rw [List.take_length] at h0
  cases e:fx r w M N l (stB (N + M) cs srow) k with
  | false=>rfl
  | true =>
   have:fx r w M N l (knW (knO os) ms) k = true:=qc9_ g W hk (fun j hj y=>by
    rw [qbr_ hj,Bool.and_eq_true] at y
    rw [qhm_ _ _ (by rw [yy_,ok.osl];exact hj),qbs_,ok.is j hj]
    by_cases m:j ∈ as
    ·rw [if_pos m,y.2];rfl
    ·have:j ∈ ms:=pm.mem_iff.mpr (List.mem_filter.mpr ⟨List.mem_range.mpr hj,by unfold mayB;rw [y.1];simpa using m⟩)
     rw [List.contains_iff_mem.mpr this,Bool.or_true]) e
   simp only [List.all_cons,List.all_nil,Bool.and_true] at h0
   rw [this] at h0
   cases h0
 | own _ _ _ _ _ _ _ ih=>exact fun ok=>ih (qbo_ ok hk)
 | way _ pm _ _ _ _ ih=>exact fun ok=>ih (vk_ _ _ _ (fun j hj=>List.mem_range.mp (List.mem_filter.mp (pm.mem_iff.mp (List.mem_of_mem_take hj))).1) ok)
def setw (l:Nat->Nat->Nat) (t k v:Nat):Nat->Nat->Nat:=fun i kk=>if i = t/\kk = k then v else l i kk
theorem setW {H:Hp}{ps:List Addr}{M N:Nat}{l:Nat->Nat->Nat} (h:TabAt H ps M (rowT N l)) (nd:ps.Nodup) {t k v:Nat}{p:Addr} (ep:ps[t]? = some p) (hk:k < N):TabAt (upd H p (.lst ((rowV (rowT N l t)).set k (.int (v:Nat))))) ps M (rowT N (setw l t k v)):=by
 refine ⟨h.len,fun i q e=>?_⟩
 by_cases z:i = t
 ·subst z
  rw [ep] at e
  cases Option.some.inj e
  rw [qc_]
  have:(rowV (rowT N l i)).set k (.int (v:Nat)) = rowV ((rowT N l i).set k v):=vT_ _ _ v
  rw [this]
  refine congrArg (fun l=>some (HO.lst (rowV l))) ?_
  unfold rowT
  apply List.ext_getElem?
  intro kk
  rw [List.getElem?_set,List.getElem?_map,List.length_map,List.length_range]
  by_cases y:k = kk
  ·subst y
   rw [if_pos rfl,if_pos hk,List.getElem?_map,List.getElem?_range hk]
   show _ = some (setw l i k v i k)
   unfold setw
   rw [if_pos ⟨rfl,rfl⟩]
  ·rw [if_neg y,List.getElem?_map]
   cases hr:(List.range N)[kk]? with
   | none=>rfl
   | some x =>
    have:x = kk:=by
     obtain ⟨h1,h2⟩:=List.getElem?_eq_some_iff.mp hr
     rw [List.getElem_range] at h2
     exact h2.symm
    subst this
    show some (l i x) = some (setw l i k v i x)
    unfold setw
    rw [if_neg (fun w=>y w.2.symm)]
 ·have nq:q ≠ p:=fun w=>by
   subst w
   have h1:=(List.getElem?_eq_some_iff.mp e)
   have h2:=(List.getElem?_eq_some_iff.mp ep)
   obtain ⟨a1,b1⟩:=h1
   obtain ⟨a2,b2⟩:=h2
   rcases Nat.lt_or_gt_of_ne z with y | y
   ·exact (List.pairwise_iff_getElem.mp nd) i t a1 a2 y (b1.trans b2.symm)
   ·exact (List.pairwise_iff_getElem.mp nd) t i a2 a1 y (b2.trans b1.symm)
  rw [qf_ nq,h.on i q e]
  congr 2
  unfold rowT
  congr 1
  exact List.map_congr_left fun kk _=>by
   unfold setw
   rw [if_neg (fun w=>z w.1)]
def KeepBut (ps:List Addr) (H H':Hp):Prop:=∀ b o,b ∉ ps->H b = some o->H' b = some o
theorem KeepBut.refl (ps:List Addr) (H:Hp):KeepBut ps H H:=fun _ _ _ e=>e
theorem KeepBut.same {ps:List Addr}{H H1 H2:Hp} (h:KeepBut ps H H1) (s:Same H1 H2):KeepBut ps H H2:=fun b o n e=>s _ _ (h b o n e)
theorem KeepBut.upd {ps:List Addr}{H H1:Hp}{p:Addr}{o':HO} (h:KeepBut ps H H1) (hp:p ∈ ps):KeepBut ps H (upd H1 p o'):=fun b o n e=>by
 have:b ≠ p:=fun z=>n (by rw [z];exact hp)
 rw [qf_ this]
 exact h b o n e
theorem qda_ {l:Nat->Nat->Nat}{w M N t k v:Nat} (h:∀ i k,i < M->k < N->l i k < 2 ^ w) (hv:v < 2 ^ w):∀ i kk,i < M->kk < N->setw l t k v i kk < 2 ^ w:=fun i kk hi hk=>by
 unfold setw
 split
 ·exact hv
 ·exact h i kk hi hk
theorem uI_ {l:Nat->Nat->Nat}{t k v i kk:Nat} (h:l i kk ≠ 0) (hv:v ≠ 0):setw l t k v i kk ≠ 0:=by
 unfold setw
 split
 ·exact hv
 ·exact h
theorem qdb_ {l:Nat->Nat->Nat}{t k v:Nat} (hv:v ≠ 0):setw l t k v t k ≠ 0:=by
 unfold setw
 rw [if_pos ⟨rfl,rfl⟩]
 exact hv
theorem qjl_ {xs:List V}{k:Nat}:cutV xs none (some (k:Int)) = xs.take k:=by
 unfold cutV
 rw [HT.sIx_none,HT.sIx_nat,List.drop_zero,Nat.sub_zero]
 rw [List.take_eq_take_iff]
 omega
section
variable {P:Program}{wo:World}{K:PySem.W.Frag}{mg:Str->Option Value}{base:Heap}{a:Adr}
def qjm_:Sp:=fun vs H Q _=>∃ (c:Int) (R:Nat),vs = [.int c,.int R]/\R<=8/\∀ D H' (cs:List Nat),Same H H'->H D = none->H' D = some (.lst (rowV cs))->cs.length = R->Q (.ref D) H'
theorem qhp_ (T:Txt K mg a):FnOk P wo K mg base CX0 1 a.f_kinds a.d_kinds ["_law_cell_here", "_law_roles"] qjm_:=by
 refine T.F_kinds.ok (k:=0) sc_kinds (fun vs H Q E h=>?_) (fun cdv A outer s H vs Q E hr h=>?_)
 ·obtain ⟨c,R,rfl,_⟩:=h
  rfl
 ·obtain ⟨c,R,rfl,hR,q⟩:=h
  refine ⟨_,(qd_ (ql_ (i:=2) sc_kinds.nd rfl (Or.inl rfl) (qn_ qV_ (pv 0) qj_))
   (qd_ (ql_ (i:=3) sc_kinds.nd rfl (Or.inl rfl) (qP_ qe_))
   (qd_ (qK_ PassesOwn.never rfl (qW_ rfl T.n_range (qa_ (pv 1) qe_)) (qo_ (i:=4) sc_kinds.nd rfl (Or.inl rfl)) (qd_ (qU_ (jW_ PySem.F.plainAttrs_list PySem.F.slot_list_append PySem.F.type_list_append qQ_ (pv 3) (qa_ (qn_ qV_ (pv 2) qj_) qe_)))
   (qg_ (ql_ (i:=2) sc_kinds.nd rfl (Or.inl rfl) (qn_ j3_ (pv 2) qj_)))))
   (qg_ (qq_ (pv 3)))))),?_⟩
  obtain ⟨z0,_,ez0⟩:=modN c (n:=65536) (by decide)
  refine ⟨_,rfl,_,_,rfl,rfl,p0 (by decide),?_⟩
  try dsimp only
  rw [show c % 65536 = (z0:Int) from ez0]
  refine ⟨Nat.zero_le _,fun D nD=>?_⟩
  have sD:=Same.new (o:=.lst []) nD
  have hD:(upd H D (.lst [])) D = some (.lst []):=qc_
  generalize (upd H D (.lst [])) = H1 at sD hD
  refine ⟨_,rfl,_,rfl,by omega,by omega,?_⟩
  rw [Int.toNat_natCast]
  refine jn_ (lo:=0) (n:=R) (fun i σ H'=>(∃ (v4:Option V) (z:Nat),σ = [some (.int c),some (.int R),some (.int z),some (.ref D),v4])/\Same H H'/\∃ cs:List Nat,H' D = some (.lst (rowV cs))/\cs.length = i) ⟨⟨none,z0,rfl⟩,sD,[],hD,rfl⟩ ?_ ?_
  ·rintro i σ H' hi ⟨⟨v4,z,rfl⟩,sm,cs,h1,hcl⟩
   have fits:(rowV cs).length < sizeLine:=by
    rw [qk_]
    exact Nat.lt_trans (by omega:cs.length < 9) (by decide)
   refine ⟨_,rfl,.inl ⟨rfl,_,SqL.of h1⟩,_,rfl,_,_,rfl,rfl,p0 (by decide),D,_,_,rfl,rfl,h1,fits,?_⟩
   refine ⟨_,rfl,_,_,rfl,rfl,⟨by decide,by decide⟩,?_⟩
   try dsimp only
   rw [show (z:Int) / 4 = ((z / 4:Nat):Int) by omega,show (z:Int) % 4 = ((z % 4:Nat):Int) by omega]
   exact ⟨⟨_,_,rfl⟩,sm.up nD,cs ++ [z % 4],by rw [qc_,← jx_],by rw [List.length_append,hcl];rfl⟩
  ·rintro σ H' ⟨⟨v4,z,rfl⟩,sm,cs,h1,hcl⟩
   exact ⟨_,rfl,q D H' cs sm nD h1 hcl⟩
def qfx_:Sp:=fun vs H Q _=>∃ (c:Int) (n:Nat),vs = [.int c,.int n]/\n<=16/\∀ D H' (xs:List Nat),Same H H'->H D = none->H' D = some (.lst (rowV xs))->xs.length = n->Q (.ref D) H'
theorem qfy_ (T:Txt K mg a):FnOk P wo K mg base CX0 1 a.f_stream a.d_stream ["_law_cell_here", "_law_many"] qfx_:=by
 refine T.F_stream.ok (k:=0) sc_stream (fun vs H Q E h=>?_) (fun cdv A outer s H vs Q E hr h=>?_)
 ·obtain ⟨c,n,rfl,_⟩:=h
  rfl
 ·obtain ⟨c,n,rfl,hn,q⟩:=h
  refine ⟨_,(qd_ (ql_ (i:=2) sc_stream.nd rfl (Or.inl rfl) (qn_ qO_ (qn_ qV_ (pv 0) qj_) qj_))
   (qd_ (ql_ (i:=3) sc_stream.nd rfl (Or.inl rfl) (qP_ qe_))
   (qd_ (qK_ PassesOwn.never rfl (qW_ rfl T.n_range (qa_ (pv 1) qe_)) (qo_ (i:=4) sc_stream.nd rfl (Or.inl rfl)) (qd_ (ql_ (i:=2) sc_stream.nd rfl (Or.inl rfl) (qn_ qV_ (qn_ qO_ (qn_ qO_ (qn_ qO_ (qn_ jP_ (pv 2) (pv 2)) (qn_ jP_ qj_ (pv 2))) (qn_ jP_ (pv 4) (pv 4))) qj_) qj_))
   (qg_ (qU_ (jW_ PySem.F.plainAttrs_list PySem.F.slot_list_append PySem.F.type_list_append qQ_ (pv 3) (qa_ (pv 2) qe_))))))
   (qg_ (qq_ (pv 3)))))),?_⟩
  obtain ⟨z0,hz0,ez0⟩:=modN c (n:=1000003) (by decide)
  refine ⟨_,rfl,_,_,rfl,rfl,p0 (by decide),_,_,rfl,rfl,?_⟩
  try dsimp only
  rw [show c % 1000003 = (z0:Int) from ez0,show (z0:Int) + 17 = ((z0 + 17:Nat):Int) by omega]
  refine ⟨Nat.zero_le _,fun D nD=>?_⟩
  have sD:=Same.new (o:=.lst []) nD
  have hD:(upd H D (.lst [])) D = some (.lst []):=qc_
  generalize (upd H D (.lst [])) = H1 at sD hD
  refine ⟨_,rfl,_,rfl,by omega,by omega,?_⟩
  rw [Int.toNat_natCast]
  refine jn_ (lo:=0) (n:=n) (fun i σ H'=>(∃ (v4:Option V) (z:Nat),z < 1000100/\σ = [some (.int c),some (.int n),some (.int z),some (.ref D),v4])/\Same H H'/\∃ cs:List Nat,H' D = some (.lst (rowV cs))/\cs.length = i) ⟨⟨none,z0 + 17,by omega,rfl⟩,sD,[],hD,rfl⟩ ?_ ?_
  ·rintro i σ H' hi ⟨⟨v4,z,hz,rfl⟩,sm,cs,h1,hcl⟩
   rw [show (0:Int) + (i:Nat) = ((i:Nat):Int) by omega]
   have fits:(rowV cs).length < sizeLine:=by
    rw [qk_]
    exact Nat.lt_trans (by omega:cs.length < 17) (by decide)
   refine ⟨_,rfl,_,rfl,_,_,rfl,rfl,.inl ⟨by omega,by omega⟩,_,rfl,_,_,rfl,rfl,.inl ⟨by decide,by decide⟩,_,_,rfl,rfl,_,rfl,_,rfl,_,_,rfl,rfl,.inl ⟨by omega,by omega⟩,_,_,rfl,rfl,_,_,rfl,rfl,_,_,rfl,rfl,p0 (by decide),?_⟩
   obtain ⟨y,hy,ey⟩:=modN ((z:Int) * (z:Int) + 30011 * (z:Int) + (i:Int) * (i:Int) + 7) (n:=1000003) (by decide)
   have ey:((z:Int) * (z:Int) + 30011 * (z:Int) + (i:Int) * (i:Int) + 7) % 1000003 = (y:Int):=ey
   try dsimp only
   rw [ey]
   refine ⟨_,rfl,.inl ⟨rfl,_,SqL.of h1⟩,_,rfl,D,_,_,rfl,rfl,h1,fits,?_⟩
   exact ⟨⟨_,y,by omega,rfl⟩,sm.up nD,cs ++ [y],by rw [qc_,← jx_],by rw [List.length_append,hcl];rfl⟩
  ·rintro σ H' ⟨⟨v4,z,_,rfl⟩,sm,cs,h1,hcl⟩
   exact ⟨_,rfl,q D H' cs sm nD h1 hcl⟩
def qcd_:Sp:=fun vs H Q _=>∃ (c:Int) (w M N:Nat),vs = [.int c,.int N,.int M,.int ((2 ^ w - 1:Nat):Int)]/\16<=2 ^ w/\2 ^ w<=256/\1<=M/\M<=2/\1<=N/\N + M<=8 ∧
 ∀ D H' ps (l:Nat->Nat->Nat),Same H H'->H' D = some (.lst (List.map V.ref ps))->TabAt H' ps M (rowT N l)->Wts w M N l->Q (.ref D) H'
theorem qd5_ (T:Txt K mg a):FnOk P wo K mg base CX0 2 a.f_weights a.d_weights ["_law_cell_here", "_law_data", "_law_sums", "_law_last"] qcd_:=by
 have G_stream:FnOk P wo K mg base CX0 1 _ _ _ _:=qfy_ T
 refine T.F_weights.ok (k:=1) sc_weights (fun vs H Q E h=>?_) (fun cdv A outer s H vs Q E hr h=>?_)
 ·obtain ⟨c,w,M,N,rfl,_⟩:=h
  rfl
 ·obtain ⟨c,w,M,N,rfl,t16,t256,m1,m2,n1,n8,q⟩:=h
  refine ⟨_,(qd_ (qD_ (qt_ jD_ (qn_ qV_ (pv 0) qj_) qj_ (qu_ _)) (qg_ (qq_ (qat_ qcn_ (qP_ (qa_ (qn_ zE_ (qP_ (qa_ qj_ qe_)) (pv 1)) (qa_ (jM_ (CompOk.of (cap:=[]) (own:=["_law_role"]) (by kernel_rfl)) rfl (qW_ rfl T.n_range (qa_ (pv 1) qe_)) (fun _ _ _ _ _=>(qo_ (i:=0) (of_decide_eq_true (by kernel_rfl)) rfl (Or.inl rfl))) (fun _ _ _ _ _=>jw_) (fun _ _ _ _ _=>by exact (qn_ qO_ (pv 0) qj_))) qe_))) qcj_ (qck_ (pv 2))))) qA_)
   (qd_ (ql_ (i:=4) sc_weights.nd rfl (Or.inl rfl) (qx_ G_stream (hr.mono (by decide)) rfl T.m_stream T.k_stream T.b_stream .nil qp_ (qa_ (qn_ j3_ (pv 0) qj_) (qa_ (qn_ jP_ qj_ (pv 1)) qe_))))
   (qd_ (ql_ (i:=5) sc_weights.nd rfl (Or.inl rfl) (qP_ qe_))
   (qd_ (qK_ PassesOwn.never rfl (qW_ rfl T.n_range (qa_ (pv 2) qe_)) (qo_ (i:=6) sc_weights.nd rfl (Or.inl rfl)) (qd_ (ql_ (i:=7) sc_weights.nd rfl (Or.inl rfl) (qP_ qe_))
   (qd_ (qK_ PassesOwn.never rfl (qW_ rfl T.n_range (qa_ (pv 1) qe_)) (qo_ (i:=8) sc_weights.nd rfl (Or.inr rfl)) (qd_ (ql_ (i:=9) sc_weights.nd rfl (Or.inl rfl) (qz_ qB_ (pv 4) (qn_ qO_ (qn_ jP_ (pv 6) (pv 1)) (pv 8)) (fun _ _=>rfl)))
   (qg_ (qU_ (jW_ PySem.F.plainAttrs_list PySem.F.slot_list_append PySem.F.type_list_append qQ_ (pv 7) (qa_ (qz_ qB_ (qP_ (qa_ qj_ (qa_ qj_ (qa_ (qn_ qV_ (qn_ j3_ (pv 9) qj_) (qn_ qO_ (pv 3) qj_)) (qa_ (qz_ qB_ (qz_ qB_ (qn_ v7_ (pv 5) (qP_ (qa_ (qn_ zE_ (qP_ (qa_ (qn_ qO_ (pv 8) qj_) qe_)) (pv 1)) qe_))) qj_ (fun _ _=>rfl)) (pv 8) (fun _ _=>rfl)) qe_))))) (qn_ qV_ (pv 9) qj_) (fun _ _=>rfl)) qe_))))))
   (qg_ (qU_ (jW_ PySem.F.plainAttrs_list PySem.F.slot_list_append PySem.F.type_list_append qQ_ (pv 5) (qa_ (pv 7) qe_)))))))
   (qd_ (qK_ PassesOwn.never rfl (qW_ rfl T.n_range (qa_ (pv 1) qe_)) (qo_ (i:=8) sc_weights.nd rfl (Or.inr rfl)) (qg_ (qD_ (qt_ jD_ (qy_ (uZ_ rfl) rfl T.n_max boot_max (qa_ (jM_ (CompOk.of (cap:=[8]) (own:=["_law_line"]) (by kernel_rfl)) rfl (q7_ (pv 5)) (fun _ _ _ _ _=>(qo_ (i:=1) (of_decide_eq_true (by kernel_rfl)) rfl (Or.inl rfl))) (fun _ _ _ _ _=>jw_) (fun _ _ _ _ _=>by exact (qz_ (jU_ (K:=K) rfl) (pv 1) (pv 0) (fun _ _=>rfl)))) qe_)) qj_ (qu_ _)) (qg_ (ye_ qj_ (yi_ (qz_ qB_ (pv 5) (qn_ qV_ (pv 8) (pv 2)) (fun _ _=>rfl)) (pv 8) jS_))) qA_)))
   (qd_ (qK_ PassesOwn.never rfl (q7_ (pv 5)) (qo_ (i:=7) sc_weights.nd rfl (Or.inl rfl)) (qg_ (qD_ (qt_ jD_ (qy_ (uZ_ rfl) rfl T.n_max boot_max (qa_ (pv 7) qe_)) qj_ (qu_ _)) (qg_ (ye_ (qn_ qO_ qj_ (qn_ qV_ (qz_ qB_ (pv 4) qj_ (fun _ _=>rfl)) (pv 3))) (yi_ (pv 7) qj_ jS_))) qA_)))
   (qg_ (qq_ (pv 5))))))))),?_⟩
  refine ⟨_,rfl,_,_,rfl,rfl,p0 (by decide),rfl,_,rfl,?_⟩
  refine ite2 (fun _=>?_) (fun _=>?_)
  ·refine ⟨(show 1<=sizeLine by decide),fun p1 n1'=>⟨_,rfl,p1,_,_,rfl,rfl,qc_,by omega,by omega,?_,fun p2 n2=>?_⟩⟩
   ·rw [Int.toNat_natCast]
    show 1 * N<=sizeLine
    exact Nat.le_trans (by omega:1 * N<=30) (by decide)
   have e0:rowT N plainL 0 = List.replicate N 1:=by
    unfold rowT
    show ((List.range N).map fun _=>1) = _
    rw [List.map_const',List.length_range]
   have eR:(List.replicate ((N:Int)).toNat [V.int 1]).flatten = rowV (rowT N plainL 0):=by
    rw [Int.toNat_natCast,e0]
    exact vt_ N 1
   rw [eR]
   have sP:=(Same.new (o:=.lst [V.int 1]) n1').trans (Same.new (o:=.lst (rowV (rowT N plainL 0))) n2)
   have hp2:(upd (upd H p1 (.lst [V.int 1])) p2 (.lst (rowV (rowT N plainL 0)))) p2 = some (.lst (rowV (rowT N plainL 0))):=qc_
   generalize (upd (upd H p1 (.lst [V.int 1])) p2 (.lst (rowV (rowT N plainL 0)))) = Hp at sP hp2
   refine ⟨_,rfl,_,rfl,by omega,by omega,fun cp ncp=>?_⟩
   rw [Int.toNat_natCast]
   refine qb5_ (n:=N) (f:=fun i=>.int ((plainL 1 i:Nat):Int)) (cs:=[]) ncp rfl (Nat.le_trans (by omega:N<=8) (by decide)) (fun i Hx Rx hi sx hR=>?_) (fun Hq sQ hcp=>?_)
   ·refine ⟨_,rfl,_,_,rfl,rfl,?_⟩
    have e:(i:Int) + 1 = ((plainL 1 i:Nat):Int):=by
     unfold plainL
     rw [if_neg (by decide)]
     omega
    try dsimp only
    rw [e]
    exact hR _ (Same.refl _)
   have ecp:((List.range N).map fun i=>V.int ((plainL 1 i:Nat):Int)) = rowV (rowT N plainL 1):=by
    unfold rowV rowT
    rw [List.map_map]
    rfl
   rw [ecp] at hcp
   refine ⟨(show 2<=sizeLine by decide),fun LL nLL=>?_⟩
   have sL:=Same.new (o:=.lst [V.ref p2,V.ref cp]) nLL
   have hLL:(upd Hq LL (.lst [V.ref p2,V.ref cp])) LL = some (.lst (List.map V.ref [p2,cp])):=qc_
   have sAL:=sP.trans (sQ.trans sL)
   have h2:=sL _ _ (sQ _ _ hp2)
   have h3:=sL _ _ hcp
   generalize (upd Hq LL (.lst [V.ref p2,V.ref cp])) = Hl at sAL hLL h2 h3
   refine ⟨_,rfl,_,rfl,LL,_,rfl,SqL.of hLL,fun sl nsl=>?_⟩
   rw [qjl_,← List.map_take]
   have sS:=Same.new (o:=.lst (([p2,cp].take M).map V.ref)) nsl
   have hsl:(upd Hl sl (.lst (([p2,cp].take M).map V.ref))) sl = some (.lst (([p2,cp].take M).map V.ref)):=qc_
   have htS:TabAt (upd Hl sl (.lst (([p2,cp].take M).map V.ref))) ([p2,cp].take M) M (rowT N plainL):=⟨by rw [List.length_take];show min M 2 = M;omega,fun i p e=>by
    rw [List.getElem?_take] at e
    split at e
    ·match i,e with
     | 0,e=>cases Option.some.inj e;exact sS _ _ h2
     | 1,e=>cases Option.some.inj e;exact sS _ _ h3
    ·cases e⟩
   exact q sl _ _ _ (sAL.trans sS) hsl htS (qfi_ t16 m1 m2 n1 n8)
  ·refine ⟨_,rfl,_,_,rfl,rfl,⟨by decide,by decide⟩,_,rfl,_,_,rfl,rfl,.inl ⟨by decide,by decide⟩,c / 4,2 * N,congrArg (fun z=>[V.int (c / 4),V.int z]) (show (2:Int) * (N:Int) = ((2 * N:Nat):Int) by omega),by omega,fun XL H1 xs s1 nXL hXL hxl=>?_⟩
   refine ⟨Nat.zero_le _,fun D nD=>?_⟩
   have sD:=Same.new (o:=.lst []) nD
   have hD:(upd H1 D (.lst [])) D = some (.lst (List.map V.ref [])):=qc_
   generalize (upd H1 D (.lst [])) = H2 at sD hD
   refine ⟨_,rfl,_,rfl,by omega,by omega,?_⟩
   rw [Int.toNat_natCast]
   refine jn_ (lo:=0) (n:=M) (fun t σ H'=>(∃ v6 v7 v8 v9:Option V,σ = [some (.int c),some (.int (N:Nat)),some (.int (M:Nat)),some (.int ((2 ^ w - 1:Nat):Int)),some (.ref XL),some (.ref D),v6,v7,v8,v9])/\Same H1 H'/\∃ ps l,H' D = some (.lst (ps.map V.ref))/\TabAt H' ps t (rowT N l)/\ps.Nodup/\D ∉ ps/\(∀ p ∈ ps,H1 p = none)/\∀ i k,i < t->k < N->l i k < 2 ^ w)
    ⟨⟨_,_,_,_,rfl⟩,sD,[],fun _ _=>0,hD,⟨rfl,fun i p e=>by simp at e⟩,List.nodup_nil,List.not_mem_nil,fun p hp=>absurd hp List.not_mem_nil,fun i k hi=>absurd hi (Nat.not_lt_zero i)⟩ ?_ ?_
   ·rintro t σ H3 htM ⟨⟨v6,v7,v8,v9,rfl⟩,s3,ps,l,hD3,ht3,nd,nin,hfr,hlt⟩
    rw [show (0:Int) + (t:Nat) = ((t:Nat):Int) by omega]
    refine ⟨Nat.zero_le _,fun L nL=>?_⟩
    have sL:=Same.new (o:=.lst []) nL
    have hL:(upd H3 L (.lst [])) L = some (.lst (rowV [])):=qc_
    generalize (upd H3 L (.lst [])) = H4 at sL hL
    refine ⟨_,rfl,_,rfl,by omega,by omega,?_⟩
    rw [Int.toNat_natCast]
    refine jn_ (lo:=0) (n:=N) (fun k σ H'=>(∃ v8 v9:Option V,σ = [some (.int c),some (.int (N:Nat)),some (.int (M:Nat)),some (.int ((2 ^ w - 1:Nat):Int)),some (.ref XL),some (.ref D),some (.int (t:Nat)),some (.ref L),v8,v9])/\Same H3 H'/\∃ row:List Nat,H' L = some (.lst (rowV row))/\row.length = k/\∀ x ∈ row,x < 2 ^ w) ⟨⟨_,_,rfl⟩,sL,[],hL,rfl,fun x hx=>absurd hx List.not_mem_nil⟩ ?_ ?_
    ·rintro k σ H5 hk ⟨⟨v8,v9,rfl⟩,s5,row,hL5,hrl,hrow⟩
     rw [show (0:Int) + (k:Nat) = ((k:Nat):Int) by omega]
     have hX5:=s5 _ _ (s3 _ _ hXL)
     have hD5:=s5 _ _ hD3
     have htk:t * N + k < xs.length:=by
      rw [hxl]
      have:t * N<=1 * N:=Nat.mul_le_mul_right N (by omega)
      omega
     have gx:atI (rowV xs) ((t:Int) * (N:Int) + (k:Int)) = some (.int ((xs.getD (t * N + k) 0:Nat):Int)):=by
      rw [show (t:Int) * (N:Int) + (k:Int) = ((t * N + k:Nat):Int) by simp]
      exact qr_ (jy_ htk)
     generalize xs.getD (t * N + k) 0 = x at gx
     have fits:(rowV row).length < sizeLine:=by
      rw [qk_]
      exact Nat.lt_trans (by omega:row.length < 9) (by decide)
     refine ⟨_,rfl,_,rfl,_,rfl,_,_,rfl,rfl,.inl ⟨by omega,by omega⟩,_,rfl,_,_,rfl,rfl,XL,_,_,_,rfl,rfl,SqL.of hX5,gx,?_⟩
     refine ⟨_,rfl,.inl ⟨rfl,_,SqL.of hL5⟩,_,rfl,_,_,rfl,rfl,⟨by decide,by decide⟩,_,rfl,_,_,rfl,rfl,_,_,rfl,rfl,by omega,?_⟩
     refine ⟨_,rfl,_,rfl,_,_,rfl,rfl,(show 1<=sizeLine by decide),fun p1 n1'=>⟨_,rfl,p1,_,_,rfl,rfl,qc_,by omega,by omega,?_,fun p2 n2=>⟨(show 1<=sizeLine by decide),fun p3 n3=>⟨D,p3,ps.map V.ref,_,rfl,rfl,?_,qc_,?_,fun p4 n4=>?_⟩⟩⟩⟩
     ·rw [Int.toNat_natCast]
      show 1 * N<=sizeLine
      exact Nat.le_trans (by omega:1 * N<=30) (by decide)
     ·exact (Same.new n3) _ _ ((Same.new n2) _ _ ((Same.new n1') _ _ hD5))
     ·rw [List.length_map,ht3.len]
      exact Nat.le_trans (by show t + 1<=9;omega) (by decide)
     have eR:(List.replicate ((N:Int)).toNat [V.int ((k:Int) + 1)]).flatten = rowV (List.replicate N (k + 1)):=by
      rw [Int.toNat_natCast,show (k:Int) + 1 = ((k + 1:Nat):Int) by omega]
      exact vt_ N (k + 1)
     try dsimp only
     try dsimp only at n2 n3 n4
     rw [eR] at n3 n4
     rw [eR]
     have sQ:Same H5 (upd (upd (upd (upd H5 p1 (.lst [V.int ((k:Int) + 1)])) p2 (.lst (rowV (List.replicate N (k + 1))))) p3 (.lst [V.ref p2])) p4 (.lst (ps.map V.ref ++ [V.ref p2]))):=(Same.new n1').trans ((Same.new n2).trans ((Same.new n3).trans (Same.new n4)))
     have hp4:(upd (upd (upd (upd H5 p1 (.lst [V.int ((k:Int) + 1)])) p2 (.lst (rowV (List.replicate N (k + 1))))) p3 (.lst [V.ref p2])) p4 (.lst (ps.map V.ref ++ [V.ref p2]))) p4 = some (.lst (ps.map V.ref ++ [V.ref p2])):=qc_
     have hp2:(upd (upd (upd (upd H5 p1 (.lst [V.int ((k:Int) + 1)])) p2 (.lst (rowV (List.replicate N (k + 1))))) p3 (.lst [V.ref p2])) p4 (.lst (ps.map V.ref ++ [V.ref p2]))) p2 = some (.lst (rowV (List.replicate N (k + 1)))):=(Same.new n4) _ _ ((Same.new n3) _ _ qc_)
     generalize (upd (upd (upd (upd H5 p1 (.lst [V.int ((k:Int) + 1)])) p2 (.lst (rowV (List.replicate N (k + 1))))) p3 (.lst [V.ref p2])) p4 (.lst (ps.map V.ref ++ [V.ref p2]))) = H6 at sQ hp4 hp2
     obtain ⟨pz,rz,epz,hpz,hkz,hvz⟩:∃ (pz:Addr) (rz:List Nat),(ps.map V.ref ++ [V.ref p2])[0]? = some (.ref pz)/\H6 pz = some (.lst (rowV rz))/\k < rz.length/\rz.getD k 0 < 2 ^ w:=by
      by_cases ht0:t = 0
      ·have e:ps = []:=List.eq_nil_of_length_eq_zero (by rw [ht3.len,ht0])
       subst e
       exact ⟨p2,_,rfl,hp2,by rw [List.length_replicate];exact hk,by rw [List.getD_eq_getElem?_getD,List.getElem?_replicate,if_pos hk];show k + 1 < 2 ^ w;omega⟩
      ·obtain ⟨p,ep,hp⟩:=ht3.get (i:=0) (by omega)
       exact ⟨p,_,by rw [List.getElem?_append_left (by rw [List.length_map,ht3.len];omega)];exact qG_ ep,sQ _ _ (s5 _ _ hp),by rw [qs_];exact hk,by rw [jd_ hk];exact hlt 0 k (by omega) hk⟩
     obtain ⟨v,hv,gv⟩:∃ v:Nat,v < 2 ^ w/\atI [V.int 0,V.int 1,V.int ((x:Int) / 4 % (((2 ^ w - 1:Nat):Int) + 1)),V.int ((rz.getD k 0:Nat):Int)] ((x:Int) % 4) = some (.int (v:Nat)):=by
      obtain ⟨va,hva,eva⟩:=modN ((x:Int) / 4) (n:=2 ^ w) (by omega)
      rw [show (((2 ^ w - 1:Nat):Int) + 1) = ((2 ^ w:Nat):Int) by omega,eva]
      have h4:x % 4 = 0\/x % 4 = 1\/x % 4 = 2\/x % 4 = 3:=by omega
      rcases h4 with h | h | h | h
      ·rw [show (x:Int) % 4 = ((0:Nat):Int) by omega]
       exact ⟨0,by omega,qr_ (j:=0) rfl⟩
      ·rw [show (x:Int) % 4 = ((1:Nat):Int) by omega]
       exact ⟨1,by omega,qr_ (j:=1) rfl⟩
      ·rw [show (x:Int) % 4 = ((2:Nat):Int) by omega]
       exact ⟨va,hva,qr_ (j:=2) rfl⟩
      ·rw [show (x:Int) % 4 = ((3:Nat):Int) by omega]
       exact ⟨_,hvz,qr_ (j:=3) rfl⟩
     refine ⟨p4,_,_,_,rfl,rfl,SqL.of hp4,qr_ (j:=0) epz,_,rfl,pz,_,_,_,rfl,rfl,SqL.of hpz,qr_ (jy_ hkz),(show 4<=sizeLine by decide),fun p5 n5=>⟨_,rfl,_,_,rfl,rfl,p0 (by decide),p5,_,_,_,rfl,rfl,SqL.of qc_,gv,L,_,_,rfl,rfl,(Same.new n5) _ _ (sQ _ _ hL5),fits,?_⟩⟩
     refine ⟨⟨_,_,rfl⟩,((s5.trans sQ).trans (Same.new n5)).up nL,row ++ [v],by rw [qc_,← jx_],by rw [List.length_append,hrl];rfl,fun y hy=>?_⟩
     rcases List.mem_append.mp hy with z | z
     ·exact hrow y z
     ·rw [List.mem_singleton.mp z];exact hv
    ·rintro σ H5 ⟨⟨v8,v9,rfl⟩,s5,row,hL5,hrl,hrow⟩
     have hD5:=s5 _ _ hD3
     have fits:(ps.map V.ref).length < sizeLine:=by
      rw [List.length_map,ht3.len]
      exact Nat.lt_trans (by omega:t < 9) (by decide)
     refine ⟨_,rfl,.inl ⟨rfl,_,SqL.of hD5⟩,_,rfl,D,_,_,rfl,rfl,hD5,fits,?_⟩
     have dLD:L ≠ D:=fun y=>by rw [y,hD3] at nL;cases nL
     have nLp:L ∉ ps:=fun y=>by
      obtain ⟨i,e⟩:=List.getElem?_of_mem y
      rw [ht3.on i L e] at nL
      cases nL
     refine ⟨⟨_,_,_,_,rfl⟩,(s3.trans s5).up nD,ps ++ [L],fun i k=>if i = t then row.getD k 0 else l i k,by rw [qc_,List.map_append];rfl,?_,?_,?_,?_,?_⟩
     ·have ht5:TabAt H5 ps t (rowT N fun i k=>if i = t then row.getD k 0 else l i k):=(ht3.same s5).congr fun i hi=>yx_ fun k _=>by rw [if_neg (by omega)]
      refine (ht5.upd (d:=D) nin).snoc (fun _ _=>rfl) ?_
      rw [qf_ dLD,hL5]
      have:rowT N (fun i k=>if i = t then row.getD k 0 else l i k) t = row:=by
       have h1:=u0_ (W:=N) (f:=fun _=>row) (i:=t) hrl
       rw [<- h1]
       exact yx_ fun k _=>by rw [if_pos rfl];exact congrArg (fun z=>z.getD k 0) h1
      rw [this]
     ·exact List.nodup_append.mpr ⟨nd,by simp,fun x hx y hy=>fun e=>nLp (by rw [List.mem_singleton.mp hy] at e;exact e ▸ hx)⟩
     ·exact fun y=>(List.mem_append.mp y).elim nin fun y=>dLD (List.mem_singleton.mp y).symm
     ·intro p hp
      rcases List.mem_append.mp hp with y | y
      ·exact hfr p y
      ·rw [List.mem_singleton.mp y];exact s3.free nL
     ·intro i k hi hk
      show (if i = t then row.getD k 0 else l i k) < 2 ^ w
      split
      ·rw [List.getD_eq_getElem?_getD,List.getElem?_eq_getElem (by omega)]
       exact hrow _ (List.getElem_mem _)
      ·exact hlt i k (by omega) hk
   ·rintro σ H3 ⟨⟨v6,v7,v8,v9,rfl⟩,s3,ps,l,hD3,ht3,nd,nin,hfr,hlt⟩
    have el:(ps.map V.ref).length = M:=by rw [List.length_map,ht3.len]
    have hX3:=s3 _ _ hXL
    have nXp:XL ∉ ps:=fun y=>by rw [hfr XL y] at hXL;cases hXL
    refine ⟨_,rfl,_,rfl,by omega,by omega,?_⟩
    rw [Int.toNat_natCast]
    refine jn_ (lo:=0) (n:=N) (fun i σ H'=>∃ (v8:Option V) (l':Nat->Nat->Nat),σ = [some (.int c),some (.int (N:Nat)),some (.int (M:Nat)),some (.int ((2 ^ w - 1:Nat):Int)),some (.ref XL),some (.ref D),v6,v7,v8,v9]/\KeepBut ps H3 H'/\TabAt H' ps M (rowT N l')/\(∀ i k,i < M->k < N->l' i k < 2 ^ w)/\∀ k,k < i->∃ t,t < M/\l' t k ≠ 0)
     ⟨v8,l,rfl,KeepBut.refl _ _,ht3,hlt,fun k hk=>absurd hk (Nat.not_lt_zero k)⟩ ?_ ?_
    ·rintro k σ H' hk ⟨v8,l',rfl,kb,ht',hlt',hcol⟩
     rw [show (0:Int) + (k:Nat) = ((k:Nat):Int) by omega]
     have hD':=kb _ _ nin hD3
     refine ⟨_,rfl,D,rfl,⟨_,SqL.of hD'⟩,fun C nC=>?_⟩
     refine j8_ (xs:=ps.map V.ref) (f:=fun t=>.int ((l' t k:Nat):Int)) (cs:=[some (.int (k:Nat))]) (SqL.of hD') nC rfl (by rw [el];exact Nat.le_trans m2 (by decide)) (fun i u H2 R2 hu s2 hR=>?_) (fun H2 s2 hC=>?_)
     ·have hi:i < M:=by rw [<- el];exact (List.getElem?_eq_some_iff.mp hu).1
      obtain ⟨p,ep,hp⟩:=ht'.get hi
      rw [qG_ ep] at hu
      cases Option.some.inj hu
      have gi:=qr_ (jy_ (row:=rowT N l' i) (i:=k) (by rw [qs_];exact hk))
      rw [jd_ hk] at gi
      exact ⟨_,rfl,_,rfl,p,_,_,_,rfl,rfl,SqL.of (s2 _ _ hp),gi,hR _ (Same.refl _)⟩
     ·rw [el] at hC
      have eC:((List.range M).map fun t=>V.int ((l' t k:Nat):Int)) = ((List.range M).map fun t=>((l' t k:Nat):Int)).map V.int:=by
       rw [List.map_map]
       rfl
      rw [eC] at hC
      have kb2:=kb.same s2
      have ht2:=ht'.same s2
      refine ⟨C,_,rfl,SqL.of hC,(fun z=>by have:=congrArg List.length z;rw [List.length_map,List.length_range] at this;simp at this;omega),fun z hz hmax=>?_⟩
      refine ⟨rfl,_,rfl,?_⟩
      refine ite2 (fun y=>?_) (fun y=>?_)
      ·have hmod:k % M < M:=Nat.mod_lt _ (by omega)
       obtain ⟨p,ep,hp⟩:=ht2.get hmod
       have em:(k:Int) % (M:Int) = ((k % M:Nat):Int):=(Int.natCast_emod k M).symm
       have hD2:=s2 _ _ hD'
       refine ⟨_,rfl,_,rfl,_,rfl,_,_,rfl,rfl,p0 (by omega),?_⟩
       try dsimp only
       rw [em]
       refine ⟨D,_,_,_,rfl,rfl,SqL.of hD2,qr_ (qG_ ep),_,rfl,p,_,_,k,rfl,rfl,hp,j4_ (by rw [qk_,qs_];exact hk),?_⟩
       refine ⟨_,setw l' (k % M) k 1,rfl,kb2.upd (List.mem_of_getElem? ep),setW (v:=1) ht2 nd ep hk,qda_ hlt' (by omega),fun kk hkk=>?_⟩
       by_cases z:kk = k
       ·subst z
        exact ⟨_,hmod,qdb_ (by decide)⟩
       ·obtain ⟨t,htt,hne⟩:=hcol kk (by omega)
        exact ⟨t,htt,uI_ hne (by decide)⟩
      ·obtain ⟨t,ht,rfl⟩:=List.mem_map.mp hz
       refine ⟨_,l',rfl,kb2,ht2,hlt',fun kk hkk=>?_⟩
       by_cases z:kk = k
       ·subst z
        exact ⟨t,List.mem_range.mp ht,fun e=>y (decide_eq_true (by rw [e];rfl))⟩
       ·exact hcol kk (by omega)
    ·rintro σ H' ⟨v8,l',rfl,kb,ht',hlt',hcol⟩
     have hD':=kb _ _ nin hD3
     refine ⟨_,rfl,D,rfl,⟨_,SqL.of hD'⟩,?_⟩
     refine j6_ (xs:=ps.map V.ref) (fun i σ H''=>∃ (v7:Option V) (l':Nat->Nat->Nat),σ = [some (.int c),some (.int (N:Nat)),some (.int (M:Nat)),some (.int ((2 ^ w - 1:Nat):Int)),some (.ref XL),some (.ref D),v6,v7,v8,v9]/\KeepBut ps H3 H''/\TabAt H'' ps M (rowT N l')/\(∀ i k,i < M->k < N->l' i k < 2 ^ w)/\(∀ k,k < N->∃ t,t < M/\l' t k ≠ 0)/\∀ j,j < i->∃ k,k < N/\l' j k ≠ 0)
      ⟨v7,l',rfl,kb,ht',hlt',hcol,fun j hj=>absurd hj (Nat.not_lt_zero j)⟩ ?_ ?_ ?_
     ·rintro i σ H'' _ ⟨v7,l',_,kb,_⟩
      exact SqL.of (kb _ _ nin hD3)
     ·rintro j u σ H'' hu ⟨v7,l',rfl,kb,ht',hlt',hcol,hrow⟩
      have hj:j < M:=by rw [<- el];exact (List.getElem?_eq_some_iff.mp hu).1
      obtain ⟨p,ep,hp⟩:=ht'.get hj
      rw [qG_ ep] at hu
      cases Option.some.inj hu
      have hX:=kb _ _ nXp hX3
      refine ⟨_,rfl,p,(rowT N l' j).map (fun n:Nat=>(n:Int)),rfl,(by rw [<- u1_];exact SqL.of hp),(fun z=>by have:=congrArg List.length z;rw [List.length_map,qs_] at this;simp at this;omega),fun z hz hmax=>?_⟩
      refine ⟨rfl,_,rfl,?_⟩
      refine ite2 (fun y=>?_) (fun y=>?_)
      ·have g0:=qr_ (j:=0) (jy_ (row:=xs) (i:=0) (by omega))
       generalize xs.getD 0 0 = x0 at g0
       refine ⟨_,rfl,XL,_,_,_,rfl,rfl,SqL.of hX,g0,_,rfl,_,_,rfl,rfl,by omega,_,_,rfl,rfl,_,rfl,p,_,_,0,rfl,rfl,hp,j4_ (j:=0) (by rw [qk_,qs_];omega),?_⟩
       obtain ⟨x1,hx1,e1⟩:=modN ((x0:Nat):Int) (n:=2 ^ w - 1) (by omega)
       try dsimp only
       rw [e1,show (1:Int) + (x1:Int) = ((1 + x1:Nat):Int) by omega]
       refine ⟨_,setw l' j 0 (1 + x1),rfl,kb.upd (List.mem_of_getElem? ep),setW ht' nd ep (by omega),qda_ hlt' (by omega),fun k hk=>?_,fun i hi=>?_⟩
       ·obtain ⟨t,htt,hne⟩:=hcol k hk
        exact ⟨t,htt,uI_ hne (by omega)⟩
       ·by_cases z:i = j
        ·subst z
         exact ⟨0,by omega,qdb_ (by omega)⟩
        ·obtain ⟨k,hk,hne⟩:=hrow i (by omega)
         exact ⟨k,hk,uI_ hne (by omega)⟩
      ·refine ⟨_,l',rfl,kb,ht',hlt',hcol,fun i hi=>?_⟩
       by_cases z':i = j
       ·subst z'
        obtain ⟨x,hx,rfl⟩:=List.mem_map.mp hz
        unfold rowT at hx
        obtain ⟨k,hk,rfl⟩:=List.mem_map.mp hx
        exact ⟨k,List.mem_range.mp hk,fun e=>y (decide_eq_true (by rw [e];rfl))⟩
       ·exact hrow i (by omega)
     ·rintro σ H'' ⟨v7,l',rfl,kb,ht',hlt',hcol,hrow⟩
      rw [el] at hrow
      exact ⟨_,rfl,q D H'' ps l' (fun b o e=>kb b o (fun y=>by rw [s1.free (hfr b y)] at e;cases e) (s3 b o (s1 b o e))) (kb _ _ nin hD3) ht' ⟨m1,m2,n1,n8,hlt',hrow,hcol⟩⟩
end
structure ObAt (H:Hp) (ps:List Addr) (n:Nat) (ob:Nat->HO):Prop where
 len:ps.length = n
 on:∀ j p,ps[j]? = some p->H p = some (ob j)
theorem ObAt.same {H H':Hp}{ps:List Addr}{n:Nat}{ob:Nat->HO} (h:ObAt H ps n ob) (s:Same H H'):ObAt H' ps n ob:=⟨h.len,fun j p e=>s _ _ (h.on j p e)⟩
theorem ObAt.snoc {H:Hp}{ps:List Addr}{n:Nat}{ob:Nat->HO}{p:Addr} (h:ObAt H ps n ob) (hp:H p = some (ob n)):ObAt H (ps ++ [p]) (n + 1) ob:=⟨by rw [List.length_append,h.len];rfl,fun j q e=>by
 by_cases z:j < ps.length
 ·rw [List.getElem?_append_left z] at e
  exact h.on j q e
 ·rw [List.getElem?_append_right (by omega)] at e
  have:j - ps.length = 0:=by
   cases y:j - ps.length with
   | zero=>rfl
   | succ m=>rw [y] at e;cases e
  rw [this] at e
  cases Option.some.inj e
  have:j = n:=by have:=h.len;omega
  rw [this]
  exact hp⟩
theorem ObAt.get {H:Hp}{ps:List Addr}{n i:Nat}{ob:Nat->HO} (h:ObAt H ps n ob) (hi:i < n):∃ p,ps[i]? = some p/\H p = some (ob i):=⟨ps[i]'(by rw [h.len];exact hi),List.getElem?_eq_getElem _,h.on i _ (List.getElem?_eq_getElem _)⟩
theorem ObAt.congr {H:Hp}{ps:List Addr}{n:Nat}{ob ob':Nat->HO} (h:ObAt H ps n ob) (e:∀ j,j < n->ob j = ob' j):ObAt H ps n ob':=⟨h.len,fun j p y=>by rw [<- e j (by rw [<- h.len];exact (List.getElem?_eq_some_iff.mp y).1)];exact h.on j p y⟩
theorem vl_ {J:It}{n:Nat}{g:TG}{stt:Nat->L2.St}{Ok:L2.St->Prop}{ob:Nat->HO}{te:TE}{σ0:L2.St}{H1:Hp}{D:Addr}{Q:Hp->Prop} (hD:H1 D = none) (hn:n<=sizeLine) (h0:Ok σ0) (hok:∀ i,i < n->Ok (stt i))
  (stop:∀ H,Same H1 H->J.stop n H) (go:∀ i H,i < n->Same H1 H->J.go i H)
  (tg:∀ i σ H x H' (R:L2.St->Hp->Prop),i < n->Same H1 H->Ok σ->J.yld i H x H'->(∀ H'',Same H H''->R (stt i) H'')->g x σ H' R)
  (he:∀ i H (R:V->Hp->Prop),i < n->Same H1 H->(∀ p H4,H p = none->Same H H4->H4 p = some (ob i)->R (.ref p) H4)->te (stt i) H R)
  (hQ:∀ ps H,Same H1 H->H D = some (.lst (ps.map V.ref))->ObAt H ps n ob->Q H):jp_ J g jE_ te σ0 H1 D Q:=by
 refine ⟨fun i m ys σ H=>m = n - i/\i<=n/\Same H1 H/\(∃ ps:List Addr,ys = ps.map V.ref/\ObAt H ps i ob/\D ∉ ps)/\H D = some (.lst ys)/\Ok σ,
  ⟨n,rfl,Nat.zero_le _,(Same.refl _).up hD,⟨[],rfl,⟨rfl,fun j p e=>by simp at e⟩,List.not_mem_nil⟩,qc_,h0⟩,?_⟩
 rintro i m ys σ H ⟨rfl,hi,sm,⟨ps,rfl,hr,hd'⟩,hd,ho⟩
 refine ⟨hd,?_⟩
 by_cases hlt:i < n
 ·refine .inr ⟨go i H hlt sm,fun x H' y=>?_⟩
  refine tg i σ H x H' _ hlt sm ho y fun H'' s2=>?_
  unfold jE_
  refine iteT ?_
  refine he i H'' _ hlt (sm.trans s2) fun p H4 hp s4 h4=>?_
  have np:p ≠ D:=fun z=>by rw [z,s2 _ _ hd] at hp;cases hp
  refine ⟨(s2.trans s4) _ _ hd,?_,n - (i + 1),by omega,rfl,hlt,(sm.trans (s2.trans s4)).up hD,⟨ps ++ [p],by rw [List.map_append];rfl,?_,?_⟩,qc_,hok i hlt⟩
  ·rw [List.length_map,hr.len]
   omega
  ·have h5:=(hr.same (s2.trans s4)).snoc h4
   exact ⟨h5.len,fun j q e=>by
    rw [qf_ fun z=>?_]
    ·exact h5.on j q e
    ·rcases List.mem_append.mp (List.mem_of_getElem? e) with y | y
     ·exact hd' (z ▸ y)
     ·exact np ((List.mem_singleton.mp y).symm.trans z)⟩
  ·intro z
   rcases List.mem_append.mp z with z | z
   ·exact hd' z
   ·exact np (List.mem_singleton.mp z).symm
 ·have e:i = n:=by omega
  subst e
  exact .inl ⟨stop H sm,hQ ps H sm hd hr⟩
theorem qfz_ {n:Nat}{ob:Nat->HO}{k:Nat}{te:TE}{cs:L2.St}{H1:Hp}{D:Addr}{Q:Hp->Prop} (hD:H1 D = none) (hk:k = cs.length) (hn:n<=sizeLine)
  (he:∀ i H (R:V->Hp->Prop),i < n->Same H1 H->(∀ p H4,H p = none->Same H H4->H4 p = some (ob i)->R (.ref p) H4)->te (cs ++ [some (.int (i:Nat))]) H R)
  (hQ:∀ ps H,Same H1 H->H D = some (.lst (ps.map V.ref))->ObAt H ps n ob->Q H):jp_ (Itr 0 n) (qZ_ k) jE_ te (cs ++ [none]) H1 D Q :=
 vl_ (n:=n) (stt:=fun i=>cs ++ [some (.int (i:Nat))]) (Ok:=fun σ=>∃ o,σ = cs ++ [o]) hD hn ⟨none,rfl⟩ (fun i _=>⟨_,rfl⟩) (fun H _=>Nat.le_refl _) (fun i H hi _=>hi) (fun i σ H x H' R hi sm ho y q=>by
  obtain ⟨o,rfl⟩:=ho
  obtain ⟨e,rfl⟩:H' = H/\x = .int (0 + (i:Nat)):=y
  subst e
  unfold qZ_
  rw [hk,List.set_append_right _ _ (Nat.le_refl _),Nat.sub_self,show (0:Int) + (i:Nat) = ((i:Nat):Int) by omega]
  exact q _ (Same.refl _)) he hQ
theorem qf0_ {K:PySem.W.Frag}{l:Addr}{qs:List Addr}{n:Nat}{ob:Nat->HO}{c0 c1:Nat->V}{k:Nat}{te:TE}{cs:L2.St}{H1:Hp}{D:Addr}{Q:Hp->Prop} (hl:H1 l = some (.lst (qs.map V.ref))) (hq:ObAt H1 qs n fun i=>.tup [c0 i,c1 i]) (hD:H1 D = none) (hk:k = cs.length) (hn:n<=sizeLine)
  (he:∀ i H (R:V->Hp->Prop),i < n->Same H1 H->(∀ p H4,H p = none->Same H H4->H4 p = some (ob i)->R (.ref p) H4)->te (cs ++ [some (c0 i),some (c1 i)]) H R)
  (hQ:∀ ps H,Same H1 H->H D = some (.lst (ps.map V.ref))->ObAt H ps n ob->Q H):jp_ (Itl K l) (gTup K 2 (yK_ (qZ_ k) (yK_ (qZ_ (k + 1)) gNil))) jE_ te (cs ++ [none,none]) H1 D Q :=
 vl_ (n:=n) (stt:=fun i=>cs ++ [some (c0 i),some (c1 i)]) (Ok:=fun σ=>∃ o1 o2,σ = cs ++ [o1,o2]) hD hn ⟨none,none,rfl⟩ (fun i _=>⟨_,_,rfl⟩) (fun H sm=>⟨_,SqL.of (sm _ _ hl),by rw [List.length_map,hq.len];exact Nat.le_refl _⟩) (fun i H hi sm=>by
  obtain ⟨p,e,_⟩:=hq.get hi
  exact ⟨_,.ref p,SqL.of (sm _ _ hl),qG_ e⟩) (fun i σ H x H' R hi sm ho y q=>by
  obtain ⟨o1,o2,rfl⟩:=ho
  obtain ⟨rfl,y⟩:=y
  obtain ⟨p,e,hp⟩:=hq.get hi
  have:=(y _ (SqL.of (sm _ _ hl))).symm.trans (qG_ e)
  cases Option.some.inj this
  refine ⟨p,_,rfl,SqT.of (sm _ _ hp),rfl,_,_,rfl,_,_,rfl,rfl,?_⟩
  have e:((cs ++ [o1,o2]).set k (some (c0 i))).set (k + 1) (some (c1 i)) = cs ++ [some (c0 i),some (c1 i)]:=by
   subst hk
   have e1:(List.length cs).succ - List.length cs = 1:=by omega
   rw [List.set_append_right _ _ (Nat.le_refl _),List.set_append_right _ _ (Nat.le_succ _),Nat.sub_self,e1]
   rfl
  rw [e]
  exact q _ (Same.refl _)) he hQ
def cl2 (M N:Nat) (l:Nat->Nat->Nat) (k:Nat):Nat:=if M = 2 then eqn N l 1 k else 0
def colO (M N:Nat) (l:Nat->Nat->Nat) (k:Nat):HO:=.tup [.int ((eqn N l 0 k:Nat):Int),.int ((cl2 M N l k:Nat):Int)]
section
variable {P:Program}{wo:World}{K:PySem.W.Frag}{mg:Str->Option Value}{base:Heap}{a:Adr}
def qf1_:Sp:=fun vs H Q _=>∃ (WL:Addr) (ps:List Addr) (w M N:Nat) (l:Nat->Nat->Nat),vs = [.ref WL]/\H WL = some (.lst (ps.map V.ref))/\TabAt H ps M (rowT N l)/\Wts w M N l ∧
 ∀ D H' qs,Same H H'->H' D = some (.lst (qs.map V.ref))->ObAt H' qs (N + M) (colO M N l)->Q (.ref D) H'
theorem qd6_ (T:Txt K mg a):FnOk P wo K mg base CX0 1 a.f_columns a.d_columns ["_law_weights_here"] qf1_:=by
 refine T.F_columns.ok (k:=0) sc_columns (fun vs H Q E h=>?_) (fun cdv A outer s H vs Q E hr h=>?_)
 ·obtain ⟨WL,ps,w,M,N,l,rfl,_⟩:=h
  rfl
 ·obtain ⟨WL,ps,w,M,N,l,rfl,hWL,ht,W,q⟩:=h
  have m1:=W.m1
  have m2:=W.m2
  have n8:=W.n8
  obtain ⟨p0',ep0,hp0⟩:=ht.get (i:=0) (by omega)
  obtain ⟨pl,epl,hpl⟩:=ht.get (i:=M - 1) (by omega)
  have hlast:atI (ps.map V.ref) (-1) = some (.ref pl):=by
   have hl:=ht.len
   match ps,hl,epl with
   | [x],hl,epl =>
    have:M - 1 = 0:=by simp at hl;omega
    rw [this] at epl
    cases Option.some.inj epl
    rfl
   | [x,y],hl,epl =>
    have:M - 1 = 1:=by simp at hl;omega
    rw [this] at epl
    cases Option.some.inj epl
    rfl
   | [],hl,_=>simp at hl;omega
   | x :: y :: z :: t,hl,_=>simp at hl;omega
  have gi:∀ t k,k < N->atI (rowV (rowT N l t)) (k:Int) = some (.int ((l t k:Nat):Int)):=fun t k hk=>by
   have:=qr_ (jy_ (row:=rowT N l t) (i:=k) (by rw [qs_];exact hk))
   rw [jd_ hk] at this
   exact this
  have en:(((rowV (rowT N l 0)).length:Nat):Int).toNat = N:=by rw [qk_,qs_];omega
  refine ⟨_,(qd_ (zG_ (i:=1) sc_columns.nd rfl (Or.inl rfl) (CompOk.of (cap:=[0]) (own:=["_law_role"]) (by kernel_rfl)) rfl (qW_ rfl T.n_range (qa_ (qy_ qv_ rfl T.n_len PySem.boot_len (qa_ (qz_ qB_ (pv 0) qj_ (fun _ _=>rfl)) qe_)) qe_)) (fun _ _ _ _ _=>(qo_ (i:=1) (of_decide_eq_true (by kernel_rfl)) rfl (Or.inl rfl))) (fun _ _ _ _ _=>jw_) (fun _ _ _ _ _=>by exact (yB_ (qa_ (qz_ (jU_ (K:=K) rfl) (qz_ (jU_ (K:=K) rfl) (pv 0) qj_ (fun _ _=>rfl)) (pv 1) (fun _ _=>rfl)) (qa_ (qz_ (jU_ (K:=K) rfl) (qz_ (jU_ (K:=K) rfl) (pv 0) (qk4_ qjz_ qj_) (fun _ _=>rfl)) (pv 1) (fun _ _=>rfl)) qe_)))))
   (qd_ (qD_ (qt_ jD_ (qy_ qv_ rfl T.n_len PySem.boot_len (qa_ (pv 0) qe_)) qj_ (qu_ _)) (qg_ (qq_ (qn_ v7_ (jM_ (CompOk.of (cap:=[]) (own:=["_law_one", "_law_two"]) (by kernel_rfl)) rfl (q7_ (pv 1)) (fun _ _ _ _ _=>(vs_ (n:=2) (K:=K) rfl rfl (qL_ (qo_ (i:=0) (of_decide_eq_true (by kernel_rfl)) rfl (Or.inl rfl)) (qL_ (qo_ (i:=1) (of_decide_eq_true (by kernel_rfl)) rfl (Or.inl rfl)) j2_)))) (fun _ _ _ _ _=>jw_) (fun _ _ _ _ _=>by exact (yB_ (qa_ (pv 0) (qa_ qj_ qe_))))) (qP_ (qa_ (yB_ (qa_ qj_ (qa_ qj_ qe_))) qe_))))) qA_)
   (qg_ (qq_ (qn_ v7_ (pv 1) (qP_ (qa_ (yB_ (qa_ qj_ (qa_ qj_ qe_))) (qa_ (yB_ (qa_ qj_ (qa_ qj_ qe_))) qe_)))))))),?_⟩
  refine ⟨_,rfl,WL,_,_,_,rfl,rfl,SqL.of hWL,qr_ (j:=0) (qG_ ep0),p0',_,rfl,.inl (SqL.of hp0),_,rfl,by rw [qk_,qs_];omega,by rw [qk_,qs_];omega,fun D nD=>?_⟩
  rw [en]
  refine qfz_ (n:=N) (ob:=fun k=>.tup [.int ((l 0 k:Nat):Int),.int ((l (M - 1) k:Nat):Int)]) (cs:=[some (.ref WL)]) nD rfl (Nat.le_trans (by omega:N<=8) (by decide)) (fun k Hx Rx hk sx hR=>?_) (fun qs H1 s1 hD hq=>?_)
  ·exact ⟨_,rfl,WL,_,_,_,rfl,rfl,SqL.of (sx _ _ hWL),qr_ (j:=0) (qG_ ep0),_,rfl,p0',_,_,_,rfl,rfl,SqL.of (sx _ _ hp0),gi 0 k hk,_,rfl,_,rfl,WL,_,_,_,rfl,rfl,SqL.of (sx _ _ hWL),hlast,_,rfl,pl,_,_,_,rfl,rfl,SqL.of (sx _ _ hpl),gi (M - 1) k hk,(show 2<=sizeLine by decide),fun p np=>hR p _ np (Same.new np) qc_⟩
  have hWL1:=s1 _ _ hWL
  have el:(ps.map V.ref).length = M:=by rw [List.length_map,ht.len]
  have eN:∀ t k,k < N->eqn N l t k = l t k:=fun t k hk=>by unfold eqn;rw [if_pos hk]
  refine ⟨_,rfl,WL,_,rfl,.inl (SqL.of hWL1),rfl,_,rfl,?_⟩
  by_cases hM:M = 1
  ·refine ite2 (fun _=>?_) (fun y=>absurd (decide_eq_true (by rw [el,hM];rfl)) y)
   refine ⟨_,rfl,D,rfl,⟨_,SqL.of hD⟩,fun D2 nD2=>?_⟩
   refine qf0_ (n:=N) (ob:=fun k=>.tup [.int ((l 0 k:Nat):Int),.int 0]) (cs:=[]) hD hq nD2 rfl (Nat.le_trans (by omega:N<=8) (by decide)) (fun k Hx Rx hk sx hR=>?_) (fun qs2 H2 s2 hD2 hq2=>?_)
   ·exact ⟨_,rfl,(show 2<=sizeLine by decide),fun p np=>hR p _ np (Same.new np) qc_⟩
   refine ⟨(show 2<=sizeLine by decide),fun p1 n1=>⟨(show 1<=sizeLine by decide),fun p2 n2=>⟨D2,p2,qs2.map V.ref,_,rfl,rfl,(Same.new n2) _ _ ((Same.new n1) _ _ hD2),qc_,?_,fun p3 n3=>?_⟩⟩⟩
   ·rw [List.length_map,hq2.len]
    exact Nat.le_trans (by show N + 1<=9;omega) (by decide)
   have sR:=(Same.new (o:=.tup [.int 1,.int 0]) n1).trans ((Same.new (o:=.lst [.ref p1]) n2).trans (Same.new (o:=.lst (qs2.map V.ref ++ [.ref p1])) n3))
   have hp1:=(Same.new (o:=.lst (qs2.map V.ref ++ [.ref p1])) n3) _ _ ((Same.new (o:=.lst [.ref p1]) n2) _ _ (qc_ (H:=H2) (a:=p1) (o:=.tup [.int 1,.int 0])))
   refine q p3 _ (qs2 ++ [p1]) ((s1.trans s2).trans sR) (by rw [qc_,List.map_append];rfl) ?_
   subst hM
   have h3:=(hq2.same sR).congr (ob':=colO 1 N l) fun j hj=>by
    unfold colO cl2
    rw [eN 0 j hj,if_neg (by decide)]
    rfl
   refine h3.snoc (hp1.trans ?_)
   unfold colO cl2 eqn
   rw [if_neg (Nat.lt_irrefl N),if_pos (by omega),if_neg (by decide)]
   rfl
  ·refine ite2 (fun y=>absurd (V.int.inj (of_decide_eq_true y)) (by rw [el];omega)) (fun _=>?_)
   have hM2:M = 2:=by omega
   subst hM2
   refine ⟨_,rfl,(show 2<=sizeLine by decide),fun p1 n1=>⟨(show 2<=sizeLine by decide),fun p2 n2=>⟨(show 2<=sizeLine by decide),fun p3 n3=>⟨D,p3,qs.map V.ref,_,rfl,rfl,(Same.new n3) _ _ ((Same.new n2) _ _ ((Same.new n1) _ _ hD)),qc_,?_,fun p4 n4=>?_⟩⟩⟩⟩
   ·rw [List.length_map,hq.len]
    exact Nat.le_trans (by show N + 2<=9;omega) (by decide)
   have s4:=Same.new (o:=.lst (qs.map V.ref ++ [.ref p1,.ref p2])) n4
   have s3':=Same.new (o:=.lst [.ref p1,.ref p2]) n3
   have s2':=Same.new (o:=.tup [.int 0,.int 1]) n2
   have sR:=(Same.new (o:=.tup [.int 1,.int 0]) n1).trans (s2'.trans (s3'.trans s4))
   have hp1:=s4 _ _ (s3' _ _ (s2' _ _ (qc_ (H:=H1) (a:=p1) (o:=.tup [.int 1,.int 0]))))
   have hp2:=s4 _ _ (s3' _ _ (qc_ (H:=upd H1 p1 (.tup [.int 1,.int 0])) (a:=p2) (o:=.tup [.int 0,.int 1])))
   refine q p4 _ (qs ++ [p1] ++ [p2]) (s1.trans sR) (by rw [qc_,List.map_append,List.map_append,List.append_assoc];rfl) ?_
   have h3:=(hq.same sR).congr (ob':=colO 2 N l) fun j hj=>by
    unfold colO cl2
    rw [eN 0 j hj,if_pos rfl,eN 1 j hj]
   refine (h3.snoc (hp1.trans ?_)).snoc (hp2.trans ?_)
   ·unfold colO cl2 eqn
    rw [if_neg (Nat.lt_irrefl N),if_pos rfl,if_pos (by omega),if_neg (Nat.lt_irrefl N),if_neg (by omega)]
    rfl
   ·unfold colO cl2 eqn
    rw [if_neg (by omega),if_pos rfl,if_neg (by omega),if_neg (by omega),if_pos (by omega)]
    rfl
def qhq_:Sp:=fun vs H Q _=>∃ (p1 p2:Addr) (r w x0 x1 y0 y1:Nat),vs = [.ref p1,.ref p2,.int r]/\GF.Good r w/\H p1 = some (.tup [.int (x0:Nat),.int (x1:Nat)])/\H p2 = some (.tup [.int (y0:Nat),.int (y1:Nat)])/\x0 < 2 ^ w/\x1 < 2 ^ w/\Q (.bl (decide (GF.tm r w x0 y1 = GF.tm r w x1 y0))) H
theorem qhr_ (T:Txt K mg a):FnOk P wo K mg base CX0 2 a.f_along a.d_along ["_law_one", "_law_two", "_law_rule_here"] qhq_:=by
 have G_times:FnOk P wo K mg base CX0 1 _ _ _ _:=qbi_ T
 refine T.F_along.ok (k:=1) qgz_ (fun vs H Q E h=>?_) (fun cdv A outer s H vs Q E hr h=>?_)
 ·obtain ⟨p1,p2,r,w,x0,x1,y0,y1,rfl,_⟩:=h
  rfl
 ·obtain ⟨p1,p2,r,w,x0,x1,y0,y1,rfl,g,h1,h2,b0,b1,q⟩:=h
  refine ⟨_,(qg_ (qq_ (yn_ jD_ (qx_ G_times (hr.mono (by decide)) rfl T.m_times T.k_times T.b_times .nil qp_ (qa_ (qz_ yL_ (pv 0) qj_ (fun _ _=>rfl)) (qa_ (qz_ yL_ (pv 1) qj_ (fun _ _=>rfl)) (qa_ (pv 2) qe_)))) (qx_ G_times (hr.mono (by decide)) rfl T.m_times T.k_times T.b_times .nil qp_ (qa_ (qz_ yL_ (pv 0) qj_ (fun _ _=>rfl)) (qa_ (qz_ yL_ (pv 1) qj_ (fun _ _=>rfl)) (qa_ (pv 2) qe_)))) (qu_ _)))),?_⟩
  refine ⟨_,rfl,p1,_,_,_,rfl,rfl,SqT.of h1,qr_ (j:=0) rfl,_,rfl,p2,_,_,_,rfl,rfl,SqT.of h2,qr_ (j:=1) rfl,_,rfl,x0,y1,r,w,rfl,g.rule,g.w8,b0,?_⟩
  refine ⟨_,rfl,p1,_,_,_,rfl,rfl,SqT.of h1,qr_ (j:=1) rfl,_,rfl,p2,_,_,_,rfl,rfl,SqT.of h2,qr_ (j:=0) rfl,_,rfl,x1,y0,r,w,rfl,g.rule,g.w8,b1,rfl,?_⟩
  have e:decide (V.int ((GF.tm r w x0 y1:Nat):Int) = V.int ((GF.tm r w x1 y0:Nat):Int)) = decide (GF.tm r w x0 y1 = GF.tm r w x1 y0):=decide_eq_decide.mpr ⟨fun y=>by have:=V.int.inj y;omega,fun y=>by rw [y]⟩
  rw [e]
  exact q
end
def alB (r w M N:Nat) (l:Nat->Nat->Nat) (o k:Nat):Bool:=decide (GF.tm r w (eqn N l 0 o) (cl2 M N l k) = GF.tm r w (cl2 M N l o) (eqn N l 0 k))
theorem qbt_ {f h:Nat->Bool}:∀ {xs:List Nat},(∀ x ∈ xs,f x = h x)->xs.all f = xs.all h
 | [],_=>rfl
 | x :: xs,e=>by rw [List.all_cons,List.all_cons,e x (.head _),qbt_ fun y hy=>e y (.tail _ hy)]
theorem qkt_ {r w M N pl o:Nat}{l:Nat->Nat->Nat}{ks:List Bool}{os:List Nat} (g:GF.Full r w) (W:Wts w M N l) (hpl:pl < N + M) (h:jc_ (N + M) ks pl = o :: os):fixB r w M N l ks pl = ((o :: os).all (alB r w M N l o) && !alB r w M N l o pl):=by
 have t16:=g.toGood.top16
 have mem:∀ k ∈ o :: os,k < N + M/\k ≠ pl:=fun k hk=>by
  have:=yc_ (h ▸ hk)
  exact ⟨this.1,this.2.2⟩
 unfold fixB
 rw [h]
 dsimp only
 by_cases hM:M = 1
 ·rw [if_pos hM]
  have e:∀ k,alB r w M N l o k = true:=fun k=>by
   unfold alB cl2
   rw [if_neg (by omega),if_neg (by omega),GF.tm_zero,GF.zero_tm]
   rfl
  rw [e pl,Bool.not_true,Bool.and_false]
 have hM2:M = 2:=by have:=W.m1;have:=W.m2;omega
 rw [if_neg hM]
 have lt:∀ t k,t < M->k < N + M->eqn N l t k < 2 ^ w:=yf_ W t16
 have ho:=(mem o (.head _)).1
 have al:∀ k,k < N + M->alB r w M N l o k = decide (tot r w N l o k = 0):=fun k hk=>by
  unfold alB cl2 tot
  rw [if_pos hM2,if_pos hM2]
  have R:=g.toGood.rule
  have w1:=g.toGood.w1
  rw [GF.tm_comm R w1 (lt 0 k (by omega) hk) (lt 1 o (by omega) ho),GF.tm_comm R w1 (lt 1 k (by omega) hk) (lt 0 o (by omega) ho)]
  refine decide_eq_decide.mpr ⟨fun y=>by rw [y,Nat.xor_self],fun y=>(uk_ y).symm⟩
 rw [List.all_append,List.all_cons (l:=[]),List.all_nil,Bool.and_true,al pl hpl]
 congr 1
 ·refine qbt_ fun k hk=>?_
  rw [al k (mem k hk).1]
  have hn:=(mem k hk).2
  refine decide_eq_decide.mpr ⟨fun y=>Decidable.byContradiction fun z=>hn (y ▸ z),fun y=>propext ⟨fun z=>absurd y z,fun z=>absurd z hn⟩⟩
 ·by_cases z:tot r w N l o pl = 0
  ·rw [decide_eq_true z,decide_eq_false fun y=>by rw [eq_self] at y;exact (y ▸ trivial:tot r w N l o pl ≠ 0) z]
   rfl
  ·rw [decide_eq_false z,decide_eq_true (propext ⟨fun _=>rfl,fun _=>z⟩)]
   rfl
def dCol (M N:Nat) (l:Nat->Nat->Nat) (xs:List Nat):Dt:=.lst (xs.map fun i=>.tup [.int ((eqn N l 0 i:Nat):Int),.int ((cl2 M N l i:Nat):Int)])
theorem qhs_ {K:PySem.W.Frag}{H:Hp}{D:Addr}{qs:List Addr}{M N:Nat}{l:Nat->Nat->Nat}{xs:List Nat} (h:H D = some (.lst (xs.map fun i=>V.ref (qs.getD i 0)))) (hq:ObAt H qs (N + M) (colO M N l)) (hx:∀ x ∈ xs,x < N + M):Sees K H (.ref D) (dCol M N l xs):=by
 unfold dCol
 rw [Sees]
 refine ⟨D,_,rfl,SqL.of h,zS_ (by rw [List.length_map,List.length_map]) fun i v d h1 h2=>?_⟩
 rw [List.getElem?_map] at h1 h2
 cases e:xs[i]? with
 | none=>rw [e] at h1;cases h1
 | some x =>
  rw [e] at h1 h2
  cases Option.some.inj h1
  cases Option.some.inj h2
  obtain ⟨p,ep,hp⟩:=hq.get (hx x (List.mem_of_getElem? e))
  have e2:qs.getD x 0 = p:=by rw [List.getD_eq_getElem?_getD,ep];rfl
  rw [Sees]
  refine ⟨p,_,(show V.ref (qs.getD x 0) = V.ref p by rw [e2]),SqT.of hp,?_⟩
  rw [SeesL]
  refine ⟨_,_,rfl,by rw [Sees],?_⟩
  rw [SeesL]
  exact ⟨_,_,rfl,by rw [Sees],by rw [SeesL]⟩
theorem qjn_ (M N:Nat) (l:Nat->Nat->Nat) (xs:List Nat):depD (dCol M N l xs)<=60:=by
 unfold dCol
 rw [depD]
 have:yo_ (xs.map fun i=>Dt.tup [.int ((eqn N l 0 i:Nat):Int),.int ((cl2 M N l i:Nat):Int)])<=1:=zp_ fun d hd=>by
  obtain ⟨i,_,rfl⟩:=List.mem_map.mp hd
  rw [depD]
  have:yo_ [Dt.int ((eqn N l 0 i:Nat):Int),.int ((cl2 M N l i:Nat):Int)]<=0:=zp_ fun d hd=>by
   rcases List.mem_cons.mp hd with y | y
   ·rw [y,depD]
    ·exact Nat.zero_le _
    all_goals (intro _ h;cases h)
   ·rw [List.mem_singleton.mp y,depD]
    ·exact Nat.zero_le _
    all_goals (intro _ h;cases h)
  omega
 omega
theorem qak_ {X:Cx}{K:PySem.W.Frag} (hK:X.K = K):OpR X (compareOp .NotIn) (rIn K true):=hK ▸ z3_
section
variable {P:Program}{wo:World}{K:PySem.W.Frag}{mg:Str->Option Value}{base:Heap}{a:Adr}
def qf2_:Sp:=fun vs H Q _=>∃ (CL SL:Addr) (qs:List Addr) (st:List Nat) (r w M N k:Nat) (l:Nat->Nat->Nat) (ks:List Bool),vs = [.ref CL,.ref SL,.int k,.int r]/\GF.Full r w/\Wts w M N l/\H CL = some (.lst (qs.map V.ref))/\ObAt H qs (N + M) (colO M N l)/\H SL = some (.lst (rowV st))/\(∀ j,j < N + M->st.contains j = ks.getD j false)/\k < N + M/\∀ H',Same H H'->Q (.bl (fx r w M N l ks k)) H'
theorem qht_ (T:Txt K mg a):FnOk P wo K mg base CX0 3 a.f_fixed a.d_fixed ["_law_columns_here", "_law_held", "_law_role", "_law_rule_here"] qf2_:=by
 have G_along:FnOk P wo K mg base CX0 2 _ _ _ _:=qhr_ T
 refine T.F_fixed.ok (k:=2) sc_fixed (fun vs H Q E h=>?_) (fun cdv A outer s H vs Q E hr h=>?_)
 ·obtain ⟨CL,SL,qs,st,r,w,M,N,k,l,ks,rfl,_⟩:=h
  rfl
 ·obtain ⟨CL,SL,qs,st,r,w,M,N,k,l,ks,rfl,g,W,hCL,hq,hSL,hst,hk,q⟩:=h
  have n8:=W.n8
  have t16:=g.toGood.top16
  refine ⟨_,(qd_ (qD_ (qt_ qek_ (pv 2) (pv 1) rfl) (qg_ (qq_ yI_)) qA_)
   (qd_ (zG_ (i:=4) sc_fixed.nd rfl (Or.inl rfl) (CompOk.of (cap:=[1,2]) (own:=["_law_at", "_law_column"]) (by kernel_rfl)) rfl (vr_ rfl T.n_enumerate (qa_ (pv 0) qe_)) (fun _ _ _ _ _=>(vs_ (n:=2) (K:=K) rfl rfl (qL_ (qo_ (i:=2) (of_decide_eq_true (by kernel_rfl)) rfl (Or.inl rfl)) (qL_ (qo_ (i:=3) (of_decide_eq_true (by kernel_rfl)) rfl (Or.inl rfl)) j2_)))) (fun _ _ _ _ _=>(ut_ (PW.pt (qd8_ (qt_ (qak_ (K:=K) rfl) (pv 2) (pv 0) rfl) (qcf_ (qt_ v3_ (pv 2) (pv 1) (qu_ _))))))) (fun _ _ _ _ _=>by exact (pv 3)))
   (qd_ (qD_ (qt_ (qev_ hr.units) (pv 4) (qP_ qe_) (qu_ _)) (qg_ (qq_ yI_)) qA_)
   (qd_ (qK_ PassesOwn.never rfl (q7_ (pv 4)) (qo_ (i:=5) sc_fixed.nd rfl (Or.inl rfl)) (qg_ (qD_ (yJ_ (jR_ (qx_ G_along (hr.mono (by decide)) rfl T.m_along T.k_along T.b_along .nil qp_ (qa_ (qz_ qB_ (pv 4) qj_ (fun _ _=>rfl)) (qa_ (pv 5) (qa_ (pv 3) qe_)))))) (qg_ (qq_ yI_)) qA_)))
   (qg_ (qq_ (qd9_ (qx_ G_along (hr.mono (by decide)) rfl T.m_along T.k_along T.b_along .nil qp_ (qa_ (qz_ qB_ (pv 4) qj_ (fun _ _=>rfl)) (qa_ (qz_ qB_ (pv 0) (pv 2) (fun _ _=>rfl)) (qa_ (pv 3) qe_))))))))))),?_⟩
  refine ⟨_,rfl,_,rfl,SL,_,rfl,.inl (SqL.of hSL),rfl,vX_ st,_,rfl,?_⟩
  rw [um_,hst k hk]
  cases hkk:ks.getD k false with
  | true =>
   refine ite2 (fun _=>?_) (fun y=>absurd rfl y)
   have e:fx r w M N l ks k = true:=by unfold fx;rw [hkk];rfl
   rw [e] at q
   exact q H (Same.refl _)
  | false =>
   refine ite2 (fun y=>absurd y (by decide)) (fun _=>?_)
   have e:fx r w M N l ks k = fixB r w M N l ks k:=by unfold fx;rw [hkk,Bool.false_or]
   rw [e] at q
   have el:(qs.map V.ref).length = N + M:=by rw [List.length_map,hq.len]
   have ati:∀ i,i < N + M->(qs.map V.ref)[i]? = some (.ref (qs.getD i 0)):=fun i hi=>by
    rw [List.getElem?_map,List.getElem?_eq_getElem (by rw [hq.len];exact hi),List.getD_eq_getElem?_getD,List.getElem?_eq_getElem (by rw [hq.len];exact hi)]
    rfl
   refine ⟨_,rfl,CL,_,rfl,SqL.of hCL,fun D nD=>?_⟩
   refine qd4_ (xs:=qs.map V.ref) (f:=fun i=>.ref (qs.getD i 0)) (b:=fun i=>!(ks.getD i false) && !decide (i = k)) (cs:=[some (.ref SL),some (.int (k:Nat))]) (SqL.of hCL) nD rfl (by rw [el];exact Nat.le_trans n8 (by decide)) (fun i u Hx Rx hu sx hR=>?_) (fun i u Hx Rx hu hb sx hR=>?_) (fun H2 s2 hD=>?_)
   ·have hi:i < N + M:=by rw [<- el];exact (List.getElem?_eq_some_iff.mp hu).1
    refine ⟨_,rfl,_,rfl,SL,_,rfl,.inl (SqL.of (sx _ _ hSL)),rfl,vX_ st,_,rfl,?_⟩
    rw [um_,hst i hi]
    cases hb:ks.getD i false with
    | true =>
     rw [hb] at hR
     refine ite2 (fun y=>absurd y (by decide)) (fun _=>?_)
     exact hR _ (Same.refl _)
    | false =>
     rw [hb] at hR
     refine ite2 (fun _=>?_) (fun y=>absurd rfl y)
     refine ⟨_,rfl,_,rfl,rfl,_,rfl,?_⟩
     have e:(!decide (V.int (i:Int) = V.int (k:Int))) = (!false && !decide (i = k)):=by
      by_cases z:i = k
      ·rw [decide_eq_true (by rw [z]),decide_eq_true z]
       rfl
      ·rw [decide_eq_false (fun y=>z (by have:=V.int.inj y;omega)),decide_eq_false z]
       rfl
     rw [e]
     exact hR _ (Same.refl _)
   ·have hi:i < N + M:=by rw [<- el];exact (List.getElem?_eq_some_iff.mp hu).1
    cases Option.some.inj (hu.symm.trans (ati i hi))
    exact ⟨_,rfl,hR _ (Same.refl _)⟩
   rw [el] at hD
   have hD:H2 D = some (.lst ((jc_ (N + M) ks k).map fun i=>V.ref (qs.getD i 0))):=hD
   have hmem:∀ j ∈ jc_ (N + M) ks k,j < N + M:=fun j hj=>(yc_ hj).1
   have hq2:=hq.same s2
   refine ⟨_,rfl,by decide,fun e0 ne0=>?_⟩
   have s0:=Same.new (o:=.lst []) ne0
   refine ⟨_,_,qhs_ (s0 _ _ hD) (hq2.same s0) hmem,(by rw [Sees];exact ⟨e0,_,rfl,SqL.of qc_,by rw [SeesL]⟩:Sees _ _ (.ref e0) (.lst [])),rfl,rfl,⟨_,rfl⟩,?_,_,rfl,?_⟩
   ·exact qjn_ _ _ _ _
   generalize (upd H2 e0 (.lst [])) = H3 at s0
   have s3:=s2.trans s0
   have hD3:=s0 _ _ hD
   have hq3:=hq2.same s0
   cases hoth:jc_ (N + M) ks k with
   | nil =>
    have e:fixB r w M N l ks k = true:=by unfold fixB;rw [hoth]
    rw [e] at q
    refine ite2 (fun _=>?_) (fun y=>absurd rfl y)
    exact q _ s3
   | cons o os =>
    rw [hoth] at hD3 hmem
    have e:=qkt_ g W hk hoth
    rw [e] at q
    refine ite2 (fun y=>absurd y (by unfold dCol;rw [List.map_cons,eqD,eqDs];decide)) (fun _=>?_)
    have ho:=hmem o List.mem_cons_self
    have col:∀ {H':Hp}{j:Nat},Same H3 H'->j < N + M->H' (qs.getD j 0) = some (.tup [.int ((eqn N l 0 j:Nat):Int),.int ((cl2 M N l j:Nat):Int)]):=fun {H' j} sm hj=>by
     obtain ⟨p,ep,hp⟩:=hq3.get hj
     have e2:qs.getD j 0 = p:=by rw [List.getD_eq_getElem?_getD,ep];rfl
     rw [e2]
     exact sm _ _ hp
    have m1:=W.m1
    have b0:eqn N l 0 o < 2 ^ w:=yf_ W t16 0 o (by omega) ho
    have b1:cl2 M N l o < 2 ^ w:=by
     unfold cl2
     split
     ·exact yf_ W t16 1 o (by omega) ho
     ·omega
    refine ⟨_,rfl,D,rfl,⟨_,SqL.of hD3⟩,?_⟩
    refine j6_ (xs:=(o :: os).map fun i=>V.ref (qs.getD i 0)) (fun i σ H'=>(∃ v5:Option V,σ = [some (.ref CL),some (.ref SL),some (.int (k:Nat)),some (.int (r:Nat)),some (.ref D),v5])/\Same H3 H'/\∀ j ∈ (o :: os).take i,alB r w M N l o j = true) ⟨⟨none,rfl⟩,Same.refl _,fun j hj=>absurd hj (by simp)⟩ ?_ ?_ ?_
    ·rintro i σ H' _ ⟨_,sm,_⟩
     exact SqL.of (sm _ _ hD3)
    ·rintro i x σ H' hx ⟨⟨v5,rfl⟩,sm,hal⟩
     rw [List.getElem?_map] at hx
     cases ej:(o :: os)[i]? with
     | none=>rw [ej] at hx;cases hx
     | some j =>
      rw [ej] at hx
      cases Option.some.inj hx
      have hj:=hmem j (List.mem_of_getElem? ej)
      refine ⟨_,rfl,D,_,_,_,rfl,rfl,SqL.of (sm _ _ hD3),qr_ (j:=0) rfl,_,rfl,_,rfl,_,_,r,w,_,_,_,_,rfl,g.toGood,col sm ho,col sm hj,b0,b1,?_⟩
      refine ⟨_,rfl,?_⟩
      cases hab:alB r w M N l o j with
      | false =>
       have hf:((o :: os).all (alB r w M N l o) && !alB r w M N l o k) = false:=by
        cases z:(o :: os).all (alB r w M N l o) with
        | false=>rfl
        | true=>have:=List.all_eq_true.mp z j (List.mem_of_getElem? ej);rw [hab] at this;cases this
       rw [hf] at q
       unfold alB at hab
       rw [hab]
       refine ite2 (fun _=>?_) (fun y=>absurd rfl y)
       exact q _ (s3.trans sm)
      | true =>
       have hab':=hab
       unfold alB at hab
       rw [hab]
       refine ite2 (fun y=>absurd y (by decide)) (fun _=>?_)
       refine ⟨⟨_,rfl⟩,sm,fun j' hj'=>?_⟩
       rw [zx_ ej] at hj'
       rcases List.mem_append.mp hj' with y | y
       ·exact hal j' y
       ·rw [List.mem_singleton.mp y];exact hab'
    ·rintro σ H' ⟨⟨v5,rfl⟩,sm,hal⟩
     rw [List.length_map,List.take_length] at hal
     rw [List.all_eq_true.mpr hal,Bool.true_and] at q
     refine ⟨_,rfl,D,_,_,_,rfl,rfl,SqL.of (sm _ _ hD3),qr_ (j:=0) rfl,_,rfl,_,rfl,CL,_,_,_,rfl,rfl,SqL.of (sm _ _ (s3 _ _ hCL)),qr_ (ati k hk),_,rfl,_,_,r,w,_,_,_,_,rfl,g.toGood,col sm ho,col sm hk,b0,b1,?_⟩
     exact ⟨_,rfl,q _ (s3.trans sm)⟩
end
theorem CodeAt.hide {a:Adr}{H:Hp}{c bp fp:Addr}{r w n M N:Nat}{l:Nat->Nat->Nat}{xs:List Addr} (h:CodeAt a H c bp fp r w n M N l) (hx:∀ x ∈ xs,∃ ps,H x = some (.tbl ps)):CodeAt a (qM_ xs H) c bp fp r w n M N l:=by
 have k:∀ {b:Addr}{o:HO},H b = some o->(∀ ps,o ≠ .tbl ps)->qM_ xs H b = some o:=fun {b o} e n=>by
  rw [jV_ fun z=>?_]
  ·exact e
  ·obtain ⟨ps,y⟩:=hx b z
   rw [y] at e
   exact n ps (Option.some.inj e).symm
 obtain ⟨dx,Lp,qs,h1,h2,h3⟩:=h.ins
 obtain ⟨⟨db,hb⟩,⟨dF,hF⟩⟩:=h.blk
 exact ⟨⟨dx,Lp,qs,k h1 (fun _ y=>by cases y),k h2 (fun _ y=>by cases y),⟨h3.len,fun i p e=>k (h3.on i p e) (fun _ y=>by cases y)⟩⟩,⟨⟨db,k hb (fun _ y=>by cases y)⟩,⟨dF,k hF (fun _ y=>by cases y)⟩⟩⟩
theorem TabS.kl {H H':Hp}{t l:Addr}{p:Pos}{q:Str}{ys:List V} (h:TabS H t p q) (hl:H l = some (.lst ys)) (k:∀ b o,b ≠ l->H b = some o->H' b = some o):TabS H' t p q:=by
 obtain ⟨ps',h1,h2⟩:=h
 refine ⟨ps',k _ _ (y2_ h1 hl (fun y=>by cases y)) h1,?_⟩
 rcases h2 with h2 | ⟨c',e,h2⟩
 ·exact .inl h2
 ·exact .inr ⟨c',e,k _ _ (y2_ h2 hl (fun y=>by cases y)) h2⟩
theorem qbu_ (X:List Nat):rowV X = rowO (X.map some):=by
 unfold rowV rowO
 rw [List.map_map]
 rfl
theorem qf3_ {R:Nat}{X:List Nat} (h:X.length = R):yd_ R (X.map some) X:=fun j hj b hb=>by
 rw [List.getD_eq_getElem?_getD,List.getElem?_map,List.getElem?_eq_getElem (by rw [h];exact hj)] at hb
 cases hb
 rw [List.getD_eq_getElem?_getD,List.getElem?_eq_getElem (by rw [h];exact hj)]
 rfl
theorem zY_ {os:List (Option Nat)}{g j:Nat} (h:g < os.length):(os.set g none).getD j none = if g = j then none else os.getD j none:=by
 rw [List.getD_eq_getElem?_getD,List.getElem?_set]
 by_cases z:g = j
 ·rw [if_pos z,if_pos z,if_pos h];rfl
 ·rw [if_neg z,if_neg z,← List.getD_eq_getElem?_getD]
theorem qbv_ {X:List Nat}{j:Nat} (h:j < X.length):((X.map some).getD j none).isSome = true:=by
 rw [List.getD_eq_getElem?_getD,List.getElem?_map,List.getElem?_eq_getElem h]
 rfl
section
variable {P:Program}{wo:World}{K:PySem.W.Frag}{mg:Str->Option Value}{base:Heap}{a:Adr}
structure RdK (a:Adr) (G H:Hp) (c bp fp mk TD CO:Addr) (qs:List Addr) (r w n M N:Nat) (l:Nat->Nat->Nat) (X:List Nat):Prop where
 sm:Same G H
 code:CodeAt a G c bp fp r w n M N l
 full:GF.Full r w
 n16:n<=16
 W:Wts w M N l
 make:G mk = some (.lst (rowV X))
 told:G TD = some (.tup [.ref CO,.int (r:Nat)])
 cols:G CO = some (.lst (qs.map V.ref))
 obs:ObAt G qs (N + M) (colO M N l)
 X1:X.length = N + M
 Xlt:∀ b ∈ X,b < (2 ^ w) ^ n
 Xmk:isMk r w n M N l X = true
 nt1:G a.t_Asking_order = none
 nt2:G a.t_asker = none
 t1:TabS H a.t_Asking_order posL qL
 t2:TabS H a.t_asker (posD inA) qA
structure Sc44 (a:Adr) (G H:Hp) (RL CL SL:Addr) (R i:Nat) (X:List Nat) (cs srow:List (Option Nat)) (st:List Nat):Prop where
 sm:Same G H
 hR:H RL = some (.lst (rowO srow))
 hC:H CL = some (.lst (rowO cs))
 hS:H SL = some (.lst (rowV st))
 rl:srow.length = R
 cl:cs.length = R
 ag:yd_ R srow X
 c9:∀ j,(cs.getD j none).getD 0<=1000000
 is:∀ j,j < R->((cs.getD j none).isSome && (srow.getD j none).isSome) = (st.contains j || decide (i<=j))
 lt:∀ x ∈ st,x < i
 sl:st.length<=i
 t1:TabS H a.t_Asking_order posL qL
 t2:TabS H a.t_asker (posD inA) qA
def qf4_ (a:Adr):Sp:=fun vs H Q _=>∃ (G:Hp) (c bp fp mk TD CO KL ch:Addr) (qs:List Addr) (r w n M N k:Nat) (l:Nat->Nat->Nat) (X kd cs0:List Nat),vs = [.ref c,.ref TD,.ref mk,.ref KL,.ref ch,.int k]/\RdK a G H c bp fp mk TD CO qs r w n M N l X/\G KL = some (.lst (rowV kd))/\kd.length = N + M/\G ch = some (.lst (rowV cs0))/\cs0.length = N + M/\(∀ x ∈ cs0,x<=9)/\k < N + M ∧
 ∀ H',Same G H'->TabS H' a.t_Asking_order posL qL->TabS H' a.t_asker (posD inA) qA->Q (.bl true) H'
theorem qhu_ (T:Txt K mg a) (B:Tb base mg a):FnOk P wo K mg base CX0 12 a.f_scene a.d_scene ["_law_code", "_law_told", "_law_make_here", "_law_kinds_here", "_law_costs_here", "_law_role"] (qf4_ a):=by
 have G_asker:FnOk P wo K mg base CX0 11 _ _ _ _:=(qhe_ T B).mono (by decide)
 have G_Asking_init:FnOk P wo K mg base CX0 10 _ _ _ _:=(uF_ T).mono (by decide)
 have G_read_role:FnOk P wo K mg base CX0 11 _ _ _ _:=qbm_ T B
 have G_whole:FnOk P wo K mg base CX0 11 _ _ _ _:=(qhl_ T).mono (by decide)
 have G_seen:FnOk P wo K mg base CX0 11 _ _ _ _:=(qjh_ T).mono (by decide)
 have G_fixed:FnOk P wo K mg base CX0 11 _ _ _ _:=(qht_ T).mono (by decide)
 refine T.F_scene.ok (k:=11) sc_scene (fun vs H Q E h=>?_) (fun cdv A outer s H vs Q E hr h=>?_)
 ·obtain ⟨G,c,bp,fp,mk,TD,CO,KL,ch,qs,r,w,n,M,N,k,l,X,kd,cs0,rfl,_⟩:=h
  rfl
 ·obtain ⟨G,c,bp,fp,mk,TD,CO,KL,ch,qs,r,w,n,M,N,k,l,X,kd,cs0,rfl,D,hKL,hkl,hch,hcl,hc9,hk,q⟩:=h
  have n8:=D.W.n8
  refine ⟨_,(qd_ (ql_ (i:=6) sc_scene.nd rfl (Or.inl rfl) (yj_ jT_ rfl T.n_list (by decide +kernel) (qa_ (pv 2) qe_)))
   (qd_ (ql_ (i:=4) sc_scene.nd rfl (Or.inl rfl) (yj_ jT_ rfl T.n_list (by decide +kernel) (qa_ (pv 4) qe_)))
   (qd_ (ql_ (i:=7) sc_scene.nd rfl (Or.inl rfl) (qP_ qe_))
   (qd_ (qK_ PassesOwn.never rfl (vr_ rfl T.n_enumerate (qa_ (pv 3) qe_)) (y4_ rfl (qL_ (qo_ (i:=8) sc_scene.nd rfl (Or.inl rfl)) (qL_ (qo_ (i:=9) sc_scene.nd rfl (Or.inl rfl)) j2_))) (qg_ (qD_ (qt_ jD_ (pv 9) qj_ (qu_ _)) (qg_ (ye_ jo_ (yi_ (pv 4) (pv 8) jS_))) (qg_ (qD_ (qt_ jD_ (pv 9) qj_ (qu_ _)) (qg_ (ye_ jo_ (yi_ (pv 6) (pv 8) jS_))) (qg_ (qU_ (jW_ PySem.F.plainAttrs_list PySem.F.slot_list_append PySem.F.type_list_append qQ_ (pv 7) (qa_ (pv 8) qe_)))))))))
   (qd_ (ql_ (i:=10) sc_scene.nd rfl (Or.inl rfl) (qP_ qe_))
   (qd_ (ql_ (i:=11) sc_scene.nd rfl (Or.inl rfl) (vn_ T.mk_Asking G_Asking_init (hr.mono (by decide)) rfl T.m_Asking T.b_Asking_init .nil qp_ (qa_ (pv 0) (qa_ (qx_ G_asker (hr.mono (by decide)) rfl T.m_asker T.k_asker T.b_asker .nil qp_ (qa_ (pv 6) (qa_ (pv 10) qe_))) (qa_ (pv 4) qe_)))))
   (qd_ (ql_ (i:=12) sc_scene.nd rfl (Or.inl rfl) (qx_ G_read_role (hr.mono (by decide)) rfl T.m_read_role T.k_read_role T.b_read_role .nil qp_ (qa_ (pv 11) (qa_ (pv 5) qe_))))
   (qd_ (qD_ (yJ_ (jR_ (qx_ G_seen (hr.mono (by decide)) rfl T.m_seen T.k_seen T.b_seen .nil qp_ (qa_ (pv 11) (qa_ (pv 10) (qa_ (pv 6) (qa_ (pv 4) qe_))))))) (qg_ (qq_ yI_)) qA_)
   (qd_ (qD_ (jR_ (qx_ G_fixed (hr.mono (by decide)) rfl T.m_fixed T.k_fixed T.b_fixed .nil qp_ (qa_ (qz_ yL_ (pv 1) qj_ (fun _ _=>rfl)) (qa_ (pv 7) (qa_ (pv 5) (qa_ (qz_ yL_ (pv 1) qj_ (fun _ _=>rfl)) qe_)))))) (qg_ (qq_ (v1_ (qx_ G_whole (hr.mono (by decide)) rfl T.m_whole T.k_whole T.b_whole .nil qp_ (qa_ (pv 12) qe_)) (z0_ (yn_ jD_ (pv 12) (qz_ qB_ (pv 2) (pv 5) (fun _ _=>rfl)) (qu_ _)))))) qA_)
   (qg_ (qq_ (yn_ z1_ (pv 12) jo_ (qu_ _))))))))))))),?_⟩
  refine ⟨_,rfl,mk,_,rfl,.inl (SqL.of (D.sm _ _ D.make)),fun RL nRL=>?_⟩
  have s1:=Same.new (o:=.lst (rowV X)) nRL
  refine ⟨_,rfl,ch,_,rfl,.inl (SqL.of (s1 _ _ (D.sm _ _ hch))),fun CL nCL=>?_⟩
  have s2:=Same.new (o:=.lst (rowV cs0)) nCL
  refine ⟨Nat.zero_le _,fun SL nSL=>?_⟩
  have s3:=Same.new (o:=.lst []) nSL
  have hR:(upd (upd (upd H RL (.lst (rowV X))) CL (.lst (rowV cs0))) SL (.lst [])) RL = some (.lst (rowO (X.map some))):=by rw [<- qbu_];exact s3 _ _ (s2 _ _ qc_)
  have hC:(upd (upd (upd H RL (.lst (rowV X))) CL (.lst (rowV cs0))) SL (.lst [])) CL = some (.lst (rowO (cs0.map some))):=by rw [<- qbu_];exact s3 _ _ qc_
  have hS:(upd (upd (upd H RL (.lst (rowV X))) CL (.lst (rowV cs0))) SL (.lst [])) SL = some (.lst (rowV [])):=qc_
  have s03:=s1.trans (s2.trans s3)
  have nR:G RL = none:=D.sm.free nRL
  have nC:G CL = none:=D.sm.free (s1.free nCL)
  have nS:G SL = none:=D.sm.free (s1.free (s2.free nSL))
  have dRC:RL ≠ CL:=qm_ (qc_ (H:=H) (a:=RL) (o:=.lst (rowV X))) nCL
  have dRS:RL ≠ SL:=qm_ (s2 _ _ (qc_ (H:=H) (a:=RL) (o:=.lst (rowV X)))) nSL
  have dCS:CL ≠ SL:=qm_ (qc_ (H:=upd H RL (.lst (rowV X))) (a:=CL) (o:=.lst (rowV cs0))) nSL
  have S0:Sc44 a G (upd (upd (upd H RL (.lst (rowV X))) CL (.lst (rowV cs0))) SL (.lst [])) RL CL SL (N + M) 0 X (cs0.map some) (X.map some) []:=⟨D.sm.trans s03,hR,hC,hS,by rw [List.length_map,D.X1],by rw [List.length_map,hcl],qf3_ D.X1,fun j=>by
    rw [List.getD_eq_getElem?_getD,List.getElem?_map]
    cases e:cs0[j]? with
    | none=>exact Nat.zero_le _
    | some x=>exact Nat.le_trans (hc9 x (List.mem_of_getElem? e)) (by decide),fun j hj=>by
    rw [qbv_ (by omega),qbv_ (by rw [D.X1];exact hj),decide_eq_true (Nat.zero_le j),Bool.or_true]
    rfl,fun x hx=>absurd hx List.not_mem_nil,Nat.le_refl _,D.t1.keep s03,D.t2.keep s03⟩
  generalize (upd (upd (upd H RL (.lst (rowV X))) CL (.lst (rowV cs0))) SL (.lst [])) = H1 at S0
  clear hR hC hS s1 s2 s3 s03 nRL nCL nSL
  refine ⟨_,rfl,KL,_,rfl,SqL.of (S0.sm _ _ hKL),?_⟩
  refine qa5_ (l:=KL) (xs:=rowV kd) (fun i σ H'=>(∃ v8 v9:Option V,σ = [some (.ref c),some (.ref TD),some (.ref mk),some (.ref KL),some (.ref CL),some (.int (k:Nat)),some (.ref RL),some (.ref SL),v8,v9,none,none,none])/\∃ cs srow st,Sc44 a G H' RL CL SL (N + M) i X cs srow st) ⟨⟨none,none,rfl⟩,_,_,_,S0⟩ ?_ ?_ ?_
  ·rintro i σ H' _ ⟨_,cs,srow,st,S⟩
   exact SqL.of (S.sm _ _ hKL)
  ·rintro i u Tp σ H' hi hu nT ⟨⟨v8,v9,rfl⟩,cs,srow,st,S⟩
   rw [qk_,hkl] at hi
   obtain ⟨kk,_,rfl⟩:=je_ hu
   have sT:=Same.new (o:=.tup [.int (i:Nat),.int (kk:Nat)]) nT
   refine ⟨Tp,_,rfl,SqT.of qc_,rfl,_,_,rfl,_,_,rfl,rfl,?_⟩
   have hR:=sT _ _ S.hR
   have hC:=sT _ _ S.hC
   have hS:=sT _ _ S.hS
   have sm:=S.sm.trans sT
   have t1:=S.t1.keep sT
   have t2:=S.t2.keep sT
   generalize (upd H' Tp (.tup [.int (i:Nat),.int (kk:Nat)])) = H2 at hR hC hS sm t1 t2
   have nin:st.contains i = false:=by
    cases e:st.contains i with
    | false=>rfl
    | true=>have:=S.lt i (List.contains_iff_mem.mp e);omega
   have step:∀ j,j < N + M->j ≠ i->decide (i<=j) = decide (i + 1<=j):=fun j _ y=>decide_eq_decide.mpr ⟨fun z=>by omega,fun z=>by omega⟩
   refine ⟨_,rfl,rfl,_,rfl,?_⟩
   refine ite2 (fun _=>?_) (fun _=>?_)
   ·refine ⟨_,rfl,_,rfl,CL,_,_,i,rfl,rfl,hC,j4_ (by rw [qN_,S.cl];exact hi),?_⟩
    refine ⟨⟨_,_,rfl⟩,cs.set i none,srow,st,sm.up nC,by rw [qf_ dRC];exact hR,by rw [qc_,show V.non = valO none from rfl,zV_],by rw [qf_ dCS.symm];exact hS,S.rl,by rw [List.length_set,S.cl],S.ag,fun j=>?_,fun j hj=>?_,fun x hx=>Nat.lt_succ_of_lt (S.lt x hx),Nat.le_succ_of_le S.sl,t1.kl hC fun b o n e=>by rw [qf_ n];exact e,t2.kl hC fun b o n e=>by rw [qf_ n];exact e⟩
    ·rw [zY_ (by rw [S.cl];exact hi)]
     split
     ·exact Nat.zero_le _
     ·exact S.c9 j
    ·rw [zY_ (by rw [S.cl];exact hi)]
     by_cases z:i = j
     ·subst z
      rw [if_pos rfl,nin,decide_eq_false (by omega)]
      rfl
     ·rw [if_neg z,S.is j hj,step j hj (Ne.symm z)]
   ·refine ⟨_,rfl,rfl,_,rfl,?_⟩
    refine ite2 (fun _=>?_) (fun _=>?_)
    ·refine ⟨_,rfl,_,rfl,RL,_,_,i,rfl,rfl,hR,j4_ (by rw [qN_,S.rl];exact hi),?_⟩
     refine ⟨⟨_,_,rfl⟩,cs,srow.set i none,st,sm.up nR,by rw [qc_,show V.non = valO none from rfl,zV_],by rw [qf_ dRC.symm];exact hC,by rw [qf_ dRS.symm];exact hS,by rw [List.length_set,S.rl],S.cl,fun j hj b hb=>?_,S.c9,fun j hj=>?_,fun x hx=>Nat.lt_succ_of_lt (S.lt x hx),Nat.le_succ_of_le S.sl,t1.kl hR fun b o n e=>by rw [qf_ n];exact e,t2.kl hR fun b o n e=>by rw [qf_ n];exact e⟩
     ·rw [zY_ (by rw [S.rl];exact hi)] at hb
      split at hb
      ·cases hb
      ·exact S.ag j hj b hb
     ·rw [zY_ (by rw [S.rl];exact hi)]
      by_cases z:i = j
      ·subst z
       rw [if_pos rfl,nin,decide_eq_false (by omega)]
       exact Bool.and_false _
      ·rw [if_neg z,S.is j hj,step j hj (Ne.symm z)]
    ·have fits:(rowV st).length < sizeLine:=by
      rw [qk_]
      have:=S.sl
      exact Nat.lt_trans (by omega:st.length < 9) (by decide)
     refine ⟨_,rfl,.inl ⟨rfl,_,SqL.of hS⟩,_,rfl,SL,_,_,rfl,rfl,hS,fits,?_⟩
     refine ⟨⟨_,_,rfl⟩,cs,srow,st ++ [i],sm.up nS,by rw [qf_ dRS];exact hR,by rw [qf_ dCS];exact hC,by rw [qc_,← jx_],S.rl,S.cl,S.ag,S.c9,fun j hj=>?_,fun x hx=>?_,by rw [List.length_append];exact Nat.add_le_add_right S.sl 1,t1.kl hS fun b o n e=>by rw [qf_ n];exact e,t2.kl hS fun b o n e=>by rw [qf_ n];exact e⟩
     ·rw [S.is j hj]
      by_cases z:j = i
      ·subst z
       have:(st ++ [j]).contains j = true:=List.contains_iff_mem.mpr (List.mem_append_right _ (.head _))
       rw [this,decide_eq_true (Nat.le_refl j),Bool.or_true,Bool.true_or]
      ·have:(st ++ [i]).contains j = st.contains j:=by
        rw [Bool.eq_iff_iff,List.contains_iff_mem,List.contains_iff_mem,List.mem_append,List.mem_singleton]
        exact ⟨fun y=>y.elim id fun y=>absurd y z,.inl⟩
       rw [this,step j hj z]
     ·rcases List.mem_append.mp hx with y | y
      ·exact Nat.lt_succ_of_lt (S.lt x y)
      ·rw [List.mem_singleton.mp y];exact Nat.lt_succ_self i
  ·rintro σ H2 ⟨⟨v8,v9,rfl⟩,cs,srow,st,S⟩
   rw [qk_,hkl] at S
   have hh2:∀ p ∈ [a.t_Asking_order,a.t_asker],∃ ps,H2 p = some (.tbl ps):=fun p hp=>by
    rcases List.mem_cons.mp hp with y | y
    ·rw [y];obtain ⟨_,e,_⟩:=S.t1;exact ⟨_,e⟩
    ·rw [List.mem_singleton.mp y];obtain ⟨_,e,_⟩:=S.t2;exact ⟨_,e⟩
   have vis:∀ {p:Addr}{ys:List V},H2 p = some (.lst ys)->qM_ [a.t_Asking_order,a.t_asker] H2 p = some (.lst ys):=fun {p ys} e=>by
    rw [jV_ fun z=>?_]
    ·exact e
    ·obtain ⟨ps,y⟩:=hh2 p z
     rw [y] at e;cases e
   have sGG:Same G (qM_ [a.t_Asking_order,a.t_asker] H2):=zX_ S.sm fun p hp=>by
    rcases List.mem_cons.mp hp with y | y
    ·rw [y];exact D.nt1
    ·rw [List.mem_singleton.mp y];exact D.nt2
   have hRG:=vis S.hR
   have hCG:=vis S.hC
   have hSG:=vis S.hS
   have sG2:Same (qM_ [a.t_Asking_order,a.t_asker] H2) H2:=ze_ _ _
   have nt1:qM_ [a.t_Asking_order,a.t_asker] H2 a.t_Asking_order = none:=jK_ (by simp)
   have nt2:qM_ [a.t_Asking_order,a.t_asker] H2 a.t_asker = none:=jK_ (by simp)
   generalize qM_ [a.t_Asking_order,a.t_asker] H2 = G2 at sGG hRG hCG hSG sG2 nt1 nt2
   refine ⟨Nat.zero_le _,fun z nz=>?_⟩
   have s1:=sG2.trans (Same.new (o:=.lst []) nz)
   have nzG:G2 z = none:=sG2.free nz
   have hz:(upd H2 z (.lst [])) z = some (.lst (rowV [])):=qc_
   have t1:=S.t1.keep (Same.new (o:=.lst []) nz)
   have t2:=S.t2.keep (Same.new (o:=.lst []) nz)
   generalize (upd H2 z (.lst [])) = H3 at s1 hz t1 t2
   refine ⟨_,rfl,_,rfl,_,rfl,RL,z,rfl,t2,fun H4 f k2 t2' nf hf fr2=>?_⟩
   obtain ⟨ps2,hp2,_⟩:=id t2
   have t1':=t1.kp B.d_Asking_order_asker hp2 k2
   have s2:Same G2 H4:=fun b o e=>k2 b o (fun y=>by rw [y,nt2] at e;cases e) (s1 b o e)
   have hz2:=k2 _ _ (y2_ hz hp2 (fun y=>by cases y)) hz
   refine ⟨_,rfl,fun x dx nx ndx nex=>?_⟩
   have sG4:Same G2 (upd (upd H4 dx (.own x)) x (.ins a.C_Asking dx [])):=fun b o e=>by
    have e3:=s2 b o e
    rw [qf_ (qm_ e3 nx),qf_ (qm_ e3 ndx)]
    exact e3
   refine ⟨x,dx,c,bp,fp,f,CL,r,w,n,M,N,l,cs,rfl,qc_,(D.code.same sGG).same sG4,D.W,SqL.of (sG4 _ _ hCG),by rw [S.cl];exact n8,fun H5 cl rl sl k5 hx5 ncl nrl nsl d1 d2 d3 hcl hrl hsl=>?_⟩
   obtain ⟨I,J,sGh,s35⟩:=qhn_ [] s2 (D.code.same sGG) D.full D.n16 D.W hRG S.rl nzG nt1 hf hz2 t1' S.cl nx ndx k5 hx5 ncl nrl nsl d1 d2 d3 hcl hrl hsl (fun y hy=>absurd hy List.not_mem_nil)
   have hz5:=s35 _ _ hz2
   obtain ⟨ps1,hp1,_⟩:=id t1'
   have ht5:=s35 _ _ hp1
   have t2h:TabS (qM_ [z,rl,sl,a.t_Asking_order] H5) a.t_asker (posD inA) qA:=by
    obtain ⟨ps3,hp3,_⟩:=id t2'
    have hp5:=s35 _ _ hp3
    refine (t2'.keep s35).hide (fun hb=>?_) fun b hb=>?_
    ·rcases List.mem_cons.mp hb with y | hb
     ·rw [y,hz5] at hp5;cases hp5
     rcases List.mem_cons.mp hb with y | hb
     ·rw [y,hrl] at hp5;cases hp5
     rcases List.mem_cons.mp hb with y | hb
     ·rw [y,hsl] at hp5;cases hp5
     ·exact B.d_Asking_order_asker (List.mem_singleton.mp hb).symm
    ·rcases List.mem_cons.mp hb with y | hb
     ·rw [y];exact .inl ⟨_,hz5⟩
     rcases List.mem_cons.mp hb with y | hb
     ·rw [y];exact .inl ⟨_,hrl⟩
     rcases List.mem_cons.mp hb with y | hb
     ·rw [y];exact .inl ⟨_,hsl⟩
     ·rw [List.mem_singleton.mp hb];exact .inr ⟨_,ht5⟩
   refine ⟨rfl,?_⟩
   refine ⟨_,rfl,_,rfl,_,_,r,w,n,M,N,k,l,cs,srow,_,[],X,rfl,I,J,hk,S.c9,D.X1,D.Xlt,D.Xmk,S.ag,qft_ _ _,fun H6 os' as' b hRd hag J6=>?_⟩
   have ok':=qje_ hk hRd (qc8_ _ _ _)
   have hb:=qks_ D.full D.W hk hRd (qc8_ _ _ _)
   have hG6:Same G2 H6:=sGh.trans J6.sm
   refine ⟨_,rfl,_,rfl,_,rfl,_,rfl,_,_,CL,r,w,n,M,N,l,cs,srow,os',as',rfl,I,J6,hG6 _ _ hCG,ok',fun H7 s7=>?_⟩
   refine ⟨_,rfl,?_⟩
   refine ite2 (fun y=>absurd y (by decide)) (fun _=>?_)
   have hG7:=hG6.trans s7
   have gG7:=sGG.trans hG7
   refine ⟨_,rfl,TD,_,_,_,rfl,rfl,SqT.of (gG7 _ _ D.told),qr_ (j:=0) rfl,_,rfl,_,rfl,_,rfl,TD,_,_,_,rfl,rfl,SqT.of (gG7 _ _ D.told),qr_ (j:=1) rfl,?_⟩
   refine ⟨CO,SL,qs,st,r,w,M,N,k,l,stB (N + M) cs srow,rfl,D.full,D.W,gG7 _ _ D.cols,D.obs.same gG7,hG7 _ _ hSG,fun j hj=>?_,hk,fun H8 s8=>?_⟩
   ·rw [qbr_ hj,S.is j hj,decide_eq_false (by omega),Bool.or_false]
   rw [<- hb]
   have fin:∀ H',Same H8 H'->Q (.bl true) H':=fun H' s'=>q H' ((gG7.trans s8).trans s') (J6.tab.keep (s7.trans (s8.trans s'))) (t2h.keep (J6.sm.trans (s7.trans (s8.trans s'))))
   have eX:(rowV X)[k]? = some (.int ((X.getD k 0:Nat):Int)):=jy_ (by rw [D.X1];exact hk)
   refine ⟨_,rfl,?_⟩
   cases b with
   | true =>
    refine ite2 (fun _=>?_) (fun y=>absurd rfl y)
    refine ⟨_,rfl,_,rfl,?_⟩
    refine ⟨_,rfl,iteT ?_⟩
    refine ⟨_,rfl,_,rfl,_,rfl,mk,_,_,_,rfl,rfl,SqL.of ((gG7.trans s8) _ _ D.make),qr_ eX,rfl,?_⟩
    rw [if_pos rfl,decide_eq_true rfl]
    exact fin _ (Same.refl _)
   | false =>
    refine ite2 (fun y=>absurd y (by decide)) (fun _=>?_)
    refine ⟨_,rfl,rfl,?_⟩
    exact fin _ (Same.refl _)
end
theorem qhv_ {K:PySem.W.Frag}{H:Hp}{b:Addr}{xs:List V}{ts:List Addr} (h:SqL K H b xs) (ht:∀ p ∈ ts,∃ ps,H p = some (.tbl ps)):SqL K (qM_ ts H) b xs:=by
 have k:∀ {o:HO},H b = some o->(∀ ps,o ≠ .tbl ps)->qM_ ts H b = some o:=fun {o} e n=>by
  rw [jV_ fun z=>?_]
  ·exact e
  ·obtain ⟨ps,y⟩:=ht b z
   rw [y] at e
   exact n ps (Option.some.inj e).symm
 rcases h with (h | ⟨o,h⟩) | h
 ·exact .inl (.inl (k h (fun _ y=>by cases y)))
 ·exact .inl (.inr ⟨o,k h (fun _ y=>by cases y)⟩)
 ·exact .inr h
theorem qf5_ {K:PySem.W.Frag}{l:Addr}{qs:List Addr}{ob:Nat->HO}{k:Nat}{te:TE}{cs:L2.St}{H1:Hp}{D:Addr}{Q:Hp->Prop} (hl:H1 l = some (.lst (qs.map V.ref))) (hD:H1 D = none) (hk:k = cs.length) (hn:qs.length<=sizeLine)
  (he:∀ i p H (R:V->Hp->Prop),qs[i]? = some p->Same H1 H->(∀ p H4,H p = none->Same H H4->H4 p = some (ob i)->R (.ref p) H4)->te (cs ++ [some (.ref p)]) H R)
  (hQ:∀ ps H,Same H1 H->H D = some (.lst (ps.map V.ref))->ObAt H ps qs.length ob->Q H):jp_ (Itl K l) (qZ_ k) jE_ te (cs ++ [none]) H1 D Q :=
 vl_ (n:=qs.length) (stt:=fun i=>cs ++ [(qs.map V.ref)[i]?]) (Ok:=fun σ=>∃ o,σ = cs ++ [o]) hD hn ⟨none,rfl⟩ (fun i _=>⟨_,rfl⟩) (fun H sm=>⟨_,SqL.of (sm _ _ hl),by rw [List.length_map];exact Nat.le_refl _⟩) (fun i H hi sm=>⟨_,_,SqL.of (sm _ _ hl),qG_ (List.getElem?_eq_getElem hi)⟩) (fun i σ H x H' R hi sm ho y q=>by
  obtain ⟨o,rfl⟩:=ho
  obtain ⟨rfl,y⟩:=y
  have:=y _ (SqL.of (sm _ _ hl))
  unfold qZ_
  rw [hk,List.set_append_right _ _ (Nat.le_refl _),Nat.sub_self]
  show R (cs ++ [some x]) _
  rw [<- this]
  exact q _ (Same.refl _)) (fun i H R hi sm r=>by
  have e:(qs.map V.ref)[i]? = some (.ref qs[i]):=qG_ (List.getElem?_eq_getElem hi)
  try dsimp only
  rw [e]
  exact he i _ H R (List.getElem?_eq_getElem hi) sm r) hQ
section
variable {P:Program}{wo:World}{K:PySem.W.Frag}{mg:Str->Option Value}{base:Heap}{a:Adr}
def uq_ (K:PySem.W.Frag) (ts:List Addr):Sp:=fun vs H Q _=>∃ (s:Addr) (ns:List Int),vs = [.ref s]/\SqL K H s (ns.map V.int)/\ns.length<=63/\(∀ p ∈ ts,H p = some (.tbl #[]))/\∀ H',Q (.bl true) H'
theorem qku_ (T:Txt K mg a) (B:Tb base mg a):FnOk P wo K mg base CX0 13 a.f_law a.d_law ["_law_script"] (uq_ K [a.t_Asking_order,a.t_asker]):=by
 have G_cell:FnOk P wo K mg base CX0 12 _ _ _ _:=(qc1_ T).mono (by decide)
 have G_rule:FnOk P wo K mg base CX0 12 _ _ _ _:=(qit_ T).mono (by decide)
 have G_sizes:FnOk P wo K mg base CX0 12 _ _ _ _:=(qhb_ T).mono (by decide)
 have G_weights:FnOk P wo K mg base CX0 12 _ _ _ _:=(qd5_ T).mono (by decide)
 have G_columns:FnOk P wo K mg base CX0 12 _ _ _ _:=(qd6_ T).mono (by decide)
 have G_kinds:FnOk P wo K mg base CX0 12 _ _ _ _:=(qhp_ T).mono (by decide)
 have G_some:FnOk P wo K mg base CX0 12 _ _ _ _:=(qi5_ T).mono (by decide)
 have G_make:FnOk P wo K mg base CX0 12 _ _ _ _:=(qi3_ T).mono (by decide)
 have G_costs:FnOk P wo K mg base CX0 12 _ _ _ _:=(qhd_ T).mono (by decide)
 have G_Field_init:FnOk P wo K mg base CX0 11 _ _ _ _:=(qaf_ T).mono (by decide)
 have G_Blocks_init:FnOk P wo K mg base CX0 11 _ _ _ _:=(uC_ T).mono (by decide)
 have G_Code_init:FnOk P wo K mg base CX0 11 _ _ _ _:=(qbh_ T).mono (by decide)
 have G_scene:FnOk P wo K mg base CX0 12 _ _ _ _:=qhu_ T B
 refine T.F_law.ok (k:=12) sc_law (fun vs H Q E h=>?_) (fun cdv A outer s H vs Q E hr h=>?_)
 ·obtain ⟨sa,ns,rfl,_⟩:=h
  rfl
 ·obtain ⟨sa,ns,rfl,hS,hlen,hT,q⟩:=h
  have ht1:=hT a.t_Asking_order (.head _)
  have ht2:=hT a.t_asker (.tail _ (.head _))
  refine ⟨_,(qd_ (ye_ (qx_ G_sizes (hr.mono (by decide)) rfl T.m_sizes T.k_sizes T.b_sizes .nil qp_ (qa_ (qx_ G_cell (hr.mono (by decide)) rfl T.m_cell T.k_cell T.b_cell .nil qp_ (qa_ (pv 0) (qa_ qj_ qe_))) qe_)) (y4_ rfl (qL_ (qo_ (i:=1) sc_law.nd rfl (Or.inl rfl)) (qL_ (qo_ (i:=2) sc_law.nd rfl (Or.inl rfl)) j2_))))
   (qd_ (ql_ (i:=3) sc_law.nd rfl (Or.inl rfl) (qx_ G_rule (hr.mono (by decide)) rfl T.m_rule T.k_rule T.b_rule .nil qp_ (qa_ (qx_ G_cell (hr.mono (by decide)) rfl T.m_cell T.k_cell T.b_cell .nil qp_ (qa_ (pv 0) (qa_ qj_ qe_))) qe_)))
   (qd_ (ql_ (i:=4) sc_law.nd rfl (Or.inl rfl) (qn_ qO_ qj_ (qn_ qV_ (qx_ G_cell (hr.mono (by decide)) rfl T.m_cell T.k_cell T.b_cell .nil qp_ (qa_ (pv 0) (qa_ qj_ qe_))) qj_)))
   (qd_ (ql_ (i:=5) sc_law.nd rfl (Or.inl rfl) (qn_ zi_ (z4_ PySem.F.plainAttrs_int PyProof.Rows.slot_int_bit_length PyProof.Rows.type_int_bit_length y5_ (pv 3)) qj_))
   (qd_ (ql_ (i:=6) sc_law.nd rfl (Or.inl rfl) (qx_ G_weights (hr.mono (by decide)) rfl T.m_weights T.k_weights T.b_weights .nil qp_ (qa_ (qx_ G_cell (hr.mono (by decide)) rfl T.m_cell T.k_cell T.b_cell .nil qp_ (qa_ (pv 0) (qa_ qj_ qe_))) (qa_ (pv 1) (qa_ (pv 2) (qa_ (qn_ zi_ (qn_ v2_ qj_ (pv 5)) qj_) qe_))))))
   (qd_ (ql_ (i:=7) sc_law.nd rfl (Or.inl rfl) (qx_ G_make (hr.mono (by decide)) rfl T.m_make T.k_make T.b_make .nil qp_ (qa_ (qx_ G_some (hr.mono (by decide)) rfl T.m_some T.k_some T.b_some .nil qp_ (qa_ (pv 0) (qa_ qj_ (qa_ (pv 1) (qa_ (qn_ v2_ qj_ (qn_ jP_ (pv 5) (pv 4))) qe_))))) (qa_ (pv 6) (qa_ (pv 3) qe_)))))
   (qd_ (ql_ (i:=8) sc_law.nd rfl (Or.inl rfl) (vn_ T.mk_Code G_Code_init (hr.mono (by decide)) rfl T.m_Code T.b_Code_init .nil qp_ (qa_ (vn_ T.mk_Blocks G_Blocks_init (hr.mono (by decide)) rfl T.m_Blocks T.b_Blocks_init .nil qp_ (qa_ (vn_ T.mk_Field G_Field_init (hr.mono (by decide)) rfl T.m_Field T.b_Field_init .nil qp_ (qa_ (pv 3) qe_)) (qa_ (pv 4) qe_))) (qa_ (jM_ (CompOk.of (cap:=[]) (own:=["_law_line"]) (by kernel_rfl)) rfl (q7_ (pv 6)) (fun _ _ _ _ _=>(qo_ (i:=0) (of_decide_eq_true (by kernel_rfl)) rfl (Or.inl rfl))) (fun _ _ _ _ _=>jw_) (fun _ _ _ _ _=>by exact (yj_ (qaa_ (K:=K) rfl) rfl T.n_list (by decide +kernel) (qa_ (pv 0) qe_)))) qe_))))
   (qd_ (ql_ (i:=9) sc_law.nd rfl (Or.inl rfl) (qn_ qO_ (pv 1) (pv 2)))
   (qd_ (ql_ (i:=10) sc_law.nd rfl (Or.inl rfl) (yB_ (qa_ (qx_ G_columns (hr.mono (by decide)) rfl T.m_columns T.k_columns T.b_columns .nil qp_ (qa_ (pv 6) qe_)) (qa_ (pv 3) qe_))))
   (qd_ (qK_ PassesOwn.never rfl (qfu_ rfl T.n_range (qa_ qj_ (qa_ (qy_ (qee_ rfl) rfl T.n_max boot_max (qa_ qj_ (qa_ (qy_ (qef_ rfl) rfl T.n_min boot_min (qa_ (qy_ qv_ rfl T.n_len PySem.boot_len (qa_ (pv 0) qe_)) (qa_ qj_ qe_))) qe_))) (qa_ qj_ qe_)))) (qo_ (i:=11) sc_law.nd rfl (Or.inl rfl)) (qd_ (ql_ (i:=12) sc_law.nd rfl (Or.inl rfl) (qx_ G_costs (hr.mono (by decide)) rfl T.m_costs T.k_costs T.b_costs .nil qp_ (qa_ (qx_ G_cell (hr.mono (by decide)) rfl T.m_cell T.k_cell T.b_cell .nil qp_ (qa_ (pv 0) (qa_ (pv 11) qe_))) (qa_ (pv 9) qe_))))
   (qd_ (ql_ (i:=13) sc_law.nd rfl (Or.inl rfl) (qx_ G_cell (hr.mono (by decide)) rfl T.m_cell T.k_cell T.b_cell .nil qp_ (qa_ (pv 0) (qa_ (qn_ qO_ (pv 11) qj_) qe_))))
   (qg_ (qD_ (yJ_ (jR_ (qx_ G_scene (hr.mono (by decide)) rfl T.m_scene T.k_scene T.b_scene .nil qp_ (qa_ (pv 8) (qa_ (pv 10) (qa_ (pv 7) (qa_ (qx_ G_kinds (hr.mono (by decide)) rfl T.m_kinds T.k_kinds T.b_kinds .nil qp_ (qa_ (qn_ j3_ (pv 13) (pv 9)) (qa_ (pv 9) qe_))) (qa_ (pv 12) (qa_ (qn_ qV_ (pv 13) (pv 9)) qe_))))))))) (qg_ (qq_ yI_)) qA_)))))
   (qg_ (qq_ yI_)))))))))))),?_⟩
  refine ⟨_,rfl,sa,ns,0,rfl,hS,by decide,hlen,fun c0=>⟨_,rfl,fun tp H1 N M m1 m2 n1 n8 ntp s1 htp=>?_⟩⟩
  refine ⟨tp,_,rfl,SqT.of htp,rfl,_,_,rfl,_,_,rfl,rfl,?_⟩
  have hS1:=s1.seq hS
  refine ⟨_,rfl,sa,ns,1,rfl,hS1,by decide,hlen,fun c1=>⟨_,rfl,fun r H2 R s2=>?_⟩⟩
  generalize r.log2 = w at R
  have h16:=R.top16
  have h256:=R.top256
  have s02:=s1.trans s2
  have hS2:=s02.seq hS
  refine ⟨_,rfl,sa,ns,2,rfl,hS2,by decide,hlen,fun c2=>?_⟩
  obtain ⟨m0,hm0,em0⟩:=modN c2 (n:=3) (by decide)
  have em0:c2 % 3 = (m0:Int):=em0
  obtain ⟨n,hn⟩:∃ n,n = 1 + m0:=⟨_,rfl⟩
  refine ⟨_,_,rfl,rfl,p0 (by decide),_,_,rfl,rfl,?_⟩
  try dsimp only
  rw [em0,show (1:Int) + (m0:Int) = (n:Int) by omega]
  have hn1:1<=n:=by omega
  have hn16:n<=16:=by omega
  have hw8:w<=8:=R.w8
  have hw4:4<=w:=R.w4
  have ew:((Builtin.Int.intBits (r:Int):Nat):Int) - 1 = (w:Int):=by
   rw [yg_ R.rule.lo R.rule.hi]
   omega
  refine ⟨_,rfl,rfl,_,rfl,rfl,_,_,rfl,rfl,?_⟩
  try dsimp only
  rw [ew]
  have eL1:(1:Int) * 2 ^ ((w:Int)).toNat = ((2 ^ w:Nat):Int):=by rw [vO_]
  refine ⟨_,rfl,sa,ns,3,rfl,hS2,by decide,hlen,fun c3=>?_⟩
  refine ⟨_,rfl,_,rfl,_,rfl,_,_,rfl,rfl,⟨by omega,by omega,by decide⟩,?_⟩
  try dsimp only
  rw [eL1]
  refine ⟨_,_,rfl,rfl,c3,w,M,N,congrArg (fun z=>[V.int c3,V.int (N:Nat),V.int (M:Nat),V.int z]) (show ((2 ^ w:Nat):Int) - 1 = ((2 ^ w - 1:Nat):Int) by omega),h16,h256,m1,m2,n1,n8,fun WL H3 ps l s3 hWL htW W=>?_⟩
  have s03:=s02.trans s3
  have hwn:w * n<=128:=Nat.mul_le_mul hw8 hn16
  have emn:(w:Int) * (n:Int) = ((w * n:Nat):Int):=by simp
  have eL:(1:Int) * 2 ^ ((w:Int) * (n:Int)).toNat = (((2 ^ w) ^ n:Nat):Int):=by rw [emn,vO_,Nat.pow_mul]
  have hL0:0 < (2 ^ w) ^ n:=Nat.pow_pos (Nat.two_pow_pos w)
  have hLB:(2 ^ w) ^ n<=2 ^ 128:=by
   rw [<- Nat.pow_mul]
   exact Nat.pow_le_pow_right (by decide) hwn
  refine ⟨_,rfl,_,rfl,_,rfl,_,rfl,_,_,rfl,rfl,.inl ⟨by omega,by omega⟩,_,_,rfl,rfl,⟨by rw [emn];omega,by rw [emn];omega,by decide⟩,?_⟩
  try dsimp only
  rw [eL]
  refine ⟨sa,ns,4,N,(2 ^ w) ^ n,rfl,s03.seq hS,hlen,by omega,by omega,hL0,hLB,fun SL H8 xs s8 nSL hSL hxl hxlt=>?_⟩
  have s08:=s03.trans s8
  refine ⟨_,rfl,_,rfl,SL,WL,ps,r,w,n,M,N,l,xs,rfl,R.toGood,hSL,hxl,by omega,m2,hxlt,s8 _ _ hWL,htW.same s8,W.lt,fun ML H9 s9 nML hML=>?_⟩
  have s09:=s08.trans s9
  have s39:=s8.trans s9
  obtain ⟨X,hXe⟩:∃ X,X = zv_ r w n M N l xs:=⟨_,rfl⟩
  rw [<- hXe] at hML
  have hX1:X.length = N + M:=by rw [hXe];exact qho_ _ _ _ _ _ _ _ hxl
  have hXlt:∀ b ∈ X,b < (2 ^ w) ^ n:=by rw [hXe];exact qjj_ R.toGood W hxlt
  have hXmk:isMk r w n M N l X = true:=by rw [hXe];exact qji_ _ _ _ _ _ _ _ R.toGood W hxl
  try dsimp only [L2.start,List.set,List.map,List.append,List.replicate,HAppend.hAppend,Append.append,List.length,Nat.reduceAdd,Nat.reduceSub]
  refine ⟨_,rfl,fun x dx nx ndx nex=>⟨x,dx,r,w,rfl,qc_,R.toGood,rfl,?_⟩⟩
  have s5:=qfa_ (a:=a) (r:=r) (w:=w) (Same.refl H9) nx ndx
  have hF:FieldAt a.C_Field (upd (upd (upd H9 dx (.own x)) x (.ins a.C_Field dx [])) x (.ins a.C_Field dx (ff r w))) x r w:=⟨dx,qc_⟩
  generalize (upd (upd (upd H9 dx (.own x)) x (.ins a.C_Field dx [])) x (.ins a.C_Field dx (ff r w))) = H14 at s5 hF
  refine ⟨_,rfl,fun b db nb ndb neb=>⟨b,db,x,r,w,n,rfl,qc_,?_,?_,R.toGood,hn1,hn16,rfl,?_⟩⟩
  ·obtain ⟨d,e⟩:=hF
   exact ⟨d,by rw [qf_ (qm_ e nb),qf_ (qm_ e ndb)];exact e⟩
  ·obtain ⟨d,e⟩:=hF
   exact (qm_ e nb).symm
  have s6:=qdr_ (a:=a) (fp:=x) (w:=w) (n:=n) (Same.refl H14) nb ndb
  have hB:BlocksAt a (upd (upd (upd H14 db (.own b)) b (.ins a.C_Blocks db [])) b (.ins a.C_Blocks db (bf x w n))) b x r w n:=⟨⟨db,qc_⟩,hF.same s6⟩
  generalize (upd (upd (upd H14 db (.own b)) b (.ins a.C_Blocks db [])) b (.ins a.C_Blocks db (bf x w n))) = H15 at s6 hB
  have s915:=s5.trans s6
  have s315:=s39.trans s915
  have hW15:=s315 _ _ hWL
  have htW15:=htW.same s315
  refine ⟨_,rfl,WL,rfl,⟨_,SqL.of hW15⟩,fun W2 nW2=>?_⟩
  refine qf5_ (ob:=fun i=>.lst (rowV (rowT N l i))) (cs:=[]) hW15 nW2 rfl (by rw [htW.len];exact Nat.le_trans m2 (by decide)) (fun i p Hx Rx hp sx hR=>?_) (fun ps2 H15b s15b hW2 hob2=>?_)
  ·exact ⟨_,rfl,p,_,rfl,.inl (SqL.of (sx _ _ (htW15.on i p hp))),fun p' np'=>hR p' _ np' (Same.new np') qc_⟩
  rw [htW.len] at hob2
  have htW2:TabAt H15b ps2 M (rowT N l):=⟨hob2.len,hob2.on⟩
  have hB:=hB.same s15b
  refine fun c dc nc ndc nec=>?_
  have s7:Same H15b (upd (upd H15b dc (.own c)) c (.ins a.C_Code dc [])):=fun y o e=>by
   rw [qf_ (qm_ e nc),qf_ (qm_ e ndc)]
   exact e
  refine ⟨c,dc,b,x,W2,r,w,n,M,N,ps2,l,rfl,qc_,hB.same s7,R.toGood,s7 _ _ hW2,htW2.same s7,W,fun H16 k16 hC16=>⟨rfl,?_⟩⟩
  have s1516:Same H15 H16:=s15b.trans fun y o e=>k16 y o (qm_ e nc) (s7 _ _ e)
  have s916:=s915.trans s1516
  refine ⟨_,rfl,_,rfl,_,_,rfl,rfl,?_⟩
  have s316:=s39.trans s916
  refine ⟨_,rfl,WL,ps,w,M,N,l,rfl,s316 _ _ hWL,htW.same s316,W,fun CO H17 qs s17 hCO hob=>?_⟩
  refine ⟨_,rfl,(show 2<=sizeLine by decide),fun TD nTD=>?_⟩
  have s18:=s17.trans (Same.new (o:=.tup [.ref CO,.int (r:Nat)]) nTD)
  have hTD:(upd H17 TD (.tup [.ref CO,.int (r:Nat)])) TD = some (.tup [.ref CO,.int (r:Nat)]):=qc_
  have hCO:=(Same.new (o:=.tup [.ref CO,.int (r:Nat)]) nTD) _ _ hCO
  have hob:=hob.same (Same.new (o:=.tup [.ref CO,.int (r:Nat)]) nTD)
  generalize (upd H17 TD (.tup [.ref CO,.int (r:Nat)])) = H18 at s18 hTD hCO hob
  have s918:=s916.trans s18
  have s018:=s09.trans s918
  have ht1':=s018 _ _ ht1
  have ht2':=s018 _ _ ht2
  have hML':=s918 _ _ hML
  have hC18:=hC16.same s18
  have hhid:∀ p ∈ [a.t_Asking_order,a.t_asker],∃ ps,H18 p = some (.tbl ps):=fun p hp=>by
   rcases List.mem_cons.mp hp with y | y
   ·rw [y];exact ⟨_,ht1'⟩
   ·rw [List.mem_singleton.mp y];exact ⟨_,ht2'⟩
  have hCG:=hC18.hide hhid
  have vis:∀ {p:Addr}{o:HO},H18 p = some o->(∀ ps,o ≠ .tbl ps)->qM_ [a.t_Asking_order,a.t_asker] H18 p = some o:=fun {p o} e n=>by
   rw [jV_ fun z=>?_]
   ·exact e
   ·obtain ⟨ps,y⟩:=hhid p z
    rw [y] at e
    exact n ps (Option.some.inj e).symm
  have hMG:=vis hML' (fun _ y=>by cases y)
  have hTG:=vis hTD (fun _ y=>by cases y)
  have hOG:=vis hCO (fun _ y=>by cases y)
  have hbG:ObAt (qM_ [a.t_Asking_order,a.t_asker] H18) qs (N + M) (colO M N l):=⟨hob.len,fun j p e=>vis (hob.on j p e) (fun _ y=>by unfold colO at y;cases y)⟩
  have sG:Same (qM_ [a.t_Asking_order,a.t_asker] H18) H18:=ze_ _ _
  have nt1:qM_ [a.t_Asking_order,a.t_asker] H18 a.t_Asking_order = none:=jK_ (by simp)
  have nt2:qM_ [a.t_Asking_order,a.t_asker] H18 a.t_asker = none:=jK_ (by simp)
  have hSG:SqL K (qM_ [a.t_Asking_order,a.t_asker] H18) sa (ns.map V.int):=qhv_ (s018.seq hS) hhid
  have T1:TabS H18 a.t_Asking_order posL qL:=⟨_,ht1',.inl rfl⟩
  have T2:TabS H18 a.t_asker (posD inA) qA:=⟨_,ht2',.inl rfl⟩
  generalize qM_ [a.t_Asking_order,a.t_asker] H18 = G at hCG hMG hTG hOG hbG sG nt1 nt2 hSG
  have hl63:(ns.map V.int).length<=63:=by rw [List.length_map];exact hlen
  obtain ⟨J,hJ,hJ4,hJ63⟩:∃ J:Int,(if (if (30:Int) < (((ns.map V.int).length:Nat):Int) then 30 else (((ns.map V.int).length:Nat):Int)) > 6 then (if (30:Int) < (((ns.map V.int).length:Nat):Int) then 30 else (((ns.map V.int).length:Nat):Int)) else 6) = J/\6<=J/\J<=63:=by
   refine ⟨_,rfl,?_,?_⟩
   ·split <;> omega
   ·split
    ·split <;> omega
    ·omega
  refine ⟨_,rfl,sa,_,rfl,.inl (sG.seq hSG),_,_,rfl,_,_,rfl,?_⟩
  refine ⟨4,J,congrArg (fun z=>[V.int 4,V.int z,V.int 2]) hJ,⟨by decide,by decide,by omega,by omega⟩,?_⟩
  refine qd3_ (lo:=4) (n:=((J - 4 + 1) / 2).toNat) (fun i σ H'=>(∃ v11 v12 v13:Option V,σ = [some (.ref sa),some (.int (N:Nat)),some (.int (M:Nat)),some (.int (r:Nat)),some (.int (n:Nat)),some (.int (w:Nat)),some (.ref WL),some (.ref ML),some (.ref c),some (.int ((N:Int) + (M:Int))),some (.ref TD),v11,v12,v13])/\Same G H'/\TabS H' a.t_Asking_order posL qL/\TabS H' a.t_asker (posD inA) qA) ⟨⟨_,_,_,rfl⟩,sG,T1,T2⟩ ?_ ?_
  ·rintro i σ H19 hi ⟨⟨v11,v12,v13,rfl⟩,s19,t1,t2⟩
   rw [show (4:Int) + (i:Nat) * 2 = ((4 + 2 * i:Nat):Int) by omega]
   have hi2:4 + 2 * i<=70:=by omega
   refine ⟨_,rfl,_,rfl,sa,ns,4 + 2 * i,rfl,s19.seq hSG,by omega,hlen,fun c4=>?_⟩
   refine ⟨_,rfl,c4,N + M,congrArg (fun z=>[V.int c4,V.int z]) (show (N:Int) + (M:Int) = ((N + M:Nat):Int) by omega),n8,fun CL H20 cs0 s20 nCL hCL hcl hc9=>?_⟩
   refine ⟨_,rfl,_,rfl,_,_,rfl,rfl,sa,ns,4 + 2 * i + 1,congrArg (fun z=>[V.ref sa,V.int z]) (show ((4 + 2 * i:Nat):Int) + 1 = ((4 + 2 * i + 1:Nat):Int) by omega),(s19.trans s20).seq hSG,by omega,hlen,fun c5=>?_⟩
   refine ⟨_,rfl,_,rfl,_,rfl,_,rfl,_,rfl,_,_,rfl,rfl,⟨by omega,by omega⟩,_,rfl,_,N + M,congrArg (fun z=>[V.int (c5 / ((N:Int) + (M:Int))),V.int z]) (show (N:Int) + (M:Int) = ((N + M:Nat):Int) by omega),n8,fun KL H21 kd s21 nKL hKL hkl=>?_⟩
   have sG21:=(s19.trans s20).trans s21
   have t1:=(t1.keep s20).keep s21
   have t2:=(t2.keep s20).keep s21
   have hh2:∀ p ∈ [a.t_Asking_order,a.t_asker],∃ ps,H21 p = some (.tbl ps):=fun p hp=>by
    rcases List.mem_cons.mp hp with y | y
    ·rw [y];obtain ⟨_,e,_⟩:=t1;exact ⟨_,e⟩
    ·rw [List.mem_singleton.mp y];obtain ⟨_,e,_⟩:=t2;exact ⟨_,e⟩
   have sGG:Same G (qM_ [a.t_Asking_order,a.t_asker] H21):=zX_ sG21 fun p hp=>by
    rcases List.mem_cons.mp hp with y | y
    ·rw [y];exact nt1
    ·rw [List.mem_singleton.mp y];exact nt2
   have vis:∀ {p:Addr}{ys:List V},H21 p = some (.lst ys)->qM_ [a.t_Asking_order,a.t_asker] H21 p = some (.lst ys):=fun {p ys} e=>by
    rw [jV_ fun z=>?_]
    ·exact e
    ·obtain ⟨ps,y⟩:=hh2 p z
     rw [y] at e;cases e
   have hKG:=vis hKL
   have hcG:=vis (s21 _ _ hCL)
   obtain ⟨k,hk,ek⟩:=modN c5 (n:=N + M) (by omega)
   have ek:c5 % ((N:Int) + (M:Int)) = (k:Int):=by rw [<- ek];congr 1
   have D:RdK a (qM_ [a.t_Asking_order,a.t_asker] H21) H21 c b x ML TD CO qs r w n M N l X:=⟨ze_ _ _,hCG.same sGG,R,hn16,W,sGG _ _ hMG,sGG _ _ hTG,sGG _ _ hOG,hbG.same sGG,hX1,hXlt,hXmk,jK_ (by simp),jK_ (by simp),t1,t2⟩
   generalize qM_ [a.t_Asking_order,a.t_asker] H21 = G2 at sGG hKG hcG D
   refine ⟨_,rfl,_,rfl,_,rfl,_,_,rfl,rfl,by omega,G2,c,b,x,ML,TD,CO,KL,CL,qs,r,w,n,M,N,k,l,X,kd,cs0,congrArg (fun z=>[V.ref c,V.ref TD,V.ref ML,V.ref KL,V.ref CL,V.int z]) ek,D,hKG,hkl,hcG,hcl,fun x hx=>(hc9 x hx).2,hk,fun H22 s22 t1' t2'=>?_⟩
   refine ⟨_,rfl,?_⟩
   refine ite2 (fun y=>absurd y (by decide)) (fun _=>?_)
   exact ⟨⟨_,_,_,rfl⟩,sGG.trans s22,t1',t2'⟩
  ·rintro σ H17 ⟨⟨v11,v12,v13,rfl⟩,s17,t1,t2⟩
   exact q H17
theorem walk {l:PySem.W.OpenLaw}{q:Program}{loose:List Str}{XP:(Str->Option Value)->Heap->Prop}{YP:World->Heap->Prop}{d:DefRec}{K:Params->PySem.W.Frag}{ts:List Addr} (hn:l.most = some 63) (hdf:d.params.defaults = [])
  (hY:∀ (w:World) (h:Heap),YP w h->(K w.params).In h/\∀ p ∈ ts,h.get? p = some (PySem.W.tabObj #[]))
  (F:∀ (w:World) (mg:Str->Option Value) (fa:Addr) (h:Heap),(K w.params).In h->h.Ns mainGlobals mg->mg d.name = some (.ref fa) →
   ∃ fd:FuncData,(∀ (s:Shared) (u:Value),BindsTo s fd ⟨[u],[]⟩ [("_law_script",u)]) ∧ (∀ p ∈ ts,(K w.params).lookup p = none) ∧ (∀ p ∈ ts,∃ c,PySem.W.codeHdIn (K w.params) c p = true) ∧ ∀ base:Heap,(K w.params).In base → base.Ns mainGlobals mg → (∀ p ∈ ts,mainGlobals ≠ p ∧ base.BuiltinsAt mg p) → FnOk l.prog w (K w.params) mg base CX0 13 fa fd ["_law_script"] (uq_ (K w.params) ts)) :
  PySem.W.WalkO q loose XP YP l.row.toRowW d [] (fun f vs=>PySem.call f vs) :=
 L2.walk_ofT (n:=63) (k:=13) (x:="_law_script") (CX:=fun _=>CX0) (sp:=fun w=>uq_ (K w.params) ts) hn (by decide) hdf ⟨rfl,by decide,by decide,rfl⟩ hY F (fun _ _ a ns hl hS hT=>⟨a,ns,rfl,hS,hl,hT,fun _=>rfl⟩) fun _ _ _ _ _ z=>z
end
end My
namespace My
open PySem L2 PyProof.Rows
theorem fin {P:Program}{w:World}{K:PySem.W.Frag}{mg:Str → Option Value}{fa:Addr}{h:Heap}{ts:List Addr} (_:K.In h) (hmg:mg "law" = some (.ref fa)) (nd:ts.Nodup)
  (T:∃ a:Adr,Txt K mg a ∧ (∀ (s:Shared) (v:Value),BindsTo s a.d_law ⟨[v],[]⟩ [("_law_script",v)]) ∧ ts.Perm [a.t_Asking_order,a.t_asker] ∧ (∀ p ∈ ts,K.lookup p = none) ∧ ∀ p ∈ ts,∃ c,PySem.W.codeHdIn K c p = true) :
  ∃ fd:FuncData,(∀ (s:Shared) (u:Value),BindsTo s fd ⟨[u],[]⟩ [("_law_script",u)]) ∧ (∀ p ∈ ts,K.lookup p = none) ∧ (∀ p ∈ ts,∃ c,PySem.W.codeHdIn K c p = true) ∧ ∀ base:Heap,K.In base → base.Ns mainGlobals mg → (∀ p ∈ ts,mainGlobals ≠ p ∧ base.BuiltinsAt mg p) → FnOk P w K mg base CX0 13 fa fd ["_law_script"] (uq_ K ts):=by
 obtain ⟨a,T,hb,hp,nl,hd⟩:=T
 have e0:=hmg.symm.trans T.m_law
 cases e0
 exact ⟨a.d_law,hb,nl,hd,fun base kb nb hB=>(qku_ T ⟨(hB _ (hp.mem_iff.mpr (by simp))).2,(hB _ (hp.mem_iff.mpr (by simp))).1,(hB _ (hp.mem_iff.mpr (by simp))).2,(hB _ (hp.mem_iff.mpr (by simp))).1,(by have:=hp.nodup_iff.mp nd;simp at this;simp [this])⟩).imp fun vs H Q E ⟨s,n,e,y,l,t,q⟩=>⟨s,n,e,y,l,fun p z=>t p (hp.mem_iff.mpr z),q⟩⟩
end My
open PySem PySem.W PyProof.Rows
-- names the tactics below would else use for second copies of large terms;nothing uses these
def PySem.W.Fast.tw11988310111722974093:Nat:=0
def PySem.W.Fast.tw730743061183374952:Nat:=0
def PySem.W.Fast.tw590450262693439963:Nat:=0
def PySem.W.Fast.tw11792702018319249179:Nat:=0
def PySem.W.Fast.tw12679593488064284668:Nat:=0
def PySem.W.Fast.tw13582857172869462765:Nat:=0
def PySem.W.Fast.tw6037997708829746764:Nat:=0
def PySem.W.Fast.tw801335208071945319:Nat:=0
def PySem.W.Fast.tw10982495575366954048:Nat:=0
def PySem.W.Fast.tw14381876309660067308:Nat:=0
def PySem.W.Fast.tw4254872097417764290:Nat:=0
def PySem.W.Fast.tw10746094865936083283:Nat:=0
def PySem.W.Fast.tw175065510733865735:Nat:=0
def PySem.W.Fast.tw1621278610552817898:Nat:=0
def PySem.W.Fast.tw2703839945187622807:Nat:=0
def PySem.W.Fast.tw8001764230769087404:Nat:=0
def PySem.W.Fast.tw6651881417899392540:Nat:=0
def PySem.W.Fast.tw1853730064760540974:Nat:=0
def PySem.W.Fast.tw15223631788602966079:Nat:=0
def PySem.W.Fast.tw12474001474084700414:Nat:=0
def PySem.W.Fast.tw8201145923520167126:Nat:=0
def PySem.W.Fast.tw7244713096543543950:Nat:=0
def PySem.W.Fast.tw10436725995114395442:Nat:=0
def PySem.W.Fast.tw4068118086528681465:Nat:=0
def PySem.W.Fast.tw4473828266907082105:Nat:=0
def PySem.W.Fast.tw4638020213060771863:Nat:=0
def PySem.W.Fast.tw8565781360273748646:Nat:=0
def PySem.W.Fast.tw1061765604037825573:Nat:=0
def PySem.W.Fast.tw11795905644122546535:Nat:=0
def PySem.W.Fast.tw8838047267659112162:Nat:=0
def PySem.W.Fast.tw8651657848713159093:Nat:=0
def PySem.W.Fast.tw5356149572365607047:Nat:=0
def PySem.W.Fast.tw14166064694045699528:Nat:=0
def PySem.W.Fast.tw12170159701028602493:Nat:=0
def PySem.W.Fast.tw10527452882199716087:Nat:=0
def PySem.W.Fast.tw10184219870852394762:Nat:=0
def PySem.W.Fast.tw15906661415867602042:Nat:=0
def PySem.W.Fast.tw14190634176850558307:Nat:=0
def PySem.W.Fast.tw6171794808095662097:Nat:=0
def PySem.W.Fast.tw11599319660612723803:Nat:=0
def PySem.W.Fast.tw4909548298667265421:Nat:=0
def PySem.W.Fast.tw14678381093211574172:Nat:=0
def PySem.W.Fast.tw15150902418643879761:Nat:=0
def PySem.W.Fast.tw11724159408264548931:Nat:=0
def PySem.W.Fast.tw12245602175225316297:Nat:=0
def PySem.W.Fast.tw14783224613127374211:Nat:=0
def PySem.W.Fast.tw14031501557318189035:Nat:=0
def PySem.W.Fast.tw1894662833416750694:Nat:=0
def PySem.W.Fast.tw16692797383506139863:Nat:=0
def PySem.W.Fast.tw11594383613855989702:Nat:=0
def PySem.W.Fast.tw17520477364606817354:Nat:=0
def PySem.W.Fast.tw13580183287936083178:Nat:=0
def PySem.W.Fast.tw7353938747185743385:Nat:=0
def PySem.W.Fast.tw13299614298964917650:Nat:=0
def PySem.W.Fast.tw433087253643711196:Nat:=0
def PySem.W.Fast.tw14899146445403139586:Nat:=0
def PySem.W.Fast.tw8872699995620972075:Nat:=0
def PySem.W.Fast.tw10164612576569266429:Nat:=0
def PySem.W.Fast.tw4723429778421639269:Nat:=0
def PySem.W.Fast.tw13106079382145457154:Nat:=0
def PySem.W.Fast.tw5816226164860729069:Nat:=0
def PySem.W.Fast.tw13442021365562785227:Nat:=0
def PySem.W.Fast.tw17300669618612356607:Nat:=0
def PySem.W.Fast.tw16438518451846397963:Nat:=0
def PySem.W.Fast.tw4615057790707928266:Nat:=0
def PySem.W.Fast.tw12484675142282715593:Nat:=0
def PySem.W.Fast.tw2863486723785509679:Nat:=0
def PySem.W.Fast.tw9166180664542680571:Nat:=0
def PySem.W.Fast.tw8750978197395697079:Nat:=0
set_option maxRecDepth 100000 in
set_option maxHeartbeats 0 in
theorem PySem.Challenge.cw_spareplank_k44_whole_any_weights_read_holds : PySem.Challenge.rw_spareplank_k44_whole_any_weights_read.Holds := by
 w_on;o_law;k_head;(case hw=>w_witness2)
 k_fill
 refine My.walk (l := PySem.Challenge.rw_spareplank_k44_whole_any_weights_read) rfl rfl (fun w h Y=>⟨PySem.W.km_in_of Y,PySem.W.km_tabs_of Y⟩) ?F
 case F =>
  intro w mg fa h KX G hmg
  refine My.fin KX hmg (by decide) ?T
  case T =>
   refine' My.txt_mk KX G ?a_Field ?pg_Field ?hd_Field ?po_Field ?sa_Field ?no_Field_rule ?no_Field_width ?no_Field_last ?mk_Field ?kc_Field ?a_Blocks ?pg_Blocks ?hd_Blocks ?po_Blocks ?sa_Blocks ?no_Blocks_field ?no_Blocks_many ?no_Blocks_limit ?mk_Blocks ?kc_Blocks ?a_Code ?pg_Code ?hd_Code ?po_Code ?sa_Code ?no_Code_blocks ?no_Code_sums ?no_Code_data ?no_Code_roles ?no_Code_lines ?mk_Code ?kc_Code ?a_Asking ?pg_Asking ?hd_Asking ?po_Asking ?sa_Asking ?no_Asking_code ?no_Asking_ask ?no_Asking_costs ?no_Asking_row ?no_Asking_asked ?mk_Asking ?kc_Asking ?a_Field_init ?i_Field_init ?l_Field_init ?c_Field_init ?k_Field_init ?a_Field_doublings_of_one ?i_Field_doublings_of_one ?l_Field_doublings_of_one ?c_Field_doublings_of_one ?k_Field_doublings_of_one ?a_Field_double ?i_Field_double ?l_Field_double ?c_Field_double ?k_Field_double ?a_Field_times ?i_Field_times ?l_Field_times ?c_Field_times ?k_Field_times ?a_Field_back ?i_Field_back ?l_Field_back ?c_Field_back ?k_Field_back ?a_Field_power ?i_Field_power ?l_Field_power ?c_Field_power ?k_Field_power ?a_unit ?l_unit ?c_unit ?k_unit ?a_scaled_line ?l_scaled_line ?c_scaled_line ?k_scaled_line ?a_sum_of_two ?l_sum_of_two ?c_sum_of_two ?k_sum_of_two ?a_first_with ?l_first_with ?c_first_with ?k_first_with ?a_swapped ?l_swapped ?c_swapped ?k_swapped ?a_cleared ?l_cleared ?c_cleared ?k_cleared ?a_told_of ?l_told_of ?c_told_of ?k_told_of ?a_free_make ?l_free_make ?c_free_make ?k_free_make ?a_Blocks_init ?i_Blocks_init ?l_Blocks_init ?c_Blocks_init ?k_Blocks_init ?a_Blocks_symbols ?i_Blocks_symbols ?l_Blocks_symbols ?c_Blocks_symbols ?k_Blocks_symbols ?a_Blocks_joined ?i_Blocks_joined ?l_Blocks_joined ?c_Blocks_joined ?k_Blocks_joined ?a_Blocks_scaled ?i_Blocks_scaled ?l_Blocks_scaled ?c_Blocks_scaled ?k_Blocks_scaled ?a_Blocks_summed ?i_Blocks_summed ?l_Blocks_summed ?c_Blocks_summed ?k_Blocks_summed ?a_check_lengths ?l_check_lengths ?c_check_lengths ?k_check_lengths ?a_check_weights ?l_check_weights ?c_check_weights ?k_check_weights ?a_equation_of ?l_equation_of ?c_equation_of ?k_equation_of ?a_Code_init ?i_Code_init ?l_Code_init ?c_Code_init ?k_Code_init ?a_Code_told ?i_Code_told ?l_Code_told ?c_Code_told ?k_Code_told ?a_Code_check_role ?i_Code_check_role ?l_Code_check_role ?c_Code_check_role ?k_Code_check_role ?a_Code_fixes ?i_Code_fixes ?l_Code_fixes ?c_Code_fixes ?k_Code_fixes ?a_Code_summed_by ?i_Code_summed_by ?l_Code_summed_by ?c_Code_summed_by ?k_Code_summed_by ?a_Code_reckoned ?i_Code_reckoned ?l_Code_reckoned ?c_Code_reckoned ?k_Code_reckoned ?a_fixes_all ?l_fixes_all ?c_fixes_all ?k_fixes_all ?a_Asking_init ?i_Asking_init ?l_Asking_init ?c_Asking_init ?k_Asking_init ?a_Asking_may ?i_Asking_may ?l_Asking_may ?c_Asking_may ?k_Asking_may ?a_Asking_take ?i_Asking_take ?l_Asking_take ?c_Asking_take ?k_Asking_take ?a_Asking_take_along ?i_Asking_take_along ?l_Asking_take_along ?c_Asking_take_along ?k_Asking_take_along ?a_Asking_known ?i_Asking_known ?l_Asking_known ?c_Asking_known ?k_Asking_known ?a_Asking_fixes ?i_Asking_fixes ?l_Asking_fixes ?c_Asking_fixes ?k_Asking_fixes ?a_Asking_cost_sum ?i_Asking_cost_sum ?l_Asking_cost_sum ?c_Asking_cost_sum ?k_Asking_cost_sum ?a_Asking_order ?i_Asking_order ?l_Asking_order ?c_Asking_order ?x_Asking_order ?y_Asking_order ?h_Asking_order ?nl_Asking_order ?k_Asking_order ?a_Asking_detour ?i_Asking_detour ?l_Asking_detour ?c_Asking_detour ?k_Asking_detour ?a_Asking_block_of ?i_Asking_block_of ?l_Asking_block_of ?c_Asking_block_of ?k_Asking_block_of ?a_read_role ?l_read_role ?c_read_role ?k_read_role ?a_cell ?l_cell ?c_cell ?k_cell ?a_whole ?l_whole ?c_whole ?k_whole ?a_rule ?l_rule ?c_rule ?k_rule ?a_times ?l_times ?c_times ?k_times ?a_scaled ?l_scaled ?c_scaled ?k_scaled ?a_make ?l_make ?c_make ?k_make ?a_some ?l_some ?c_some ?k_some ?a_sizes ?l_sizes ?c_sizes ?k_sizes ?a_costs ?l_costs ?c_costs ?k_costs ?a_kinds ?l_kinds ?c_kinds ?k_kinds ?a_stream ?l_stream ?c_stream ?k_stream ?a_weights ?l_weights ?c_weights ?k_weights ?a_columns ?l_columns ?c_columns ?k_columns ?a_along ?l_along ?c_along ?k_along ?a_fixed ?l_fixed ?c_fixed ?k_fixed ?a_asker ?l_asker ?c_asker ?x_asker ?y_asker ?h_asker ?nl_asker ?k_asker ?a_seen ?l_seen ?c_seen ?k_seen ?a_scene ?l_scene ?c_scene ?k_scene ?a_law ?l_law ?c_law ?k_law ?z_zip ?z_range ?z_len ?z_list ?z_enumerate ?z_reversed ?z_any ?z_sum ?z_sorted ?z_isinstance ?z_int ?z_bool ?z_max ?z_min ?v_LEAST_RULE ?v_GREATEST_RULE ?v_MOST_SYMBOLS ?v_MOST_ROLES ?v_MOST_SUMS ?ets
   (case a_Field=>k_is)
   (case pg_Field=>k_is)
   (case hd_Field=>k_is)
   (case po_Field=>k_is)
   (case sa_Field=>k_is)
   (case no_Field_rule=>k_is)
   (case no_Field_width=>k_is)
   (case no_Field_last=>k_is)
   (case mk_Field=>k_is)
   (case kc_Field=>k_is)
   (case a_Blocks=>k_is)
   (case pg_Blocks=>k_is)
   (case hd_Blocks=>k_is)
   (case po_Blocks=>k_is)
   (case sa_Blocks=>k_is)
   (case no_Blocks_field=>k_is)
   (case no_Blocks_many=>k_is)
   (case no_Blocks_limit=>k_is)
   (case mk_Blocks=>k_is)
   (case kc_Blocks=>k_is)
   (case a_Code=>k_is)
   (case pg_Code=>k_is)
   (case hd_Code=>k_is)
   (case po_Code=>k_is)
   (case sa_Code=>k_is)
   (case no_Code_blocks=>k_is)
   (case no_Code_sums=>k_is)
   (case no_Code_data=>k_is)
   (case no_Code_roles=>k_is)
   (case no_Code_lines=>k_is)
   (case mk_Code=>k_is)
   (case kc_Code=>k_is)
   (case a_Asking=>k_is)
   (case pg_Asking=>k_is)
   (case hd_Asking=>k_is)
   (case po_Asking=>k_is)
   (case sa_Asking=>k_is)
   (case no_Asking_code=>k_is)
   (case no_Asking_ask=>k_is)
   (case no_Asking_costs=>k_is)
   (case no_Asking_row=>k_is)
   (case no_Asking_asked=>k_is)
   (case mk_Asking=>k_is)
   (case kc_Asking=>k_is)
   (case a_Field_init=>k_is)
   (case i_Field_init=>k_is)
   (case l_Field_init=>k_is)
   (case c_Field_init=>k_is)
   (case k_Field_init=>k_is)
   (case a_Field_doublings_of_one=>k_is)
   (case i_Field_doublings_of_one=>k_is)
   (case l_Field_doublings_of_one=>k_is)
   (case c_Field_doublings_of_one=>k_is)
   (case k_Field_doublings_of_one=>k_is)
   (case a_Field_double=>k_is)
   (case i_Field_double=>k_is)
   (case l_Field_double=>k_is)
   (case c_Field_double=>k_is)
   (case k_Field_double=>k_is)
   (case a_Field_times=>k_is)
   (case i_Field_times=>k_is)
   (case l_Field_times=>k_is)
   (case c_Field_times=>k_is)
   (case k_Field_times=>k_is)
   (case a_Field_back=>k_is)
   (case i_Field_back=>k_is)
   (case l_Field_back=>k_is)
   (case c_Field_back=>k_is)
   (case k_Field_back=>k_is)
   (case a_Field_power=>k_is)
   (case i_Field_power=>k_is)
   (case l_Field_power=>k_is)
   (case c_Field_power=>k_is)
   (case k_Field_power=>k_is)
   (case a_unit=>k_is)
   (case l_unit=>k_is)
   (case c_unit=>k_is)
   (case k_unit=>k_is)
   (case a_scaled_line=>k_is)
   (case l_scaled_line=>k_is)
   (case c_scaled_line=>k_is)
   (case k_scaled_line=>k_is)
   (case a_sum_of_two=>k_is)
   (case l_sum_of_two=>k_is)
   (case c_sum_of_two=>k_is)
   (case k_sum_of_two=>k_is)
   (case a_first_with=>k_is)
   (case l_first_with=>k_is)
   (case c_first_with=>k_is)
   (case k_first_with=>k_is)
   (case a_swapped=>k_is)
   (case l_swapped=>k_is)
   (case c_swapped=>k_is)
   (case k_swapped=>k_is)
   (case a_cleared=>k_is)
   (case l_cleared=>k_is)
   (case c_cleared=>k_is)
   (case k_cleared=>k_is)
   (case a_told_of=>k_is)
   (case l_told_of=>k_is)
   (case c_told_of=>k_is)
   (case k_told_of=>k_is)
   (case a_free_make=>k_is)
   (case l_free_make=>k_is)
   (case c_free_make=>k_is)
   (case k_free_make=>k_is)
   (case a_Blocks_init=>k_is)
   (case i_Blocks_init=>k_is)
   (case l_Blocks_init=>k_is)
   (case c_Blocks_init=>k_is)
   (case k_Blocks_init=>k_is)
   (case a_Blocks_symbols=>k_is)
   (case i_Blocks_symbols=>k_is)
   (case l_Blocks_symbols=>k_is)
   (case c_Blocks_symbols=>k_is)
   (case k_Blocks_symbols=>k_is)
   (case a_Blocks_joined=>k_is)
   (case i_Blocks_joined=>k_is)
   (case l_Blocks_joined=>k_is)
   (case c_Blocks_joined=>k_is)
   (case k_Blocks_joined=>k_is)
   (case a_Blocks_scaled=>k_is)
   (case i_Blocks_scaled=>k_is)
   (case l_Blocks_scaled=>k_is)
   (case c_Blocks_scaled=>k_is)
   (case k_Blocks_scaled=>k_is)
   (case a_Blocks_summed=>k_is)
   (case i_Blocks_summed=>k_is)
   (case l_Blocks_summed=>k_is)
   (case c_Blocks_summed=>k_is)
   (case k_Blocks_summed=>k_is)
   (case a_check_lengths=>k_is)
   (case l_check_lengths=>k_is)
   (case c_check_lengths=>k_is)
   (case k_check_lengths=>k_is)
   (case a_check_weights=>k_is)
   (case l_check_weights=>k_is)
   (case c_check_weights=>k_is)
   (case k_check_weights=>k_is)
   (case a_equation_of=>k_is)
   (case l_equation_of=>k_is)
   (case c_equation_of=>k_is)
   (case k_equation_of=>k_is)
   (case a_Code_init=>k_is)
   (case i_Code_init=>k_is)
   (case l_Code_init=>k_is)
   (case c_Code_init=>k_is)
   (case k_Code_init=>k_is)
   (case a_Code_told=>k_is)
   (case i_Code_told=>k_is)
   (case l_Code_told=>k_is)
   (case c_Code_told=>k_is)
   (case k_Code_told=>k_is)
   (case a_Code_check_role=>k_is)
   (case i_Code_check_role=>k_is)
   (case l_Code_check_role=>k_is)
   (case c_Code_check_role=>k_is)
   (case k_Code_check_role=>k_is)
   (case a_Code_fixes=>k_is)
   (case i_Code_fixes=>k_is)
   (case l_Code_fixes=>k_is)
   (case c_Code_fixes=>k_is)
   (case k_Code_fixes=>k_is)
   (case a_Code_summed_by=>k_is)
   (case i_Code_summed_by=>k_is)
   (case l_Code_summed_by=>k_is)
   (case c_Code_summed_by=>k_is)
   (case k_Code_summed_by=>k_is)
   (case a_Code_reckoned=>k_is)
   (case i_Code_reckoned=>k_is)
   (case l_Code_reckoned=>k_is)
   (case c_Code_reckoned=>k_is)
   (case k_Code_reckoned=>k_is)
   (case a_fixes_all=>k_is)
   (case l_fixes_all=>k_is)
   (case c_fixes_all=>k_is)
   (case k_fixes_all=>k_is)
   (case a_Asking_init=>k_is)
   (case i_Asking_init=>k_is)
   (case l_Asking_init=>k_is)
   (case c_Asking_init=>k_is)
   (case k_Asking_init=>k_is)
   (case a_Asking_may=>k_is)
   (case i_Asking_may=>k_is)
   (case l_Asking_may=>k_is)
   (case c_Asking_may=>k_is)
   (case k_Asking_may=>k_is)
   (case a_Asking_take=>k_is)
   (case i_Asking_take=>k_is)
   (case l_Asking_take=>k_is)
   (case c_Asking_take=>k_is)
   (case k_Asking_take=>k_is)
   (case a_Asking_take_along=>k_is)
   (case i_Asking_take_along=>k_is)
   (case l_Asking_take_along=>k_is)
   (case c_Asking_take_along=>k_is)
   (case k_Asking_take_along=>k_is)
   (case a_Asking_known=>k_is)
   (case i_Asking_known=>k_is)
   (case l_Asking_known=>k_is)
   (case c_Asking_known=>k_is)
   (case k_Asking_known=>k_is)
   (case a_Asking_fixes=>k_is)
   (case i_Asking_fixes=>k_is)
   (case l_Asking_fixes=>k_is)
   (case c_Asking_fixes=>k_is)
   (case k_Asking_fixes=>k_is)
   (case a_Asking_cost_sum=>k_is)
   (case i_Asking_cost_sum=>k_is)
   (case l_Asking_cost_sum=>k_is)
   (case c_Asking_cost_sum=>k_is)
   (case k_Asking_cost_sum=>k_is)
   (case a_Asking_order=>k_is)
   (case i_Asking_order=>k_is)
   (case l_Asking_order=>k_is)
   (case c_Asking_order=>k_is)
   (case x_Asking_order=>k_is)
   (case y_Asking_order=>first | rfl | k_is)
   (case h_Asking_order=>first | rfl | k_is)
   (case nl_Asking_order=>first | rfl | k_is)
   (case k_Asking_order=>k_is)
   (case a_Asking_detour=>k_is)
   (case i_Asking_detour=>k_is)
   (case l_Asking_detour=>k_is)
   (case c_Asking_detour=>k_is)
   (case k_Asking_detour=>k_is)
   (case a_Asking_block_of=>k_is)
   (case i_Asking_block_of=>k_is)
   (case l_Asking_block_of=>k_is)
   (case c_Asking_block_of=>k_is)
   (case k_Asking_block_of=>k_is)
   (case a_read_role=>k_is)
   (case l_read_role=>k_is)
   (case c_read_role=>k_is)
   (case k_read_role=>k_is)
   (case a_cell=>k_is)
   (case l_cell=>k_is)
   (case c_cell=>k_is)
   (case k_cell=>k_is)
   (case a_whole=>k_is)
   (case l_whole=>k_is)
   (case c_whole=>k_is)
   (case k_whole=>k_is)
   (case a_rule=>k_is)
   (case l_rule=>k_is)
   (case c_rule=>k_is)
   (case k_rule=>k_is)
   (case a_times=>k_is)
   (case l_times=>k_is)
   (case c_times=>k_is)
   (case k_times=>k_is)
   (case a_scaled=>k_is)
   (case l_scaled=>k_is)
   (case c_scaled=>k_is)
   (case k_scaled=>k_is)
   (case a_make=>k_is)
   (case l_make=>k_is)
   (case c_make=>k_is)
   (case k_make=>k_is)
   (case a_some=>k_is)
   (case l_some=>k_is)
   (case c_some=>k_is)
   (case k_some=>k_is)
   (case a_sizes=>k_is)
   (case l_sizes=>k_is)
   (case c_sizes=>k_is)
   (case k_sizes=>k_is)
   (case a_costs=>k_is)
   (case l_costs=>k_is)
   (case c_costs=>k_is)
   (case k_costs=>k_is)
   (case a_kinds=>k_is)
   (case l_kinds=>k_is)
   (case c_kinds=>k_is)
   (case k_kinds=>k_is)
   (case a_stream=>k_is)
   (case l_stream=>k_is)
   (case c_stream=>k_is)
   (case k_stream=>k_is)
   (case a_weights=>k_is)
   (case l_weights=>k_is)
   (case c_weights=>k_is)
   (case k_weights=>k_is)
   (case a_columns=>k_is)
   (case l_columns=>k_is)
   (case c_columns=>k_is)
   (case k_columns=>k_is)
   (case a_along=>k_is)
   (case l_along=>k_is)
   (case c_along=>k_is)
   (case k_along=>k_is)
   (case a_fixed=>k_is)
   (case l_fixed=>k_is)
   (case c_fixed=>k_is)
   (case k_fixed=>k_is)
   (case a_asker=>k_is)
   (case l_asker=>k_is)
   (case c_asker=>k_is)
   (case x_asker=>k_is)
   (case y_asker=>first | rfl | k_is)
   (case h_asker=>first | rfl | k_is)
   (case nl_asker=>first | rfl | k_is)
   (case k_asker=>k_is)
   (case a_seen=>k_is)
   (case l_seen=>k_is)
   (case c_seen=>k_is)
   (case k_seen=>k_is)
   (case a_scene=>k_is)
   (case l_scene=>k_is)
   (case c_scene=>k_is)
   (case k_scene=>k_is)
   (case a_law=>k_is)
   (case l_law=>k_is)
   (case c_law=>k_is)
   (case k_law=>k_is)
   (case z_zip=>k_is)
   (case z_range=>k_is)
   (case z_len=>k_is)
   (case z_list=>k_is)
   (case z_enumerate=>k_is)
   (case z_reversed=>k_is)
   (case z_any=>k_is)
   (case z_sum=>k_is)
   (case z_sorted=>k_is)
   (case z_isinstance=>k_is)
   (case z_int=>k_is)
   (case z_bool=>k_is)
   (case z_max=>k_is)
   (case z_min=>k_is)
   (case v_LEAST_RULE=>k_is)
   (case v_GREATEST_RULE=>k_is)
   (case v_MOST_SYMBOLS=>k_is)
   (case v_MOST_ROLES=>k_is)
   (case v_MOST_SUMS=>k_is)
   (case ets=>first | exact .refl _ | decide)
#print axioms PySem.Challenge.cw_spareplank_k44_whole_any_weights_read_holds
