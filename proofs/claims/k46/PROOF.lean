import PyProof.Rows.All
import Wide.All
import OpenK.AllK
import Wide.FinOn
import Lean
import PyProof.EqAt
import PyProof.EqKinds
import PyProof.TupleCall
import PyProof.NeKinds
import PySem.Challenge.RW_spareplank_k46_whole_least_price_of_a_wr
set_option Elab.async false
set_option linter.all false
set_option maxRecDepth 100000
set_option maxHeartbeats 1000000
theorem b7:type_of% @List.getD_eq_getElem?_getD:=@List.getD_eq_getElem?_getD
theorem b8:type_of% @List.getElem?_eq_getElem:=@List.getElem?_eq_getElem
theorem b9:type_of% @List.length_map:=@List.length_map
theorem bC:type_of% @of_decide_eq_true:=@of_decide_eq_true
theorem bD:type_of% @PySem.Heap.get?_push_of_some:=@PySem.Heap.get?_push_of_some
theorem bE:type_of% @List.getElem?_map:=@List.getElem?_map
theorem bF:type_of% @Nat.le_refl:=@Nat.le_refl
theorem bG:type_of% @Nat.le_trans:=@Nat.le_trans
theorem bH:type_of% @PySem.wpAny_bind:=@PySem.wpAny_bind
theorem bI:type_of% @List.length_range:=@List.length_range
theorem bJ:type_of% @PySem.Heap.lt_size:=@PySem.Heap.lt_size
theorem bK:type_of% @List.getElem?_eq_some_iff:=@List.getElem?_eq_some_iff
theorem bL:type_of% @List.mem_cons:=@List.mem_cons
theorem bM:type_of% @Option.some.inj:=@Option.some.inj
theorem bN:type_of% @decide_eq_true:=@decide_eq_true
theorem bO:type_of% @List.mem_of_getElem?:=@List.mem_of_getElem?
theorem bP:type_of% @Nat.ne_of_lt:=@Nat.ne_of_lt
theorem bQ:type_of% @List.mem_range:=@List.mem_range
theorem bR:type_of% @Nat.lt_of_lt_of_le:=@Nat.lt_of_lt_of_le
theorem bS:type_of% @List.mem_singleton:=@List.mem_singleton
theorem bT:type_of% @List.getElem?_eq_none:=@List.getElem?_eq_none
theorem bU:type_of% @List.mem_append:=@List.mem_append
theorem bV:type_of% @List.mem_filter:=@List.mem_filter
theorem bW:type_of% @Bool.false_ne_true:=@Bool.false_ne_true
theorem bX:type_of% @List.size_toArray:=@List.size_toArray
theorem bY:type_of% @decide_eq_false:=@decide_eq_false
theorem bZ:type_of% @PySem.Heap.get?_push_size:=@PySem.Heap.get?_push_size
theorem c5:type_of% @List.all_eq_true:=@List.all_eq_true
theorem c7:type_of% @PySem.wpAny_pure:=@PySem.wpAny_pure
theorem c9:type_of% @List.contains_iff_mem:=@List.contains_iff_mem
theorem ca:type_of% @List.not_mem_nil:=@List.not_mem_nil
theorem cb:type_of% @List.getElem?_range:=@List.getElem?_range
theorem cg:type_of% @List.length_append:=@List.length_append
theorem ci:type_of% @PySem.boot_len:=@PySem.boot_len
theorem cj:type_of% @List.length_filter_le:=@List.length_filter_le
theorem cm:type_of% @Nat.lt_succ_self:=@Nat.lt_succ_self
theorem cn:type_of% @Nat.zero_le:=@Nat.zero_le
theorem cq:type_of% @List.map_map:=@List.map_map
theorem cu:type_of% @List.lookup_cons:=@List.lookup_cons
theorem cx:type_of% @Int.toNat_natCast:=@Int.toNat_natCast
theorem cz:type_of% @List.mem_cons_of_mem:=@List.mem_cons_of_mem
theorem cA:type_of% @Nat.lt_succ_of_lt:=@Nat.lt_succ_of_lt
theorem cB:type_of% @PySem.F.plainAttrs_list:=@PySem.F.plainAttrs_list
theorem cC:type_of% @Bool.and_eq_true:=@Bool.and_eq_true
theorem cD:type_of% @PySem.F.slot_list_append:=@PySem.F.slot_list_append
theorem cE:type_of% @PySem.F.type_list_append:=@PySem.F.type_list_append
theorem cF:type_of% @List.mem_cons_self:=@List.mem_cons_self
theorem cG:type_of% @List.mem_map:=@List.mem_map
theorem cH:type_of% @List.mem_append_right:=@List.mem_append_right
theorem cI:type_of% @Nat.lt_irrefl:=@Nat.lt_irrefl
theorem cJ:type_of% @Ne.symm:=@Ne.symm
theorem cK:type_of% @List.map_append:=@List.map_append
theorem cL:type_of% @List.Pairwise.filter:=@List.Pairwise.filter
theorem cM:type_of% @List.length_cons:=@List.length_cons
theorem cN:type_of% @List.map_cons:=@List.map_cons
theorem cO:type_of% @Nat.mod_two_eq_zero_or_one:=@Nat.mod_two_eq_zero_or_one
theorem cP:type_of% @beq_eq_false_iff_ne:=@beq_eq_false_iff_ne
theorem cQ:type_of% @PySem.mem_of_lookup:=@PySem.mem_of_lookup
theorem cR:type_of% @List.getElem_mem:=@List.getElem_mem
theorem cS:type_of% @Nat.zero_xor:=@Nat.zero_xor
theorem cT:type_of% @Nat.xor_zero:=@Nat.xor_zero
theorem cU:type_of% @List.ext_getElem?:=@List.ext_getElem?
theorem cV:type_of% @List.length_replicate:=@List.length_replicate
theorem cW:type_of% @List.getElem?_append_left:=@List.getElem?_append_left
theorem cX:type_of% @Nat.not_lt_zero:=@Nat.not_lt_zero
theorem cY:type_of% @Nat.lt_of_le_of_lt:=@Nat.lt_of_le_of_lt
theorem cZ:type_of% @List.length_set:=@List.length_set
theorem d0:type_of% @Nat.testBit_xor:=@Nat.testBit_xor
theorem d5:type_of% @Nat.two_pow_pos:=@Nat.two_pow_pos
theorem d6:type_of% @List.nodup_range:=@List.nodup_range
theorem d7:type_of% @PySem.wpAny_mono:=@PySem.wpAny_mono
theorem d8:type_of% @PyProof.Rows.callWith_type1:=@PyProof.Rows.callWith_type1
theorem d9:type_of% @List.map_congr_left:=@List.map_congr_left
theorem da:type_of% @Option.map_some:=@Option.map_some
theorem de:type_of% @List.getElem?_append_right:=@List.getElem?_append_right
theorem dh:type_of% @Nat.pow_le_pow_right:=@Nat.pow_le_pow_right
theorem di:type_of% @List.range_succ:=@List.range_succ
theorem dj:type_of% @Nat.xor_assoc:=@Nat.xor_assoc
theorem dk:type_of% @PyProof.Rows.Boot.sorted:=@PyProof.Rows.Boot.sorted
theorem dl:type_of% @Nat.pow_succ:=@Nat.pow_succ
theorem dm:type_of% @PyProof.Rows.slot_int_bit_length:=@PyProof.Rows.slot_int_bit_length
theorem dn:type_of% @PyProof.Rows.type_int_bit_length:=@PyProof.Rows.type_int_bit_length
theorem dq:type_of% @Nat.xor_lt_two_pow:=@Nat.xor_lt_two_pow
theorem dr:type_of% @List.mem_of_mem_take:=@List.mem_of_mem_take
theorem dt:type_of% @PySem.wpAny_holding:=@PySem.wpAny_holding
theorem du:type_of% @Nat.le_of_lt:=@Nat.le_of_lt
theorem dv:type_of% @List.length_take:=@List.length_take
theorem dw:type_of% @PySem.F.plain_min_loop:=@PySem.F.plain_min_loop
theorem dy:type_of% @List.replicate_succ:=@List.replicate_succ
theorem dz:type_of% @Option.mem_toList:=@Option.mem_toList
theorem dA:type_of% @List.append_nil:=@List.append_nil
theorem dC:type_of% @List.getElem?_set_ne:=@List.getElem?_set_ne
theorem dD:type_of% @Nat.eq_of_testBit_eq:=@Nat.eq_of_testBit_eq
theorem dE:type_of% @Nat.testBit_succ:=@Nat.testBit_succ
theorem dG:type_of% @PySem.wpAny_truthy_bool:=@PySem.wpAny_truthy_bool
theorem dH:type_of% @Array.length_toList:=@Array.length_toList
theorem dI:type_of% @List.nodup_cons:=@List.nodup_cons
theorem dJ:type_of% @PySem.wpAny_Call_Name_kw:=@PySem.wpAny_Call_Name_kw
theorem dL:type_of% @Option.isSome_iff_exists:=@Option.isSome_iff_exists
theorem dM:type_of% @Nat.mul_comm:=@Nat.mul_comm
theorem dN:type_of% @Nat.xor_self:=@Nat.xor_self
theorem dO:type_of% @Bool.false_or:=@Bool.false_or
theorem dP:type_of% @Bool.or_eq_true:=@Bool.or_eq_true
theorem dQ:type_of% @List.filter_nil:=@List.filter_nil
theorem dR:type_of% @PySem.Heap.SameBut.update:=@PySem.Heap.SameBut.update
theorem dS:type_of% @List.getElem?_set_self:=@List.getElem?_set_self
theorem dU:type_of% @PySem.F.plainAttrs_int:=@PySem.F.plainAttrs_int
theorem dX:type_of% @Bool.or_true:=@Bool.or_true
theorem dY:type_of% @beq_self_eq_true:=@beq_self_eq_true
theorem dZ:type_of% @Nat.le_add_right:=@Nat.le_add_right
theorem e9:type_of% @List.countP_cons:=@List.countP_cons
theorem ee:type_of% @List.filter_append:=@List.filter_append
theorem eA:type_of% @List.set_append_right:=@List.set_append_right
theorem eB:type_of% @PySem.wpAny_passesOwn:=@PySem.wpAny_passesOwn
theorem eC:type_of% @Nat.ne_of_gt:=@Nat.ne_of_gt
theorem eE:type_of% @PySem.wpAny_pyIter_list:=@PySem.wpAny_pyIter_list
theorem eF:type_of% @Nat.le_succ:=@Nat.le_succ
theorem eG:type_of% @List.flatten_cons:=@List.flatten_cons
theorem eI:type_of% @List.append_assoc:=@List.append_assoc
theorem eJ:type_of% @Option.some.injEq:=@Option.some.injEq
theorem eK:type_of% @List.take_add_one:=@List.take_add_one
theorem eM:type_of% @Bool.not_eq_true':=@Bool.not_eq_true'
theorem eO:type_of% @List.Perm.eq_of_pairwise:=@List.Perm.eq_of_pairwise
theorem eP:type_of% @List.filterMap_cons:=@List.filterMap_cons
theorem eQ:type_of% @PySem.W.plainGet_of:=@PySem.W.plainGet_of
theorem eS:type_of% @List.getElem?_replicate:=@List.getElem?_replicate
theorem eU:type_of% @List.filter_cons_of_pos:=@List.filter_cons_of_pos
theorem eV:type_of% @List.filter_cons_of_neg:=@List.filter_cons_of_neg
theorem eW:type_of% @List.ext_getElem:=@List.ext_getElem
theorem eZ:type_of% @List.any_eq_true:=@List.any_eq_true
theorem fc:type_of% @List.take_length:=@List.take_length
theorem fe:type_of% @Nat.add_sub_cancel_left:=@Nat.add_sub_cancel_left
theorem fg:type_of% @Int.le_refl:=@Int.le_refl
theorem fh:type_of% @Bool.false_eq_true:=@Bool.false_eq_true
theorem fi:type_of% @Nat.lt_trans:=@Nat.lt_trans
theorem fj:type_of% @Int.emod_lt_of_pos:=@Int.emod_lt_of_pos
theorem fk:type_of% @Bool.eq_iff_iff:=@Bool.eq_iff_iff
theorem fm:type_of% @List.of_mem_zip:=@List.of_mem_zip
theorem fo:type_of% @List.find?_cons:=@List.find?_cons
theorem fq:type_of% @Nat.div_lt_self:=@Nat.div_lt_self
theorem ft:type_of% @Int.natCast_mul:=@Int.natCast_mul
theorem fu:type_of% @List.all_cons:=@List.all_cons
theorem fw:type_of% @List.any_cons:=@List.any_cons
theorem fz:type_of% @List.take_sublist:=@List.take_sublist
theorem fA:type_of% @PySem.codeAny_mono:=@PySem.codeAny_mono
theorem fB:type_of% @Nat.sub_self:=@Nat.sub_self
theorem fD:type_of% @Bool.and_true:=@Bool.and_true
theorem fE:type_of% @Nat.min_eq_left:=@Nat.min_eq_left
theorem fF:type_of% @Int.emod_nonneg:=@Int.emod_nonneg
theorem fG:type_of% @List.map_nil:=@List.map_nil
theorem fH:type_of% @List.map_set:=@List.map_set
namespace L2
open PySem PySem.Spec PyProof.Rows
abbrev Key:=Sum Int Str
def y2_:Key->Value->Bool
 | .inl k,v=>Value.isInt k v
 | .inr x,v=>Value.isStrOf x v
def keyH (w:World):Key->Int
 | .inl k=>hashInt k
 | .inr x=>hashStr w x
theorem ja_:∀ {k:Key}{v:Value},y2_ k v=true->(∃ i t,k=Sum.inl i/\v=Value.int i t)\/(∃ x t,k=Sum.inr x/\v=Value.str x t)
 | .inl i,v,h=>by
  obtain ⟨t,e⟩:=Value.isInt_shape (k:=i) (v:=v) h;exact .inl ⟨i,t,rfl,e⟩
 | .inr x,v,h=>by
  obtain ⟨t,e⟩:=Value.isStrOf_shape (x:=x) (v:=v) h;exact .inr ⟨x,t,rfl,e⟩
theorem qjj_ (i:Int) (t:Tok):y2_ (.inl i) (.int i t)=true:=by simp [y2_,Value.isInt]
theorem qjk_ (x:Str) (t:Tok):y2_ (.inr x) (.str x t)=true:=by simp [y2_,Value.isStrOf]
theorem qpn_ (a b:Int):decide ((Sum.inl a:Key)=Sum.inl b)=(a == b):=by
 by_cases e:a=b
 ·subst e;simp
 ·have h:¬ (Sum.inl a:Key)=Sum.inl b:=fun q=>e (Sum.inl.inj q)
  rw [bY h];exact (cP.mpr e).symm
theorem qpo_ (a b:Str):decide ((Sum.inr a:Key)=Sum.inr b)=decide (a=b):=by
 by_cases e:a=b
 ·subst e;simp
 ·have h:¬ (Sum.inr a:Key)=Sum.inr b:=fun q=>e (Sum.inr.inj q)
  rw [bY h,bY e]
theorem qpp_ (a:Int) (b:Str):decide ((Sum.inl a:Key)=Sum.inr b)=false:=bY (fun q=>nomatch q)
theorem qpq_ (a:Str) (b:Int):decide ((Sum.inr a:Key)=Sum.inl b)=false:=bY (fun q=>nomatch q)
def qU_ (prog:Program) (w:World):PySem.KeyKind prog w Key where
 is:=y2_
 hash:=keyH w
 inj:=fun v a b ha hb=>by
  rcases ja_ ha with ⟨i,t,rfl,rfl⟩ | ⟨x,t,rfl,rfl⟩
  ·rcases ja_ hb with ⟨j,u,rfl,e⟩ | ⟨y,u,rfl,e⟩
   ·injection e with e1 _;rw [e1]
   ·exact nomatch e
  ·rcases ja_ hb with ⟨j,u,rfl,e⟩ | ⟨y,u,rfl,e⟩
   ·exact nomatch e
   ·injection e with e1 _;rw [e1]
 byValue:=fun k v h=>by
  rcases ja_ h with ⟨i,t,rfl,rfl⟩ | ⟨x,t,rfl,rfl⟩ <;> rfl
 pyHash:=fun hv h=>by
  rcases ja_ hv with ⟨i,t,rfl,rfl⟩ | ⟨x,t,rfl,rfl⟩
  ·exact wpAny_pyHash_int h
  ·exact wpAny_pyHash_str h
 eqBool:=fun hu hv h=>by
  rcases ja_ hu with ⟨i,t,rfl,rfl⟩ | ⟨x,t,rfl,rfl⟩
  ·rcases ja_ hv with ⟨j,u,rfl,rfl⟩ | ⟨y,u,rfl,rfl⟩
   ·rw [qpn_] at h;exact wpAny_eqBool_int h
   ·rw [qpp_] at h;exact SeqAt.EqAt.int_str i t y u _ _ _ _ h
  ·rcases ja_ hv with ⟨j,u,rfl,rfl⟩ | ⟨y,u,rfl,rfl⟩
   ·rw [qpq_] at h;exact SeqAt.EqAt.str_int x t j u _ _ _ _ h
   ·rw [qpo_] at h;exact wpAny_eqBool_str h
 «strs»:=fun k x t v h=>by
  rcases ja_ h with ⟨i,u,rfl,e⟩ | ⟨y,u,rfl,e⟩
  ·exact nomatch e
  ·injection e with e1 _
   subst e1
   cases v <;> rfl
theorem qf1_ (prog:Program) (w:World) (i:Int) (t:Tok):(qU_ prog w).is (.inl i) (.int i t)=true:=qjj_ i t
theorem qf2_ (prog:Program) (w:World) (x:Str) (t:Tok):(qU_ prog w).is (.inr x) (.str x t)=true:=qjk_ x t
inductive V where
 | non | bl (b:Bool) | int (i:Int) | str (x:Str) | byt (b:Array UInt8) | flt (b:UInt64) | ref (a:Addr) | ty (n:String)
 deriving DecidableEq
def RelV:V->Value->Prop
 | .non,u=>u=Value.none
 | .bl b,u=>u=Value.bool b
 | .int i,u=>∃ t,u=Value.int i t
 | .str x,u=>∃ t,u=Value.str x t
 | .byt b,u=>∃ t,u=Value.bytes b t
 | .flt b,u=>∃ t,u=Value.float b t
 | .ref a,u=>u=Value.ref a
 | .ty n,u=>u=Value.type n
abbrev Vals:List V->List Value->Prop:=Paired RelV
theorem Vals.length {xs:List V}{us:List Value} (r:Vals xs us):xs.length=us.length:=Paired.length r
theorem Vals.get:∀ {xs:List V}{us:List Value}{i:Nat}{x:V},Vals xs us->xs[i]?=some x->∃ u,us[i]?=some u/\RelV x u
 | _,_,_,_,.nil,e=>by simp at e
 | _,_,0,_,.cons r _,e=>by simp at e;subst e;exact ⟨_,rfl,r⟩
 | _,_,i+1,x,.cons _ t,e=>by
  obtain ⟨u,h1,h2⟩:=Vals.get (i:=i) (x:=x) t (by simpa using e)
  exact ⟨u,by simpa using h1,h2⟩
theorem Vals.set {x:V}{u:Value} (r:RelV x u):∀ {xs:List V}{us:List Value} (i:Nat),Vals xs us->Vals (xs.set i x) (us.set i u)
 | _,_,_,.nil=>.nil
 | _,_,0,.cons _ t=>.cons r t
 | _,_,i+1,.cons q t=>.cons q (Vals.set r i t)
theorem Vals.append:∀ {xs ys:List V}{us ws:List Value},Vals xs us->Vals ys ws->Vals (xs++ys) (us++ws)
 | _,_,_,_,.nil,s=>s
 | _,_,_,_,.cons r t,s=>.cons r (Vals.append t s)
theorem Vals.take:∀ {xs:List V}{us:List Value} (n:Nat),Vals xs us->Vals (xs.take n) (us.take n)
 | _,_,0,_=>.nil
 | _,_,_+1,.nil=>.nil
 | _,_,n+1,.cons r t=>.cons r (Vals.take n t)
theorem Vals.drop:∀ {xs:List V}{us:List Value} (n:Nat),Vals xs us->Vals (xs.drop n) (us.drop n)
 | _,_,0,r=>r
 | _,_,_+1,.nil=>.nil
 | _,_,n+1,.cons _ t=>Vals.drop n t
def RelO:Option V->Option Value->Prop
 | some v,some u=>RelV v u
 | none,none=>True
 | _,_=>False
def KV {κ:Type}:List (κ × V)->List (κ × Value)->Prop:=Paired fun (p:κ × V) (q:κ × Value)=>p.1=q.1/\RelV p.2 q.2
def kV:Key->V
 | .inl i=>.int i
 | .inr x=>.str x
inductive HO where
 | lst (xs:List V)
 | tup (xs:List V)
 | dK (kvs:List (Key × V)) | dT (kvs:List (List Key × V))
 | set (S:Int->Bool) (n:Nat)
 | ins (C dx:Addr) (fs:List (Str × V))
 | own (x:Addr)
 | xd (fs:List (Str × V))
 | met (f x:Addr)
 | rng (lo hi:Int)
 | frz (o:Obj) (u:HO)
 | tbl (ps:Array Value)
 | ext (φ:Heap->Prop)
abbrev Hp:=Addr->Option HO
def upd (H:Hp) (a:Addr) (o:HO):Hp:=fun b=>if b=a then some o else H b
theorem qc_ {H:Hp}{a:Addr}{o:HO}:upd H a o a=some o:=by unfold upd;rw [if_pos rfl]
theorem qd_ {H:Hp}{a b:Addr}{o:HO} (h:b≠a):upd H a o b=H b:=by unfold upd;rw [if_neg h]
theorem q8_ {H:Hp}{a:Addr}{o u:HO}:upd (upd H a o) a u=upd H a u:=by
 funext b;unfold upd;split <;> rfl
theorem qY_ {H:Hp}{a b:Addr}{o u:HO} (h:H a=some o) (h':H b=some u) (d:o≠u):a≠b:=by
 intro e;subst e;rw [h] at h';exact d (bM h')
theorem qh_ {H:Hp}{a b:Addr}{o:HO} (h:H a=some o) (h':H b=none):a≠b:=by
 intro e;subst e;rw [h] at h';cases h'
section
variable (P:Program) (w:World)
def ObjOk (H:Hp) (h:Heap) (a:Addr):HO->Prop
 | .lst xs=>xs.length≤sizeLine ∧ ∃ (its:List Value) (n:Nat),Vals xs its∧h.get? a=some { cls:=.type "list",data:=.seq its.toArray n }
 | .tup xs=>xs.length<=sizeLine/\∃ its:List Value,Vals xs its/\IsTup h a its.toArray
 | .dK kvs=>kvs.length<=sizeLine/\(a == sysModules)=false/\∃ vs,KV kvs vs/\h.DictOf (qU_ P w) a vs
 | .dT kvs=>kvs.length<=sizeLine/\(a == sysModules)=false/\∃ xs:List (List Key × Addr × Value),
   Paired (fun (p:List Key × V) (q:List Key × Addr × Value)=>p.1=q.1/\H q.2.1=some (.tup (p.1.map kV))/\RelV p.2 q.2.2) kvs xs ∧
   ∃ o es ep,h.get? a=some o/\o.ExactDict/\o.data=.dict es ep/\es.toList=xs.map (entryOfKey (tupleKind (qU_ P w)))/\(xs.map (·.1)).Nodup
 | .set S n=>h.SetOf (intKind P w) a S n
 | .ins C dx fs=>H dx=some (.own a)/\fs.length<=1000/\dx≠a/\h.get? a=some (PySem.W.instObj C dx) ∧
   ∃ mA,h.Ns1 dx mA/\(∀ f,RelO (fs.lookup f) (mA f))/\PySem.Within mA (fs.map (·.1))
 | .own _=>∃ o,h.get? a=some o
 | .xd fs=>∃ mA,h.Ns1 a mA/\∀ f,RelO (fs.lookup f) (mA f)
 | .rng lo hi=>∃ t u v,h.get? a=some { cls:=.type "range",data:=.fields #[.int lo t,.int hi u,.int 1 v] }
 | .frz o u=>h.get? a=some o/\ObjOk H h a u
 | .tbl ps=>h.get? a=some { cls:=.none,data:=.fields ps }
 | .met f x=>h.get? a=some (PySem.W.methodObj (.ref f) (.ref x))
 | .ext φ=>φ h/\(∃ o,h.get? a=some o)/\∀ h1 h2:Heap,φ h1->(∀ o,h1.get? a=some o->h2.get? a=some o)->φ h2
def HOk (H:Hp) (h:Heap):Prop:=∀ a o,H a=some o->ObjOk P w H h a o
end
section
variable {P:Program}{w:World}{H H':Hp}{h h':Heap}{a:Addr}{o:HO}
theorem ObjOk.lt (x:ObjOk P w H h a o):a < h.objs.size:=by
 cases o with
 | lst xs=>obtain ⟨_,_,_,_,e⟩:=x;exact bJ e
 | tup xs=>obtain ⟨_,_,_,p⟩:=x;exact p.lt
 | dK kvs=>obtain ⟨_,_,_,_,o,_,_,e,_⟩:=x;exact bJ e
 | dT kvs=>obtain ⟨_,_,_,_,o,_,_,e,_⟩:=x;exact bJ e
 | set S n=>obtain ⟨o,_,_,_,e,_⟩:=x;exact bJ e
 | ins C dx fs=>obtain ⟨_,_,_,e,_⟩:=x;exact bJ e
 | own y=>obtain ⟨_,e⟩:=x;exact bJ e
 | xd fs=>obtain ⟨_,⟨_,_,_,e,_⟩,_⟩:=x;exact bJ e
 | rng lo hi=>obtain ⟨_,_,_,e⟩:=x;exact bJ e
 | frz ob u=>obtain ⟨e,_⟩:=x;exact bJ e
 | tbl ps=>exact bJ (show h.get? a=some _ from x)
 | met f y=>exact bJ (show h.get? a=some _ from x)
 | ext φ=>obtain ⟨_,⟨_,e⟩,_⟩:=x;exact bJ e
theorem Paired.mapP {α β:Type}{F G:α->β->Prop}:∀ {l₁:List α}{l₂:List β},Paired F l₁ l₂->(∀ a b,F a b->G a b)->Paired G l₁ l₂
 | _,_,.nil,_=>.nil
 | _,_,.cons r t,f=>.cons (f _ _ r) (Paired.mapP t f)
theorem ObjOk.stay (x:ObjOk P w H h a o) (k:∀ b u,(b=a\/H b=some (.own a))->h.get? b=some u->h'.get? b=some u)
  (ho:∀ b,H b=some (.own a)->H' b=some (.own a)) (ht:∀ b xs,H b=some (.tup xs)->H' b=some (.tup xs)):ObjOk P w H' h' a o:=by
 induction o with
 | lst xs=>obtain ⟨z,g,n,r,e⟩:=x;exact ⟨z,g,n,r,k _ _ (.inl rfl) e⟩
 | tup xs=>obtain ⟨z,g,r,ob,e,c⟩:=x;exact ⟨z,g,r,ob,k _ _ (.inl rfl) e,c⟩
 | dK kvs=>obtain ⟨z,y,vs,r,ob,es,ep,e,c⟩:=x;exact ⟨z,y,vs,r,ob,es,ep,k _ _ (.inl rfl) e,c⟩
 | dT kvs =>
  obtain ⟨z,y,xs,r,ob,es,ep,e,c⟩:=x;exact ⟨z,y,xs,Paired.mapP r fun p q z=>⟨z.1,ht _ _ z.2.1,z.2.2⟩,ob,es,ep,k _ _ (.inl rfl) e,c⟩
 | set S n=>obtain ⟨ob,es,ep,t,e,c⟩:=x;exact ⟨ob,es,ep,t,k _ _ (.inl rfl) e,c⟩
 | ins C dx fs =>
  obtain ⟨d,z,ne,e,mA,⟨od,es,ep,e2,c⟩,r⟩:=x;exact ⟨ho _ d,z,ne,k _ _ (.inl rfl) e,mA,⟨od,es,ep,k _ _ (.inr d) e2,c⟩,r⟩
 | own y=>obtain ⟨ob,e⟩:=x;exact ⟨ob,k _ _ (.inl rfl) e⟩
 | xd fs=>obtain ⟨mA,⟨od,es,ep,e,c⟩,r⟩:=x;exact ⟨mA,⟨od,es,ep,k _ _ (.inl rfl) e,c⟩,r⟩
 | rng lo hi=>obtain ⟨t,u,v,e⟩:=x;exact ⟨t,u,v,k _ _ (.inl rfl) e⟩
 | frz ob u ih=>obtain ⟨e,q⟩:=x;exact ⟨k _ _ (.inl rfl) e,ih q⟩
 | tbl ps =>
  have e:h.get? a=some { cls:=.none,data:=.fields ps }:=x
  show h'.get? a=some { cls:=.none,data:=.fields ps }
  exact k a _ (.inl rfl) e
 | met f y =>
  have e:h.get? a=some (PySem.W.methodObj (.ref f) (.ref y)):=x
  show h'.get? a=some (PySem.W.methodObj (.ref f) (.ref y))
  exact k a _ (.inl rfl) e
 | ext φ=>obtain ⟨p,⟨o,e⟩,st⟩:=x;exact ⟨st _ _ p fun o q=>k _ _ (.inl rfl) q,⟨o,k _ _ (.inl rfl) e⟩,st⟩
theorem HOk.lt (x:HOk P w H h) (e:H a=some o):a < h.objs.size:=(x a o e).lt
theorem HOk.fresh (x:HOk P w H h) (e:h.objs.size<=a):H a=none:=by
 cases q:H a with
 | none=>rfl
 | some u=>exact absurd (bR (x.lt q) e) (cI _)
theorem HOk.kept (x:HOk P w H h) (k:∀ b u,h.get? b=some u->h'.get? b=some u):HOk P w H h':=fun a o e =>
 (x a o e).stay (fun b u _ q=>k b u q) (fun _ q=>q) fun _ _ q=>q
theorem HOk.laid (x:HOk P w H h) (k:∀ b u,h.get? b=some u->h'.get? b=some u) (hp:h.objs.size<=a) (new:ObjOk P w (upd H a o) h' a o):HOk P w (upd H a o) h':=fun b u e=>by
 have hn:=x.fresh hp
 by_cases hb:b=a
 ·subst hb;rw [qc_] at e;cases e;exact new
 ·rw [qd_ hb] at e
  exact (x b u e).stay (fun c v _ q=>k c v q) (fun c q=>by rw [qd_ (qh_ q hn)];exact q) fun c xs q=>by rw [qd_ (qh_ q hn)];exact q
end
def Rd (H:Hp) (a:Addr) (u:HO):Prop:=H a=some u\/∃ o,H a=some (.frz o u)
theorem Rd.ok {P:Program}{w:World}{H:Hp}{h:Heap}{a:Addr}{u:HO} (r:Rd H a u) (x:HOk P w H h):ObjOk P w H h a u:=by
 rcases r with r | ⟨o,r⟩
 ·exact x a u r
 ·obtain ⟨_,q⟩:=x a _ r
  exact q
def Mut:Option HO->Prop
 | some (.lst _)=>True
 | some (.dK _)=>True
 | some (.dT _)=>True
 | some (.set _ _)=>True
 | some (.ins _ _ _)=>True
 | some (.ext _)=>True
 | _=>False
section
variable {P:Program}{w:World}{H:Hp}{h h':Heap}{x e:Addr}{o':HO}
theorem HOk.write (ok:HOk P w H h) (mu:Mut (H x)) (he:e=x\/H e=some (.own x)) (k:∀ b u,b≠e->h.get? b=some u->h'.get? b=some u) (heo:∃ u,h'.get? e=some u)
  (new:ObjOk P w (upd H x o') h' x o'):HOk P w (upd H x o') h':=fun b u q=>by
 have nown:∀ c y,H c=some (.own y)->c≠x:=fun c y r z=>by subst z;rw [r] at mu;exact mu
 have ntup:∀ c xs,H c=some (.tup xs)->c≠x:=fun c xs r z=>by subst z;rw [r] at mu;exact mu
 by_cases hb:b=x
 ·subst hb;rw [qc_] at q;cases q;exact new
 ·rw [qd_ hb] at q
  by_cases hbe:b=e
  ·have q':H b=some (.own x):=by
    rcases he with z | z
    ·exact absurd (hbe.trans z) hb
    ·rw [hbe];exact z
   rw [q] at q';cases q';obtain ⟨v,hv⟩:=heo;exact ⟨v,by rw [hbe];exact hv⟩
  ·refine (ok b u q).stay (fun c v hc r=>k c v ?_ r) (fun c r=>by rw [qd_ (nown c b r)];exact r) fun c xs r=>by rw [qd_ (ntup c xs r)];exact r
   rcases hc with rfl | hc
   ·exact hbe
   ·rintro rfl
    rcases he with z | z
    ·exact nown c b hc z
    ·rw [hc] at z;cases z;exact hb rfl
end
structure Un (fs ex:List Addr) (H H':Hp) (h h':Heap):Prop where
 keep:∀ b o,h.get? b=some o->H b=none->b∉fs->b∉ex->h'.get? b=some o
 slot:∀ b o,h.get? b=some o->H b=none->b∈fs->b∉ex->∃ sl,h'.get? b=some { o with slots:=sl }
 free:∀ b o,h.get? b=some o->H b=none->b∉ex->H' b=none
 there:∀ b o,h.get? b=some o->b∉ex->∃ o',h'.get? b=some o'
 tups:∀ b xs,H b=some (.tup xs)->H' b=some (.tup xs)
 frzs:∀ b o u,H b=some (.frz o u)->H' b=some (.frz o u)
 tbls:∀ b ps,H b=some (.tbl ps)->∃ more,H' b=some (.tbl (ps++more))
section
variable {fs fs' ex ex':List Addr}{H H1 H2:Hp}{h h1 h2 h':Heap}{a x e:Addr}{o:HO}
theorem Un.any (u:Un fs ex H H1 h h1) {b:Addr}{ob:Obj} (q:h.get? b=some ob) (n:H b=none) (hx:b∉ex):∃ sl,h1.get? b=some { ob with slots:=sl }:=by
 by_cases hb:b∈fs
 ·exact u.slot b ob q n hb hx
 ·exact ⟨ob.slots,u.keep b ob q n hb hx⟩
theorem Un.trans (a:Un fs ex H H1 h h1) (b:Un fs ex H1 H2 h1 h2):Un fs ex H H2 h h2 where
 keep:=fun c ob q n hc hx=>b.keep c ob (a.keep c ob q n hc hx) (a.free c ob q n hx) hc hx
 slot:=fun c ob q n hc hx=>by
  obtain ⟨sl,e1⟩:=a.slot c ob q n hc hx;obtain ⟨sl',e2⟩:=b.slot c _ e1 (a.free c ob q n hx) hc hx;exact ⟨sl',e2⟩
 free:=fun c ob q n hx=>by
  obtain ⟨o',e1⟩:=a.there c ob q hx;exact b.free c o' e1 (a.free c ob q n hx) hx
 there:=fun c ob q hx=>by
  obtain ⟨o',e1⟩:=a.there c ob q hx;exact b.there c o' e1 hx
 tups:=fun c xs q=>b.tups c xs (a.tups c xs q)
 frzs:=fun c ob xs q=>b.frzs c ob xs (a.frzs c ob xs q)
 tbls:=fun c ps q=>by
  obtain ⟨m1,e1⟩:=a.tbls c ps q;obtain ⟨m2,e2⟩:=b.tbls c _ e1;exact ⟨m1++m2,by rw [e2,Array.append_assoc]⟩
theorem Un.kept (k:∀ b u,h.get? b=some u->h'.get? b=some u):Un fs ex H H h h' :=
 ⟨fun b ob q _ _ _=>k b ob q,fun b ob q _ _ _=>⟨ob.slots,k b ob q⟩,fun _ _ _ n _=>n,fun b ob q _=>⟨ob,k b ob q⟩,fun _ _ q=>q,fun _ _ _ q=>q,fun _ ps q=>⟨#[],by rw [q];simp⟩⟩
theorem Un.refl:Un fs ex H H h h:=Un.kept fun _ _ q=>q
theorem Un.laid (k:∀ b u,h.get? b=some u->h'.get? b=some u) (hp:h.objs.size<=a) (hn:H a=none):Un fs ex H (upd H a o) h h' where
 keep:=fun b u q _ _ _=>k b u q
 slot:=fun b u q _ _ _=>⟨u.slots,k b u q⟩
 free:=fun b u q n _=>by rw [qd_ (bP (bR (bJ q) hp))];exact n
 there:=fun b u q _=>⟨u,k b u q⟩
 tups:=fun b xs q=>by rw [qd_ (qh_ q hn)];exact q
 frzs:=fun b u xs q=>by rw [qd_ (qh_ q hn)];exact q
 tbls:=fun b ps q=>⟨#[],by rw [qd_ (qh_ q hn),q];simp⟩
theorem Un.write (mu:Mut (H x)) (he:e=x\/H e=some (.own x)) (k:∀ b u,b≠e->h.get? b=some u->h'.get? b=some u) (heo:∃ u,h'.get? e=some u):Un fs ex H (upd H x o) h h':=by
 have hx:∀ b,H b=none->b≠x:=fun b n z=>by subst z;rw [n] at mu;exact mu
 have hb:∀ b,H b=none->b≠e:=fun b n z=>by
  subst z;rcases he with r | r
  ·exact hx b n r
  ·rw [n] at r;cases r
 have hm:∀ b u,H b=some u->¬ Mut (some u)->b≠x:=fun b u q nm z=>by subst z;rw [q] at mu;exact nm mu
 refine ⟨fun b u q n _ _=>k b u (hb b n) q,fun b u q n _ _=>⟨u.slots,k b u (hb b n) q⟩,fun b u q n _=>by rw [qd_ (hx b n)];exact n,fun b u q _=>?_,
  fun b xs q=>by rw [qd_ (hm b _ q fun z=>z)];exact q,fun b u xs q=>by rw [qd_ (hm b _ q fun z=>z)];exact q,fun b ps q=>⟨#[],by rw [qd_ (hm b _ q fun z=>z),q];simp⟩⟩
 by_cases hbe:b=e
 ·subst hbe;exact heo
 ·exact ⟨u,k b u hbe q⟩
end
def trk (h:Heap) (H:Hp):List Addr:=(List.range h.objs.size).filter fun a=>(H a).isSome
def hidT (h:Heap) (H:Hp):Heap:=PySem.W.hideAll h (trk h H)
theorem qjl_ (h:Heap) (H:Hp):(hidT h H).objs.size=h.objs.size:=PySem.W.hideAll_size _ _
theorem ql6_ {h:Heap}{H:Hp}{b:Addr}{o:Obj} (e:h.get? b=some o) (n:H b=none):(hidT h H).get? b=some o :=
 PySem.W.hideAll_get _ e fun hm=>by
  have q:(H b).isSome=true:=(bV.mp hm).2;rw [n] at q;simp at q
theorem qn9_ {h:Heap}{H:Hp}{b:Addr}{o:Obj} (e:(hidT h H).get? b=some o):h.get? b=some o/\H b=none:=by
 have e':h.get? b=some o:=PySem.W.of_hideAll (trk h H) e;refine ⟨e',?_⟩
 cases q:H b with
 | none=>rfl
 | some x =>
  have hm:b∈trk h H:=bV.mpr ⟨bQ.mpr (bJ e'),by simp [q]⟩
  have z:(hidT h H).get? b=none:=PySem.W.hideAll_none (trk h H) hm;rw [z] at e;cases e
def qoa_ (g h:Heap) (L:Addr):List (Addr × Obj):=(List.range h.objs.size).filterMap fun a=>if a=L\/(g.get? a).isSome=true then none else (h.get? a).map fun o=>(a,o)
def rest (g h:Heap) (L d:Addr):List (Addr × Obj):=(qoa_ g h L).filter fun p=>decide (p.1≠d)
structure Mod (K:PySem.W.Frag) (mg:Str->Option Value) (base:Heap):Prop where
 kin:K.In base
 glob:base.Ns mainGlobals mg
 blt:∃ mb,base.Ns builtinsNs mb ∧ ∀ x:Str,x ≠ "__name__" → mb x=bootBuiltins x
 nolimit:base.NoLimit
structure Cx where
 prog:Program
 w:World
 K:PySem.W.Frag
 mg:Str->Option Value
 base:Heap
 A:Around
 N:List Str
 s₀:Shared
 H₀:Hp
 env:Env
 outer:List Env
 stack:List Env
 ex:List Addr
 fn:Str->Bool
 calm:Bool
 pn:List (Addr × Obj)
 xe:Value->Shared->Prop
def frs (l:List Env):List Addr:=l.filterMap (·.frame)
abbrev Cx.fs (X:Cx):List Addr:=frs X.outer
def Vis (sc:Scope) (x:Str):Prop:=sc.names.lookup x=some .local\/sc.names.lookup x=some .cell\/sc.names.lookup x=some .free
def Loc (sc:Scope) (x:Str):Prop:=sc.names.lookup x=some .local\/sc.names.lookup x=some .cell
def Look (env:Env) (h:Heap) (m:Str->Option Value) (x:Str) (u:Value):Prop :=
 (env.kindOf x=some .local/\m x=some u)\/((env.kindOf x=some .cell\/env.kindOf x=some .free)/\∃ c,env.cells.lookup x=some c/\h.IsCell c (some u))
structure Cx.Ok (X:Cx):Prop where
 mod:Mod X.K X.mg X.base
 kind:X.env.scope.kind=.function
 glob:X.env.globals=mainGlobals
 blt:X.env.builtins=builtinsNs
 above:X.s₀.heap.objs.size<=X.env.locals
 inj:∀ x y c,X.env.cells.lookup x=some c->X.env.cells.lookup y=some c->x=y
 has:∀ x,(X.env.kindOf x=some .cell\/X.env.kindOf x=some .free)->∃ c,X.env.cells.lookup x=some c
 cab:∀ x c,X.fn x=true->X.env.cells.lookup x=some c->X.s₀.heap.objs.size<=c
 hd:X.calm=true->X.A.handled=none
 frames:X.A.frames=some X.stack
 stk:X.stack=X.outer\/(X.stack=X.env :: X.outer/\X.env.frame=some X.env.locals)
 exf:∀ b∈X.ex,b≠X.env.locals/\∀ x c,X.env.cells.lookup x=some c->c≠b
 bs:∀ b o,X.base.get? b=some o->X.s₀.heap.get? b=some o/\X.H₀ b=none
 bsz:X.base.objs.size<=X.s₀.heap.objs.size
 noex:∀ b o,X.base.get? b=some o->b∉X.ex
 exfs:∀ b∈X.ex,b∉X.fs
 funs:X.s₀.heap.FunFrames X.base X.outer
 frf:∀ b∈X.fs,X.H₀ b=none
structure Inv (X:Cx) (pins:List (Addr × Obj)) (σ:List (Option V)) (H:Hp) (s:Shared):Prop where
 ok:X.Ok
 os:s.os=X.s₀.os
 bare:AllBare s.gens
 base:Un X.fs X.ex X.H₀ H X.s₀.heap s.heap
 loc:∃ m,s.heap.Ns X.env.locals m/\∀ (i:Nat) (x:Str) (v:V),X.N[i]?=some x->σ[i]?=some (some v)->Vis X.env.scope x->∃ u,RelV v u/\Look X.env s.heap m x u
 cell:∀ x c,X.env.cells.lookup x=some c->∃ v,s.heap.IsCell c v
 free:H X.env.locals=none
 freeC:∀ x c,X.env.cells.lookup x=some c->H c=none
 pin:∀ p∈X.pn++pins,s.heap.get? p.1=some p.2/\H p.1=none/\p.1≠X.env.locals/\p.1∉X.fs/\∀ v,p.2.data≠.cell v
 hok:HOk X.prog X.w H s.heap
 len:σ.length=X.N.length
section
variable {X:Cx}{pins:List (Addr × Obj)}{σ:List (Option V)}{H H':Hp}{s:Shared}{h':Heap}
theorem Cx.Ok.nofr (ok:X.Ok) {b:Addr}{o:Obj} (e:X.base.get? b=some o):b∉X.fs:=fun hb=>by
 have:=(ok.funs.mem hb).1;rw [e] at this;cases this
theorem Inv.bs (I:Inv X pins σ H s):∀ b o,X.base.get? b=some o->s.heap.get? b=some o/\H b=none:=fun b o e =>
 ⟨I.base.keep b o (I.ok.bs b o e).1 (I.ok.bs b o e).2 (I.ok.nofr e) (I.ok.noex b o e),I.base.free b o (I.ok.bs b o e).1 (I.ok.bs b o e).2 (I.ok.noex b o e)⟩
theorem Inv.bk (I:Inv X pins σ H s):∀ b o,X.base.get? b=some o->s.heap.get? b=some o:=fun b o e=>(I.bs b o e).1
theorem Inv.mod (I:Inv X pins σ H s):Mod X.K X.mg X.base:=I.ok.mod
theorem Inv.kIn (I:Inv X pins σ H s):X.K.In s.heap:=I.ok.mod.kin.keeps I.bk
theorem Inv.lt (I:Inv X pins σ H s):X.env.locals < s.heap.objs.size:=let ⟨_,hn,_⟩:=I.loc;hn.lt
theorem Inv.sz (I:Inv X pins σ H s):X.s₀.heap.objs.size<=s.heap.objs.size:=bG I.ok.above (du I.lt)
theorem Inv.nofs (I:Inv X pins σ H s) {a:Addr} (h:s.heap.objs.size<=a):a∉X.fs:=fun hb=>by
 obtain ⟨_,o,ho,_⟩:=I.ok.funs.mem hb;exact absurd (bR (bJ ho) (bG I.sz h)) (cI _)
theorem Inv.cne (I:Inv X pins σ H s):∀ x c,X.env.cells.lookup x=some c->c≠X.env.locals:=fun x c e z=>by
 obtain ⟨v,o,ho,hd⟩:=I.cell x c e;obtain ⟨m,⟨o',es,ep,ho',hd',_⟩,_⟩:=I.loc;rw [z,ho'] at ho;cases ho;rw [hd'] at hd;cases hd
theorem Inv.funs (I:Inv X pins σ H s):s.heap.FunFrames X.base X.outer:=by
 have all:∀ (l:List Env),(∀ b∈frs l,b∈X.fs)->X.s₀.heap.FunFrames X.base l->s.heap.FunFrames X.base l:=by
  intro l
  induction l with
  | nil=>intro _ _;trivial
  | cons env r ih =>
   intro hs hl;obtain ⟨hk,⟨L,o,hf,hn,ho,hd⟩,hr⟩:=hl
   have hL:L∈X.fs:=hs L (by unfold frs;rw [eP,hf];exact cF)
   obtain ⟨sl,e⟩:=I.base.slot L o ho (I.ok.frf L hL) hL fun z=>I.ok.exfs L z hL;exact ⟨hk,⟨L,_,hf,hn,e,hd⟩,ih (fun b hb=>hs b (by unfold frs;rw [eP,hf];exact cz _ hb)) hr⟩
 exact all X.outer (fun _ hb=>hb) I.ok.funs
theorem Inv.stack (I:Inv X pins σ H s):s.heap.FunFrames X.base X.stack:=by
 rcases I.ok.stk with e | ⟨e,hf⟩
 ·rw [e];exact I.funs
 ·rw [e]
  obtain ⟨m,hn,_⟩:=I.loc;refine .cons (by rw [I.ok.kind];decide) hf hn ?_ I.funs
  exact Heap.get?_none_of_le (bG I.ok.bsz I.ok.above)
theorem Inv.stkSub (I:Inv X pins σ H s):∀ b∈frs X.stack,b∈X.env.locals :: X.fs:=fun b hb=>by
 rcases I.ok.stk with e | ⟨e,hf⟩
 ·rw [e] at hb;exact cz _ hb
 ·rw [e] at hb
  unfold frs at hb;rw [eP,hf] at hb;exact hb
theorem Inv.stkFree (I:Inv X pins σ H s):∀ b∈frs X.stack,H b=none:=fun b hb=>by
 rcases bL.mp (I.stkSub b hb) with e | hb
 ·rw [e];exact I.free
 ·obtain ⟨_,o,ho,_⟩:=I.ok.funs.mem hb
  exact I.base.free b o ho (I.ok.frf b hb) fun z=>I.ok.exfs b z hb
theorem Inv.step {g':Array GenState}{t':Nat}{d':Drawn}{ch:List Addr} (I:Inv X pins σ H s)
  (hch:∀ b∈ch,(b∈X.ex\/X.s₀.heap.objs.size<=b)/\b≠X.env.locals/\(∀ x c,X.env.cells.lookup x=some c->c≠b)/\∀ p∈X.pn++pins,p.1≠b)
  (keep:∀ b o,b≠X.env.locals->b∉X.fs->b∉ch->s.heap.get? b=some o->H b=none->h'.get? b=some o)
  (slot:∀ b o,b≠X.env.locals->b∈X.fs->b∉ch->s.heap.get? b=some o->H b=none->∃ sl,h'.get? b=some { o with slots:=sl }) (free:∀ b o,b∉ch->s.heap.get? b=some o->H b=none->H' b=none)
  (there:∀ b o,b∉ch->s.heap.get? b=some o->∃ o',h'.get? b=some o')
  (tups:∀ b xs,H b=some (.tup xs)->H' b=some (.tup xs)) (frzs:∀ b o u,H b=some (.frz o u)->H' b=some (.frz o u)) (tbls:∀ b ps,H b=some (.tbl ps)->∃ more,H' b=some (.tbl (ps++more)))
  (ns:∀ m,s.heap.Ns X.env.locals m->h'.Ns X.env.locals m) (hok:HOk X.prog X.w H' h') (hg:AllBare g') :
  Inv X pins σ H' { s with heap:=h',gens:=g',drawn:=d',toks:=t' }:=by
 have C:∀ b o,X.s₀.heap.get? b=some o->b≠X.env.locals:=fun b o e=>bP (bR (bJ e) I.ok.above)
 have h:∀ b o,X.s₀.heap.get? b=some o->b∉X.ex->b∉ch:=fun b o e hx hb=>by
  rcases (hch b hb).1 with z | z
  ·exact hx z
  ·exact absurd (bR (bJ e) z) (cI _)
 have B:∀ x c,X.env.cells.lookup x=some c->∀ v,s.heap.IsCell c v->h'.IsCell c v:=fun x c e v ⟨o,ho,hd⟩=>by
  have g:c∉ch:=fun z=>(hch c z).2.2.1 x c e rfl
  by_cases hc:c∈X.fs
  ·obtain ⟨sl,q⟩:=slot c o (I.cne x c e) hc g ho (I.freeC x c e)
   exact ⟨_,q,hd⟩
  ·exact ⟨o,keep c o (I.cne x c e) hc g ho (I.freeC x c e),hd⟩
 refine ⟨I.ok,I.os,hg,⟨fun b o e n hb hx=>?_,fun b o e n hb hx=>?_,fun b o e n hx=>?_,fun b o e hx=>?_,fun b xs e=>tups b xs (I.base.tups b xs e),fun b o xs e=>frzs b o xs (I.base.frzs b o xs e),fun b ps e=>?_⟩,?_,fun x c e=>?_,?_,fun x c e=>?_,fun p hp=>?_,hok,I.len⟩
 ·exact keep b o (C b o e) hb (h b o e hx) (I.base.keep b o e n hb hx) (I.base.free b o e n hx)
 ·obtain ⟨sl,e1⟩:=I.base.slot b o e n hb hx
  obtain ⟨D,e2⟩:=slot b _ (C b o e) hb (h b o e hx) e1 (I.base.free b o e n hx);exact ⟨D,e2⟩
 ·obtain ⟨o',e1⟩:=I.base.there b o e hx
  exact free b o' (h b o e hx) e1 (I.base.free b o e n hx)
 ·obtain ⟨o',e1⟩:=I.base.there b o e hx
  exact there b o' (h b o e hx) e1
 ·obtain ⟨m1,e1⟩:=I.base.tbls b ps e
  obtain ⟨m2,e2⟩:=tbls b _ e1;exact ⟨m1++m2,by rw [e2,Array.append_assoc]⟩
 ·obtain ⟨m,hn,hl⟩:=I.loc
  refine ⟨m,ns m hn,fun i x v e1 e2 e3=>?_⟩;obtain ⟨u,r,l⟩:=hl i x v e1 e2 e3;refine ⟨u,r,?_⟩;rcases l with l | ⟨k,c,e,z⟩
  ·exact .inl l
  ·exact .inr ⟨k,c,e,B x c e _ z⟩
 ·obtain ⟨v,z⟩:=I.cell x c e
  exact ⟨v,B x c e v z⟩
 ·obtain ⟨m,⟨o,_,_,ho,_⟩,_⟩:=I.loc
  exact free _ o (fun z=>(hch _ z).2.1 rfl) ho I.free
 ·obtain ⟨v,o,ho,hd⟩:=I.cell x c e
  exact free c o (fun z=>(hch c z).2.2.1 x c e rfl) ho (I.freeC x c e)
 ·obtain ⟨e,n,ne,nf,d⟩:=I.pin p hp
  have g:p.1∉ch:=fun z=>(hch p.1 z).2.2.2 p hp rfl;exact ⟨keep p.1 p.2 ne nf g e n,free p.1 p.2 g e n,ne,nf,d⟩
theorem Inv.un {t':Nat} (I:Inv X pins σ H s) (u:Un X.fs [] H H' s.heap h') (hok:HOk X.prog X.w H' h'):Inv X pins σ H' { s with heap:=h',toks:=t' }:=by
 obtain ⟨m,⟨o,es,ep,ho,r⟩,_⟩:=id I.loc;obtain ⟨sl,hL⟩:=u.any ho I.free (by simp)
 exact I.step (g':=s.gens) (d':=s.drawn) (ch:=[]) (fun _ z=>nomatch z) (fun b o _ hb _ e n=>u.keep b o e n hb (by simp)) (fun b o _ hb _ e n=>u.slot b o e n hb (by simp)) (fun b o _ e n=>u.free b o e n (by simp)) (fun b o _ e=>u.there b o e (by simp)) u.tups u.frzs u.tbls (fun m' hm=>by
  obtain ⟨o',g,h,d,r'⟩:=hm;rw [ho] at d;cases d
  exact ⟨_,g,h,hL,r'⟩) hok I.bare
theorem Inv.call {g':Array GenState}{t':Nat}{d':Drawn}{ch:List Addr} (I:Inv X pins σ H s) (u:Un (frs X.stack) ch H H' s.heap h') (hok:HOk X.prog X.w H' h') (hg:AllBare g')
  (hch:∀ b∈ch,(b∈X.ex\/X.s₀.heap.objs.size<=b)/\b≠X.env.locals/\(∀ x c,X.env.cells.lookup x=some c->c≠b)/\∀ p∈X.pn++pins,p.1≠b) :
  Inv X pins σ H' { s with heap:=h',gens:=g',drawn:=d',toks:=t' }:=by
 obtain ⟨m,⟨o,es,ep,ho,r⟩,_⟩:=id I.loc;obtain ⟨sl,hL⟩:=u.any ho I.free fun z=>(hch _ z).2.1 rfl
 exact I.step (ch:=ch) hch (fun b o hL hb hc e n=>u.keep b o e n (fun z=>(bL.mp (I.stkSub b z)).elim hL hb) hc) (fun b o _ _ hc e n=>u.any e n hc) (fun b o hc e n=>u.free b o e n hc) (fun b o hc e=>u.there b o e hc) u.tups u.frzs u.tbls (fun m' hm=>by
  obtain ⟨o',g,h,d,r'⟩:=hm;rw [ho] at d;cases d
  exact ⟨_,g,h,hL,r'⟩) hok hg
theorem Inv.turned {t':Nat}{it:Addr} (I:Inv X pins σ H s) (k:∀ b o,b≠it->s.heap.get? b=some o->h'.get? b=some o) (hn:H it=none) (hL:it≠X.env.locals)
  (h1:it∈X.ex\/X.s₀.heap.objs.size<=it) (h2:∀ x c,X.env.cells.lookup x=some c->c≠it) (h3:∀ p∈X.pn++pins,p.1≠it):Inv X pins σ H { s with heap:=h',toks:=t' }:=by
 have d:∀ b u,H b=some u->b≠it:=fun b u e z=>by rw [z,hn] at e;cases e
 refine I.step (g':=s.gens) (d':=s.drawn) (ch:=[it]) (fun b hb=>?_) (fun b o _ _ hc e _=>k b o (fun z=>hc (by simp [z])) e) (fun b o _ _ hc e _=>⟨o.slots,k b o (fun z=>hc (by simp [z])) e⟩) (fun _ _ _ _ n=>n)
  (fun b o hc e=>⟨o,k b o (fun z=>hc (by simp [z])) e⟩) (fun _ _ e=>e) (fun _ _ _ e=>e) (fun b ps e=>⟨#[],by rw [e];simp⟩) (fun m hm=>?_) (fun b u e=>?_) I.bare
 ·have e:b=it:=by simpa using hb
  subst e;exact ⟨h1,hL,h2,h3⟩
 ·obtain ⟨o,es,ep,ho,r⟩:=hm
  exact ⟨o,es,ep,k _ o (cJ hL) ho,r⟩
 ·refine (I.hok b u e).stay (fun c v hc q=>k c v ?_ q) (fun _ q=>q) fun _ _ q=>q
  rcases hc with z | z
  ·rw [z];exact d b u e
  ·exact d c _ z
theorem Inv.tok (I:Inv X pins σ H s) (t:Nat):Inv X pins σ H { s with toks:=t }:=I.un (h':=s.heap) (t':=t) Un.refl I.hok
theorem Inv.kept {t':Nat} (I:Inv X pins σ H s) (k:∀ b u,s.heap.get? b=some u->h'.get? b=some u):Inv X pins σ H { s with heap:=h',toks:=t' }:=I.un (Un.kept k) (I.hok.kept k)
theorem Inv.laid {a:Addr}{o:HO}{t':Nat} (I:Inv X pins σ H s) (k:∀ b u,s.heap.get? b=some u->h'.get? b=some u) (hp:s.heap.objs.size<=a) (new:ObjOk X.prog X.w (upd H a o) h' a o) :
  Inv X pins σ (upd H a o) { s with heap:=h',toks:=t' }:=I.un (Un.laid k hp (I.hok.fresh hp)) (I.hok.laid k hp new)
theorem Inv.write {x e:Addr}{o:HO}{t':Nat} (I:Inv X pins σ H s) (mu:Mut (H x)) (he:e=x\/H e=some (.own x)) (k:∀ b u,b≠e->s.heap.get? b=some u->h'.get? b=some u) (heo:∃ u,h'.get? e=some u)
  (new:ObjOk X.prog X.w (upd H x o) h' x o):Inv X pins σ (upd H x o) { s with heap:=h',toks:=t' }:=I.un (Un.write mu he k heo) (I.hok.write mu he k heo new)
theorem Inv.pins_of {pins':List (Addr × Obj)} (I:Inv X pins σ H s) (h:∀ p∈pins',s.heap.get? p.1=some p.2/\H p.1=none/\p.1≠X.env.locals/\p.1∉X.fs/\∀ v,p.2.data≠.cell v):Inv X pins' σ H s :=
 ⟨I.ok,I.os,I.bare,I.base,I.loc,I.cell,I.free,I.freeC,fun p hp=>(bU.mp hp).elim (fun z=>I.pin p (List.mem_append_left _ z)) (h p),I.hok,I.len⟩
theorem uv_ {N:List Str} (hN:N.Nodup) {i j:Nat}{x:Str} (a:N[i]?=some x) (b:N[j]?=some x):i=j:=by
 obtain ⟨h1,e1⟩:=bK.mp a;obtain ⟨h2,e2⟩:=bK.mp b;exact (List.getElem_inj hN).mp (e1.trans e2.symm)
theorem qbn_ {M:Model}{A:Around}{E:Value->Shared->Prop}{i:Nat}{x:Str}{v:V}{u:Value}{Q:Unit->Shared->Prop} (I:Inv X pins σ H s) (hN:X.N.Nodup) (hi:X.N[i]?=some x) (hx:Loc X.env.scope x) (r:RelV v u)
  (h:∀ s',Inv X pins (σ.set i (some v)) H s'->(∃ a,Heap.SameBut a s.heap s'.heap/\(a=X.env.locals\/X.env.cells.lookup x=some a))->Q () s') (hf:X.fn x=true\/X.env.scope.names.lookup x=some .local:=by first | exact .inl rfl | exact .inr rfl | assumption):wpAny M A (storeName X.env x u) Q E s:=by
 obtain ⟨m,hn,hl⟩:=id I.loc
 have L:(X.env.scope.kind == .class || (X.env.scope.kind == .module && X.env.locals != X.env.globals))=false:=by rw [I.ok.kind];rfl
 have G:i < σ.length:=by rw [I.len];exact (bK.mp hi).1
 have cne:=I.cne
 have g:∀ {a:Addr}{h':Heap},(∃ o,s.heap.get? a=some o/\H a=none)->Heap.SameBut a s.heap h'->HOk X.prog X.w H h':=fun {a h'} ha hs b ob e=>by
  obtain ⟨_,_,l⟩:=ha;refine (I.hok b ob e).stay (fun c w' hc q=>(hs.2 c ?_).trans q) (fun _ q=>q) fun _ _ q=>q;rintro rfl;rcases hc with rfl | hc
  ·rw [l] at e;cases e
  ·rw [l] at hc;cases hc
 rcases hx with hk | hk
 ·refine wpAny_storeName_local hk hn (fun h' O hs=>?_) L
  obtain ⟨oL,_,_,P,_⟩:=id hn;refine h _ ⟨I.ok,I.os,I.bare,⟨fun b o e n hb hx=>?_,fun b o e n hb hx=>?_,I.base.free,fun b o e hx=>?_,I.base.tups,I.base.frzs,I.base.tbls⟩,⟨_,O,fun j y v' e1 e2 e3=>?_⟩,fun y c e=>?_,I.free,I.freeC,fun p hp=>?_,g ⟨oL,P,I.free⟩ hs,by simpa using I.len⟩ ⟨_,hs,.inl rfl⟩
  ·exact (hs.2 b (bP (bR (bJ e) I.ok.above))).trans (I.base.keep b o e n hb hx)
  ·obtain ⟨sl,e1⟩:=I.base.slot b o e n hb hx
   exact ⟨sl,(hs.2 b (bP (bR (bJ e) I.ok.above))).trans e1⟩
  ·obtain ⟨o',e1⟩:=I.base.there b o e hx
   exact ⟨o',(hs.2 b (bP (bR (bJ e) I.ok.above))).trans e1⟩
  ·by_cases hj:j=i
   ·subst hj
    rw [hi] at e1;cases e1;rw [dS G] at e2
    cases e2;exact ⟨u,r,.inl ⟨hk,by simp⟩⟩
   ·rw [dC (cJ hj)] at e2
    obtain ⟨u',r',q⟩:=hl j y v' e1 e2 e3;refine ⟨u',r',?_⟩;rcases q with ⟨k,e⟩ | ⟨k,c,e,z⟩
    ·refine .inl ⟨k,?_⟩
     have:y≠x:=fun e=>hj (uv_ hN e1 (e ▸ hi))
     simp [this,e]
    ·exact .inr ⟨k,c,e,z.sameBut hs (cne y c e)⟩
  ·obtain ⟨w',z⟩:=I.cell y c e
   exact ⟨w',z.sameBut hs (cne y c e)⟩
  ·obtain ⟨e,n,ne,nf,d⟩:=I.pin p hp
   exact ⟨(hs.2 p.1 ne).trans e,n,ne,nf,d⟩
 ·have B:X.fn x=true:=by
   rcases hf with z | z
   ·exact z
   ·rw [z] at hk;cases hk
  obtain ⟨c,hc⟩:=I.ok.has x (.inl hk);obtain ⟨w',z⟩:=I.cell x c hc;refine wpAny_storeName_cell I.ok.kind hk hc z (fun h' C hs=>?_);obtain ⟨oc,D,J⟩:=id z;refine h { s with heap:=h' } ⟨I.ok,I.os,I.bare,⟨fun b o e n hb hx=>?_,fun b o e n hb hx=>?_,I.base.free,fun b o e hx=>?_,I.base.tups,I.base.frzs,I.base.tbls⟩,⟨m,hn.sameBut hs (cJ (cne x c hc)),fun j y v' e1 e2 e3=>?_⟩,fun y c' e=>?_,I.free,I.freeC,fun p hp=>?_,g ⟨oc,D,I.freeC x c hc⟩ hs,by simpa using I.len⟩ ⟨c,hs,.inr hc⟩
  ·exact (hs.2 b (bP (bR (bJ e) (I.ok.cab x c B hc)))).trans (I.base.keep b o e n hb hx)
  ·obtain ⟨sl,e1⟩:=I.base.slot b o e n hb hx
   exact ⟨sl,(hs.2 b (bP (bR (bJ e) (I.ok.cab x c B hc)))).trans e1⟩
  ·obtain ⟨o',e1⟩:=I.base.there b o e hx
   exact ⟨o',(hs.2 b (bP (bR (bJ e) (I.ok.cab x c B hc)))).trans e1⟩
  ·by_cases hj:j=i
   ·subst hj
    rw [hi] at e1;cases e1;rw [dS G] at e2
    cases e2;exact ⟨u,r,.inr ⟨.inl hk,c,hc,C⟩⟩
   ·rw [dC (cJ hj)] at e2
    obtain ⟨u',r',q⟩:=hl j y v' e1 e2 e3;refine ⟨u',r',?_⟩;rcases q with q | ⟨k,c',e,z'⟩
    ·exact .inl q
    ·refine .inr ⟨k,c',e,z'.sameBut hs ?_⟩
     rintro rfl;exact hj (uv_ hN e1 (I.ok.inj _ _ _ e hc ▸ hi))
  ·by_cases hcc:c'=c
   ·subst hcc;exact ⟨_,C⟩
   ·obtain ⟨w2,z2⟩:=I.cell y c' e
    exact ⟨w2,z2.sameBut hs hcc⟩
  ·obtain ⟨e,n,ne,nf,d⟩:=I.pin p hp
   refine ⟨(hs.2 p.1 ?_).trans e,n,ne,nf,d⟩;intro q;rw [q,D] at e
   have q':oc=p.2:=bM e;exact d w' (by rw [<- q'];exact J)
theorem zU_ {M:Model}{A:Around}{E:Value->Shared->Prop}{i:Nat}{x:Str}{v:V}{u:Value}{Q:Unit->Shared->Prop} (I:Inv X pins σ H s) (hN:X.N.Nodup) (hi:X.N[i]?=some x) (hx:Loc X.env.scope x) (r:RelV v u)
  (h:∀ s',Inv X pins (σ.set i (some v)) H s'->Q () s') (hf:X.fn x=true\/X.env.scope.names.lookup x=some .local:=by first | exact .inl rfl | exact .inr rfl | assumption):wpAny M A (storeName X.env x u) Q E s :=
 qbn_ I hN hi hx r (fun s' I' _=>h s' I') hf
theorem Inv.call' {s':Shared}{ch:List Addr} (I:Inv X pins σ H s) (ho:s'.os=s.os) (u:Un (frs X.stack) ch H H' s.heap s'.heap) (hok:HOk X.prog X.w H' s'.heap) (hg:AllBare s'.gens)
  (hch:∀ b∈ch,(b∈X.ex\/X.s₀.heap.objs.size<=b)/\b≠X.env.locals/\(∀ x c,X.env.cells.lookup x=some c->c≠b)/\∀ p∈X.pn++pins,p.1≠b):Inv X pins σ H' s':=by
 obtain ⟨h',g',d',t',o'⟩:=s'
 have e:o'=s.os:=ho;subst e;exact I.call (g':=g') (t':=t') (d':=d') u hok hg hch
end
abbrev XK:=Value->Option Addr->Hp->Prop
abbrev St:=List (Option V)
abbrev VK:=V->Hp->Prop
abbrev TE:=St->Hp->VK->Prop
abbrev TT:=St->Hp->(Bool->Hp->Prop)->Prop
abbrev TA:=St->Hp->(List V->Hp->Prop)->Prop
structure Ends where
 nx:St->Hp->Prop
 rt:VK
 bk:St->Hp->Prop:=fun _ _=>False
 ct:St->Hp->Prop:=fun _ _=>False
abbrev TS:=Ends->St->Hp->Prop
def EP (X:Cx) (pins:List (Addr × Obj)) (σ:St) (Q:VK) (u:Value) (s':Shared):Prop:=∃ v H',Inv X pins σ H' s'/\RelV v u/\Q v H'
def TP (X:Cx) (pins:List (Addr × Obj)) (σ:St) (Q:Bool->Hp->Prop) (b:Bool) (s':Shared):Prop:=∃ H',Inv X pins σ H' s'/\Q b H'
def AP (X:Cx) (pins:List (Addr × Obj)) (σ:St) (Q:List V->Hp->Prop) (us:List Value) (s':Shared):Prop:=∃ vs H',Inv X pins σ H' s'/\Vals vs us/\Q vs H'
def SP (X:Cx) (pins:List (Addr × Obj)) (D:Ends) (f:Flow) (s':Shared):Prop :=
 match f with
 | .next=>∃ σ' H',Inv X pins σ' H' s'/\D.nx σ' H'
 | .brk=>∃ σ' H',Inv X pins σ' H' s'/\D.bk σ' H'
 | .cont=>∃ σ' H',Inv X pins σ' H' s'/\D.ct σ' H'
 | .ret u=>∃ v σ' H',Inv X pins σ' H' s'/\RelV v u/\D.rt v H'
def PE (X:Cx) (e:Expr) (t:TE):Prop :=
 ∀ (pins:List (Addr × Obj)) (s:Shared) (σ:St) (H:Hp) (Q:VK),Inv X pins σ H s->t σ H Q->wpAny (model X.prog X.w) X.A (eval e X.env) (EP X pins σ Q) X.xe s
def PT (X:Cx) (e:Expr) (t:TT):Prop :=
 ∀ (pins:List (Addr × Obj)) (s:Shared) (σ:St) (H:Hp) (Q:Bool->Hp->Prop),Inv X pins σ H s->t σ H Q->wpAny (model X.prog X.w) X.A (isTrue e X.env (eval e X.env)) (TP X pins σ Q) X.xe s
def PW (X:Cx) (e:Expr) (t:TT):Prop :=
 ∀ (whole:Sem Value) (pins:List (Addr × Obj)) (s:Shared) (σ:St) (H:Hp) (Q:Bool->Hp->Prop),Inv X pins σ H s->t σ H Q->wpAny (model X.prog X.w) X.A (isTrue e X.env whole) (TP X pins σ Q) X.xe s
theorem PW.pt {X:Cx}{e:Expr}{t:TT} (h:PW X e t):PT X e t:=h _
def PA (X:Cx) (es:List Expr) (t:TA):Prop :=
 ∀ (pos:Pos) (pins:List (Addr × Obj)) (s:Shared) (σ:St) (H:Hp) (Q:List V->Hp->Prop),Inv X pins σ H s->t σ H Q->wpAny (model X.prog X.w) X.A (spliced (backTo pos (starEach es X.env))) (AP X pins σ Q) X.xe s
def PS (X:Cx) (st:Stmt) (t:TS):Prop :=
 ∀ (pins:List (Addr × Obj)) (s:Shared) (σ:St) (H:Hp) (D:Ends),Inv X pins σ H s->t D σ H->wpAny (model X.prog X.w) X.A (exec st X.env) (SP X pins D) X.xe s
def PSs (X:Cx) (st:List Stmt) (t:TS):Prop :=
 ∀ (pins:List (Addr × Obj)) (s:Shared) (σ:St) (H:Hp) (D:Ends),Inv X pins σ H s->t D σ H->wpAny (model X.prog X.w) X.A (execs st X.env) (SP X pins D) X.xe s
theorem thn {α:Type}{t:Sem α}{Q Q':α->Shared->Prop}{M:Model}{A:Around}{E:Value->Shared->Prop}{s:Shared} (h:wpAny M A t Q E s) (hQ:∀ a s,Q a s->Q' a s):wpAny M A t Q' E s:=d7 h hQ fun _ _ x=>x
section
variable {X:Cx}
inductive tVar (i:Nat) (σ:St) (H:Hp) (Q:VK):Prop
 | mk:∀ v,σ[i]?=some (some v)->Q v H->tVar i σ H Q
def tC (v:V):TE:=fun _ H Q=>Q v H
theorem qpr_ {i:Nat}{x:Str}{pos:Pos} (hN:X.N[i]?=some x) (hv:Vis X.env.scope x) (hd:(x == ("__debug__" : Str))=false:=by decide) (hcd:(x == ("__classdict__" : Str))=false:=by decide):PE X (.Name x pos) (tVar i):=by
 intro g s σ H Q I h;obtain ⟨v,e,h⟩:=h;obtain ⟨m,hn,hl⟩:=I.loc;obtain ⟨u,r,l⟩:=hl i x v hN e hv
 have fin:EP X g σ Q u s:=⟨v,H,I,r,h⟩;rcases l with ⟨hk,hm⟩ | ⟨hk,c,hc,d⟩
 ·exact wpAny_Name (wpAny_loadName_local I.ok.kind hk hn hm fin) hd
 ·rcases hk with hk | hk
  ·exact wpAny_Name (wpAny_loadName_cell I.ok.kind hk hc d fin) hd
  ·exact wpAny_Name (wpAny_loadName_free I.ok.kind hk hc d fin hcd) hd
theorem qf_ {i j pos}:PE X (.Constant (.int i) j pos) (tC (.int i)):=fun _ _ _ H _ I h=>wpAny_Constant_int ⟨.int i,H,I.tok _,⟨_,rfl⟩,h⟩
theorem zp_ {b j pos}:PE X (.Constant (.bool b) j pos) (tC (.bl b)):=fun _ _ _ H _ I h=>Constant_bool ⟨.bl b,H,I,rfl,h⟩
theorem qG_ {j pos}:PE X (.Constant .none j pos) (tC .non):=fun _ _ _ H _ I h=>Constant_none ⟨.non,H,I,rfl,h⟩
theorem uR_ {x j pos}:PE X (.Constant (.str x) j pos) (tC (.str x)):=fun _ _ _ H _ I h=>Calls.Constant_str ⟨.str x,H,I.tok _,⟨_,rfl⟩,h⟩
def Gl (X:Cx) (x:Str):Prop:=X.env.kindOf x=some .globalImplicit
theorem qa0_ {E:Value->Shared->Prop}{pins:List (Addr × Obj)}{s:Shared}{σ:St}{H:Hp}{x:Str}{u:Value}{pos:Pos}{Q:Value->Shared->Prop} (I:Inv X pins σ H s) (hg:Gl X x) (hm:X.mg x=some u) (h:Q u s)
  (hd:(x == ("__debug__" : Str))=false:=by decide):wpAny (model X.prog X.w) X.A (eval (.Name x pos) X.env) Q E s :=
 Calls.Name_function_global I.ok.kind hg (Calls.loadGlobal_global (by rw [I.ok.glob];exact I.mod.glob.keeps I.bk) hm h) hd
theorem jK_ {E:Value->Shared->Prop}{pins:List (Addr × Obj)}{s:Shared}{σ:St}{H:Hp}{x:Str}{u:Value}{pos:Pos}{Q:Value->Shared->Prop} (I:Inv X pins σ H s) (hg:Gl X x) (hm:X.mg x=none) (hv:bootBuiltins x=some u) (h:Q u s)
  (hn:x ≠ "__name__":=by decide) (hd:(x == ("__debug__" : Str))=false:=by decide):wpAny (model X.prog X.w) X.A (eval (.Name x pos) X.env) Q E s:=by
 obtain ⟨mb,h1,h2⟩:=I.mod.blt;exact Calls.Name_function_global I.ok.kind hg (Calls.loadGlobal_builtin (by rw [I.ok.glob];exact I.mod.glob.keeps I.bk) hm (by rw [I.ok.blt];exact h1.keeps I.bk) ((h2 x hn).trans hv) h) hd
theorem zJ_ {x:Str}{v:V}{u:Value}{pos:Pos} (hg:Gl X x) (hm:X.mg x=some u) (r:RelV v u) (hd:(x == ("__debug__" : Str))=false:=by decide):PE X (.Name x pos) (tC v) :=
 fun _ _ _ H _ I h=>qa0_ I hg hm ⟨v,H,I,r,h⟩ hd
variable {a b:Expr}{ta tb:TE}{pos:Pos}
def PC (X:Cx) (op:CmpOp) (a b:Expr) (t:TE):Prop :=
 ∀ (pins:List (Addr × Obj)) (s:Shared) (σ:St) (H:Hp) (Q:VK),Inv X pins σ H s->t σ H Q →
  wpAny (model X.prog X.w) X.A (eval a X.env) (fun v s₁=>wpAny (model X.prog X.w) X.A (eval b X.env) (fun u s₂=>wpAny (model X.prog X.w) X.A (compareOp op v u) (EP X pins σ Q) X.xe s₂) X.xe s₁) X.xe s
inductive tB_k (Q:Bool->Hp->Prop) (x:V) (H1:Hp):Prop
 | mk:∀ c,x=.bl c->Q c H1->tB_k Q x H1
def tB (t:TE):TT:=fun σ H Q=>t σ H fun x H1=>tB_k Q x H1
theorem qps_ {op:CmpOp}{t:TE} (h:PC X op a b t) (h1:behindInMarks op b=false:=by first | exact nobehind _ (by decide) (by decide) | rfl):PE X (.Compare a [op] [b] pos) t:=fun d s σ H Q I hw=>wpAny_Compare1 (h d s σ H Q I hw) h1
theorem uS_ {op:CmpOp}{t:TE} (h:PC X op a b t) (h1:behindInMarks op b=false:=by first | exact nobehind _ (by decide) (by decide) | rfl):PT X (.Compare a [op] [b] pos) (tB t):=by
 intro g s σ H Q I hw;refine wpAny_isTrue_Compare1 (thn (h g s σ H _ I hw) fun v s1 h1=>thn h1 fun u s2 h2=>thn h2 fun c s3 ⟨x,H1,I1,r1,q1⟩=>?_) h1;obtain ⟨d,rfl,q⟩:=q1
 cases r1;exact dG ⟨H1,I1,q⟩
theorem q6_ {e:Expr}{t:TE} (h:PE X e t) (he:∀ whole,isTrue e X.env whole=(do let v ← whole;standAt e.pos;holding [v] (truthy v)):=by intro _;rfl):PT X e (tB t):=by
 intro g s σ H Q I hw;refine isTrue_plain (thn (h g s σ H _ I hw) fun v s1 ⟨x,H1,I1,r1,q1⟩=>?_) (he _);obtain ⟨d,rfl,q⟩:=q1
 cases r1;exact dG ⟨H1,I1,q⟩
variable {tA tB':TT}{rest:List Expr}
def tAnd (t u:TT):TT:=fun σ H Q=>t σ H fun c H1=>if c=true then u σ H1 Q else Q false H1
def tOr (t u:TT):TT:=fun σ H Q=>t σ H fun c H1=>if c=true then Q true H1 else u σ H1 Q
def tNot (t:TT):TT:=fun σ H Q=>t σ H fun c H1=>Q (!c) H1
theorem vV_ (ha:PT X a tA):PW X (.BoolOp .And [a] pos) tA:=by
 intro wh d s σ H Q I h;refine isTrue_and (thn (ha d s σ H Q I h) fun c s1 e=>?_)
 cases c with
 | true=>exact isTrue_and_nil e
 | false=>exact e
theorem jL_ (ha:PT X a tA):PW X (.BoolOp .Or [a] pos) tA:=by
 intro wh d s σ H Q I h;refine isTrue_or (thn (ha d s σ H Q I h) fun c s1 e=>?_)
 cases c with
 | false=>exact isTrue_or_nil e
 | true=>exact e
theorem uT_ (ha:PT X a tA) (hb:PW X (.BoolOp .And (b :: rest) pos) tB'):PW X (.BoolOp .And (a :: b :: rest) pos) (tAnd tA tB'):=by
 intro wh d s σ H Q I h;refine isTrue_and (thn (ha d s σ H _ I h) fun c s1 ⟨H1,I1,q1⟩=>?_)
 cases c with
 | true=>exact hb wh d s1 σ H1 Q I1 q1
 | false=>exact ⟨H1,I1,q1⟩
theorem jR_ (ha:PT X a tA) (hb:PW X (.BoolOp .Or (b :: rest) pos) tB'):PW X (.BoolOp .Or (a :: b :: rest) pos) (tOr tA tB'):=by
 intro wh d s σ H Q I h;refine isTrue_or (thn (ha d s σ H _ I h) fun c s1 ⟨H1,I1,q1⟩=>?_)
 cases c with
 | true=>exact ⟨H1,I1,q1⟩
 | false=>exact hb wh d s1 σ H1 Q I1 q1
theorem j9_ (ha:PT X a tA):PT X (.UnaryOp .Not a pos) (tNot tA):=by
 intro d s σ H Q I h;exact isTrue_not (ha d s σ H (fun c H1=>Q (!c) H1) I h)
inductive qgl_ (tb:TE) (σ:St) (Q:VK) (x:V) (H1:Hp):Prop
 | mk:∀ c,x=.bl c->(if c=true then tb σ H1 Q else Q (.bl false) H1)->qgl_ tb σ Q x H1
def qqm_ (ta tb:TE):TE:=fun σ H Q=>ta σ H fun x H1=>qgl_ tb σ Q x H1
inductive qjm_ (tb:TE) (σ:St) (Q:VK) (x:V) (H1:Hp):Prop
 | mk:∀ c,x=.bl c->(if c=true then Q (.bl true) H1 else tb σ H1 Q)->qjm_ tb σ Q x H1
def tOrV (ta tb:TE):TE:=fun σ H Q=>ta σ H fun x H1=>qjm_ tb σ Q x H1
theorem qdt_ {op}{t:TE} (h:PE X a t):PE X (.BoolOp op [a] pos) t:=fun pins s σ H Q I hw=>BoolOp_one (h pins s σ H Q I hw)
theorem qpt_ (ha:PE X a ta) (hb:PE X (.BoolOp .And (b :: rest) pos) tb):PE X (.BoolOp .And (a :: b :: rest) pos) (qqm_ ta tb):=by
 intro d s σ H Q I h;refine BoolOp_and (thn (ha d s σ H _ I h) fun v s1 ⟨x,H1,I1,r1,q1⟩=>?_);obtain ⟨c,rfl,q1⟩:=q1
 cases r1;refine dG ?_
 cases c with
 | true=>exact hb d s1 σ H1 Q I1 q1
 | false=>exact ⟨.bl false,H1,I1,rfl,q1⟩
theorem qnt_ (ha:PE X a ta) (hb:PE X (.BoolOp .Or (b :: rest) pos) tb):PE X (.BoolOp .Or (a :: b :: rest) pos) (tOrV ta tb):=by
 intro d s σ H Q I h;refine BoolOp_or (thn (ha d s σ H _ I h) fun v s1 ⟨x,H1,I1,r1,q1⟩=>?_);obtain ⟨c,rfl,q1⟩:=q1
 cases r1;refine dG ?_
 cases c with
 | false=>exact hb d s1 σ H1 Q I1 q1
 | true=>exact ⟨.bl true,H1,I1,rfl,q1⟩
def tIf (t:TT) (ta tb:TE):TE:=fun σ H Q=>t σ H fun c H1=>if c=true then ta σ H1 Q else tb σ H1 Q
theorem uw_ {c:Expr} (hc:PT X c tA) (ha:PE X a ta) (hb:PE X b tb):PE X (.IfExp c a b pos) (tIf tA ta tb):=by
 intro g s σ H Q I h;refine wpAny_IfExp (thn (hc g s σ H _ I h) fun d s1 ⟨H1,I1,q1⟩=>?_)
 cases d with
 | true=>exact ha g s1 σ H1 Q I1 q1
 | false=>exact hb g s1 σ H1 Q I1 q1
end
def SqL (K:PySem.W.Frag) (H:Hp) (a:Addr) (xs:List V):Prop :=
 Rd H a (.lst xs) ∨
  ∃ (o:Obj) (its:Array Value) (n:Nat),K.lookup a=some o∧o.cls=.type "list" ∧ o.dict=none∧o.data=.seq its n∧its.size≤sizeLine∧Vals xs its.toList
def SqT (K:PySem.W.Frag) (H:Hp) (a:Addr) (xs:List V):Prop :=
 Rd H a (.tup xs) ∨
  ∃ (o:Obj) (its:Array Value) (n:Nat),K.lookup a=some o∧o.cls=.type "tuple" ∧ o.data=.seq its n∧its.size≤sizeLine∧Vals xs its.toList
def absV:Value->Option V
 | .none=>some .non
 | .bool b=>some (.bl b)
 | .int i _=>some (.int i)
 | .str x _=>some (.str x)
 | .bytes b _=>some (.byt b)
 | .float b _=>some (.flt b)
 | .ref a=>some (.ref a)
 | .type n=>some (.ty n)
 | _=>none
theorem RelV.abs {x:V}{u:Value} (r:RelV x u):absV u=some x:=by
 cases x with
 | non=>cases r;rfl
 | bl _=>cases r;rfl
 | int _=>obtain ⟨t,rfl⟩:=r;rfl
 | str _=>obtain ⟨t,rfl⟩:=r;rfl
 | byt _=>obtain ⟨t,rfl⟩:=r;rfl
 | flt _=>obtain ⟨t,rfl⟩:=r;rfl
 | ref _=>cases r;rfl
 | ty _=>cases r;rfl
theorem RelV.inj {x y:V}{u:Value} (r:RelV x u) (q:RelV y u):x=y:=bM (r.abs.symm.trans q.abs)
theorem Vals.inj:∀ {xs ys:List V}{us:List Value},Vals xs us->Vals ys us->xs=ys
 | _,_,_,.nil,.nil=>rfl
 | _,_,_,.cons r t,.cons r' t'=>by rw [r.inj r',Vals.inj t t']
section
variable {X:Cx}{pins:List (Addr × Obj)}{σ:St}{H:Hp}{s:Shared}{a:Addr}{xs ys:List V}
theorem SqL.of {K:PySem.W.Frag} (h:H a=some (.lst xs)):SqL K H a xs:=.inl (.inl h)
theorem SqT.of {K:PySem.W.Frag} (h:H a=some (.tup xs)):SqT K H a xs:=.inl (.inl h)
theorem Inv.list (I:Inv X pins σ H s) (h:SqL X.K H a xs):∃ its:List Value,Vals xs its/\PlainL s.heap a its.toArray/\xs.length<=sizeLine:=by
 rcases h with h | ⟨o,its,n,hk,hc,hd,hs,hz,r⟩
 ·obtain ⟨z,its,n,r,e⟩:=h.ok I.hok
  exact ⟨its,r,⟨_,n,e,rfl,rfl,rfl⟩,z⟩
 ·refine ⟨its.toList,r,⟨o,n,I.kIn a o hk,hc,hd,by simpa using hs⟩,?_⟩
  have e:=r.length;simp only [dH] at e;omega
theorem Inv.tuple (I:Inv X pins σ H s) (h:SqT X.K H a xs):∃ its:List Value,Vals xs its/\IsTup s.heap a its.toArray/\xs.length<=sizeLine:=by
 rcases h with h | ⟨o,its,n,hk,hc,hs,hz,r⟩
 ·obtain ⟨z,its,r,p⟩:=h.ok I.hok
  exact ⟨its,r,p,z⟩
 ·refine ⟨its.toList,r,⟨o,I.kIn a o hk,hc,n,by simpa using hs⟩,?_⟩
  have e:=r.length;simp only [dH] at e;omega
theorem Inv.list_inj (I:Inv X pins σ H s) (h:SqL X.K H a xs) (h':SqL X.K H a ys):xs=ys:=by
 obtain ⟨l,r,⟨o,n,e,_,_,d⟩,_⟩:=I.list h;obtain ⟨g,r',⟨o',n',e',_,_,d'⟩,_⟩:=I.list h';rw [e] at e';cases e';rw [d] at d'
 injection d' with d1 _
 have:l=g:=by simpa using congrArg Array.toList d1
 subst this;exact r.inj r'
theorem Inv.tuple_inj (I:Inv X pins σ H s) (h:SqT X.K H a xs) (h':SqT X.K H a ys):xs=ys:=by
 obtain ⟨l,r,⟨o,e,_,n,d⟩,_⟩:=I.tuple h;obtain ⟨g,r',⟨o',e',_,n',d'⟩,_⟩:=I.tuple h';rw [e] at e';cases e';rw [d] at d'
 injection d' with d1 _
 have:l=g:=by simpa using congrArg Array.toList d1
 subst this;exact r.inj r'
end
abbrev Cx.wish (X:Cx) (E:Value->Shared->Prop):Cx:={ X with xe:=E }
abbrev Cx.nox (X:Cx):Cx:=X.wish fun _ _=>False
theorem Cx.Ok.wish {X:Cx} (ok:X.Ok) (E:Value->Shared->Prop):(X.wish E).Ok :=
 ⟨ok.mod,ok.kind,ok.glob,ok.blt,ok.above,ok.inj,ok.has,ok.cab,ok.hd,ok.frames,ok.stk,ok.exf,ok.bs,ok.bsz,ok.noex,ok.exfs,ok.funs,ok.frf⟩
theorem Cx.Ok.unwish {X:Cx}{E:Value->Shared->Prop} (ok:(X.wish E).Ok):X.Ok :=
 ⟨ok.mod,ok.kind,ok.glob,ok.blt,ok.above,ok.inj,ok.has,ok.cab,ok.hd,ok.frames,ok.stk,ok.exf,ok.bs,ok.bsz,ok.noex,ok.exfs,ok.funs,ok.frf⟩
section
variable {X:Cx}{pins:List (Addr × Obj)}{σ:St}{H:Hp}{s:Shared}{E:Value->Shared->Prop}
theorem Inv.wish (I:Inv X pins σ H s) (E:Value->Shared->Prop):Inv (X.wish E) pins σ H s:=⟨I.ok.wish E,I.os,I.bare,I.base,I.loc,I.cell,I.free,I.freeC,I.pin,I.hok,I.len⟩
theorem Inv.unwish (I:Inv (X.wish E) pins σ H s):Inv X pins σ H s:=⟨I.ok.unwish,I.os,I.bare,I.base,I.loc,I.cell,I.free,I.freeC,I.pin,I.hok,I.len⟩
theorem SP.unwish {D:Ends}{f:Flow}{s':Shared} (h:SP (X.wish E) pins D f s'):SP X pins D f s':=by
 cases f with
 | next=>obtain ⟨σ',H',I,q⟩:=h;exact ⟨σ',H',I.unwish,q⟩
 | brk=>obtain ⟨σ',H',I,q⟩:=h;exact ⟨σ',H',I.unwish,q⟩
 | cont=>obtain ⟨σ',H',I,q⟩:=h;exact ⟨σ',H',I.unwish,q⟩
 | ret u=>obtain ⟨v,σ',H',I,r,q⟩:=h;exact ⟨v,σ',H',I.unwish,r,q⟩
theorem PSs.nox {st:List Stmt}{t:TS} (h:PSs X.nox st t):PSs X st t:=fun pins s σ H D I hw =>
 d7 (h pins s σ H D (I.wish _) hw) (fun _ _ q=>q.unwish) fun _ _ z=>False.elim z
end
section
variable {X:Cx}{st:Stmt}{rest:List Stmt}{t u:TS}{e:Expr}{te:TE}{pos:Pos}
def qnu_:TS:=fun D σ H=>D.nx σ H
def tSeq (t u:TS):TS:=fun D σ H=>t { D with nx:=u D } σ H
theorem qw_:PSs X [] qnu_:=fun _ _ σ H _ I h=>wpAny_execs_nil ⟨σ,H,I,h⟩
theorem ux_ (h1:PS X st t) (h2:PSs X rest u):PSs X (st :: rest) (tSeq t u):=by
 intro d s σ H D I h;refine wpAny_execs_cons (thn (h1 d s σ H { D with nx:=u D } I h) fun f s1 q=>?_)
 cases f with
 | next =>
  obtain ⟨σ',H',I',q⟩:=q;exact h2 d s1 σ' H' D I' q
 | ret v=>exact q
 | brk=>exact q
 | cont=>exact q
theorem vW_ (h1:PS X st t):PSs X [st] t:=by
 intro d s σ H D I h;refine wpAny_execs_cons (thn (h1 d s σ H D I h) fun f s1 q=>?_)
 cases f with
 | next=>exact wpAny_execs_nil q
 | ret v=>exact q
 | brk=>exact q
 | cont=>exact q
def qpu_:TS:=fun D σ H=>D.bk σ H
def qqn_:TS:=fun D σ H=>D.ct σ H
theorem ql7_:PS X (.Break pos) qpu_:=fun _ _ σ H _ I h=>wpAny_Break ⟨σ,H,I,h⟩
theorem qf3_:PS X (.Continue pos) qqn_:=fun _ _ σ H _ I h=>wpAny_Continue ⟨σ,H,I,h⟩
theorem Inv.quiet {pins:List (Addr × Obj)}{σ:St}{H:Hp}{s:Shared} (I:Inv X pins σ H s):interactive X.env=false:=by simp [interactive,I.ok.kind]
def qqo_ (te:TE):TS:=fun D σ H=>te σ H fun _ H1=>D.nx σ H1
theorem qV_ (he:PE X e te) (hs:swapsWith e none pos.line X.env=pure false:=by rfl):PS X (.Expr e pos) (qqo_ te):=by
 intro d s σ H D I h;exact wpAny_Expr_any (thn (he d s σ H _ I h) fun v s1 ⟨x,H1,I1,r1,q1⟩=>⟨σ,H1,I1,q1⟩) I.quiet hs
def tRet (te:TE):TS:=fun D σ H=>te σ H D.rt
theorem qo_ (he:PE X e te):PS X (.Return (some e) pos) (tRet te):=by
 intro d s σ H D I h;exact wpAny_Return_some (thn (he d s σ H _ I h) fun v s1 ⟨x,H1,I1,r1,q1⟩=>⟨x,σ,H1,I1,r1,q1⟩)
def tIfS (c:TT) (t u:TS):TS:=fun D σ H=>c σ H fun b H1=>if b=true then t D σ H1 else u D σ H1
theorem qqp_ {c:Expr}{a b:List Stmt}{tc:TT} (hc:PT X c tc) (ha:PSs X a t) (hb:PSs X b u):PS X (.If c a b pos) (tIfS tc t u):=by
 intro g s σ H D I h;refine wpAny_If (thn (hc g s σ H _ I h) fun d s1 ⟨H1,I1,q1⟩=>?_)
 cases d with
 | true=>exact ha g s1 σ H1 D I1 q1
 | false=>exact hb g s1 σ H1 D I1 q1
def qpv_:TS:=fun _ _ _=>False
theorem q3_:PS X st qpv_:=fun _ _ _ _ _ _ h=>h.elim
end
abbrev TG:=V->St->Hp->(St->Hp->Prop)->Prop
abbrev TGs:=List V->St->Hp->(St->Hp->Prop)->Prop
def PG (X:Cx) (target:Expr) (t:TG):Prop :=
 ∀ (pins:List (Addr × Obj)) (s:Shared) (σ:St) (H:Hp) (v:V) (u:Value) (Q:St->Hp->Prop),Inv X pins σ H s->RelV v u->t v σ H Q →
  wpAny (model X.prog X.w) X.A (assign target X.env u) (fun _ s'=>∃ σ' H',Inv X pins σ' H' s'/\Q σ' H') X.xe s
def PGs (X:Cx) (ts:List Expr) (t:TGs):Prop :=
 ∀ (pins:List (Addr × Obj)) (s:Shared) (σ:St) (H:Hp) (vs:List V) (us:List Value) (Q:St->Hp->Prop),Inv X pins σ H s->Vals vs us->t vs σ H Q →
  wpAny (model X.prog X.w) X.A (assignInOrder ((assignEach ts X.env).map (·.2)) us) (fun _ s'=>∃ σ' H',Inv X pins σ' H' s'/\Q σ' H') X.xe s
abbrev TSet:=V->V->V->Hp->(Hp->Prop)->Prop
def PSet (X:Cx) (t:TSet):Prop :=
 ∀ (pins:List (Addr × Obj)) (s:Shared) (σ:St) (H:Hp) (o i v:V) (ov iv u:Value) (Q:Hp->Prop),Inv X pins σ H s->RelV o ov->RelV i iv->RelV v u->t o i v H Q →
  wpAny (model X.prog X.w) X.A (setItem ov iv u) (fun _ s'=>∃ H',Inv X pins σ H' s'/\Q H') X.xe s
abbrev TIp:=V->V->Hp->VK->Prop
def PIp (X:Cx) (op:Operator) (t:TIp):Prop :=
 ∀ (pins:List (Addr × Obj)) (s:Shared) (σ:St) (H:Hp) (x y:V) (v u:Value) (Q:VK),Inv X pins σ H s->RelV x v->RelV y u->t x y H Q →
  wpAny (model X.prog X.w) X.A (inplaceOp op v u) (EP X pins σ Q) X.xe s
section
variable {X:Cx}{pos:Pos}
def qR_ (i:Nat):TG:=fun v σ H Q=>Q (σ.set i (some v)) H
theorem ql_ {i:Nat}{x:Str} (hN:X.N.Nodup) (hi:X.N[i]?=some x) (hx:Loc X.env.scope x) (hf:X.fn x=true\/X.env.scope.names.lookup x=some .local:=by first | exact .inl rfl | exact .inr rfl | assumption):PG X (.Name x pos) (qR_ i):=by
 intro d s σ H v u Q I r h;exact wpAny_assign_Name (zU_ I hN hi hx r (fun s' I'=>⟨_,H,I',h⟩) hf)
def gNil:TGs:=fun vs σ H Q=>vs=[]/\Q σ H
inductive yD_ (t:TG) (u:TGs) (vs:List V) (σ:St) (H:Hp) (Q:St->Hp->Prop):Prop
 | mk:∀ v r,vs=v :: r->(t v σ H fun σ' H'=>u r σ' H' Q)->yD_ t u vs σ H Q
theorem jM_:PGs X [] gNil:=by
 intro d s σ H vs us Q I r h;obtain ⟨e,h⟩:=h;subst e
 cases r;exact assignInOrder_nil ⟨σ,H,I,h⟩
theorem qH_ {e:Expr}{es:List Expr}{t:TG}{u:TGs} (h1:PG X e t) (h2:PGs X es u)
  (hs:(assignEach (e :: es) X.env).map (·.2)=assign e X.env :: (assignEach es X.env).map (·.2):=by rfl):PGs X (e :: es) (yD_ t u):=by
 intro d s σ H vs us Q I r h;obtain ⟨v,vr,e1,h⟩:=h;subst e1
 cases r with
 | cons r rr =>
  rw [hs];refine assignInOrder_cons (thn (h1 d s σ H _ _ _ I r h) fun _ s1 ⟨σ1,H1,I1,q1⟩=>?_);exact h2 d s1 σ1 H1 _ _ Q I1 rr q1
inductive gTup (K:PySem.W.Frag) (n:Nat) (t:TGs) (v:V) (σ:St) (H:Hp) (Q:St->Hp->Prop):Prop
 | mk:∀ a xs,v=.ref a->SqT K H a xs->xs.length=n->t xs σ H Q->gTup K n t v σ H Q
theorem yL_ {es:List Expr}{k:Nat}{t:TGs}{n:Nat} (hc:X.calm=true) (h:PGs X es t)
  (hn:(assignEach es X.env).length=n:=by rfl) (hst:(assignEach es X.env).findIdx? (·.1)=none:=by rfl):PG X (.Tuple es k pos) (gTup X.K n t):=by
 intro d s σ H v u Q I r hw;obtain ⟨a,xs,e1,hq,hl,hw⟩:=hw;subst e1
 cases r;obtain ⟨g,rv,ht,hz⟩:=I.tuple hq;refine assign_Tuple_tuple (I.ok.hd hc) ht (by simp [hn,← hl,rv.length]) hst fun h' hx=>?_
 have I1:Inv X d σ H { s with heap:=h' }:=I.kept (t':=s.toks) fun b o e=>hx b o (bP (bJ e)) e;exact h d _ σ H xs _ Q I1 (by simpa using rv) hw
def gSub (to ti:TE) (t:TSet):TG:=fun v σ H Q=>to σ H fun o H1=>ti σ H1 fun i H2=>t o i v H2 fun H3=>Q σ H3
theorem zb_ {o i:Expr}{to ti:TE}{t:TSet} (ho:PE X o to) (hi:PE X i ti) (hs:PSet X t)
  (ha:∀ v,assign (.Subscript o i pos) X.env v=(do
   let ov ← holding [v] (eval o X.env)
   let iv ← holding [v,ov] (eval i X.env)
   standAt pos
   holding [v,ov,iv] (setItem ov iv v)
   release [v,ov,iv] []):=by intro _;rfl):PG X (.Subscript o i pos) (gSub to ti t):=by
 intro d s σ H v u Q I r h;rw [ha];refine bH (dt (thn (ho d s σ H _ I h) fun ov s1 ⟨x,H1,I1,r1,q1⟩=>?_));refine bH (dt (thn (hi d s1 σ H1 _ I1 q1) fun iv s2 ⟨y,H2,I2,r2,q2⟩=>?_));refine bH (wpAny_standAt (bH (dt (thn (hs d s2 σ H2 x y v ov iv u _ I2 r1 r2 r q2) fun _ s3 ⟨H3,I3,q3⟩=>?_))));exact wpAny_release ⟨σ,H3,I3,q3⟩
def tAsg (te:TE) (g:TG):TS:=fun D σ H=>te σ H fun x H1=>g x σ H1 D.nx
theorem yM_ {tg e:Expr}{te:TE}{g:TG} (he:PE X e te) (hg:PG X tg g) (hs:swapsWithSole [tg] e pos.line X.env=pure false:=by rfl) (hw:swappedStores [tg] e X.env=pure none:=by rfl)
  (h1:(assignEach [tg] X.env).map (·.2)=[assign tg X.env]:=by rfl):PS X (.Assign [tg] e pos) (tAsg te g):=by
 intro d s σ H D I h;refine wpAny_Assign_stores (thn (he d s σ H _ I h) fun v s1 ⟨x,H1,I1,r1,q1⟩=>?_) hs hw;rw [h1];exact thn (hg d s1 σ H1 x v _ I1 r1 q1) fun _ s2 q=>q
theorem qi_ {i:Nat}{x:Str}{e:Expr}{te:TE}{pos':Pos} (hN:X.N.Nodup) (hi:X.N[i]?=some x) (hx:Loc X.env.scope x) (he:PE X e te) (hs:swapsWith e (some (.Name x pos')) pos.line X.env=pure false:=by rfl) (hf:X.fn x=true\/X.env.scope.names.lookup x=some .local:=by first | exact .inl rfl | exact .inr rfl | assumption) :
  PS X (.Assign [.Name x pos'] e pos) (tAsg te (qR_ i)):=by
 intro d s σ H D I h;refine wpAny_Assign_Name (thn (he d s σ H _ I h) fun v s1 ⟨y,H1,I1,r1,q1⟩=>?_) hs;exact zU_ I1 hN hi hx r1 (fun s2 I2=>⟨_,H1,I2,q1⟩) hf
inductive tAug (i:Nat) (te:TE) (ti:TIp) (D:Ends) (σ:St) (H:Hp):Prop
 | mk:∀ x,σ[i]?=some (some x)->(te σ H fun y H1=>ti x y H1 fun z H2=>D.nx (σ.set i (some z)) H2)->tAug i te ti D σ H
theorem qpw_ {i:Nat}{x:Str}{e:Expr}{te:TE}{op:Operator}{ti:TIp}{pos':Pos} (hN:X.N.Nodup) (hi:X.N[i]?=some x) (hx:Loc X.env.scope x) (he:PE X e te) (ho:PIp X op ti) (hf:X.fn x=true\/X.env.scope.names.lookup x=some .local:=by first | exact .inl rfl | exact .inr rfl | assumption) :
  PS X (.AugAssign (.Name x pos') op e pos) (tAug i te ti):=by
 intro d s σ H D I h;obtain ⟨v,e1,h⟩:=h;obtain ⟨m,hn,hl⟩:=I.loc
 have B:Vis X.env.scope x:=by rcases hx with k | k;exact .inl k;exact .inr (.inl k)
 obtain ⟨u,r,l⟩:=hl i x v hi e1 B;refine wpAny_AugAssign_Name ?_
 have go:wpAny (model X.prog X.w) X.A (eval e X.env) (fun w s₂=>wpAny (model X.prog X.w) X.A (inplaceOp op u w) (fun r s₃=>wpAny (model X.prog X.w) X.A (storeName X.env x r) (fun _=>SP X d D .next) X.xe s₃) X.xe s₂) X.xe s:=by
  refine thn (he d s σ H _ I h) fun w s1 ⟨y,H1,I1,r1,q1⟩=>?_;refine thn (ho d s1 σ H1 v y u w _ I1 r r1 q1) fun z s2 ⟨zv,H2,I2,r2,q2⟩=>?_;exact zU_ I2 hN hi hx r2 (fun s3 I3=>⟨_,H2,I3,q2⟩) hf
 rcases l with ⟨hk,hm⟩ | ⟨hk,c,hc,g⟩
 ·exact wpAny_loadName_local I.ok.kind hk hn hm go
 ·rcases hk with hk | hk
  ·exact wpAny_loadName_cell I.ok.kind hk hc g go
  ·rcases hx with k | k
   ·have:X.env.scope.names.lookup x=some .free:=hk
    rw [k] at this;cases this
   ·have:X.env.scope.names.lookup x=some .free:=hk
    rw [k] at this;cases this
inductive ipI (f:Int->Int->Int) (x y:V) (H:Hp) (Q:VK):Prop
 | mk:∀ i j,x=.int i->y=.int j->Q (.int (f i j)) H->ipI f x y H Q
theorem qpx_:PIp X .Add (ipI fun i j=>i+j):=by
 intro d s σ H x y v u Q I r1 r2 h;obtain ⟨i,j,e1,e2,q⟩:=h;subst e1;subst e2;obtain ⟨t,rfl⟩:=r1;obtain ⟨t',rfl⟩:=r2;exact iadd_int ⟨.int _,H,I.tok _,⟨_,rfl⟩,q⟩
end
section
variable {X:Cx}{pos:Pos}
def qjn_ (c:TT) (tb:TS):TS:=fun D σ H=>∃ W:Nat->St->Hp->Prop,(∃ m,W m σ H)/\∀ m σ H,W m σ H →
 c σ H fun b H1=>if b=true then ∃ N:St->Hp->Prop,(∀ σ' H',N σ' H'->∃ m',m' < m/\W m' σ' H')/\tb { D with nx:=N,ct:=N,bk:=D.nx } σ H1 else D.nx σ H1
theorem ql8_ {c:Expr}{body:List Stmt}{tc:TT}{tb:TS} (hp:PassesOwn (model X.prog X.w) X.A X.env X.xe) (hc:PT X c tc) (hb:PSs X body tb):PS X (.While c body [] pos) (qjn_ tc tb):=by
 intro d s σ H D I h;obtain ⟨W,⟨m0,w0⟩,turn⟩:=h;refine wpAny_While (codeAny_whileLoop (fun n s'=>∃ σ' H',Inv X d σ' H' s'/\W n σ' H') ?_ m0 ⟨σ,H,I,w0⟩);rintro n s1 ⟨σ1,H1,I1,w1⟩;refine eB hp (thn (hc d s1 σ1 H1 _ I1 (turn n σ1 H1 w1)) fun b s2 ⟨H2,I2,q2⟩=>?_)
 cases b with
 | true =>
  obtain ⟨N,hN,q2⟩:=q2;rw [if_pos rfl];refine eB hp (thn (hb d s2 σ1 H2 _ I2 q2) fun f s3 q3=>?_)
  cases f with
  | next =>
   obtain ⟨σ3,H3,I3,n3⟩:=q3;obtain ⟨m',hm,w3⟩:=hN σ3 H3 n3;exact ⟨m',hm,σ3,H3,I3,w3⟩
  | cont =>
   obtain ⟨σ3,H3,I3,n3⟩:=q3;obtain ⟨m',hm,w3⟩:=hN σ3 H3 n3;exact ⟨m',hm,σ3,H3,I3,w3⟩
  | brk=>exact q3
  | ret v=>exact q3
 | false =>
  rw [if_neg bW];exact wpAny_execs_nil ⟨σ1,H2,I2,q2⟩
end
structure It where
 go:Nat->Hp->Prop
 yld:Nat->Hp->V->Hp->Prop
 stop:Nat->Hp->Prop
def FpOk (X:Cx) (pins:List (Addr × Obj)) (H:Hp) (b:Addr):Prop :=
 H b=none/\b≠X.env.locals/\b∉X.fs/\(b∈X.ex\/X.s₀.heap.objs.size<=b)/\(∀ x c,X.env.cells.lookup x=some c->c≠b)/\∀ p∈X.pn++pins,p.1≠b
theorem Inv.fpOk {X:Cx}{pins:List (Addr × Obj)}{σ:St}{H H':Hp}{s:Shared}{b:Addr} (I:Inv X pins σ H s) (hb:s.heap.objs.size<=b) (hn:H' b=none):FpOk X pins H' b:=by
 refine ⟨hn,eC (bR I.lt hb),I.nofs hb,.inr (bG I.sz hb),fun x c e z=>?_,fun p hp z=>?_⟩
 ·obtain ⟨v,q⟩:=I.cell x c e
  exact absurd (bR q.lt (by rw [z];exact hb)) (cI _)
 ·exact absurd (bR (bJ (I.pin p hp).1) (by rw [z];exact hb)) (cI _)
structure Turn (P:Program) (w:World) (K:PySem.W.Frag) (tg:Expr) (J:It) (fp:List Addr) (it:Addr) (tn:Nat->Heap->Prop):Prop where
 mem:it∈fp
 obj:∀ i h,tn i h->∀ b∈fp,∃ o,h.get? b=some o/\∀ v,o.data≠.cell v
 keep:∀ i h h',tn i h->(∀ b∈fp,∀ o,h.get? b=some o->h'.get? b=some o)->tn i h'
 item:∀ (X:Cx),X.prog=P->X.w=w->X.K=K->X.calm=true->∀ (i:Nat) (pins:List (Addr × Obj)) (s:Shared) (σ:St) (H:Hp) (E:Value->Shared->Prop),Inv X pins σ H s->(∀ b∈fp,FpOk X pins H b)->tn i s.heap->J.go i H →
  wpAny (model P w) X.A (pyNext (.ref it)) (fun r s1=>∃ u,r=some u ∧
   wpAny (model P w) X.A (letOwnedTupleGo tg (.ref it) u) (fun _ s2=>∃ x H',Inv X pins σ H' s2/\RelV x u/\J.yld i H x H'/\tn (i+1) s2.heap/\∀ b∈fp,H' b=none) E s1) E s
 done:∀ (X:Cx),X.prog=P->X.w=w->X.K=K->X.calm=true->∀ (i:Nat) (pins:List (Addr × Obj)) (s:Shared) (σ:St) (H:Hp) (E:Value->Shared->Prop),Inv X pins σ H s->(∀ b∈fp,FpOk X pins H b)->tn i s.heap->J.stop i H →
  wpAny (model P w) X.A (pyNext (.ref it)) (fun r s1=>r=none/\Inv X pins σ H s1) E s
 self:∀ (A:Around) (i:Nat) (s:Shared) (Q:Value->Shared->Prop) (E:Value->Shared->Prop),tn i s.heap->Q (.ref it) s->wpAny (model P w) A (pyIter (.ref it)) Q E s
abbrev TI:=St->Hp->(It->Hp->Prop)->Prop
def PIE (X:Cx) (pins:List (Addr × Obj)) (σ:St) (tg:Expr) (R:It->Hp->Prop) (itv:Value) (s2:Shared):Prop :=
 ∃ (it:Addr) (fp:List Addr) (tn:Nat->Heap->Prop) (J:It) (H':Hp),itv=.ref it/\Inv X pins σ H' s2/\Turn X.prog X.w X.K tg J fp it tn/\tn 0 s2.heap/\(∀ b∈fp,FpOk X pins H' b)/\R J H'
def PI (X:Cx) (tg iter:Expr) (wi:TI):Prop :=
 ∀ (pins:List (Addr × Obj)) (s:Shared) (σ:St) (H:Hp) (R:It->Hp->Prop),Inv X pins σ H s->wi σ H R →
  wpAny (model X.prog X.w) X.A (eval iter X.env) (fun v s1=>wpAny (model X.prog X.w) X.A (pyIter v) (PIE X pins σ tg R) X.xe s1) X.xe s
theorem uU_ {M:Model}{A:Around}{E:Value->Shared->Prop}{s:Shared}{tg:Expr}{it:Addr}{u:Value}{o:Obj}{n:String}{vs:Array Value}{Q:Unit->Shared->Prop} (ho:s.heap.get? it=some o) (hc:o.cls=.type n) (hd:o.data=.fields vs)
  (hn:["enumerate", "zip", "dict_itemiterator", "dict_reverseitemiterator", "odict_iterator", "itertools.zip_longest", "itertools.pairwise"].contains n=false) (hQ:Q () s):wpAny M A (letOwnedTupleGo tg (.ref it) u) Q E s:=by
 unfold letOwnedTupleGo
 cases tg <;> first
  | exact c7 hQ
  | (cases u <;> first
    | exact c7 hQ
    | (refine bH (wpAny_load ho ?_)
       rw [hc,hd]
       show wpAny M A (if (["enumerate", "zip", "dict_itemiterator", "dict_reverseitemiterator", "odict_iterator", "itertools.zip_longest", "itertools.pairwise"].contains n && vs[0]? == some (rawInt _))=true then _ else _) Q E s
       rw [if_neg (by intro h;rw [hn,Bool.false_and] at h;cases h)]
       exact c7 hQ))
def Itl (K:PySem.W.Frag) (a:Addr):It :=
 ⟨fun i H=>∃ xs x,SqL K H a xs/\xs[i]?=some x,fun i H x H'=>H'=H/\∀ xs,SqL K H a xs->xs[i]?=some x,fun i H=>∃ xs,SqL K H a xs/\xs.length<=i⟩
def Itt (K:PySem.W.Frag) (a:Addr):It :=
 ⟨fun i H=>∃ xs x,SqT K H a xs/\xs[i]?=some x,fun i H x H'=>H'=H/\∀ xs,SqT K H a xs->xs[i]?=some x,fun i H=>∃ xs,SqT K H a xs/\xs.length<=i⟩
def Itr (lo:Int) (n:Nat):It:=⟨fun i _=>i < n,fun i H x H'=>H'=H/\x=.int (lo+i),fun i _=>n<=i⟩
theorem qjo_ {P:Program}{w:World}{K:PySem.W.Frag}{tg:Expr} (a it:Addr):Turn P w K tg (Itl K a) [it] it (fun i h=>h.IsListIter it a i) where
 mem:=by simp
 obj:=fun i h st b hb=>by
  have e:b=it:=by simpa using hb
  subst e;obtain ⟨o,e,c,d⟩:=st;exact ⟨o,e,fun v z=>by rw [d] at z;cases z⟩
 keep:=fun i h h' st k=>st.at fun o e=>k it (by simp) o e
 item:=by
  intro X hP hw hK hc i g s σ H E I hf st hg;subst hP hw hK;obtain ⟨xs,x,hq,hx⟩:=hg;obtain ⟨r,rv,p,hz⟩:=I.list hq;obtain ⟨u,hu,ru⟩:=rv.get hx;obtain ⟨f0,f1,f2,f3,f4,f5⟩:=hf it (by simp)
  refine wpAny_pyNext_list_item st p.isList (x:=u) (by simpa using hu) fun h' l sb=>?_
  have I1:Inv X g σ H { s with heap:=h' }:=I.turned (t':=s.toks) (fun b o hb e=>(sb.2 b hb).trans e) f0 f1 f3 f4 f5;obtain ⟨o,e,c,d⟩:=id l;exact ⟨u,rfl,uU_ (s:={ s with heap:=h' }) e c d (by decide) ⟨x,H,I1,ru,⟨rfl,fun ys hy=>by rw [I.list_inj hy hq];exact hx⟩,l,fun b hb=>(hf b hb).1⟩⟩
 done:=by
  intro X hP hw hK hc i g s σ H E I hf st hg;subst hP hw hK;obtain ⟨xs,hq,hx⟩:=hg;obtain ⟨r,rv,p,hz⟩:=I.list hq;obtain ⟨f0,f1,f2,f3,f4,f5⟩:=hf it (by simp)
  have hl:=rv.length;exact wpAny_pyNext_list_end (I.ok.hd hc) st p.isList (by simp;omega) fun h' eb=>⟨rfl,I.turned (t':=s.toks) (fun b o hb e=>eb b o hb e) f0 f1 f3 f4 f5⟩
 self:=fun _ _ _ _ _ st h=>wpAny_pyIter_listiter st h
theorem qii_ {P:Program}{w:World}{K:PySem.W.Frag}{tg:Expr} (a it:Addr):Turn P w K tg (Itt K a) [it] it (fun i h=>h.IsTupleIter it a i) where
 mem:=by simp
 obj:=fun i h st b hb=>by
  have e:b=it:=by simpa using hb
  subst e;obtain ⟨o,e,c,d⟩:=st;exact ⟨o,e,fun v z=>by rw [d] at z;cases z⟩
 keep:=fun i h h' st k=>st.at fun o e=>k it (by simp) o e
 item:=by
  intro X hP hw hK hc i l s σ H E I hf st hg;subst hP hw hK;obtain ⟨xs,x,hq,hx⟩:=hg;obtain ⟨g,rv,p,hz⟩:=I.tuple hq;obtain ⟨u,hu,ru⟩:=rv.get hx;obtain ⟨f0,f1,f2,f3,f4,f5⟩:=hf it (by simp)
  refine wpAny_pyNext_tuple_item st (show s.heap.IsTuple a g.toArray from p) (x:=u) (by simpa using hu) fun h' r sb=>?_
  have I1:Inv X l σ H { s with heap:=h' }:=I.turned (t':=s.toks) (fun b o hb e=>(sb.2 b hb).trans e) f0 f1 f3 f4 f5;obtain ⟨o,e,c,d⟩:=id r;exact ⟨u,rfl,uU_ (s:={ s with heap:=h' }) e c d (by decide) ⟨x,H,I1,ru,⟨rfl,fun ys hy=>by rw [I.tuple_inj hy hq];exact hx⟩,r,fun b hb=>(hf b hb).1⟩⟩
 done:=by
  intro X hP hw hK hc i l s σ H E I hf st hg;subst hP hw hK;obtain ⟨xs,hq,hx⟩:=hg;obtain ⟨g,rv,p,hz⟩:=I.tuple hq;obtain ⟨f0,f1,f2,f3,f4,f5⟩:=hf it (by simp)
  have hl:=rv.length;exact wpAny_pyNext_tuple_end (I.ok.hd hc) st (show s.heap.IsTuple a g.toArray from p) (by simp;omega) fun h' eb=>⟨rfl,I.turned (t':=s.toks) (fun b o hb e=>eb b o hb e) f0 f1 f3 f4 f5⟩
 self:=fun _ _ _ _ _ st h=>wpAny_pyIter_tupleiter st h
theorem qij_ {P:Program}{w:World}{K:PySem.W.Frag}{tg:Expr} (it:Addr) (lo:Int) (n:Nat):Turn P w K tg (Itr lo n) [it] it (fun i h=>IsRangeIter h it (lo+(i:Nat) * 1) ((n:Int) - (i:Nat)) 1) where
 mem:=by simp
 obj:=fun i h st b hb=>by
  have e:b=it:=by simpa using hb
  subst e
  exact ⟨_,st,fun v z=>by
   have z':Data.fields _=Data.cell v:=z
   cases z'⟩
 keep:=fun i h h' st k=>k it (by simp) _ st
 item:=by
  intro X hP hw hK hc i d s σ H E I hf st hg;subst hP hw hK;obtain ⟨f0,f1,f2,f3,f4,f5⟩:=hf it (by simp)
  have W:=Walks.range (prog:=X.prog) (w:=X.w) (I.ok.hd hc) it lo 1 n;refine W.item i s _ _ hg st fun v h' tk hv g kk=>?_;obtain ⟨t,rfl⟩:=hv
  have I1:Inv X d σ H { s with heap:=h',toks:=tk }:=I.turned (fun b o hb e=>kk b o (by simpa using hb) e) f0 f1 f3 f4 f5
  refine ⟨_,rfl,uU_ (s:={ s with heap:=h',toks:=tk }) (n:="range_iterator") g rfl rfl (by decide) ⟨.int (lo+i),H,I1,⟨t,?_⟩,⟨rfl,rfl⟩,g,fun b hb=>(hf b hb).1⟩⟩
  rw [Int.mul_one]
 done:=by
  intro X hP hw hK hc i d s σ H E I hf st hg;subst hP hw hK;obtain ⟨f0,f1,f2,f3,f4,f5⟩:=hf it (by simp)
  exact wpAny_pyNext_range_end (I.ok.hd hc) st (by have:n<=i:=hg;omega) fun h' eb=>⟨rfl,I.turned (t':=s.toks) (fun b o hb e=>eb b o hb e) f0 f1 f3 f4 f5⟩
 self:=fun _ _ _ _ _ st h=>wpAny_pyIter_rangeiter st h
section
variable {X:Cx}{tg:Expr}
inductive qgm_ (K:PySem.W.Frag) (R:It->Hp->Prop) (x:V) (H1:Hp):Prop
 | mk:∀ a,x=.ref a->((∃ xs,SqL K H1 a xs))->R (Itl K a) H1->qgm_ K R x H1
def qnv_ (K:PySem.W.Frag) (tl:TE):TI:=fun σ H R=>tl σ H fun x H1=>qgm_ K R x H1
inductive qjp_ (K:PySem.W.Frag) (R:It->Hp->Prop) (x:V) (H1:Hp):Prop
 | mk:∀ a,x=.ref a->((∃ xs,SqT K H1 a xs))->R (Itt K a) H1->qjp_ K R x H1
def iTup (K:PySem.W.Frag) (tl:TE):TI:=fun σ H R=>tl σ H fun x H1=>qjp_ K R x H1
theorem qB_ {l:Expr}{tl:TE} (hl:PE X l tl):PI X tg l (qnv_ X.K tl):=by
 intro d s σ H R I h;refine thn (hl d s σ H _ I h) fun v s1 ⟨x,H1,I1,r1,q1⟩=>?_;obtain ⟨a,e,⟨xs,hq⟩,q⟩:=q1;subst e
 cases r1;obtain ⟨g,rv,p,hz⟩:=I1.list hq;refine eE p.isList ?_;refine ⟨s1.heap.objs.size,[s1.heap.objs.size],_,_,H1,rfl,I1.kept (t':=s1.toks) fun b o e=>bD _ e,qjo_ a _,⟨_,bZ _ rfl,rfl,rfl⟩,fun b hb=>?_,q⟩
 have e:b=s1.heap.objs.size:=by simpa using hb
 subst e;exact I1.fpOk (bF _) (I1.hok.fresh (bF _))
theorem qjq_ {l:Expr}{tl:TE} (hl:PE X l tl):PI X tg l (iTup X.K tl):=by
 intro d s σ H R I h;refine thn (hl d s σ H _ I h) fun v s1 ⟨x,H1,I1,r1,q1⟩=>?_;obtain ⟨a,e,⟨xs,hq⟩,q⟩:=q1;subst e
 cases r1;obtain ⟨g,rv,p,hz⟩:=I1.tuple hq;refine wpAny_pyIter_tuple (show s1.heap.IsTuple a g.toArray from p) ?_;refine ⟨s1.heap.objs.size,[s1.heap.objs.size],_,_,H1,rfl,I1.kept (t':=s1.toks) fun b o e=>bD _ e,qii_ a _,⟨_,bZ _ rfl,rfl,rfl⟩,fun b hb=>?_,q⟩
 have e:b=s1.heap.objs.size:=by simpa using hb
 subst e;exact I1.fpOk (bF _) (I1.hok.fresh (bF _))
theorem qdu_ {pins:List (Addr × Obj)}{σ:St}{H:Hp}{s:Shared}{R:It->Hp->Prop}{E:Value->Shared->Prop}{lo hi:Int}{t u v:Tok}{tk:Nat} (I:Inv X pins σ H s) (h1:-(2 ^ 62)<=lo) (h2:lo < 2 ^ 62) (h3:-(2 ^ 62)<=hi) (h4:hi < 2 ^ 62)
  (q:R (Itr lo (hi - lo).toNat) H):wpAny (model X.prog X.w) X.A (pyIter (.ref s.heap.objs.size)) (PIE X pins σ tg R) E { s with heap:=s.heap.push { cls:=.type "range",data:=.fields #[.int lo t,.int hi u,.int 1 v] },toks:=tk }:=by
 refine wpAny_pyIter_range (IsRange.new ..) (small_one h1 h2 h3 h4) ?_
 have I1:Inv X pins σ H { s with heap:=s.heap.push { cls:=.type "range",data:=.fields #[.int lo t,.int hi u,.int 1 v] },toks:=tk }:=I.kept fun b o e=>bD _ e
 refine ⟨(s.heap.push { cls:=.type "range",data:=.fields #[.int lo t,.int hi u,.int 1 v] }).objs.size,[(s.heap.push { cls:=.type "range",data:=.fields #[.int lo t,.int hi u,.int 1 v] }).objs.size],_,_,H,rfl,
  I1.kept (t':=tk) fun b o e=>bD _ e,qij_ _ lo (hi - lo).toNat,?_,fun b hb=>?_,q⟩
 ·have e1:lo+((0:Nat):Int) * 1=lo:=by simp
  have e2:(((hi - lo).toNat:Nat):Int) - ((0:Nat):Int)=Builtin.Range.rangeSize lo hi 1:=by rw [rangeSize_one];split <;> omega
  show IsRangeIter _ _ (lo+((0:Nat):Int) * 1) ((((hi - lo).toNat:Nat):Int) - ((0:Nat):Int)) 1
  rw [e1,e2];exact bZ _ rfl
 ·have e:b=(s.heap.push { cls:=.type "range",data:=.fields #[.int lo t,.int hi u,.int 1 v] }).objs.size:=by simpa using hb
  subst e;exact I1.fpOk (bF _) (I1.hok.fresh (bF _))
inductive qgn_ (R:It->Hp->Prop) (vs:List V) (H1:Hp):Prop
 | mk:∀ j:Int,vs=[.int j]->-(2 ^ 62)<=j->j < 2 ^ 62->R (Itr 0 j.toNat) H1->qgn_ R vs H1
def qqq_ (ta:TA):TI:=fun σ H R=>ta σ H fun vs H1=>qgn_ R vs H1
inductive qgo_ (R:It->Hp->Prop) (vs:List V) (H1:Hp):Prop
 | mk:∀ i j:Int,vs=[.int i,.int j]->(-(2 ^ 62)<=i/\i < 2 ^ 62/\-(2 ^ 62)<=j/\j < 2 ^ 62)->R (Itr i (j - i).toNat) H1->qgo_ R vs H1
def qqr_ (ta:TA):TI:=fun σ H R=>ta σ H fun vs H1=>qgo_ R vs H1
theorem qL_ {a:Expr}{ta:TA}{p pos:Pos} (hg:Gl X "range") (hm:X.mg "range" = none) (ha:PA X [a] ta) (hs:starEach [a] X.env=[(false,eval a X.env)]:=by rfl):PI X tg (.Call (.Name "range" p) [a] [] pos) (qqq_ ta):=by
 intro d s σ H R I h;refine Call_ (jK_ I hg hm boot_range (d8 (thn (ha pos d s σ H _ I h) fun us s1 ⟨vs,H1,I1,r1,q1⟩=>?_) hs rfl));obtain ⟨j,e,q1,q2,q⟩:=q1;subst e
 cases r1 with
 | cons r rr =>
  cases rr;obtain ⟨t,rfl⟩:=r;exact call_range_1 (qdu_ I1 (by omega) (by omega) q1 q2 (by simpa using q))
theorem qbo_ {a b:Expr}{ta:TA}{p pos:Pos} (hg:Gl X "range") (hm:X.mg "range" = none) (ha:PA X [a,b] ta) (hs:starEach [a,b] X.env=[(false,eval a X.env),(false,eval b X.env)]:=by rfl) (hs2:starEach [b] X.env=[(false,eval b X.env)]:=by rfl) :
  PI X tg (.Call (.Name "range" p) [a,b] [] pos) (qqr_ ta):=by
 intro d s σ H R I h;refine Call_ (jK_ I hg hm boot_range (d8 (thn (ha pos d s σ H _ I h) fun us s1 ⟨vs,H1,I1,r1,q1⟩=>?_) (by rw [hs,hs2]) (by rw [hs2];rfl)))
 obtain ⟨i,j,e,⟨q1,q2,q3,q4⟩,q⟩:=q1;subst e
 cases r1 with
 | cons r rr =>
  cases rr with
  | cons r' rr =>
   cases rr;obtain ⟨t,rfl⟩:=r;obtain ⟨t',rfl⟩:=r';exact call_range_2 (qdu_ I1 q1 q2 q3 q4 q)
def tFor (wi:TI) (g:TG) (tb:TS):TS:=fun D σ H=>wi σ H fun J H1=>∃ W:Nat->Nat->St->Hp->Prop,(∃ m,W 0 m σ H1)/\∀ i m σ H,W i m σ H →
 (J.stop i H/\D.nx σ H)\/(J.go i H/\∃ N:St->Hp->Prop,(∀ σ' H',N σ' H'->∃ m',m' < m/\W (i+1) m' σ' H')/\∀ x H',J.yld i H x H'->g x σ H' fun σ2 H2=>tb { D with nx:=N,ct:=N,bk:=D.nx } σ2 H2)
def yN_ (fp:List Addr) (h:Heap):List (Addr × Obj):=fp.filterMap fun b=>(h.get? b).map fun o=>(b,o)
theorem j2_ {fp:List Addr}{h:Heap}{b:Addr}{o:Obj} (hb:b∈fp) (e:h.get? b=some o):(b,o)∈yN_ fp h:=List.mem_filterMap.mpr ⟨b,hb,by rw [e];rfl⟩
theorem qjr_ {fp:List Addr}{h:Heap}{p:Addr × Obj} (hp:p∈yN_ fp h):p.1∈fp/\h.get? p.1=some p.2:=by
 obtain ⟨b,hb,e⟩:=List.mem_filterMap.mp hp
 cases q:h.get? b with
 | none=>rw [q] at e;cases e
 | some o =>
  rw [q] at e
  have e':(b,o)=p:=bM e;subst e';exact ⟨hb,q⟩
theorem Inv.pinned {pins:List (Addr × Obj)}{σ:St}{H:Hp}{s:Shared}{fp:List Addr} (I:Inv X pins σ H s) (hf:∀ b∈fp,FpOk X pins H b) (ho:∀ b∈fp,∃ o,s.heap.get? b=some o/\∀ v,o.data≠.cell v):Inv X (pins++yN_ fp s.heap) σ H s :=
 I.pins_of fun p hp=>(bU.mp hp).elim (fun z=>I.pin p (cH _ z)) fun z=>by
  obtain ⟨hb,e⟩:=qjr_ z;obtain ⟨f0,f1,f2,_⟩:=hf p.1 hb;obtain ⟨o,e',d⟩:=ho p.1 hb;rw [e] at e';cases e';exact ⟨e,f0,f1,f2,d⟩
theorem Inv.unpinned {pins pl:List (Addr × Obj)}{σ:St}{H:Hp}{s:Shared} (I:Inv X (pins++pl) σ H s):Inv X pins σ H s:=I.pins_of fun p hp=>I.pin p (cH _ (List.mem_append_left _ hp))
theorem qpy_ {iter:Expr}{body:List Stmt}{wi:TI}{g:TG}{tb:TS}{pos:Pos} (hp:PassesOwn (model X.prog X.w) X.A X.env X.xe) (hc:X.calm=true) (hi:PI X tg iter wi) (hg:PG X tg g) (hb:PSs X body tb)
  (hs:∀ x,foldedSetIterable iter X.env x=pure x:=by intro _;rfl):PS X (.For tg iter body [] pos) (tFor wi g tb):=by
 intro l s σ H D I h;refine wpAny_For (thn (hi l s σ H _ I h) fun v s1 h1=>thn h1 fun Q s2 h2=>?_) hs;obtain ⟨it,fp,tn,J,H2,e,I2,T,L,f2,W,⟨m0,w0⟩,turn⟩:=h2;subst e
 have B:∀ {H':Hp},(∀ b∈fp,H' b=none)->∀ b∈fp,FpOk X l H' b:=fun hn b hb=>⟨hn b hb,(f2 b hb).2⟩;refine codeAny_forLoop_any (fun n s'=>∃ i σ' H',Inv X l σ' H' s'/\tn i s'.heap/\(∀ b∈fp,H' b=none)/\W i n σ' H') ?_ m0 ⟨0,σ,H2,I2,L,fun b hb=>(f2 b hb).1,w0⟩;rintro n s3 ⟨i,σ3,H3,I3,E,G,w3⟩;rcases turn i n σ3 H3 w3 with ⟨stop,qn⟩ | ⟨go,N,hN,step⟩
 ·refine eB hp (thn (T.done X rfl rfl rfl hc i l s3 σ3 H3 X.xe I3 (B G) E stop) fun r s4 ⟨hr,I4⟩=>?_)
  subst hr;exact wpAny_execs_nil ⟨σ3,H3,I4,qn⟩
 ·refine eB hp (thn (T.item X rfl rfl rfl hc i l s3 σ3 H3 X.xe I3 (B G) E go) fun r s4 ⟨u,hr,h4⟩=>?_)
  subst hr;refine eB hp (thn h4 fun _ s5 ⟨x,H5,I5,r5,y5,C,P⟩=>?_)
  have O:=I5.pinned (B P) (T.obj _ _ C);refine eB hp (thn (hg _ s5 σ3 H5 x u _ O r5 (step x H5 y5)) fun _ s6 ⟨σ6,H6,I6,q6⟩=>?_);refine eB hp (thn (hb _ s6 σ6 H6 _ I6 q6) fun f s7 q7=>?_)
  have again:∀ {σ7:St}{H7:Hp},Inv X (l++yN_ fp s5.heap) σ7 H7 s7->N σ7 H7->∃ m,m < n/\∃ i σ' H',Inv X l σ' H' s7/\tn i s7.heap/\(∀ b∈fp,H' b=none)/\W i m σ' H':=fun {σ7 H7} I7 n7=>by
   obtain ⟨m',hm,w7⟩:=hN σ7 H7 n7;refine ⟨m',hm,i+1,σ7,H7,I7.unpinned,T.keep _ _ _ C fun b hb o e=>(I7.pin (b,o) (cH _ (cH _ (j2_ hb e)))).1,fun b hb=>?_,w7⟩;obtain ⟨o,e,d⟩:=T.obj _ _ C b hb;exact (I7.pin (b,o) (cH _ (cH _ (j2_ hb e)))).2.1
  cases f with
  | next=>obtain ⟨σ7,H7,I7,n7⟩:=q7;exact again I7 n7
  | cont=>obtain ⟨σ7,H7,I7,n7⟩:=q7;exact again I7 n7
  | brk=>obtain ⟨σ7,H7,I7,q7⟩:=q7;exact ⟨σ7,H7,I7.unpinned,q7⟩
  | ret v=>obtain ⟨x7,σ7,H7,I7,r7,q7⟩:=q7;exact ⟨x7,σ7,H7,I7.unpinned,r7,q7⟩
end
theorem ji_ {K:PySem.W.Frag}{a:Addr}{xs:List V}{g:TG}{tb:TS}{D:Ends}{σ:St}{H:Hp} (Pv:Nat->St->Hp->Prop) (h0:Pv 0 σ H) (hl:∀ i σ H,i<=xs.length->Pv i σ H->SqL K H a xs)
  (hs:∀ i x σ H,xs[i]?=some x->Pv i σ H->g x σ H fun σ2 H2=>tb { D with nx:=Pv (i+1),ct:=Pv (i+1),bk:=D.nx } σ2 H2) (hd:∀ σ H,Pv xs.length σ H->D.nx σ H) :
  ∃ W:Nat->Nat->St->Hp->Prop,(∃ m,W 0 m σ H)/\∀ i m σ H,W i m σ H →
   ((Itl K a).stop i H/\D.nx σ H)\/((Itl K a).go i H/\∃ N:St->Hp->Prop,(∀ σ' H',N σ' H'->∃ m',m' < m/\W (i+1) m' σ' H')/\∀ x H',(Itl K a).yld i H x H'->g x σ H' fun σ2 H2=>tb { D with nx:=N,ct:=N,bk:=D.nx } σ2 H2):=by
 refine ⟨fun i m σ H=>m=xs.length - i/\i<=xs.length/\Pv i σ H,⟨xs.length,by simp,cn _,h0⟩,?_⟩
 rintro i m σ H ⟨rfl,hi,p⟩
 have q:=hl i σ H hi p
 by_cases hlt:i < xs.length
 ·refine .inr ⟨⟨xs,xs[i],q,by simp [hlt]⟩,Pv (i+1),fun σ' H' p'=>⟨xs.length - (i+1),by omega,rfl,hlt,p'⟩,fun x H' y=>?_⟩
  obtain ⟨e,y⟩:=y;subst e;exact hs i x σ _ (y xs q) p
 ·have e:i=xs.length:=by omega
  subst e;exact .inl ⟨⟨xs,q,bF _⟩,hd σ H p⟩
theorem qob_ {K:PySem.W.Frag}{a:Addr}{xs:List V}{g:TG}{tb:TS}{D:Ends}{σ:St}{H:Hp} (Pv:Nat->St->Hp->Prop) (h0:Pv 0 σ H) (hl:∀ i σ H,i<=xs.length->Pv i σ H->SqT K H a xs)
  (hs:∀ i x σ H,xs[i]?=some x->Pv i σ H->g x σ H fun σ2 H2=>tb { D with nx:=Pv (i+1),ct:=Pv (i+1),bk:=D.nx } σ2 H2) (hd:∀ σ H,Pv xs.length σ H->D.nx σ H) :
  ∃ W:Nat->Nat->St->Hp->Prop,(∃ m,W 0 m σ H)/\∀ i m σ H,W i m σ H →
   ((Itt K a).stop i H/\D.nx σ H)\/((Itt K a).go i H/\∃ N:St->Hp->Prop,(∀ σ' H',N σ' H'->∃ m',m' < m/\W (i+1) m' σ' H')/\∀ x H',(Itt K a).yld i H x H'->g x σ H' fun σ2 H2=>tb { D with nx:=N,ct:=N,bk:=D.nx } σ2 H2):=by
 refine ⟨fun i m σ H=>m=xs.length - i/\i<=xs.length/\Pv i σ H,⟨xs.length,by simp,cn _,h0⟩,?_⟩
 rintro i m σ H ⟨rfl,hi,p⟩
 have q:=hl i σ H hi p
 by_cases hlt:i < xs.length
 ·refine .inr ⟨⟨xs,xs[i],q,by simp [hlt]⟩,Pv (i+1),fun σ' H' p'=>⟨xs.length - (i+1),by omega,rfl,hlt,p'⟩,fun x H' y=>?_⟩
  obtain ⟨e,y⟩:=y;subst e;exact hs i x σ _ (y xs q) p
 ·have e:i=xs.length:=by omega
  subst e;exact .inl ⟨⟨xs,q,bF _⟩,hd σ H p⟩
theorem jq_ {lo:Int}{n:Nat}{g:TG}{tb:TS}{D:Ends}{σ:St}{H:Hp} (Pv:Nat->St->Hp->Prop) (h0:Pv 0 σ H)
  (hs:∀ i σ H,i < n->Pv i σ H->g (.int (lo+i)) σ H fun σ2 H2=>tb { D with nx:=Pv (i+1),ct:=Pv (i+1),bk:=D.nx } σ2 H2) (hd:∀ σ H,Pv n σ H->D.nx σ H) :
  ∃ W:Nat->Nat->St->Hp->Prop,(∃ m,W 0 m σ H)/\∀ i m σ H,W i m σ H →
   ((Itr lo n).stop i H/\D.nx σ H)\/((Itr lo n).go i H/\∃ N:St->Hp->Prop,(∀ σ' H',N σ' H'->∃ m',m' < m/\W (i+1) m' σ' H')/\∀ x H',(Itr lo n).yld i H x H'->g x σ H' fun σ2 H2=>tb { D with nx:=N,ct:=N,bk:=D.nx } σ2 H2):=by
 refine ⟨fun i m σ H=>m=n - i/\i<=n/\Pv i σ H,⟨n,by simp,cn _,h0⟩,?_⟩
 rintro i m σ H ⟨rfl,hi,p⟩
 by_cases hlt:i < n
 ·refine .inr ⟨hlt,Pv (i+1),fun σ' H' p'=>⟨n - (i+1),by omega,rfl,hlt,p'⟩,fun x H' y=>?_⟩
  obtain ⟨e,y⟩:=y;subst e y;exact hs i σ _ hlt p
 ·have e:i=n:=by omega
  subst e;exact .inl ⟨bF _,hd σ H p⟩
abbrev R2:=V->V->Hp->VK->Prop
def OpR (X:Cx) (f:Value->Value->Sem Value) (r:R2):Prop :=
 ∀ (pins:List (Addr × Obj)) (s:Shared) (σ:St) (H:Hp) (x y:V) (v u:Value) (Q:VK),Inv X pins σ H s->RelV x v->RelV y u->r x y H Q →
  wpAny (model X.prog X.w) X.A (f v u) (EP X pins σ Q) X.xe s
def jr_ (X:Cx) (f:Value) (r:List V->Hp->VK->Prop):Prop :=
 ∀ (pins:List (Addr × Obj)) (s:Shared) (σ:St) (H:Hp) (xs:List V) (us:List Value) (Q:VK),Inv X pins σ H s->Vals xs us->r xs H Q →
  wpAny (model X.prog X.w) X.A (call f us) (EP X pins σ Q) X.xe s
def tOp (r:R2) (ta tb:TE):TE:=fun σ H Q=>ta σ H fun x H1=>tb σ H1 fun y H2=>r x y H2 Q
inductive rI (C:Int->Int->Prop) (g:Int->Int->V) (x y:V) (H:Hp) (Q:VK):Prop
 | mk:∀ i j,x=.int i->y=.int j->C i j->Q (g i j) H->rI C g x y H Q
inductive rI0 (g:Int->Int->V) (x y:V) (H:Hp) (Q:VK):Prop
 | mk:∀ i j,x=.int i->y=.int j->Q (g i j) H->rI0 g x y H Q
section
variable {X:Cx}{a b c:Expr}{ta tb tc:TE}{pos:Pos}
theorem binT (ha:PE X a ta) (hb:PE X b tb) {pins:List (Addr × Obj)}{s:Shared}{σ:St}{H:Hp}{R:V->V->Hp->Prop} (I:Inv X pins σ H s)
  (h:ta σ H fun x H1=>tb σ H1 fun y H2=>R x y H2) {Q:Value->Shared->Prop}{f:Value->Value->Sem Value}
  (hf:∀ v u s2 x y H2,Inv X pins σ H2 s2->RelV x v->RelV y u->R x y H2->wpAny (model X.prog X.w) X.A (f v u) Q X.xe s2) :
  wpAny (model X.prog X.w) X.A (eval a X.env) (fun v s₁=>wpAny (model X.prog X.w) X.A (eval b X.env) (fun u s₂=>wpAny (model X.prog X.w) X.A (f v u) Q X.xe s₂) X.xe s₁) X.xe s:=by
 refine thn (ha pins s σ H _ I h) fun v s1 ⟨x,H1,I1,r1,q1⟩=>?_;refine thn (hb pins s1 σ H1 _ I1 q1) fun u s2 ⟨y,H2,I2,r2,q2⟩=>?_;exact hf v u s2 x y H2 I2 r1 r2 q2
theorem qm_ {op:Operator}{r:R2} (ho:OpR X (binaryOp op) r) (ha:PE X a ta) (hb:PE X b tb):PE X (.BinOp a op b pos) (tOp r ta tb):=by
 intro d s σ H Q I h;exact wpAny_BinOp (binT ha hb I h fun v u s2 x y H2 I2 rx ry q=>ho d s2 σ H2 x y v u Q I2 rx ry q)
theorem opI {f:Value->Value->Sem Value}{C:Int->Int->Prop}{g:Int->Int->Int}
  (rule:∀ (i j:Int) (t u:Tok) (s:Shared) (Q:Value->Shared->Prop) (E:Value->Shared->Prop),C i j->Q (.int (g i j) s.toks) { s with toks:=s.toks+1 }->wpAny (model X.prog X.w) X.A (f (.int i t) (.int j u)) Q E s) :
  OpR X f (rI C fun i j=>.int (g i j)):=by
 intro d s σ H x y v u Q I rx ry h;obtain ⟨i,j,rfl,rfl,hc,q⟩:=h;obtain ⟨t,rfl⟩:=rx;obtain ⟨t',rfl⟩:=ry;exact rule i j t t' s _ _ hc ⟨.int (g i j),H,I.tok _,⟨_,rfl⟩,q⟩
theorem opI0 {f:Value->Value->Sem Value}{g:Int->Int->Int}
  (rule:∀ (i j:Int) (t u:Tok) (s:Shared) (Q:Value->Shared->Prop) (E:Value->Shared->Prop),Q (.int (g i j) s.toks) { s with toks:=s.toks+1 }->wpAny (model X.prog X.w) X.A (f (.int i t) (.int j u)) Q E s) :
  OpR X f (rI0 fun i j=>.int (g i j)):=by
 intro d s σ H x y v u Q I rx ry h;obtain ⟨i,j,rfl,rfl,q⟩:=h;obtain ⟨t,rfl⟩:=rx;obtain ⟨t',rfl⟩:=ry;exact rule i j t t' s _ _ ⟨.int (g i j),H,I.tok _,⟨_,rfl⟩,q⟩
theorem opB0 {f:Value->Value->Sem Value}{g:Int->Int->Bool}
  (rule:∀ (i j:Int) (t u:Tok) (s:Shared) (Q:Value->Shared->Prop) (E:Value->Shared->Prop),Q (.bool (g i j)) s->wpAny (model X.prog X.w) X.A (f (.int i t) (.int j u)) Q E s) :
  OpR X f (rI0 fun i j=>.bl (g i j)):=by
 intro d s σ H x y v u Q I rx ry h;obtain ⟨i,j,rfl,rfl,q⟩:=h;obtain ⟨t,rfl⟩:=rx;obtain ⟨t',rfl⟩:=ry;exact rule i j t t' s _ _ ⟨.bl (g i j),H,I,rfl,q⟩
def CDiv (i j:Int):Prop:=0 < j/\j < 1073741824
def CPow (i j:Int):Prop:=0<=j/\j<=1000000/\i.natAbs < 2 ^ 64
def CMul (i j:Int):Prop:=(-(2 ^ 64) < i/\i < 2 ^ 64)\/(-(2 ^ 64) < j/\j < 2 ^ 64)
theorem CMul.ok {i j:Int} (h:CMul i j):IntMulOk i j:=by
 rcases h with ⟨h1,h2⟩ | ⟨h1,h2⟩
 ·exact .of_left (intBits_le_64 h1 h2)
 ·exact .of_right (intBits_le_64 h1 h2)
theorem qE_:OpR X (binaryOp .Add) (rI0 fun i j=>.int (i+j)):=opI0 fun _ _ _ _ _ _ _ q=>add_int q
theorem yj_:OpR X (binaryOp .Sub) (rI0 fun i j=>.int (i - j)):=opI0 fun _ _ _ _ _ _ _ q=>sub_int q
theorem ya_:OpR X (binaryOp .Mult) (rI CMul fun i j=>.int (i * j)):=opI fun _ _ _ _ _ _ _ hc q=>mul_int q hc.ok
theorem jN_:OpR X (binaryOp .FloorDiv) (rI CDiv fun i j=>.int (i / j)):=opI fun i j _ _ _ _ _ hc q=>by
 have h1:(0:Int) < j:=hc.1
 have h2:j < 1073741824:=hc.2;exact floordiv_int (by omega) (by rw [Int.fdiv_eq_ediv_of_nonneg i (by omega)];exact q) (.inl (PyProof.noPylong_small (by omega)))
theorem qW_:OpR X (binaryOp .Mod) (rI (fun _ j=>0 < j) fun i j=>.int (i % j)):=opI fun i j _ _ _ _ _ hc q=>by
 have h1:(0:Int) < j:=hc;exact mod_int' (by omega) (by rw [Int.fmod_eq_emod_of_nonneg i (by omega)];exact q)
theorem qpz_:OpR X (binaryOp .Pow) (rI CPow fun i j=>.int (i ^ j.toNat)):=opI fun _ _ _ _ _ _ _ hc q=>pow_int_small hc.1 hc.2.1 hc.2.2 q
theorem uV_:OpR X (binaryOp .LShift) (rI CPow fun i j=>.int (i * 2 ^ j.toNat)):=opI fun _ _ _ _ _ _ _ hc q=>lshift_int_small hc.1 hc.2.1 hc.2.2 q
theorem yk_:OpR X (binaryOp .BitXor) (rI0 fun i j=>.int (Builtin.bitXor i j)):=opI0 fun _ _ _ _ _ _ _ q=>xor_int q
end
def scal:V->V->Bool
 | .non,.non=>true | .non,.int _=>true | .int _,.non=>true | .non,.bl _=>true | .bl _,.non=>true | .non,.str _=>true | .str _,.non=>true
 | .int _,.int _=>true | .bl _,.bl _=>true | .str _,.str _=>true | .byt _,.byt _=>true
 | .int _,.str _=>true | .str _,.int _=>true | .bl _,.str _=>true | .str _,.bl _=>true
 | _,_=>false
def rEq:R2:=fun x y H Q=>scal x y=true/\Q (.bl (decide (x=y))) H
def rNe:R2:=fun x y H Q=>scal x y=true/\Q (.bl (!decide (x=y))) H
theorem qgp_ {i j:Int}:decide (V.int i=V.int j)=(i == j):=by
 rw [fk]
 simp
theorem qjs_ {i j:Bool}:decide (V.bl i=V.bl j)=(i == j):=by
 rw [fk]
 simp
theorem qgq_ {i j:Str}:decide (V.str i=V.str j)=(i == j):=by
 rw [fk]
 simp
theorem qgr_ {i j:Array UInt8}:decide (V.byt i=V.byt j)=(i.toList == j.toList):=by
 rw [fk]
 cases i
 cases j
 simp
section
variable {X:Cx}{a b c:Expr}{ta tb tc:TE}{pos:Pos}
theorem qF_ {pins:List (Addr × Obj)}{σ:St}{H:Hp}{s:Shared}{Q:VK}{k k':Bool} (I:Inv X pins σ H s) (q:Q (.bl k) H) (e:k=k'):EP X pins σ Q (.bool k') s:=by
 subst e;exact ⟨.bl k,H,I,rfl,q⟩
theorem jx_:OpR X (compareOp .Eq) rEq:=by
 intro d s σ H x y v u Q I rx ry h;obtain ⟨hs,q⟩:=h
 cases x with
 | non =>
  cases rx
  cases y with
  | non=>cases ry;exact PySem.EqNone.eq_none_none (qF_ I q (by simp))
  | bl j=>cases ry;exact PySem.EqNone.eq_none_bool (qF_ I q (by simp))
  | int j=>obtain ⟨t',rfl⟩:=ry;exact PySem.EqNone.eq_none_int (qF_ I q (by simp))
  | str j=>obtain ⟨t',rfl⟩:=ry;exact PySem.EqNone.eq_none_str (qF_ I q (by simp))
  | _=>exact absurd (show false=true from hs) bW
 | bl i =>
  cases rx
  cases y with
  | non=>cases ry;exact PySem.EqNone.eq_bool_none (qF_ I q (by simp))
  | bl j=>cases ry;exact eq_bool (qF_ I q qjs_)
  | str j=>obtain ⟨t',rfl⟩:=ry;exact PySem.EqMixed.eq_bool_str (qF_ I q (by simp))
  | _=>exact absurd (show false=true from hs) bW
 | int i =>
  obtain ⟨t,rfl⟩:=rx
  cases y with
  | non=>cases ry;exact PySem.EqNone.eq_int_none (qF_ I q (by simp))
  | int j=>obtain ⟨t',rfl⟩:=ry;exact eq_int (qF_ I q qgp_)
  | str j=>obtain ⟨t',rfl⟩:=ry;exact PySem.EqMixed.eq_int_str (qF_ I q (by simp))
  | _=>exact absurd (show false=true from hs) bW
 | str i =>
  obtain ⟨t,rfl⟩:=rx
  cases y with
  | non=>cases ry;exact PySem.EqNone.eq_str_none (qF_ I q (by simp))
  | bl j=>cases ry;exact PySem.EqMixed.eq_str_bool (qF_ I q (by simp))
  | int j=>obtain ⟨t',rfl⟩:=ry;exact PySem.EqMixed.eq_str_int (qF_ I q (by simp))
  | str j=>obtain ⟨t',rfl⟩:=ry;exact eq_str (qF_ I q qgq_)
  | _=>exact absurd (show false=true from hs) bW
 | byt i =>
  obtain ⟨t,rfl⟩:=rx
  cases y with
  | byt j=>obtain ⟨t',rfl⟩:=ry;exact PySem.W.eq_bytes (qF_ I q qgr_)
  | _=>exact absurd (show false=true from hs) bW
 | _=>cases y <;> exact absurd (show false=true from hs) bW
theorem zq_:OpR X (compareOp .NotEq) rNe:=by
 intro d s σ H x y v u Q I rx ry h;obtain ⟨hs,q⟩:=h
 cases x with
 | non =>
  cases rx
  cases y with
  | non=>cases ry;exact PySem.EqNone.ne_none_none (qF_ I q (by simp))
  | bl j=>cases ry;exact PySem.EqNone.ne_none_bool (qF_ I q (by simp))
  | int j=>obtain ⟨t',rfl⟩:=ry;exact PySem.EqNone.ne_none_int (qF_ I q (by simp))
  | str j=>obtain ⟨t',rfl⟩:=ry;exact PySem.EqNone.ne_none_str (qF_ I q (by simp))
  | _=>exact absurd (show false=true from hs) bW
 | bl i =>
  cases rx
  cases y with
  | non=>cases ry;exact PySem.EqNone.ne_bool_none (qF_ I q (by simp))
  | bl j=>cases ry;exact ne_bool (qF_ I q (congrArg not qjs_))
  | str j=>obtain ⟨t',rfl⟩:=ry;exact PySem.EqMixed.ne_bool_str (qF_ I q (by simp))
  | _=>exact absurd (show false=true from hs) bW
 | int i =>
  obtain ⟨t,rfl⟩:=rx
  cases y with
  | non=>cases ry;exact PySem.EqNone.ne_int_none (qF_ I q (by simp))
  | int j=>obtain ⟨t',rfl⟩:=ry;exact ne_int (qF_ I q (congrArg not qgp_))
  | str j=>obtain ⟨t',rfl⟩:=ry;exact PySem.EqMixed.ne_int_str (qF_ I q (by simp))
  | _=>exact absurd (show false=true from hs) bW
 | str i =>
  obtain ⟨t,rfl⟩:=rx
  cases y with
  | non=>cases ry;exact PySem.EqNone.ne_str_none (qF_ I q (by simp))
  | bl j=>cases ry;exact PySem.EqMixed.ne_str_bool (qF_ I q (by simp))
  | int j=>obtain ⟨t',rfl⟩:=ry;exact PySem.EqMixed.ne_str_int (qF_ I q (by simp))
  | str j=>obtain ⟨t',rfl⟩:=ry;exact ne_str (qF_ I q (congrArg not qgq_))
  | _=>exact absurd (show false=true from hs) bW
 | byt i =>
  obtain ⟨t,rfl⟩:=rx
  cases y with
  | byt j=>obtain ⟨t',rfl⟩:=ry;exact PySem.W.ne_bytes (qF_ I q (congrArg not qgr_))
  | _=>exact absurd (show false=true from hs) bW
 | _=>cases y <;> exact absurd (show false=true from hs) bW
theorem yl_:OpR X (compareOp .Lt) (rI0 fun i j=>.bl (decide (i < j))):=opB0 fun _ _ _ _ _ _ _ q=>lt_int q
theorem j3_:OpR X (compareOp .Gt) (rI0 fun i j=>.bl (decide (j < i))):=opB0 fun _ _ _ _ _ _ _ q=>gt_int q
theorem uW_:OpR X (compareOp .GtE) (rI0 fun i j=>.bl (decide (j<=i))):=opB0 fun _ _ _ _ _ _ _ q=>ge_int q
inductive qdv_ (x y:V) (H:Hp) (Q:VK):Prop
 | mk:y=.non->Q (.bl (decide (x=.non))) H->qdv_ x y H Q
theorem vp_:OpR X (compareOp .Is) (qdv_):=by
 intro d s σ H x y v u Q I rx ry h;obtain ⟨rfl,q⟩:=h
 cases ry;refine is_none_gen (qF_ I q ?_)
 cases x <;> first
  | (cases rx;rfl)
  | (obtain ⟨t,rfl⟩:=rx;rfl)
inductive qbp_ (x y:V) (H:Hp) (Q:VK):Prop
 | mk:y=.non->Q (.bl (!decide (x=.non))) H->qbp_ x y H Q
theorem jg_:OpR X (compareOp .IsNot) (qbp_):=by
 intro d s σ H x y v u Q I rx ry h;obtain ⟨rfl,q⟩:=h
 cases ry;refine isnot_none_gen (qF_ I q ?_)
 cases x <;> first
  | (cases rx;rfl)
  | (obtain ⟨t,rfl⟩:=rx;rfl)
theorem qp_ (b:Expr) {op:CmpOp} (h:op≠.In:=by decide) (h2:op≠.NotIn:=by decide):behindInMarks op b=false:=by
 have e1:(op == CmpOp.In)=false:=by cases op <;> first | rfl | exact absurd rfl h
 have e2:(op == CmpOp.NotIn)=false:=by cases op <;> first | rfl | exact absurd rfl h2
 cases b <;> simp [behindInMarks,e1,e2]
theorem yq_ {op:CmpOp}{r:R2} (ho:OpR X (compareOp op) r) (ha:PE X a ta) (hb:PE X b tb) (hm:behindInMarks op b=false):PE X (.Compare a [op] [b] pos) (tOp r ta tb):=by
 intro d s σ H Q I h;exact wpAny_Compare1 (binT ha hb I h fun v u s2 x y H2 I2 rx ry q=>ho d s2 σ H2 x y v u Q I2 rx ry q) hm
inductive qgs_ (Q:Bool->Hp->Prop) (x:V) (H':Hp):Prop
 | mk:∀ k,x=.bl k->Q k H'->qgs_ Q x H'
def qqs_ (t:TE):TT:=fun σ H Q=>t σ H fun x H'=>qgs_ Q x H'
theorem qn_ {op:CmpOp}{r:R2} (ho:OpR X (compareOp op) r) (ha:PE X a ta) (hb:PE X b tb) (hm:behindInMarks op b=false):PT X (.Compare a [op] [b] pos) (qqs_ (tOp r ta tb)):=by
 intro d s σ H Q I h
 refine wpAny_isTrue_Compare1 (thn (ha d s σ H _ I h) fun v s1 ⟨x,H1,I1,r1,q1⟩=>thn (hb d s1 σ H1 _ I1 q1) fun u s2 ⟨y,H2,I2,r2,q2⟩ =>
  thn (ho d s2 σ H2 x y v u _ I2 r1 r2 q2) fun c s3 ⟨z,H3,I3,r3,k,e,q3⟩=>?_) hm
 subst e
 cases r3;exact dG ⟨H3,I3,q3⟩
theorem vq_:(sizeLine:Nat) < 2 ^ 63:=by rw [sizeLine_eq];decide
theorem jy_ {x:V}{us:List Value} (r:Vals [x] us):∃ u,us=[u]/\RelV x u:=by
 cases r with
 | cons r1 r2=>cases r2;exact ⟨_,rfl,r1⟩
theorem vX_ {x y:V}{us:List Value} (r:Vals [x,y] us):∃ u w',us=[u,w']/\RelV x u/\RelV y w':=by
 cases r with
 | cons r1 r2 =>
  cases r2 with
  | cons r3 r4=>cases r4;exact ⟨_,_,rfl,r1,r3⟩
inductive ub_ (xs:List V) (H:Hp) (Q:VK):Prop
 | mk:∀ i j,xs=[.int i,.int j]->(Q (.int (if j > i then j else i)) H)->ub_ xs H Q
theorem qjt_ (hc:X.calm=true):jr_ X (.builtin "max") (ub_):=by
 intro d s σ H xs us Q I r h;obtain ⟨i,j,rfl,q⟩:=h;obtain ⟨u,w',rfl,⟨t,rfl⟩,⟨t',rfl⟩⟩:=vX_ r;refine max_two_ints (I.ok.hd hc) fun h' tk k=>⟨_,H,I.kept k,?_,q⟩
 by_cases hj:j > i
 ·rw [if_pos hj,if_pos hj];exact ⟨_,rfl⟩
 ·rw [if_neg hj,if_neg hj];exact ⟨_,rfl⟩
inductive uc_ (xs:List V) (H:Hp) (Q:VK):Prop
 | mk:∀ i j,xs=[.int i,.int j]->(Q (.int (if j < i then j else i)) H)->uc_ xs H Q
theorem qju_ (hc:X.calm=true):jr_ X (.builtin "min") (uc_):=by
 intro d s σ H xs us Q I r h;obtain ⟨i,j,rfl,q⟩:=h;obtain ⟨u,w',rfl,⟨t,rfl⟩,⟨t',rfl⟩⟩:=vX_ r;refine min_two_ints (I.ok.hd hc) fun h' tk k=>⟨_,H,I.kept k,?_,q⟩
 by_cases hj:j < i
 ·rw [if_pos hj,if_pos hj];exact ⟨_,rfl⟩
 ·rw [if_neg hj,if_neg hj];exact ⟨_,rfl⟩
end
structure ObjM (h:Heap) (x dx C:Addr) (mA:Str->Option Value):Prop where
 obj:h.get? x=some (PySem.W.instObj C dx)
 ns:h.Ns1 dx mA
 ne:dx≠x
theorem qjv_ {h:Heap}{dx:Addr}{mA:Str->Option Value} (n:h.Ns1 dx mA):∃ od,h.get? dx=some od/\∀ name,PySem.W.lookIn name od=some (mA name):=by
 obtain ⟨o,es,ep,ho,hd,hk,_,hm⟩:=n;refine ⟨o,ho,fun name=>?_⟩
 have e:=hm name;unfold nsFind findBy at e;rw [<- Array.find?_toList] at e;unfold PySem.W.lookIn;rw [hd];dsimp only
 split
 ·rename_i y q
  rw [q] at e;exact congrArg some e
 ·rename_i q
  rw [q] at e
  have a:es.toList.any (·.refKey)=false:=by
   rw [List.any_eq_false];intro y hy;obtain ⟨z,t,d⟩:=hk y (Array.mem_toList_iff.mp hy)
   simp [DictEntry.refKey,d]
  have a':¬ es.toList.any (·.refKey)=true:=by rw [a];exact bW
  rw [if_neg a'];exact congrArg some e
theorem ObjM.look {h:Heap}{x dx C:Addr}{mA:Str->Option Value} (I:ObjM h x dx C mA):∃ od,PySem.W.InstAt h x (PySem.W.instObj C dx) C (some od)/\∀ name,PySem.W.lookIn name od=some (mA name) :=
 let ⟨od,ho,hl⟩:=qjv_ I.ns
 ⟨od,⟨I.obj,rfl,rfl,ho⟩,hl⟩
section
variable {prog:Program}{w:World}{A:Around}{E:Value->Shared->Prop}{s:Shared}{K:PySem.W.Frag}{x dx C f:Addr}{mA:Str->Option Value}{name:Str}{v:Value}
theorem qoc_ {expr:Bool}{Q:Value->Shared->Prop} (X:K.In s.heap) (I:ObjM s.heap x dx C mA) (hg:PySem.W.plainGet K C name=true) (hh:PySem.W.hasDictIn K C=true)
  (ha:PySem.W.findIn K (.ref C) name=some none) (hv:mA name=some v) (hv':PySem.W.handedIn v=true) (h:Q v { s with toks:=s.toks+1 }) :
  wpAny (model prog w) A (getAttr (.ref x) name expr) Q E s:=by
 obtain ⟨od,J,hl⟩:=I.look;exact PySem.W.get_value X J (eQ hg).1 (PySem.W.findObj_own hh ha rfl (by rw [hl,hv])) hv' h
theorem ql9_ {pl:Sem Bool}{Q:Value × List Value->Shared->Prop} (X:K.In s.heap) (I:ObjM s.heap x dx C mA) (hg:PySem.W.plainGet K C name=true)
  (hf:PySem.W.findIn K (.ref C) name=some (some (.ref f))) (ht:PySem.W.isFn K (.ref f)=true) (hv:mA name=none) (h:Q (.ref f,[.ref x]) s) :
  wpAny (model prog w) A (getMethod (.ref x) name pl) Q E s:=by
 obtain ⟨od,J,hl⟩:=I.look;exact PySem.W.method_fn X J (eQ hg).1 (eQ hg).2 hf (beq_iff_eq.mp ht) (by show (PySem.W.lookIn name od).map (·.isSome)=some false;rw [hl,hv];rfl) h
theorem qod_ {ns:List Str}{Q:Unit->Shared->Prop} (X:K.In s.heap) (I:ObjM s.heap x dx C mA)
  (hs:PySem.W.findIn K (.ref C) "__setattr__" = some (some (.builtin "object.__setattr__"))) (hp:PySem.W.plainOver K C=true) (ht:PySem.W.takerIn K C name=some none) (hh:PySem.W.hasDictIn K C=true)
  (hw:PySem.Within mA ns) (hsz:ns.length<=sizeLine)
  (h:∀ h',ObjM h' x dx C (fun y=>if y=name then some v else mA y)->Heap.SameBut dx s.heap h'->Q () { s with heap:=h',toks:=s.toks+2 }) :
  wpAny (model prog w) A (setAttr (.ref x) name v) Q E s:=by
 obtain ⟨od,J,hl⟩:=I.look;refine PySem.W.set_plain X J hs (PySem.W.osa_open (s:={ s with toks:=s.toks+1 }) (r:=none) X J hp ht fun b=>?_);obtain ⟨cd,hc,l⟩:=PySem.W.any_some hh
 have hx:s.heap.get? x=some ⟨.ref C,some dx,.plain,#[]⟩:=I.obj;refine bH (c7 (bH (bH (wpAny_loadPart hx (bH (PySem.W.Looks.here (s:={ s with toks:=s.toks+1 }) (PySem.W.looks_clsIn X hc) ?_))))));rw [l];refine c7 (a:=some dx) (bH (c7 (bH ?_)));refine wpAny_nsSet1 (s:={ s with toks:=s.toks+1 }) I.ns fun h' g d=>?_;obtain ⟨oD,L,H,B,D,G⟩:=g.count (PySem.Within.cons name v hw);refine bH (wpAny_lookBehind B (by rw [D];exact pastItsLine_dict (bG G (by rw [cM];omega))) ?_)
 exact c7 (h _ ⟨(d.2 _ (cJ I.ne)).trans I.obj,g,I.ne⟩ d)
theorem qma_ {R:Result->Shared->Prop}{vs:List Value}{kw:List (Str × Value)} (X:K.In s.heap) (hm:PySem.W.makesIn K C=true)
  (hi:PySem.W.findIn K (.ref C) "__init__" = some (some (.ref f))) (hf:PySem.W.typeIn K (.ref f)=some (.type "function"))
  (h:codeAny (model prog w) (A.under (.builtin "type.__call__" ⟨.ref C :: vs,kw⟩)) (.call (.ref f) ⟨.ref (s.heap.objs.size+1) :: vs,kw⟩) (PySem.W.InitBack (s.heap.objs.size+1) R)
   { s with heap:=(s.heap.push PySem.W.emptyDict).push (PySem.W.instObj C s.heap.objs.size) }) :
  codeAny (model prog w) A (.call (.ref C) ⟨vs,kw⟩) R s:=by
 obtain ⟨hh,g,d,t,os⟩:=s;exact PySem.W.make_core (PySem.W.makes_of X hm) (PySem.W.looks_findIn X hi) (fun self=>PySem.W.bind_fn X self hf) (.inl rfl) h
end
def putF (f:Str) (v:V):List (Str × V)->List (Str × V)
 | []=>[(f,v)]
 | (g,x) :: r=>if g=f then (g,v) :: r else (g,x) :: putF f v r
theorem ud_ (f g:Str) (v:V):∀ fs:List (Str × V),(putF f v fs).lookup g=if g=f then some v else fs.lookup g
 | []=>by
  show List.lookup g [(f,v)]=_
  by_cases h:g=f
  ·have hb:(g == f)=true:=beq_iff_eq.mpr h
   simp only [List.lookup,hb,if_pos h]
  ·have hb:(g == f)=false:=cP.mpr h
   simp only [List.lookup,hb,if_neg h]
 | (k,x) :: r=>by
  have ih:=ud_ f g v r;rw [show putF f v ((k,x) :: r)=(if k=f then (k,v) :: r else (k,x) :: putF f v r) from rfl]
  by_cases hk:k=f
  ·rw [if_pos hk]
   by_cases h:g=k
   ·have hb:(g == k)=true:=beq_iff_eq.mpr h
    simp only [List.lookup,hb,if_pos (h.trans hk)]
   ·have hb:(g == k)=false:=cP.mpr h
    simp only [List.lookup,hb,if_neg (fun e:g=f=>h (e.trans hk.symm))]
  ·rw [if_neg hk]
   by_cases h:g=k
   ·have hb:(g == k)=true:=beq_iff_eq.mpr h
    simp only [List.lookup,hb,if_neg (fun e:g=f=>hk (h.symm.trans e))]
   ·have hb:(g == k)=false:=cP.mpr h
    simp only [List.lookup,hb];exact ih
theorem vr_ (f:Str) (v:V):∀ fs:List (Str × V),f∈(putF f v fs).map (·.1)/\∀ g,g∈fs.map (·.1)->g∈(putF f v fs).map (·.1)
 | []=>⟨by simp [putF],fun g h=>by simp at h⟩
 | (k,x) :: r=>by
  obtain ⟨i1,i2⟩:=vr_ f v r;rw [show putF f v ((k,x) :: r)=(if k=f then (k,v) :: r else (k,x) :: putF f v r) from rfl]
  by_cases hk:k=f
  ·rw [if_pos hk]
   subst hk;exact ⟨by simp,fun g h=>by simpa using h⟩
  ·rw [if_neg hk]
   refine ⟨?_,fun g h=>?_⟩
   ·rw [cN]
    exact cz _ i1
   ·rw [cN] at h ⊢
    rcases bL.mp h with e | e
    ·exact bL.mpr (.inl e)
    ·exact cz _ (i2 g e)
theorem ue_ (f:Str) (v:V):∀ fs:List (Str × V),(putF f v fs).length<=fs.length+1
 | []=>by simp [putF]
 | (k,x) :: r=>by
  have ih:=ue_ f v r;rw [show putF f v ((k,x) :: r)=(if k=f then (k,v) :: r else (k,x) :: putF f v r) from rfl]
  by_cases hk:k=f
  ·rw [if_pos hk,cM,cM];omega
  ·rw [if_neg hk,cM,cM];omega
theorem RelO.some_of {v:V}{o:Option Value} (r:RelO (some v) o):∃ u,o=some u/\RelV v u:=by
 cases o with
 | none=>exact (show False from r).elim
 | some u=>exact ⟨u,rfl,r⟩
theorem RelO.none_of {o:Option Value} (r:RelO none o):o=none:=by
 cases o with
 | none=>rfl
 | some u=>exact (show False from r).elim
theorem qjw_ {v:V}{u:Value} (r:RelV v u):PySem.W.handedIn u=true:=by
 cases v with
 | non=>cases (show u=Value.none from r);rfl
 | bl b=>cases (show u=Value.bool b from r);rfl
 | int i=>obtain ⟨t,e⟩:=(show ∃ t,u=Value.int i t from r);cases e;rfl
 | str x=>obtain ⟨t,e⟩:=(show ∃ t,u=Value.str x t from r);cases e;rfl
 | byt b=>obtain ⟨t,e⟩:=(show ∃ t,u=Value.bytes b t from r);cases e;rfl
 | flt b=>obtain ⟨t,e⟩:=(show ∃ t,u=Value.float b t from r);cases e;rfl
 | ref a=>cases (show u=Value.ref a from r);rfl
 | ty n=>cases (show u=Value.type n from r);rfl
section
variable {P:Program}{w:World}{H H':Hp}{h h':Heap}{a C dx:Addr}{fs fs':List (Str × V)}
theorem vY_ (hok:HOk P w H h) (e:H a=some (.ins C dx fs)):∃ mA,ObjM h a dx C mA/\(∀ f,RelO (fs.lookup f) (mA f))/\PySem.Within mA (fs.map (·.1))/\fs.length<=1000/\H dx=some (.own a):=by
 obtain ⟨d,z,ne,ob,mA,n,r,q⟩:=(show ObjOk P w H h a (.ins C dx fs) from hok a _ e);exact ⟨mA,⟨ob,n,ne⟩,r,q,z,d⟩
end
structure Cls (K:PySem.W.Frag) (C:Addr):Prop where
 pg:PySem.W.plainGet K C Str.empty=true
 hd:PySem.W.hasDictIn K C=true
 po:PySem.W.plainOver K C=true
 sa:PySem.W.findIn K (.ref C) "__setattr__" = some (some (.builtin "object.__setattr__"))
theorem Cls.get {K:PySem.W.Frag}{C:Addr} (c:Cls K C) (f:Str):PySem.W.plainGet K C f=true:=c.pg
def NoAttr (K:PySem.W.Frag) (C:Addr) (f:Str):Prop:=PySem.W.findIn K (.ref C) f=some none
theorem NoAttr.taker {K:PySem.W.Frag}{C:Addr}{f:Str} (n:NoAttr K C f):PySem.W.takerIn K C f=some none:=by
 unfold PySem.W.takerIn;rw [show PySem.W.findIn K (.ref C) f=some none from n];rfl
structure Meth (K:PySem.W.Frag) (C:Addr) (m:Str) (f:Addr):Prop where
 at_:PySem.W.findIn K (.ref C) m=some (some (.ref f))
 fn:PySem.W.isFn K (.ref f)=true
 kp:PySem.W.keepIn K (.ref f)=true
section
variable {X:Cx}{pins:List (Addr × Obj)}{σ:St}{H:Hp}{s:Shared}{a C dx:Addr}{fs:List (Str × V)}{f:Str}{v:V}{A:Around}{E:Value->Shared->Prop}
theorem uX_ {b:Bool}{Q:Value->Shared->Prop} (I:Inv X pins σ H s) (e:H a=some (.ins C dx fs)) (c:Cls X.K C) (n:NoAttr X.K C f) (l:fs.lookup f=some v)
  (h:∀ u s',Inv X pins σ H s'->RelV v u->Q u s'):wpAny (model X.prog X.w) A (getAttr (.ref a) f b) Q E s:=by
 obtain ⟨mA,O,r,_,_,_⟩:=vY_ I.hok e;obtain ⟨u,hu,ru⟩:=RelO.some_of (v:=v) (o:=mA f) (by rw [<- l];exact r f)
 exact qoc_ I.kIn O (c.get f) c.hd n hu (qjw_ ru) (h u _ (I.tok _) ru)
theorem uY_ {m:Str}{g:Addr}{pl:Sem Bool}{Q:Value × List Value->Shared->Prop} (I:Inv X pins σ H s) (e:H a=some (.ins C dx fs)) (c:Cls X.K C) (k:Meth X.K C m g) (l:fs.lookup m=none)
  (h:Q (.ref g,[.ref a]) s):wpAny (model X.prog X.w) A (getMethod (.ref a) m pl) Q E s:=by
 obtain ⟨mA,O,r,_,_,_⟩:=vY_ I.hok e
 have hn:mA m=none:=RelO.none_of (by rw [<- l];exact r m)
 exact ql9_ I.kIn O (c.get m) k.at_ k.fn hn h
theorem qik_ {y:V}{u:Value}{Q:Unit->Shared->Prop} (I:Inv X pins σ H s) (e:H a=some (.ins C dx fs)) (c:Cls X.K C) (n:NoAttr X.K C f) (hl:fs.length < 1000) (ry:RelV y u)
  (h:∀ s',Inv X pins σ (upd H a (.ins C dx (putF f y fs))) s'->Q () s'):wpAny (model X.prog X.w) A (setAttr (.ref a) f u) Q E s:=by
 obtain ⟨mA,O,r,wi,_,ho⟩:=vY_ I.hok e
 have hz:(fs.map (·.1)).length<=sizeLine:=by rw [b9,sizeLine_eq];omega
 refine qod_ I.kIn O c.sa c.po n.taker c.hd wi hz fun h' O' sb=>h _ ?_
 have hd:∃ o,h'.get? dx=some o:=let ⟨o,_,_,e',_⟩:=O'.ns;⟨o,e'⟩;refine I.write (x:=a) (e:=dx) (by rw [e];exact True.intro) (.inr ho) (fun b q hb z=>(sb.2 b hb).trans z) hd ?_
 refine ⟨by rw [qd_ O.ne];exact ho,?_,O.ne,O'.obj,_,O'.ns,fun g=>?_,fun g hg=>?_⟩
 ·have:=ue_ f y fs;omega
 ·show RelO ((putF f y fs).lookup g) (if g=f then some u else mA g)
  rw [ud_]
  by_cases q:g=f
  ·rw [if_pos q,if_pos q];exact ry
  ·rw [if_neg q,if_neg q];exact r g
 ·by_cases q:g=f
  ·rw [q];exact (vr_ f y fs).1
  ·refine (vr_ f y fs).2 g (wi g fun z=>hg ?_)
   show (if g=f then some u else mA g)=none
   rw [if_neg q];exact z
theorem Inv.made (I:Inv X pins σ H s):Inv X pins σ (upd (upd H s.heap.objs.size (.own (s.heap.objs.size+1))) (s.heap.objs.size+1) (.ins C s.heap.objs.size []))
  { s with heap:=(s.heap.push PySem.W.emptyDict).push (PySem.W.instObj C s.heap.objs.size) }:=by
 have e1:(s.heap.push PySem.W.emptyDict).get? s.heap.objs.size=some PySem.W.emptyDict:=bZ s.heap rfl
 have e2:((s.heap.push PySem.W.emptyDict).push (PySem.W.instObj C s.heap.objs.size)).get? (s.heap.objs.size+1)=some (PySem.W.instObj C s.heap.objs.size):=by
  have:=bZ (s.heap.push PySem.W.emptyDict) (o:=PySem.W.instObj C s.heap.objs.size) rfl
  rwa [Heap.size_push] at this
 have e3:(s.heap.push PySem.W.emptyDict).Ns s.heap.objs.size (fun _=>none):=⟨PySem.W.emptyDict,#[],_,e1,rfl,(fun e he=>absurd he (by simp)),fun _=>rfl⟩
 have I1:=I.laid (a:=s.heap.objs.size) (o:=.own (s.heap.objs.size+1)) (h':=s.heap.push PySem.W.emptyDict) (t':=s.toks) (fun b u q=>bD _ q) (bF _) ⟨_,e1⟩;refine I1.laid (a:=s.heap.objs.size+1) (o:=.ins C s.heap.objs.size []) (t':=s.toks) (fun b u q=>bD _ q) (Nat.le_of_eq (Heap.size_push _ _)) ?_
 have ne:s.heap.objs.size≠s.heap.objs.size+1:=bP (cm _);refine ⟨by rw [qd_ ne,qc_],cn _,ne,e2,fun _=>none,(Heap.Ns1.of_empty e3).at fun o q=>bD _ q,fun _=>True.intro,fun y hy=>absurd rfl hy⟩
theorem qoe_ {prog:Program}{w:World}{env:Env}{e:Expr}{f:Str}{pos:Pos}{s:Shared}{Q:Value->Shared->Prop} (hb:attributeBase e f env (eval e env)=eval e env)
  (h:wpAny (model prog w) A (eval e env) (fun o s₁=>wpAny (model prog w) A (getAttr o f true) Q E s₁) E s):wpAny (model prog w) A (eval (.Attribute e f pos) env) Q E s :=
 Attribute_any_ h (by rw [arm_eval_Attribute,hb])
end
inductive qjx_ (K:PySem.W.Frag) (f:Str) (Q:VK) (x:V) (H1:Hp):Prop
 | mk:∀ a C dx fs v,x=.ref a->H1 a=some (.ins C dx fs)->Cls K C->NoAttr K C f->fs.lookup f=some v->Q v H1->qjx_ K f Q x H1
def tFld (K:PySem.W.Frag) (ta:TE) (f:Str):TE:=fun σ H Q=>ta σ H fun x H1=>qjx_ K f Q x H1
inductive qjy_ (K:PySem.W.Frag) (f:Str) (D:Ends) (σ:St) (y x:V) (H2:Hp):Prop
 | mk:∀ a C dx fs,x=.ref a->H2 a=some (.ins C dx fs)->Cls K C->NoAttr K C f->fs.length < 1000->D.nx σ (upd H2 a (.ins C dx (putF f y fs)))->qjy_ K f D σ y x H2
def sFld (K:PySem.W.Frag) (ta tv:TE) (f:Str):TS:=fun D σ H=>tv σ H fun y H1=>ta σ H1 fun x H2=>qjy_ K f D σ y x H2
section
variable {X:Cx}{o e value:Expr}{f:Str}{pos pos' tpos:Pos}{ta tv:TE}
theorem qt_ (he:PE X e ta) (hb:attributeBase e f X.env (eval e X.env)=eval e X.env):PE X (.Attribute e f pos) (tFld X.K ta f):=by
 intro d s σ H Q I h;refine qoe_ hb (thn (he d s σ H _ I h) fun u s1 ⟨x,H1,I1,rx,a,C,dx,fs,v,ex,ea,c,n,l,q⟩=>?_);subst ex;obtain rfl:u=Value.ref a:=rx;exact uX_ I1 ea c n l fun u' s2 I2 ru=>⟨v,H1,I2,ru,q⟩
theorem jd_ (ha:PE X o ta) (hv:PE X value tv) (hs:swapsWith value (some (.Attribute o f pos')) pos.line X.env=pure false):PS X (.Assign [.Attribute o f pos'] value pos) (sFld X.K ta tv f):=by
 intro d s σ H D I h;refine plainObj_wpAny_Assign_Attribute (thn (hv d s σ H _ I h) fun u s1 ⟨y,H1,I1,ry,q⟩=>thn (ha d s1 σ H1 _ I1 q) fun ov s2 ⟨x,H2,I2,rx,a,C,dx,fs,ex,ea,c,n,l,q2⟩=>?_) hs;subst ex;obtain rfl:ov=Value.ref a:=rx;exact qik_ I2 ea c n l ry fun s3 I3=>⟨σ,_,I3,q2⟩
end
section
variable {X:Cx}{pins:List (Addr × Obj)}{σ:St}{H:Hp}{s:Shared}{A:Around}{E:Value->Shared->Prop}{Q:Value->Shared->Prop}{c:Value}{b:Bool}
end
structure Room (k:Nat) (A:Around):Prop where
 hd:A.handled=none
 dp:A.depth+3 * k+5 < recursionLimit
 un:A.units+16 * k+200 < cLine
 gd:A.guards=some []:=by rfl
theorem Room.mono {j k:Nat}{A:Around} (r:Room k A) (h:j<=k):Room j A:=⟨r.hd,by have:=r.dp;omega,by have:=r.un;omega,r.gd⟩
theorem Room.deeper {k:Nat}{A:Around} (r:Room (k+1) A) (env:Env):Room k (A.deeper env) :=
 ⟨r.hd,by have:=r.dp;show A.depth+1+3 * k+5 < _;omega,by have:=r.un;show A.units+3+16 * k+200 < _;omega,r.gd⟩
theorem Room.in1 {k:Nat}{A:Around} (r:Room (k+1) A):Room k A.in1 :=
 ⟨r.hd,by have:=r.dp;show A.depth+3 * k+5 < _;omega,by have:=r.un;show A.units+1+16 * k+200 < _;omega,r.gd⟩
theorem qil_ {A:Around}{C:Addr}{us:List Value}{kw:List (Str × Value)}:(A.under (.builtin "type.__call__" ⟨.ref C :: us,kw⟩)).depth=A.depth+1:=by
 first | rfl | simp [Around.under,Code.weight,Code.isCreation,Code.isGuard,Code.isCaller,Code.frames,Code.isFrame,guardIds]
theorem qim_ {A:Around}{C:Addr}{us:List Value}{kw:List (Str × Value)}:(A.under (.builtin "type.__call__" ⟨.ref C :: us,kw⟩)).units=A.units+1:=by
 first | rfl | simp [Around.under,Code.cUnits,Code.frames,Code.isFrame]
theorem Room.make {k:Nat}{A:Around} (r:Room (k+1) A) (C:Addr) (us:List Value) (kw:List (Str × Value)):Room k (A.under (.builtin "type.__call__" ⟨.ref C :: us,kw⟩)) :=
 ⟨r.hd,by have:=r.dp;rw [qil_];omega,by have:=r.un;rw [qim_];omega,by have:=r.gd;first | exact this | simp [Around.under,Code.weight,Code.isCreation,Code.isGuard,Code.isCaller,Code.frames,Code.isFrame,guardIds,this]⟩
theorem Room.depth {k:Nat}{A:Around} (r:Room k A):A.depth < recursionLimit:=by have:=r.dp;omega
theorem Room.units {k:Nat}{A:Around} (r:Room k A):A.units+64 < cLine:=by have:=r.un;omega
def tNil:TA:=fun _ H Q=>Q [] H
def qqt_ (ta:TE) (tr:TA):TA:=fun σ H Q=>ta σ H fun x H1=>tr σ H1 fun xs H2=>Q (x :: xs) H2
section
variable {X:Cx}{e:Expr}{es:List Expr}{te:TE}{t:TA}{pos:Pos}
theorem qb_:PA X [] tNil:=fun _ _ _ _ H Q I h=>Calls.spliced_nil ⟨[],H,I,.nil,h⟩
theorem qa_ (ha:PE X e te) (hr:PA X es t) (hs:starEach (e :: es) X.env=(false,eval e X.env) :: starEach es X.env:=by rfl):PA X (e :: es) (qqt_ te t):=by
 intro g d s σ H Q I h;rw [hs]
 show wpAny _ _ (spliced ((false,eval e X.env) :: backTo g (starEach es X.env))) _ _ s
 refine Calls.spliced_cons (thn (ha d s σ H _ I h) fun u s1 ⟨x,H1,I1,r1,q1⟩=>?_);exact thn (hr g d s1 σ H1 _ I1 q1) fun us s2 ⟨xs,H2,I2,r2,q2⟩=>⟨x :: xs,H2,I2,.cons r1 r2,q2⟩
def tTup (t:TA):TE:=fun σ H Q=>t σ H fun xs H1=>xs.length<=sizeLine/\∀ p,H1 p=none->Q (.ref p) (upd H1 p (.tup xs))
def tLst (t:TA):TE:=fun σ H Q=>t σ H fun xs H1=>xs.length<=sizeLine/\∀ p,H1 p=none->Q (.ref p) (upd H1 p (.lst xs))
theorem yO_ {x1} (h:PA X es t):PE X (.Tuple es x1 pos) (tTup t):=by
 intro d s σ H Q I hq;refine wpAny_Tuple_spliced (thn (h pos d s σ H _ I hq) fun us s1 ⟨xs,H1,I1,r,z,q⟩=>⟨by rw [<- r.length];exact z,?_⟩)
 have hf:H1 s1.heap.objs.size=none:=I1.hok.fresh (bF _);refine ⟨.ref s1.heap.objs.size,upd H1 s1.heap.objs.size (.tup xs),I1.laid (t':=s1.toks) (fun b u e=>bD _ e) (bF _) ?_,rfl,q _ hf⟩;exact ⟨z,us,r,⟨_,bZ _ rfl,rfl,_,rfl⟩⟩
theorem q7_ (h:PA X es t):PE X (.List es pos) (tLst t):=by
 intro d s σ H Q I hq;refine wpAny_List_spliced (thn (h pos d s σ H _ I hq) fun us s1 ⟨xs,H1,I1,r,z,q⟩=>⟨by rw [<- r.length];exact z,?_⟩)
 have hf:H1 s1.heap.objs.size=none:=I1.hok.fresh (bF _);refine ⟨.ref s1.heap.objs.size,upd H1 s1.heap.objs.size (.lst xs),I1.laid (t':=s1.toks) (fun b u e=>bD _ e) (bF _) ?_,rfl,q _ hf⟩;exact ⟨z,us,0,r,bZ _ rfl⟩
end
abbrev Sp:=List V->Hp->VK->XK->Prop
abbrev CXT:=List Env->Hp->Shared->XK->Value->Shared->Prop
structure Env0 (P:Program) (w:World) (K:PySem.W.Frag) (mg:Str->Option Value) (base:Heap) (A:Around) (outer:List Env) (s:Shared) (H:Hp):Prop where
 frames:A.frames=some outer
 mod:Mod K mg base
 bs:∀ b o,base.get? b=some o->s.heap.get? b=some o/\H b=none
 bsz:base.objs.size<=s.heap.objs.size
 funs:s.heap.FunFrames base outer
 frf:∀ b∈frs outer,H b=none
 hok:HOk P w H s.heap
 bare:AllBare s.gens
def CE (outer:List Env) (P:Program) (w:World) (H:Hp) (s:Shared) (Q:VK) (u:Value) (s':Shared):Prop :=
 ∃ v H',s'.os=s.os/\AllBare s'.gens/\Un (frs outer) [] H H' s.heap s'.heap/\HOk P w H' s'.heap/\RelV v u/\Q v H'
def CR (CX:CXT) (outer:List Env) (P:Program) (w:World) (H:Hp) (s:Shared) (Q:VK) (E:XK) (r:Result) (s':Shared):Prop :=
 match r with
 | .ok (.ret u)=>CE outer P w H s Q u s'
 | .ok _=>False
 | .error e=>CX outer H s E e s'
structure FnOk (P:Program) (w:World) (K:PySem.W.Frag) (mg:Str->Option Value) (base:Heap) (CX:CXT) (k:Nat) (f:Addr) (fd:FuncData) (ps:List Str) (sp:Sp):Prop where
 len:∀ vs H Q E,sp vs H Q E->vs.length=ps.length
 run:∀ (A:Around) (outer:List Env) (s:Shared) (H:Hp) (args:Args) (us:List Value) (vs:List V) (Q:VK) (E:XK),Room k A->Env0 P w K mg base A outer s H->BindsTo s fd args (ps.zip us)->Vals vs us->sp vs H Q E →
  codeAny (model P w) A (.call (.ref f) args) (CR CX outer P w H s Q E) s
theorem FnOk.imp {P:Program}{w:World}{K:PySem.W.Frag}{mg:Str->Option Value}{base:Heap}{CX:CXT}{k:Nat}{f:Addr}{fd:FuncData}{ps:List Str}{sp sp':Sp} (F:FnOk P w K mg base CX k f fd ps sp)
  (h:∀ vs H Q E,sp' vs H Q E->sp vs H Q E):FnOk P w K mg base CX k f fd ps sp' :=
 ⟨fun vs H Q E q=>F.len vs H Q E (h _ _ _ _ q),fun A outer s H args us vs Q E hr he hb hv hs=>F.run A outer s H args us vs Q E hr he hb hv (h _ _ _ _ hs)⟩
theorem Env0.make {P:Program}{w:World}{K:PySem.W.Frag}{mg:Str->Option Value}{base:Heap}{A:Around}{outer:List Env}{s:Shared}{H:Hp} (e:Env0 P w K mg base A outer s H) (C:Addr) (us:List Value) (kw:List (Str × Value)) :
  Env0 P w K mg base (A.under (.builtin "type.__call__" ⟨.ref C :: us,kw⟩)) outer s H:=⟨by first | exact e.frames | (simpa [Around.under,Code.envs,Code.isFrame,pushEnvs] using e.frames),e.mod,e.bs,e.bsz,e.funs,e.frf,e.hok,e.bare⟩
section
variable {X:Cx}{pins:List (Addr × Obj)}{σ:St}{H:Hp}{s s':Shared}
theorem Inv.env0 (I:Inv X pins σ H s):Env0 X.prog X.w X.K X.mg X.base X.A X.stack s H :=
 ⟨I.ok.frames,I.ok.mod,I.bs,bG I.ok.bsz I.sz,I.stack,I.stkFree,I.hok,I.bare⟩
theorem Inv.after {Q:VK}{u:Value} (I:Inv X pins σ H s) (h:CE X.stack X.prog X.w H s Q u s'):EP X pins σ Q u s':=by
 obtain ⟨v,H',os,bare,un,hok,r,q⟩:=h;obtain ⟨hh,g,d,t,l⟩:=s';obtain rfl:l=s.os:=os;exact ⟨v,H',I.call (h':=hh) (g':=g) (d':=d) (t':=t) (ch:=[]) un hok bare (fun b z=>absurd z (by simp)),r,q⟩
end
def qqu_ (sp:Sp) (dvs:List V) (E:XK) (t:TA):TE:=fun σ H Q=>t σ H fun vs H1=>sp (vs++dvs) H1 Q E
inductive qgt_ (C:Addr) (m:Str) (sp:Sp) (dvs:List V) (E:XK) (t:TA) (σ:St) (Q:VK) (x:V) (H1:Hp):Prop
 | mk:∀ a dx fs,x=.ref a->H1 a=some (.ins C dx fs)->fs.lookup m=none->(t σ H1 fun vs H2=>sp (x :: (vs++dvs)) H2 Q E)->qgt_ C m sp dvs E t σ Q x H1
def qnw_ (C:Addr) (m:Str) (sp:Sp) (dvs:List V) (E:XK) (ta:TE) (t:TA):TE:=fun σ H Q=>ta σ H fun x H1=>qgt_ C m sp dvs E t σ Q x H1
def qqv_ (C:Addr) (sp:Sp) (dvs:List V) (E:XK) (t:TA):TE:=fun σ H Q=>t σ H fun vs H1=>∀ x dx,H1 x=none->H1 dx=none->dx≠x →
 sp (.ref x :: (vs++dvs)) (upd (upd H1 dx (.own x)) x (.ins C dx [])) (fun v H2=>v=.non/\Q (.ref x) H2) E
def Binds (K:PySem.W.Frag) (fd:FuncData) (ps:List Str) (ds:List Value):Prop :=
 ∀ (s:Shared) (us:List Value),K.In s.heap->(us++ds).length=ps.length->BindsTo s fd ⟨us,[]⟩ (ps.zip (us++ds))
theorem Binds.all {K:PySem.W.Frag}{fd:FuncData}{ps:List Str} (h:∀ us:List Value,us.length=ps.length->bindArgs fd ⟨us,[]⟩=pure (ps.zip us)):Binds K fd ps []:=fun s us _ hl=>by
 rw [dA] at hl ⊢;exact .of_eq (h us hl)
def zc_ (CX:CXT) (X:Cx) (E:XK):Prop:=∀ (pins:List (Addr × Obj)) (σ:St) (H:Hp) (s:Shared) (e:Value) (s':Shared),Inv X pins σ H s->CX X.stack H s E e s'->X.xe e s'
section
variable {X:Cx}{CX:CXT}{k:Nat}{f C:Addr}{fd:FuncData}{ps:List Str}{sp:Sp}{dvs:List V}{ds:List Value}{E:XK}{x m:Str}{p pos apos:Pos}{e o:Expr}{es:List Expr}{ta:TE}{t:TA}
theorem qdw_ {pins:List (Addr × Obj)}{σ:St}{H:Hp}{s:Shared}{Q:VK}{us:List Value}{vs:List V} (F:FnOk X.prog X.w X.K X.mg X.base CX k f fd ps sp) (hr:Room k X.A) (hb:Binds X.K fd ps ds) (hd:Vals dvs ds) (hx:zc_ CX X E)
  (I:Inv X pins σ H s) (r:Vals vs us) (h:sp (vs++dvs) H Q E):wpAny (model X.prog X.w) X.A (call (.ref f) us) (EP X pins σ Q) X.xe s:=by
 have r2:Vals (vs++dvs) (us++ds):=r.append hd
 have hl:(us++ds).length=ps.length:=by rw [<- r2.length];exact F.len _ _ _ _ h
 refine wpAny_call (fA (F.run X.A X.stack s H ⟨us,[]⟩ (us++ds) (vs++dvs) Q E hr I.env0 (hb s us I.kIn hl) r2 h) fun r s' hq=>?_)
 cases r with
 | error e=>exact hx pins σ H s e s' I hq
 | ok fl =>
  cases fl with
  | ret u=>exact I.after hq
  | next=>exact False.elim hq
  | brk=>exact False.elim hq
  | cont=>exact False.elim hq
theorem qq_ (F:FnOk X.prog X.w X.K X.mg X.base CX k f fd ps sp) (hr:Room k X.A) (hg:Gl X x) (hm:X.mg x=some (.ref f)) (hk:PySem.W.keepIn X.K (.ref f)=true) (hb:Binds X.K fd ps ds) (hd:Vals dvs ds) (hx:zc_ CX X E)
  (ha:PA X (e :: es) t) (hdb:(x == ("__debug__" : Str))=false:=by decide) (he:starEach (e :: es) X.env=(false,eval e X.env) :: starEach es X.env:=by rfl) (hpl:(backTo pos (starEach es X.env)).any (·.1)=false:=by rfl) :
  PE X (.Call (.Name x p) (e :: es) [] pos) (qqu_ sp dvs E t):=by
 intro d s σ H Q I h;refine dJ (qa0_ I hg hm ?_ hdb);refine PySem.W.callWith_K (h₀:=X.base) I.ok.mod.kin hk (thn (ha pos d s σ H _ I h) fun us s1 ⟨vs,H1,I1,r,q⟩=>⟨I1.kIn,?_⟩) he hpl;exact qdw_ F hr hb hd hx I1 r q
theorem qx_ {pl:Sem Bool} (he:PE X o ta) (c:Cls X.K C) (hm:Meth X.K C m f) (F:FnOk X.prog X.w X.K X.mg X.base CX k f fd ps sp) (hr:Room k X.A) (hb:Binds X.K fd ps ds) (hd:Vals dvs ds) (hx:zc_ CX X E) (ha:PA X (e :: es) t)
  (hst:starEach (e :: es) X.env=(false,eval e X.env) :: starEach es X.env:=by rfl) (hpl:(backTo pos (starEach es X.env)).any (·.1)=false:=by rfl)
  (ht:eval (.Call (.Attribute o m apos) (e :: es) [] pos) X.env=(do
   let ov ← eval o X.env
   standAt apos.atName
   let (f,first) ← holding [ov] (getMethod ov m pl)
   callWith pos f first (backTo pos (starEach (e :: es) X.env)) (backToKw pos (keywordEach [] X.env))):=by rfl) :
  PE X (.Call (.Attribute o m apos) (e :: es) [] pos) (qnw_ C m sp dvs E ta t):=by
 intro d s σ H Q I h;refine PySem.W.methodCall_KW (pl:=pl) (thn (he d s σ H _ I h) fun u s1 ⟨x,H1,I1,rx,a,dx,fs,ex,ea,l,q⟩=>?_) ht;subst ex;obtain rfl:u=Value.ref a:=rx;refine uY_ I1 ea c hm l ?_;refine PySem.W.callWith_K (first:=[.ref a]) (h₀:=X.base) I.ok.mod.kin hm.kp (thn (ha pos d s1 σ H1 _ I1 q) fun us s2 ⟨vs,H2,I2,r,q2⟩=>⟨I2.kIn,?_⟩) hst hpl;exact qdw_ (us:=.ref a :: us) (vs:=.ref a :: vs) F hr hb hd hx I2 (.cons rfl r) q2
theorem jV_ {pl:Sem Bool} (he:PE X o ta) (c:Cls X.K C) (hm:Meth X.K C m f) (F:FnOk X.prog X.w X.K X.mg X.base CX k f fd ps sp) (hr:Room k X.A) (hb:Binds X.K fd ps ds) (hd:Vals dvs ds) (hx:zc_ CX X E)
  (ht:eval (.Call (.Attribute o m apos) [] [] pos) X.env=(do
   let ov ← eval o X.env
   standAt apos.atName
   let (f,first) ← holding [ov] (getMethod ov m pl)
   callWith pos f first (backTo pos (starEach [] X.env)) (backToKw pos (keywordEach [] X.env))):=by rfl) :
  PE X (.Call (.Attribute o m apos) [] [] pos) (qnw_ C m sp dvs E ta tNil):=by
 intro d s σ H Q I h;refine PySem.W.methodCall_KW (pl:=pl) (thn (he d s σ H _ I h) fun u s1 ⟨x,H1,I1,rx,a,dx,fs,ex,ea,l,q⟩=>?_) ht;subst ex;obtain rfl:u=Value.ref a:=rx;refine uY_ I1 ea c hm l ?_;exact PySem.W.callWith_K0 (first:=[.ref a]) I1.kIn hm.kp (qdw_ (us:=[.ref a]) (vs:=[.ref a]) F hr hb hd hx I1 (.cons rfl .nil) q)
structure Mk (K:PySem.W.Frag) (C f:Addr):Prop where
 makes:PySem.W.makesIn K C=true
 init:PySem.W.findIn K (.ref C) "__init__" = some (some (.ref f))
 fn:PySem.W.isFn K (.ref f)=true
 kp:PySem.W.keepIn K (.ref C)=true
theorem qmb_ {pins:List (Addr × Obj)}{σ:St}{H:Hp}{s:Shared}{Q:VK}{us:List Value}{vs:List V} (M:Mk X.K C f) (F:FnOk X.prog X.w X.K X.mg X.base CX k f fd ps sp) (hr:Room (k+1) X.A) (hb:Binds X.K fd ps ds) (hd:Vals dvs ds)
  (hx:zc_ CX X E) (I:Inv X pins σ H s) (r:Vals vs us)
  (h:∀ x dx,H x=none->H dx=none->dx≠x->sp (.ref x :: (vs++dvs)) (upd (upd H dx (.own x)) x (.ins C dx [])) (fun v H2=>v=.non/\Q (.ref x) H2) E) :
  wpAny (model X.prog X.w) X.A (call (.ref C) us) (EP X pins σ Q) X.xe s:=by
 have hq:=h (s.heap.objs.size+1) s.heap.objs.size (I.hok.fresh (eF _)) (I.hok.fresh (bF _)) (bP (cm _))
 have I2:=Inv.made (C:=C) I
 have r2:Vals (V.ref (s.heap.objs.size+1) :: (vs++dvs)) (Value.ref (s.heap.objs.size+1) :: (us++ds)):=.cons rfl (r.append hd)
 have hl:(Value.ref (s.heap.objs.size+1) :: us++ds).length=ps.length:=by
  have e:=r2.length;rw [F.len _ _ _ _ hq] at e;exact e.symm
 refine wpAny_call (qma_ (f:=f) I.kIn M.makes M.init (beq_iff_eq.mp M.fn) (fA (F.run _ X.stack _ _ ⟨Value.ref (s.heap.objs.size+1) :: us,[]⟩ (Value.ref (s.heap.objs.size+1) :: (us++ds)) _ _ E (hr.make C us [])
  (I2.env0.make C us []) (hb _ (Value.ref (s.heap.objs.size+1) :: us) I2.kIn hl) r2 hq) fun r s' d=>?_))
 cases r with
 | error e=>exact hx pins σ _ _ e s' I2 d
 | ok fl =>
  cases fl with
  | ret u =>
   obtain ⟨v,H',I3,rv,ev,q3⟩:=I2.after d;subst ev;exact ⟨rv,⟨V.ref (s.heap.objs.size+1),H',I3,rfl,q3⟩⟩
  | next=>exact False.elim d
  | brk=>exact False.elim d
  | cont=>exact False.elim d
theorem vZ_ (M:Mk X.K C f) (F:FnOk X.prog X.w X.K X.mg X.base CX k f fd ps sp) (hr:Room (k+1) X.A) (hg:Gl X x) (hm:X.mg x=some (.ref C)) (hb:Binds X.K fd ps ds) (hd:Vals dvs ds) (hx:zc_ CX X E)
  (ha:PA X (e :: es) t) (hdb:(x == ("__debug__" : Str))=false:=by decide) (he:starEach (e :: es) X.env=(false,eval e X.env) :: starEach es X.env:=by rfl) (hpl:(backTo pos (starEach es X.env)).any (·.1)=false:=by rfl) :
  PE X (.Call (.Name x p) (e :: es) [] pos) (qqv_ C sp dvs E t):=by
 intro d s σ H Q I h;refine dJ (qa0_ I hg hm ?_ hdb);refine PySem.W.callWith_K (h₀:=X.base) I.ok.mod.kin M.kp (thn (ha pos d s σ H _ I h) fun us s1 ⟨vs,H1,I1,r,q⟩=>⟨I1.kIn,?_⟩) he hpl;exact qmb_ M F hr hb hd hx I1 r q
end
section
variable {X:Cx}{CX:CXT}{k:Nat}{f C:Addr}{fd:FuncData}{ps ks:List Str}{sp:Sp}{E:XK}{x m:Str}{p pos apos kpos:Pos}{e o:Expr}{es:List Expr}{kws:List Keyword}{te ta:TE}{t tk:TA}{nm:Option Str}
variable {g:List Value->List Value->List Value}{gV:List V->List V->List V}
end
structure qk_ (N P:List Str) (sc:Scope):Prop where
 kind:sc.kind=.function
 co:sc.isCoroutine=false
 gen:sc.isGenerator=false
 nd:N.Nodup
 pre:N.take P.length=P
 par:∀ x∈P,sc.names.lookup x=some .local\/sc.names.lookup x=some .cell
 nofree:∀ y∈sc.names,y.2≠.free
theorem qbq_ {kindOf:Str->Option NameKind}{x:Str}:∀ {binds:List (Str × Value)}{m:Str->Option Value},(∀ v,(x,v)∉binds)->bindL kindOf binds m x=m x
 | [],_,_=>rfl
 | (n,v) :: r,m,h=>by
  unfold bindL;rw [qbq_ fun w hw=>h w (cz _ hw)]
  split
  ·have:x≠n:=by rintro rfl;exact h v cF
   simp [this]
  ·rfl
theorem qbr_ {kindOf:Str->Option NameKind}{x:Str}:∀ {binds:List (Str × Value)}{m:Str->Option Value},(∀ v,(x,v)∉binds)->bindC kindOf binds m x=m x
 | [],_,_=>rfl
 | (n,v) :: r,m,h=>by
  unfold bindC;rw [qbr_ fun w hw=>h w (cz _ hw)]
  split
  ·rfl
  ·have:x≠n:=by rintro rfl;exact h v cF
   simp [this]
theorem qbs_ {kindOf:Str->Option NameKind}{x:Str}{v:Value}:∀ {P:List Str}{vs:List Value}{i:Nat}{m:Str->Option Value},P.Nodup->P[i]?=some x->vs[i]?=some v->kindOf x=some .local →
  bindL kindOf (P.zip vs) m x=some v
 | [],_,_,_,_,h,_,_=>by simp at h
 | _ :: _,[],_,_,_,_,h,_=>by simp at h
 | p :: P,w :: vs,0,m,nd,h1,h2,hk=>by
  simp at h1 h2;subst h1;subst h2
  show bindL kindOf ((p,w) :: P.zip vs) m p=_
  unfold bindL;rw [qbq_ fun v hv=>(dI.mp nd).1 (fm hv).1,if_pos hk]
  simp
 | p :: P,w :: vs,i+1,m,nd,h1,h2,hk=>by
  show bindL kindOf ((p,w) :: P.zip vs) m x=_
  unfold bindL;exact qbs_ (i:=i) (dI.mp nd).2 (by simpa using h1) (by simpa using h2) hk
theorem qbt_ {kindOf:Str->Option NameKind}{x:Str}{v:Value}:∀ {P:List Str}{vs:List Value}{i:Nat}{m:Str->Option Value},P.Nodup->P[i]?=some x->vs[i]?=some v->kindOf x≠some .local →
  bindC kindOf (P.zip vs) m x=some v
 | [],_,_,_,_,h,_,_=>by simp at h
 | _ :: _,[],_,_,_,_,h,_=>by simp at h
 | p :: P,w :: vs,0,m,nd,h1,h2,hk=>by
  simp at h1 h2;subst h1;subst h2
  show bindC kindOf ((p,w) :: P.zip vs) m p=_
  unfold bindC;rw [qbr_ fun v hv=>(dI.mp nd).1 (fm hv).1,if_neg hk]
  simp
 | p :: P,w :: vs,i+1,m,nd,h1,h2,hk=>by
  show bindC kindOf ((p,w) :: P.zip vs) m x=_
  unfold bindC;exact qbt_ (i:=i) (dI.mp nd).2 (by simpa using h1) (by simpa using h2) hk
def start (N:List Str) (vs:List V):St:=vs.map some++List.replicate (N.length - vs.length) none
def cxOf (CX:CXT) (P:Program) (w:World) (K:PySem.W.Frag) (mg:Str->Option Value) (base:Heap) (N:List Str) (qual:Str) (scope:Scope) (f:Addr) (cd:Value) (A:Around) (outer:List Env) (s:Shared) (H:Hp) (E:XK):Cx where
 prog:=P
 w:=w
 K:=K
 mg:=mg
 base:=base
 A:=A.deeper (envOfC qual scope s.heap.objs.size f cd)
 N:=N
 s₀:=s
 H₀:=H
 env:=envOfC qual scope s.heap.objs.size f cd
 outer:=outer
 stack:=envOfC qual scope s.heap.objs.size f cd :: outer
 ex:=[]
 calm:=true
 fn:=fun _=>true
 pn:=[]
 xe:=fun e s'=>wpAny (model P w) (A.deeper (envOfC qual scope s.heap.objs.size f cd)) (leaving (envOfC qual scope s.heap.objs.size f cd) e) (fun _ s''=>CX outer H s E e s'') (fun e' s''=>CX outer H s E e' s'') s'
theorem qdx_ {sc:Scope}{n:Nat}{x:Str} (h:sc.names.lookup x=some .cell):∃ c,(cellsFrom n sc.names []).lookup x=some c:=by
 have q:=PySem.W.cellsFrom_some sc.names n [] (.inl h);exact dL.mp q
theorem qbu_ {CX:CXT}{P:Program}{w:World}{K:PySem.W.Frag}{mg:Str->Option Value}{base:Heap}{N ps:List Str}{qual:Str}{scope:Scope}{f:Addr}{cd:Value}{A:Around}{outer:List Env}{s s1:Shared}{H:Hp}{E:XK}{us:List Value}{vs:List V}
  (S:qk_ N ps scope) (hd:A.handled=none) (e0:Env0 P w K mg base A outer s H) (hl:vs.length=ps.length) (r:Vals vs us)
  (x:InCallC s s.heap.objs.size (bindL (envOfC qual scope s.heap.objs.size f cd).kindOf (ps.zip us) fun _=>none) (cellsFrom (s.heap.objs.size+1) scope.names []) (bindC (envOfC qual scope s.heap.objs.size f cd).kindOf (ps.zip us) fun _=>none) s1) :
  Inv (cxOf CX P w K mg base N qual scope f cd A outer s H E) [] (start N vs) H s1:=by
 have l:ps.length<=N.length:=by have:=congrArg List.length S.pre;rw [dv] at this;omega
 obtain ⟨h1,tk,rfl,hk⟩:=x.done
 have d:∀ b:Addr,b∉(cxOf CX P w K mg base N qual scope f cd A outer s H E).ex:=fun b z=>absurd (show b∈([]:List Addr) from z) (by simp)
 refine ⟨⟨e0.mod,S.kind,rfl,rfl,bF _,fun y z c h1 h2=>?_,fun y hy=>?_,fun y c _ h=>?_,fun _=>hd,Around.frames_deeper e0.frames,.inr ⟨rfl,rfl⟩,fun b z=>absurd z (d b),e0.bs,e0.bsz,fun b _ _=>d b,fun b z=>absurd z (d b),e0.funs,e0.frf⟩,
  rfl,e0.bare,Un.kept hk,⟨_,x.toInCall.ns,fun i y v h1 h2 h3=>?_⟩,fun y c h=>⟨_,x.cell y c h⟩,e0.hok.fresh (bF _),fun y c h=>?_,fun p hp=>absurd (show p∈([]:List (Addr × Obj)) from hp) (by simp),e0.hok.kept hk,?_⟩
 ·exact name_of_addr x.apart (cQ h1) (cQ h2)
 ·have hy:scope.names.lookup y=some .cell\/scope.names.lookup y=some .free:=hy
  rcases hy with hy | hy
  ·exact qdx_ hy
  ·exact absurd rfl (S.nofree _ (cQ hy))
 ·exact du (x.above y c (cQ h))
 ·have hi:i < vs.length:=by
   unfold start at h2
   by_cases hi:i < vs.length
   ·exact hi
   ·rw [de (by simpa using hi)] at h2
    rw [eS] at h2
    split at h2 <;> cases h2
  have ha:vs[i]?=some v:=by
   unfold start at h2;rw [cW (by simpa using hi),bE] at h2
   cases e:vs[i]? with
   | none=>rw [e] at h2;cases h2
   | some a=>rw [e] at h2;cases h2;rfl
  obtain ⟨u,hu,rv⟩:=r.get ha
  have hp:ps[i]?=some y:=by
   rw [<- S.pre,List.getElem?_take_of_lt (by omega)];exact h1
  have g:ps.Nodup:=by rw [<- S.pre];exact S.nd.sublist (fz _ _)
  refine ⟨u,rv,?_⟩;rcases S.par y (bO hp) with k | k
  ·exact .inl ⟨k,qbs_ g hp hu k⟩
  ·obtain ⟨c,e⟩:=qdx_ (n:=s.heap.objs.size+1) k
   refine .inr ⟨.inl k,c,e,?_⟩
   have q:=x.cell y c e;rw [qbt_ g hp hu (by show scope.names.lookup y≠_;rw [k];decide)] at q
   exact q
 ·exact e0.hok.fresh (du (x.above y c (cQ h)))
 ·unfold start
  show _=N.length
  rw [cg,b9,cV];omega
theorem qnx_ {CX:CXT}{P:Program}{w:World}{K:PySem.W.Frag}{mg:Str->Option Value}{base:Heap}{k:Nat}{f:Addr}{name qual:Str}{params:Arguments}{body:List Stmt}{scope:Scope}{dV kV doc pm cdv ct oc:Value}{an od:Option Addr}
  {osl:Array (Option Value)}{N ps:List Str}{sp:Sp} (lk:K.lookup f=some ⟨oc,od,.func (PySem.W.fnOf name qual params body scope dV kV doc pm an cdv ct),osl⟩) (hcd:PySem.W.codeIn K cdv qual=true) (S:qk_ N ps scope)
  (len:∀ vs H Q E,sp vs H Q E->vs.length=ps.length)
  (hbody:∀ (A:Around) (outer:List Env) (s:Shared) (H:Hp) (vs:List V) (Q:VK) (E:XK),Room k (A.deeper (envOfC qual scope s.heap.objs.size f cdv))->sp vs H Q E →
   ∃ t,PSs (cxOf CX P w K mg base N qual scope f cdv A outer s H E) body t/\t { nx:=fun _ H'=>Q .non H',rt:=Q } (start N vs) H) :
  FnOk P w K mg base CX (k+1) f (PySem.W.fnOf name qual params body scope dV kV doc pm an cdv ct) ps sp:=by
 refine ⟨len,fun A outer s H l us vs Q E hr e0 hb r g=>?_⟩
 have hl:=len _ _ _ _ g
 have KX:K.In s.heap:=e0.mod.kin.keeps fun b o e=>(e0.bs b o e).1
 have h:s.heap.NoLimit:=e0.mod.nolimit.keeps fun b o e=>(e0.bs b o e).1
 have d:∀ y∈ps.zip us,scope.names.lookup y.1=some .local\/(scope.names.lookup y.1=some .cell/\((cellsFrom (s.heap.objs.size+1) scope.names []).lookup y.1).isSome=true):=fun ⟨n,v⟩ hy=>by
  rcases S.par n (fm hy).1 with q | q
  ·exact .inl q
  ·exact .inr ⟨q,PySem.W.cellsFrom_some _ _ _ (.inl q)⟩
 refine codeAny_call_function hr.depth (KX _ _ lk) rfl S.co S.gen rfl (PySem.W.codeRec_of KX hcd) (hb _ _ _ _ ?_);refine wpAny_newFunctionEnv_cells S.kind d fun env he s1 x=>?_;subst he;refine ⟨h.keeps x.toInCall.keep,codeAny_func ?_⟩;obtain ⟨t,ht,hq⟩:=hbody A outer s H vs Q E (hr.deeper _) g
 have I:Inv (cxOf CX P w K mg base N qual scope f cdv A outer s H E) [] (start N vs) H s1:=qbu_ S hr.hd e0 hl r x;refine d7 (ht [] s1 (start N vs) H _ I hq) (fun fl s' hs=>?_) fun e s' hs=>hs
 have fin:∀ {σ':St}{H':Hp}{v:V}{u:Value},Inv (cxOf CX P w K mg base N qual scope f cdv A outer s H E) [] σ' H' s'->RelV v u->Q v H'->CE outer P w H s Q u s' :=
  fun {σ' H' v u} J rv q=>⟨v,H',J.os,J.bare,J.base,J.hok,rv,q⟩
 cases fl with
 | ret u =>
  obtain ⟨v,σ',H',J,rv,q⟩:=hs;exact fin J rv q
 | next =>
  obtain ⟨σ',H',J,q⟩:=hs;exact fin (v:=V.non) (u:=Value.none) J rfl q
 | brk =>
  obtain ⟨_,_,_,q⟩:=hs;exact False.elim q
 | cont =>
  obtain ⟨_,_,_,q⟩:=hs;exact False.elim q
section
variable {X:Cx}{x:Str}{p pos:Pos}{e:Expr}{es:List Expr}{t:TA}{id T:String}{r:List V->Hp->VK->Prop}
def tCB (r:List V->Hp->VK->Prop) (t:TA):TE:=fun σ H Q=>t σ H fun vs H1=>r vs H1 Q
theorem qs_ (hc:jr_ X (.builtin id) r) (hg:Gl X x) (hm:X.mg x=none) (hv:bootBuiltins x=some (.builtin id)) (ha:PA X (e :: es) t) (hn:x ≠ "__name__":=by decide) (hdb:(x == ("__debug__" : Str))=false:=by decide)
  (he:starEach (e :: es) X.env=(false,eval e X.env) :: starEach es X.env:=by rfl) (hpl:(backTo pos (starEach es X.env)).any (·.1)=false:=by rfl):PE X (.Call (.Name x p) (e :: es) [] pos) (tCB r t):=by
 intro d s σ H Q I h;refine dJ (jK_ I hg hm hv ?_ hn hdb);exact PyProof.Rows.callWith_builtin1 (thn (ha pos d s σ H _ I h) fun us s1 ⟨vs,H1,I1,r1,q1⟩=>hc d s1 σ H1 vs us Q I1 r1 q1) he hpl
theorem jB_ (hc:jr_ X (.type T) r) (hg:Gl X x) (hm:X.mg x=none) (hv:bootBuiltins x=some (.type T)) (ha:PA X (e :: es) t) (hn:x ≠ "__name__":=by decide) (hdb:(x == ("__debug__" : Str))=false:=by decide)
  (he:starEach (e :: es) X.env=(false,eval e X.env) :: starEach es X.env:=by rfl) (hpl:(backTo pos (starEach es X.env)).any (·.1)=false:=by rfl):PE X (.Call (.Name x p) (e :: es) [] pos) (tCB r t):=by
 intro d s σ H Q I h;refine dJ (jK_ I hg hm hv ?_ hn hdb);exact d8 (thn (ha pos d s σ H _ I h) fun us s1 ⟨vs,H1,I1,r1,q1⟩=>hc d s1 σ H1 vs us Q I1 r1 q1) he hpl
end
end L2
namespace HT
open PySem PyProof.Rows
section
open PySem.SeqAt
open PySem.AutoSeq1 (wpAny_loadPart')
open PySem.MeetsSeq PySem.MeetsSeq2 PySem.MeetsSeq3
end
section
variable {prog:Program}{w:World}{A:Around}{E:Value->Shared->Prop}{s:Shared}
def sIx (n d:Nat):Option Int->Nat
 | none=>d
 | some v=>if v < 0 then (v+(n:Int)).toNat else min v.toNat n
theorem sIx_none (n d:Nat):sIx n d none=d:=rfl
theorem sIx_nat (n d k:Nat):sIx n d (some (k:Int))=min k n:=by
 show (if (k:Int) < 0 then ((k:Int)+(n:Int)).toNat else min (k:Int).toNat n)=min k n
 rw [if_neg (by omega),cx]
end
end HT
namespace L2
open PySem PySem.Spec PyProof.Rows
abbrev TO:=St->Hp->(Option Int->Hp->Prop)->Prop
def PO (X:Cx) (e:Option Expr) (t:TO):Prop :=
 ∀ (pins:List (Addr × Obj)) (s:Shared) (σ:St) (H:Hp) (Q:Option Int->Hp->Prop),Inv X pins σ H s->t σ H Q →
  wpAny (model X.prog X.w) X.A (evalPart e X.env) (fun u s'=>∃ o H',Inv X pins σ H' s'/\IsPart u o/\Q o H') X.xe s
def qof_:TO:=fun _ H Q=>Q none H
inductive qgu_ (Q:Option Int->Hp->Prop) (x:V) (H1:Hp):Prop
 | mk:∀ i,x=.int i->Q (some i) H1->qgu_ Q x H1
def qqw_ (t:TE):TO:=fun σ H Q=>t σ H fun x H1=>qgu_ Q x H1
section
variable {X:Cx}{e:Expr}{te:TE}{lo hi:Option Expr}{tl th:TO}{pos p2:Pos}
theorem v0_:PO X none qof_:=by
 intro d s σ H Q I h;rw [evalPart_none];exact c7 ⟨none,H,I,.none,h⟩
theorem v1_ (h:PE X e te):PO X (some e) (qqw_ te):=by
 intro d s σ H Q I hw;rw [evalPart_some];refine thn (h d s σ H _ I hw) fun u s1 ⟨x,H1,I1,r1,q1⟩=>?_;obtain ⟨i,rfl,q⟩:=q1;obtain ⟨t,rfl⟩:=r1;exact ⟨some i,H1,I1,.int i t,q⟩
def SlR (X:Cx) (r:V->Option Int->Option Int->Hp->VK->Prop):Prop :=
 ∀ (pins:List (Addr × Obj)) (s:Shared) (σ:St) (H:Hp) (x:V) (v vl vu:Value) (lo hi:Option Int) (sl:Addr) (Q:VK),Inv X pins σ H s->RelV x v->s.heap.IsSliceOf sl vl vu .none->IsPart vl lo->IsPart vu hi->r x lo hi H Q →
  ∃ T id,typeLookup (.type T) "__getitem__" = pure (some (.builtin id))∧s.TypeIs v T∧wpAny (model X.prog X.w) X.A (getItem v (.ref sl)) (EP X pins σ Q) X.xe s
def tSl (r:V->Option Int->Option Int->Hp->VK->Prop) (te:TE) (tl th:TO):TE:=fun σ H Q=>te σ H fun x H1=>tl σ H1 fun l H2=>th σ H2 fun u H3=>r x l u H3 Q
theorem zV_ {r:V->Option Int->Option Int->Hp->VK->Prop} (hr:SlR X r) (he:PE X e te) (hl:PO X lo tl) (hu:PO X hi th):PE X (.Subscript e (.Slice lo hi none p2) pos) (tSl r te tl th):=by
 intro d s σ H Q I h;refine Subscript_ (thn (he d s σ H _ I h) fun v s1 ⟨x,H1,I1,r1,q1⟩=>?_);refine wpAny_Slice (thn (hl d s1 σ H1 _ I1 q1) fun vl s2 ⟨l,H2,I2,pl,q2⟩=>thn (hu d s2 σ H2 _ I2 q2) fun vu s3 ⟨u,H3,I3,pu,q3⟩=>?_);rw [evalPart_none];refine c7 ?_
 have I4:Inv X d σ H3 { s3 with heap:=s3.heap.push { cls:=.type "slice",data:=.fields #[vl,vu,.none] } }:=I3.kept (t':=s3.toks) fun b ob q=>bD _ q
 obtain ⟨T,id,hT,ht,hg⟩:=hr d { s3 with heap:=s3.heap.push { cls:=.type "slice",data:=.fields #[vl,vu,.none] } } σ H3 x v vl vu l u s3.heap.objs.size Q I4 r1 (Heap.IsSliceOf.new ..) pl pu q3
 show wpAny (model X.prog X.w) X.A (subscriptTail e (.Slice lo hi none p2) v (.ref s3.heap.objs.size)) (EP X d σ Q) X.xe { s3 with heap:=s3.heap.push { cls:=.type "slice",data:=.fields #[vl,vu,.none] } }
 exact tail_any (ops:=[.ref s3.heap.objs.size,v]) ht hT hg (by with_unfolding_all rfl)
def cutV (xs:List V) (lo hi:Option Int):List V:=(xs.drop (HT.sIx xs.length 0 lo)).take (HT.sIx xs.length xs.length hi - HT.sIx xs.length 0 lo)
theorem qf4_ (xs:List V) (lo hi:Option Int):(cutV xs lo hi).length<=xs.length:=by
 unfold cutV;rw [dv,List.length_drop];omega
end
def ixN (n:Nat) (i:Int):Option Nat:=if 0<=i then (if i < n then some i.toNat else none) else if -(n:Int)<=i then some (i+n).toNat else none
def atI {α:Type} (xs:List α) (i:Int):Option α:=(ixN xs.length i).bind fun j=>xs[j]?
theorem qgv_ {n:Nat}{i:Int}{j:Nat} (h:ixN n i=some j):seqIndex? i n=some j/\j < n/\-(n:Int)<=i/\i < n:=by
 unfold ixN at h
 by_cases h0:0<=i
 ·rw [if_pos h0] at h
  by_cases h1:i < n
  ·rw [if_pos h1] at h
   have e:i.toNat=j:=bM h;exact ⟨by rw [seqIndex_of h0 h1,e],by omega,by omega,h1⟩
  ·rw [if_neg h1] at h;cases h
 ·rw [if_neg h0] at h
  by_cases h1:-(n:Int)<=i
  ·rw [if_pos h1] at h
   have e:(i+n).toNat=j:=bM h;exact ⟨by rw [seqIndex_neg (by omega) h1,e],by omega,h1,by omega⟩
  ·rw [if_neg h1] at h;cases h
theorem qgw_ {α:Type}{xs:List α}{i:Int}{v:α} (h:atI xs i=some v):∃ j,seqIndex? i xs.length=some j/\xs[j]?=some v/\j < xs.length/\-(xs.length:Int)<=i/\i < xs.length:=by
 unfold atI at h
 cases e:ixN xs.length i with
 | none=>rw [e] at h;cases h
 | some j =>
  rw [e] at h;obtain ⟨h1,h2,h3,h4⟩:=qgv_ e;exact ⟨j,h1,h,h2,h3,h4⟩
theorem qv_ {α:Type}{xs:List α}{j:Nat}{v:α} (h:xs[j]?=some v):atI xs (j:Int)=some v:=by
 have hj:j < xs.length:=(bK.mp h).1
 have e:ixN xs.length (j:Int)=some j:=by
  unfold ixN;rw [if_pos (by omega),if_pos (by omega)];simp
 unfold atI;rw [e];exact h
def qog_ (b:Expr):Prop:=∀ o i,subscripted b false o i=operate [o,i] (getItem o i)
def IxR (X:Cx) (r:R2):Prop :=
 ∀ (value slice:Expr) (pins:List (Addr × Obj)) (s:Shared) (σ:St) (H:Hp) (x y:V) (v u:Value) (Q:VK),Inv X pins σ H s->RelV x v->RelV y u->r x y H Q →
  subscripted slice false v u=operate [v,u] (getItem v u)->wpAny (model X.prog X.w) X.A (subscriptTail value slice v u) (EP X pins σ Q) X.xe s
def MtR (X:Cx) (id:String) (r:V->List V->Hp->VK->Prop):Prop :=
 ∀ (pins:List (Addr × Obj)) (s:Shared) (σ:St) (H:Hp) (x:V) (xs:List V) (v:Value) (us:List Value) (Q:VK),Inv X pins σ H s->RelV x v->Vals xs us->r x xs H Q →
  wpAny (model X.prog X.w) X.A (call (.builtin id) (v :: us)) (EP X pins σ Q) X.xe s
section
variable {X:Cx}{a b:Expr}{ta tb:TE}{pos:Pos}
theorem qy_ {r:R2} (hr:IxR X r) (ha:PE X a ta) (hb:PE X b tb) (hs:qog_ b):PE X (.Subscript a b pos) (tOp r ta tb):=by
 intro d s σ H Q I h;exact Subscript_ (binT ha hb I h fun v u s2 x y H2 I2 rx ry q=>hr a b d s2 σ H2 x y v u Q I2 rx ry q (hs _ _))
inductive rIxL (K:PySem.W.Frag) (x y:V) (H:Hp) (Q:VK):Prop
 | mk:∀ p xs i v,x=.ref p->y=.int i->SqL K H p xs->atI xs i=some v->Q v H->rIxL K x y H Q
inductive rIxT (K:PySem.W.Frag) (x y:V) (H:Hp) (Q:VK):Prop
 | mk:∀ p xs i v,x=.ref p->y=.int i->SqT K H p xs->atI xs i=some v->Q v H->rIxT K x y H Q
theorem qz_:IxR X (rIxL X.K):=by
 intro C B d s σ H x y v u Q I rx ry h hs;obtain ⟨p,xs,i,z,rfl,rfl,hq,he,q⟩:=h
 cases rx;obtain ⟨t,rfl⟩:=ry;obtain ⟨g,r,pl,hz⟩:=I.list hq;obtain ⟨j,h1,h2,h3,h4,h5⟩:=qgw_ he;obtain ⟨w,ew,l⟩:=r.get h2
 have hl:=r.length
 have hn:=vq_
 have fin:EP X d σ Q w s:=⟨z,H,I,l,q⟩
 by_cases h0:0<=i
 ·have hj:i.toNat=j:=by
   rw [seqIndex_of h0 h5] at h1;exact bM h1
  exact item_listR pl.isList h0 (by omega) (by rw [hj];simpa using ew) fin hs
 ·have hj:(i+(g.toArray.size:Int)).toNat=j:=by
   rw [seqIndex_neg (by omega) h4] at h1
   rw [bX,← hl];exact bM h1
  exact subscriptTail_builtinR (x:=w) pl.isList.typeIs slot_list_getitem.lookup
   (wpAny_getItem_list_neg (Q:=fun r s'=>r=w/\EP X d σ Q r s') pl.isList (by omega) (by rw [bX] <;> omega) (by omega) (by rw [hj];simpa using ew) ⟨rfl,fin⟩) hs
theorem vs_:IxR X (rIxT X.K):=by
 intro B l d s σ H x y v u Q I rx ry h hs;obtain ⟨p,xs,i,z,rfl,rfl,hq,he,q⟩:=h
 cases rx;obtain ⟨t,rfl⟩:=ry;obtain ⟨C,r,pl,hz⟩:=I.tuple hq;obtain ⟨j,h1,h2,h3,h4,h5⟩:=qgw_ he;obtain ⟨w,ew,g⟩:=r.get h2
 have hl:=r.length
 have hn:=vq_
 have fin:EP X d σ Q w s:=⟨z,H,I,g,q⟩
 exact subscriptTail_builtinR (x:=w) pl.typeIs slot_tuple_getitem.lookup
  (getItem_tuple (j:=j) (Q:=fun r s'=>r=w/\EP X d σ Q r s') pl (by omega) (by omega) (by rw [bX,← hl];exact h1) (by simpa using ew) ⟨rfl,fin⟩) hs
theorem qin_ (its:List Value) (n j:Nat) (u:Value):Obj.mapSeq (·.setIfInBounds j u) { cls:=.type "list",data:=.seq its.toArray n } = { cls:=.type "list",data:=.seq (its.set j u).toArray n }:=by
 simp [Obj.mapSeq]
theorem Inv.lst {pins:List (Addr × Obj)}{σ:St}{H:Hp}{s:Shared}{p:Addr}{xs:List V} (I:Inv X pins σ H s) (h:H p=some (.lst xs)) :
  ∃ (its:List Value) (n:Nat),Vals xs its∧s.heap.get? p=some { cls:=.type "list",data:=.seq its.toArray n } ∧ xs.length≤sizeLine:=by
 obtain ⟨z,its,n,r,e⟩:=I.hok p _ h;exact ⟨its,n,r,e,z⟩
theorem Inv.lstUpd {pins:List (Addr × Obj)}{σ:St}{H:Hp}{s:Shared}{p:Addr}{xs ys:List V}{its its':List Value}{n n':Nat}{f:Obj->Obj} (I:Inv X pins σ H s) (h:H p=some (.lst xs))
  (ho:s.heap.get? p=some { cls:=.type "list",data:=.seq its.toArray n }) (hf:f { cls:=.type "list",data:=.seq its.toArray n } = { cls:=.type "list",data:=.seq its'.toArray n' }) (r:Vals ys its') (hz:ys.length≤sizeLine) (t:Nat) :
  Inv X pins σ (upd H p (.lst ys)) { s with heap:=s.heap.update p f,toks:=t }:=by
 have e:(s.heap.update p f).get? p=some { cls:=.type "list",data:=.seq its'.toArray n' }:=by
  rw [Heap.get?_update_self f ho (by rw [hf] <;> rfl),hf]
 refine I.write (x:=p) (e:=p) (by rw [h];trivial) (.inl rfl) (fun b u hb q=>(Heap.get?_update_other _ _ (cJ hb)).trans q) ⟨_,e⟩ ?_
 exact ⟨hz,its',n',r,e⟩
inductive qny_ (o i v:V) (H:Hp) (Q:Hp->Prop):Prop
 | mk:∀ p xs k j,o=.ref p->i=.int k->H p=some (.lst xs)->ixN xs.length k=some j->Q (upd H p (.lst (xs.set j v)))->qny_ o i v H Q
theorem yg_:PSet X qny_:=by
 intro g s σ H o i v ov iv u Q I ro ri rv h;obtain ⟨p,xs,k,j,rfl,rfl,hp,hj,q⟩:=h
 cases ro;obtain ⟨t,rfl⟩:=ri;obtain ⟨d,n,r,ho,hz⟩:=I.lst hp;obtain ⟨h1,h2,h3,h4⟩:=qgv_ hj
 have hl:=r.length
 have hn:=vq_
 have I':Inv X g σ (upd H p (.lst (xs.set j v))) { s with heap:=s.heap.update p (Obj.mapSeq (·.setIfInBounds j u)) } :=
  I.lstUpd hp ho (qin_ d n j u) (r.set rv j) (by rw [cZ];exact hz) s.toks
 by_cases h0:0<=k
 ·have hk:k.toNat=j:=by
   rw [seqIndex_of h0 h4] at h1;exact bM h1
  exact PySem.W.ki_setAt ho h0 (by omega) (by rw [bX,← hl];exact h4) (by rw [hk];exact ⟨_,I',q⟩)
 ·have hk:(k+(d.toArray.size:Int)).toNat=j:=by
   rw [seqIndex_neg (by omega) h3] at h1
   rw [bX,← hl];exact bM h1
  exact PySem.W.ki_setBack ho (by omega) (by rw [bX,← hl];exact h3) (by omega) (by rw [hk];exact ⟨_,I',q⟩)
theorem qdy_ (lo hi:Option Int) (n:Nat):(sliceBounds lo hi none n).1=((HT.sIx n 0 lo:Nat):Int)/\(sliceBounds lo hi none n).2.1=((HT.sIx n n hi:Nat):Int)/\(sliceBounds lo hi none n).2.2=1:=by
 refine ⟨?_,?_,rfl⟩
 ·cases lo with
  | none=>simp [sliceBounds,HT.sIx]
  | some i =>
   simp only [sliceBounds,HT.sIx,Option.getD_none,show (1:Int) > 0 by decide,if_true]
   by_cases h:i < 0
   ·simp only [h,if_true] <;> omega
   ·simp only [h,if_false] <;> omega
 ·cases hi with
  | none=>simp [sliceBounds,HT.sIx]
  | some i =>
   simp only [sliceBounds,HT.sIx,Option.getD_none,show (1:Int) > 0 by decide,if_true]
   by_cases h:i < 0
   ·simp only [h,if_true] <;> omega
   ·simp only [h,if_false] <;> omega
theorem qdc_ (its:List Value) (lo hi:Option Int):slicePick its.toArray lo hi none=((its.drop (HT.sIx its.length 0 lo)).take (HT.sIx its.length its.length hi - HT.sIx its.length 0 lo)).toArray:=by
 obtain ⟨h1,h2,h3⟩:=qdy_ lo hi its.toArray.size;unfold slicePick;rw [h1,h2,h3];simp only [sliceRange_one,pick_run,bX] <;> rfl
inductive rSlL (K:PySem.W.Frag) (x:V) (lo hi:Option Int) (H:Hp) (Q:VK):Prop
 | mk:∀ a xs,x=.ref a->SqL K H a xs->(∀ p,H p=none->Q (.ref p) (upd H p (.lst (cutV xs lo hi))))->rSlL K x lo hi H Q
theorem v2_:SlR X (rSlL X.K):=by
 intro g s σ H x v vl vu lo hi sl Q I rx hs pl pu h;obtain ⟨a,xs,rfl,hx,q⟩:=h
 cases rx;obtain ⟨l,r,ht,hz⟩:=I.list hx
 have d:=r.length
 refine ⟨"list",_,slot_list_getitem.lookup,ht.isList.typeIs,?_⟩
 refine wpAny_getItem_list_slice ht.isList hs pl pu .none (by simp) ?_ (by rw [bX] <;> omega)
 rw [qdc_,← d];refine ⟨.ref s.heap.objs.size,_,I.laid (t':=s.toks) (o:=.lst (cutV xs lo hi)) (fun b ob q=>bD _ q) (bF _) ?_,rfl,q _ (I.hok.fresh (bF _))⟩;exact ⟨bG (qf4_ xs lo hi) hz,_,0,(r.drop (HT.sIx xs.length 0 lo)).take (HT.sIx xs.length xs.length hi - HT.sIx xs.length 0 lo),bZ _ rfl⟩
def j4_:V->Bool
 | .non=>true
 | .bl _=>true
 | .int _=>true
 | .str _=>true
 | _=>false
def eqV:V->V->Bool
 | .non,.non=>true
 | .bl a,.bl b=>a == b
 | .bl a,.int b=>(if a then 1 else 0) == b
 | .int a,.bl b=>a == (if b then 1 else 0)
 | .int a,.int b=>a == b
 | .str a,.str b=>a == b
 | _,_=>false
theorem qdz_ {A:Around}{s:Shared}{y x:V}{u v:Value} (ry:RelV y u) (rx:RelV x v) (fy:j4_ y=true) (fx:j4_ x=true):SeqAt.EqAt A s u v (eqV y x):=by
 cases y with
 | non =>
  cases ry
  cases x with
  | non=>cases rx;exact SeqAt.EqAt.same _
  | bl b=>cases rx;exact SeqAt.EqAt.none_bool b
  | int b=>obtain ⟨t,rfl⟩:=rx;exact SeqAt.EqAt.none_int b t
  | str b=>obtain ⟨t,rfl⟩:=rx;exact SeqAt.EqAt.none_str b t
  | _=>exact absurd (show false=true from fx) bW
 | bl a =>
  cases ry
  cases x with
  | non=>cases rx;exact SeqAt.EqAt.bool_none a
  | bl b=>cases rx;exact SeqAt.EqAt.bool_bool a b
  | int b=>obtain ⟨t,rfl⟩:=rx;exact SeqAt.EqAt.bool_int a b t
  | str b=>obtain ⟨t,rfl⟩:=rx;exact SeqAt.EqAt.bool_str a b t
  | _=>exact absurd (show false=true from fx) bW
 | int a =>
  obtain ⟨t',rfl⟩:=ry
  cases x with
  | non=>cases rx;exact SeqAt.EqAt.int_none a t'
  | bl b=>cases rx;exact SeqAt.EqAt.int_bool a t' b
  | int b=>obtain ⟨t,rfl⟩:=rx;exact SeqAt.EqAt.int_int a t' b t
  | str b=>obtain ⟨t,rfl⟩:=rx;exact SeqAt.EqAt.int_str a t' b t
  | _=>exact absurd (show false=true from fx) bW
 | str a =>
  obtain ⟨t',rfl⟩:=ry
  cases x with
  | non=>cases rx;exact SeqAt.EqAt.str_none a t'
  | bl b=>cases rx;exact SeqAt.EqAt.str_bool a t' b
  | int b=>obtain ⟨t,rfl⟩:=rx;exact SeqAt.EqAt.str_int a t' b t
  | str b=>obtain ⟨t,rfl⟩:=rx;exact SeqAt.EqAt.str_str a t' b t
  | _=>exact absurd (show false=true from fx) bW
 | _=>exact absurd (show false=true from fy) bW
def eqU (x:V) (u:Value):Bool:=match u with
 | .none=>eqV .non x
 | .bool b=>eqV (.bl b) x
 | .int i _=>eqV (.int i) x
 | .str z _=>eqV (.str z) x
 | _=>false
theorem qjz_ {x y:V}{u:Value} (r:RelV y u) (f:j4_ y=true):eqU x u=eqV y x:=by
 cases y with
 | non=>cases r;rfl
 | bl b=>cases r;rfl
 | int i=>obtain ⟨t,rfl⟩:=r;rfl
 | str z=>obtain ⟨t,rfl⟩:=r;rfl
 | _=>exact absurd (show false=true from f) bW
theorem qa1_ {x:V}:∀ {xs:List V}{us:List Value},Vals xs us->xs.all j4_=true->us.any (eqU x)=xs.any fun y=>eqV y x
 | _,_,.nil,_=>rfl
 | y :: xs,u :: us,.cons r t,f=>by
  rw [fu,cC] at f;rw [fw,fw,qjz_ r f.1,qa1_ t f.2]
theorem uy_ {A:Around}{s:Shared}{x:V}{v:Value} (rx:RelV x v) (fx:j4_ x=true):∀ {xs:List V}{us:List Value},Vals xs us->xs.all j4_=true->∀ u∈us,SeqAt.EqAt A s u v (eqU x u)
 | _,_,.nil,_=>fun u hu=>by cases hu
 | y :: xs,u :: us,.cons r t,f=>fun u' hu=>by
  rw [fu,cC] at f;rcases bL.mp hu with rfl | hu
  ·rw [qjz_ r f.1];exact qdz_ r rx f.1 fx
  ·exact uy_ rx fx t f.2 u' hu
def inV (x:V) (xs:List V):Bool:=xs.any fun y=>eqV y x
inductive rIn (K:PySem.W.Frag) (neg:Bool) (x y:V) (H:Hp) (Q:VK):Prop
 | mk:∀ p xs,y=.ref p->(SqL K H p xs\/SqT K H p xs)->j4_ x=true->xs.all j4_=true->(Q (.bl (if neg then !inV x xs else inV x xs)) H)->rIn K neg x y H Q
theorem qd0_:OpR X (compareOp .NotIn) (rIn X.K true):=by
 intro g s σ H x y v u Q I rx ry h;obtain ⟨p,xs,rfl,hq,fx,fs,q⟩:=h
 cases ry;rcases hq with hq | hq
 ·obtain ⟨d,r,pl,hz⟩:=I.list hq
  refine SeqAt.notIn_listAt (eqU x) pl.isList (fun w hw=>uy_ rx fx r fs w (by simpa using hw)) ⟨.bl _,H,I,rfl,?_⟩
  rw [show d.toArray.any (eqU x)=d.any (eqU x) by simp,qa1_ r fs]
  exact q
 ·obtain ⟨d,r,pl,hz⟩:=I.tuple hq
  refine SeqAt.notIn_tupleAt (eqU x) pl (fun w hw=>uy_ rx fx r fs w (by simpa using hw)) ⟨.bl _,H,I,rfl,?_⟩
  rw [show d.toArray.any (eqU x)=d.any (eqU x) by simp,qa1_ r fs]
  exact q
inductive yr_ (K:PySem.W.Frag) (xs:List V) (H:Hp) (Q:VK):Prop
 | mk:∀ p ys,xs=[.ref p]->(SqL K H p ys\/SqT K H p ys)->Q (.int ys.length) H->yr_ K xs H Q
theorem qr_:jr_ X (.builtin "len") (yr_ X.K):=by
 intro l s σ H xs us Q I r h;obtain ⟨p,ys,rfl,hq,q⟩:=h;obtain ⟨u,rfl,rx⟩:=jy_ r
 cases rx
 have hn:=vq_;rcases hq with hq | hq
 ·obtain ⟨g,r',pl,hz⟩:=I.list hq
  have d:=r'.length;exact Calls.call_len_list pl.isList (by simp only [bX] <;> omega) ⟨.int ys.length,H,I.tok _,⟨s.toks+1,by rw [bX,d]⟩,q⟩
 ·obtain ⟨g,r',pl,hz⟩:=I.tuple hq
  have d:=r'.length;exact len_tuple pl (by simp only [bX] <;> omega) ⟨.int ys.length,H,I.tok _,⟨s.toks+1,by rw [bX,d]⟩,q⟩
inductive ys_ (K:PySem.W.Frag) (xs:List V) (H:Hp) (Q:VK):Prop
 | mk:∀ p ys,xs=[.ref p]->(SqL K H p ys\/SqT K H p ys)->(∀ l,H l=none->Q (.ref l) (upd H l (.lst ys)))->ys_ K xs H Q
theorem jz_:jr_ X (.type "list") (ys_ X.K):=by
 intro g s σ H xs us Q I r h;obtain ⟨p,ys,rfl,hq,q⟩:=h;obtain ⟨u,rfl,rx⟩:=jy_ r
 cases rx
 have fin:∀ (d:List Value),Vals ys d->ys.length<=sizeLine->∀ (h':Heap) (c':Nat),(∀ b o',s.heap.get? b=some o'->h'.get? b=some o') →
   h'.get? s.heap.objs.size=some { cls:=.type "list",dict:=none,data:=.seq d.toArray c',slots:=#[] } → EP X g σ Q (.ref s.heap.objs.size) { s with heap:=h' }:=fun d r' hz h' c' kp e =>
  ⟨.ref s.heap.objs.size,_,I.laid (t':=s.toks) kp (bF _) (show ObjOk X.prog X.w _ h' _ (.lst ys) from ⟨hz,d,c',r',e⟩),rfl,q _ (I.hok.fresh (bF _))⟩
 rcases hq with hq | hq
 ·obtain ⟨d,r',pl,hz⟩:=I.list hq
  have l:=r'.length;obtain ⟨o,ho,hc,n,hd⟩:=pl.isList;exact call_list_seq p (.inl rfl) ho hc hd (fun h' c' kp e=>fin d r' hz h' c' kp e) (by simp only [bX] <;> omega)
 ·obtain ⟨d,r',pl,hz⟩:=I.tuple hq
  have l:=r'.length;obtain ⟨o,ho,hc,n,hd⟩:=pl;exact call_list_seq p (.inr rfl) ho hc hd (fun h' c' kp e=>fin d r' hz h' c' kp e) (by simp only [bX] <;> omega)
def tyV (K:PySem.W.Frag) (T:String) (x:V) (H:Hp):Prop:=match x with
 | .str _=>T = "str"
 | .int _=>T = "int"
 | .ref p=>(T = "list" ∧ ∃ xs,SqL K H p xs) ∨ (T = "tuple" ∧ ∃ o,K.lookup p=some o∧o.cls=.type "tuple" ∧ o.dict=none) ∨
   (T = "dict" ∧ ((∃ kvs,H p=some (.dK kvs)) ∨ ∃ kvs,H p=some (.dT kvs))) ∨ (T = "set" ∧ ∃ S n,H p=some (.set S n))
 | _=>False
theorem qj0_ {pins:List (Addr × Obj)}{σ:St}{H:Hp}{s:Shared}{T:String}{x:V}{v:Value} (I:Inv X pins σ H s) (r:RelV x v) (ty:tyV X.K T x H) :
  s.TypeIs v T/\∀ a,v=.ref a->∃ ob,s.heap.get? a=some ob/\ob.dict=none:=by
 cases x with
 | str z =>
  obtain ⟨t,rfl⟩:=r
  cases (show T = "str" from ty)
  exact ⟨typeIs_str s z t,fun _ e=>nomatch e⟩
 | int i =>
  obtain ⟨t,rfl⟩:=r
  cases (show T = "int" from ty)
  exact ⟨typeIs_int s i t,fun _ e=>nomatch e⟩
 | ref p =>
  cases r;rcases ty with ⟨rfl,xs,hq⟩ | ⟨rfl,o,hk,hc,hd⟩ | ⟨rfl,hk⟩ | ⟨rfl,S,n,hk⟩
  ·obtain ⟨g,_,pl,_⟩:=I.list hq
   refine ⟨pl.isList.typeIs,fun a e=>?_⟩
   cases e;obtain ⟨o,n,e,c,hd,_⟩:=pl;exact ⟨o,e,hd⟩
  ·refine ⟨⟨o,I.kIn p o hk,hc⟩,fun a e=>?_⟩
   cases e;exact ⟨o,I.kIn _ o hk,hd⟩
  ·have z:∃ o,s.heap.get? p=some o/\o.ExactDict:=by
    rcases hk with ⟨d,hk⟩ | ⟨d,hk⟩
    ·obtain ⟨_,_,_,_,o,_,_,e,ex,_⟩:=I.hok p _ hk
     exact ⟨o,e,ex⟩
    ·obtain ⟨_,_,_,_,o,_,_,e,ex,_⟩:=I.hok p _ hk
     exact ⟨o,e,ex⟩
   obtain ⟨o,e,ex⟩:=z;refine ⟨⟨o,e,ex.1⟩,fun a e2=>?_⟩
   cases e2;exact ⟨o,e,ex.2.1⟩
  ·obtain ⟨o,_,_,_,e,ex,_⟩:=I.hok p _ hk
   refine ⟨⟨o,e,ex.1⟩,fun a e2=>?_⟩
   cases e2;exact ⟨o,e,ex.2.1⟩
 | _=>exact False.elim ty
def tBM0 (K:PySem.W.Frag) (T:String) (r:V->List V->Hp->VK->Prop) (to:TE):TE:=fun σ H Q=>to σ H fun x H1=>tyV K T x H1/\r x [] H1 Q
def tBM (K:PySem.W.Frag) (T:String) (r:V->List V->Hp->VK->Prop) (to:TE) (t:TA):TE:=fun σ H Q=>to σ H fun x H1=>tyV K T x H1/\t σ H1 fun xs H2=>r x xs H2 Q
variable {o e:Expr}{es:List Expr}{to:TE}{t:TA}{name:Str}{apos cpos:Pos}{T id:String}{r:V->List V->Hp->VK->Prop}
theorem vt_ (pa:PlainAttrs T) (slot:Slot T name id) (hty:typeOf (.builtin id)=pure (.type "method_descriptor")) (hm:MtR X id r) (ho:PE X o to)
  (hbase:attributeBase o name X.env (eval o X.env)=eval o X.env:=by rfl) (hline:(apos.endLine == cpos.line)=true:=by rfl):PE X (.Call (.Attribute o name apos) [] [] cpos) (tBM0 X.K T r to):=by
 intro d s σ H Q I h;refine wpAny_Call_method0_late hbase hline (thn (ho d s σ H _ I h) fun v s1 ⟨x,H1,I1,r1,ty,q1⟩=>?_);obtain ⟨h1,h2⟩:=qj0_ I1 r1 ty;exact ⟨T,id,pa,slot,hty,h1,h2,Calls.callWith_builtin rfl (PySem.evalArgs_none (hm d s1 σ H1 x [] v [] Q I1 r1 .nil q1))⟩
theorem jF_ (pa:PlainAttrs T) (slot:Slot T name id) (hty:typeOf (.builtin id)=pure (.type "method_descriptor")) (hm:MtR X id r) (ho:PE X o to) (ha:PA X (e :: es) t)
  (hbase:attributeBase o name X.env (eval o X.env)=eval o X.env:=by rfl)
  (hfew:((backTo cpos (starEach (e :: es) X.env)).all (fun x=>!x.1) && (backToKw cpos (keywordEach [] X.env)).all (fun x=>x.1.isSome)
   && decide ((e :: es).length+([]:List Keyword).length+(if ([]:List Keyword).isEmpty then 0 else 1) < 30))=true:=by rfl)
  (hline:(apos.endLine == cpos.line)=true:=by rfl) (hs:starEach (e :: es) X.env=(false,eval e X.env) :: starEach es X.env:=by rfl) (hplain:(backTo cpos (starEach es X.env)).any (·.1)=false:=by rfl) :
  PE X (.Call (.Attribute o name apos) (e :: es) [] cpos) (tBM X.K T r to t):=by
 intro d s σ H Q I h;refine wpAny_Call_method_late hbase hfew hline rfl (thn (ho d s σ H _ I h) fun v s1 ⟨x,H1,I1,r1,ty,q1⟩=>?_);obtain ⟨h1,h2⟩:=qj0_ I1 r1 ty;refine ⟨T,id,pa,slot,hty,h1,h2,?_⟩
 have hA:=ha cpos d s1 σ H1 _ I1 q1;rw [hs] at hA ⊢;refine Calls.callWith_builtin (by show (false || (backTo cpos (starEach es X.env)).any (·.1))=false;rw [hplain] <;> rfl) (Calls.evalArgs_plain ?_)
 exact thn hA fun us s2 ⟨vs,H2,I2,r2,q2⟩=>hm d s2 σ H2 x vs v us Q I2 r1 r2 q2
end
def MtM (X:Cx) (id:String) (r:V->List V->Hp->VK->Prop):Prop :=
 ∀ (pins:List (Addr × Obj)) (s:Shared) (σ:St) (H:Hp) (x:V) (xs:List V) (v:Value) (us:List Value) (Q:VK),Inv X pins σ H s->RelV x v->Vals xs us->r x xs H Q →
  wpAny (model X.prog X.w) X.A (call (.builtin id) (v :: us)) (EP X pins σ Q) X.xe s
theorem Vals.one:∀ {x:V}{us:List Value},Vals [x] us->∃ u,us=[u]/\RelV x u
 | _,_,.cons r .nil=>⟨_,rfl,r⟩
theorem Vals.rep {xs:List V}{us:List Value} (h:Vals xs us):∀ k:Nat,Vals (List.replicate k xs).flatten (List.replicate k us).flatten
 | 0=>.nil
 | k+1=>by
  rw [dy,dy,eG,eG];exact Vals.append h (Vals.rep h k)
theorem qbv_ (its:List Value):∀ (k:Nat) (acc:List Value),
  List.foldl (fun x1 x2=>x1++x2) acc.toArray (List.replicate k its.toArray)=(acc++(List.replicate k its).flatten).toArray
 | 0,acc=>by simp
 | k+1,acc=>by
  have e:acc.toArray++its.toArray=(acc++its).toArray:=by simp
  have e2:(acc++its)++(List.replicate k its).flatten=acc++(List.replicate (k+1) its).flatten:=by
   rw [dy,eG,eI]
  rw [<- e2,← qbv_ its k (acc++its),← e,dy,List.foldl_cons]
section
variable {X:Cx}{pins:List (Addr × Obj)}{σ:St}{H:Hp}{s:Shared}{l b:Addr}{xs ys zs:List V}
theorem Inv.lset {its its':List Value}{n:Nat}{f:Array Value->Array Value}{t':Nat} (I:Inv X pins σ H s) (hH:H l=some (.lst xs))
  (e:s.heap.get? l=some { cls:=.type "list",data:=.seq its.toArray n }) (hf:f its.toArray=its'.toArray) (hv:Vals ys its') (hz:ys.length≤sizeLine) :
  Inv X pins σ (upd H l (.lst ys)) { s with heap:=s.heap.update l (Obj.mapSeq f),toks:=t' }:=by
 have q:=PySem.IsL.update e f;rw [hf] at q;refine I.write (x:=l) (e:=l) (by rw [hH];exact trivial) (.inl rfl) (fun b' u hb hu=>(Heap.get?_update_other s.heap (Obj.mapSeq f) (cJ hb)).trans hu) ⟨_,q⟩ ?_
 exact ⟨hz,its',_,hv,q⟩
theorem Inv.lnew {its:List Value}{t':Nat} (I:Inv X pins σ H s) (hv:Vals ys its) (hz:ys.length<=sizeLine) :
  Inv X pins σ (upd H s.heap.objs.size (.lst ys)) { s with heap:=s.heap.push { cls:=.type "list",data:=.seq its.toArray },toks:=t' } :=
 I.laid (fun _ _ q=>bD _ q) (bF _) ⟨hz,its,0,hv,bZ _ rfl⟩
theorem Inv.fresh (I:Inv X pins σ H s):H s.heap.objs.size=none:=I.hok.fresh (bF _)
theorem Inv.lstM (I:Inv X pins σ H s) (hH:H l=some (.lst xs)):xs.length≤sizeLine ∧ ∃ (its:List Value) (n:Nat),Vals xs its∧xs.length=its.length∧s.heap.get? l=some { cls:=.type "list",data:=.seq its.toArray n }:=by
 obtain ⟨z,its,n,r,e⟩:=I.hok l _ hH;exact ⟨z,its,n,r,r.length,e⟩
theorem qmc_ {n:Nat} (h:n<=sizeLine):Builtin.List.listTooLong n=false:=by
 unfold Builtin.List.listTooLong;exact bY (by omega)
end
section
variable {X:Cx}
inductive qgx_ (x:V) (vs:List V) (H:Hp) (Q:VK):Prop
 | mk:∀ l xs y,x=.ref l->vs=[y]->H l=some (.lst xs)->xs.length < sizeLine->Q .non (upd H l (.lst (xs++[y])))->qgx_ x vs H Q
theorem qQ_:MtM X "list.append" qgx_:=by
 intro g s σ H x vs v us Q I rx rv h;obtain ⟨l,xs,y,rfl,rfl,hH,hz,q⟩:=h
 cases rx;obtain ⟨u,rfl,ru⟩:=rv.one;obtain ⟨z,d,n,r,hl,e⟩:=I.lstM hH;refine call_meets F.slot_list_append ⟨_,e,rfl⟩ F.entry_list_append (F.args_list_append_2 _ _) (PySem.list_append l d.toArray n u (by rw [bX];omega)) ⟨e,?_⟩
 refine ⟨.non,_,I.lset (its':=d++[u]) hH e (by simp) (r.append (.cons ru .nil)) ?_,rfl,q⟩
 rw [cg,List.length_singleton];omega
inductive rCat (x y:V) (H:Hp) (Q:VK):Prop
 | mk:∀ l b xs zs,x=.ref l->y=.ref b->H l=some (.lst xs)->H b=some (.lst zs)->xs.length+zs.length<=sizeLine->(∀ p,H p=none->Q (.ref p) (upd H p (.lst (xs++zs))))->rCat x y H Q
theorem qd1_:OpR X (binaryOp .Add) rCat:=by
 intro B s σ H x y v u Q I rx ry h;obtain ⟨l,b,xs,zs,rfl,rfl,hH,hB,hz,q⟩:=h
 cases rx
 cases ry;obtain ⟨z,g,n,r,hl,e⟩:=I.lstM hH;obtain ⟨z2,d,n2,r2,C,e2⟩:=I.lstM hB;refine PySem.P.add_list e e2 ?_ (by rw [bX,bX];omega)
 have ea:g.toArray++d.toArray=(g++d).toArray:=by simp
 rw [ea];exact ⟨.ref _,_,I.lnew (t':=s.toks) (r.append r2) (by rw [cg];omega),rfl,q _ I.fresh⟩
inductive rRep (x y:V) (H:Hp) (Q:VK):Prop
 | mk:∀ l k xs,x=.ref l->y=.int k->H l=some (.lst xs)->-(2 ^ 63)<=k->k < 2 ^ 63->xs.length * k.toNat<=sizeLine->(∀ p,H p=none->Q (.ref p) (upd H p (.lst (List.replicate k.toNat xs).flatten)))->rRep x y H Q
theorem qoh_ {α:Type} (xs:List α) (k:Nat):(List.replicate k xs).flatten.length=k * xs.length:=by
 induction k with
 | zero=>simp
 | succ k ih=>rw [dy,eG,cg,ih,Nat.succ_mul,Nat.add_comm]
theorem uZ_:OpR X (binaryOp .Mult) rRep:=by
 intro G s σ H x y v u Q I rx ry h;obtain ⟨l,k,xs,rfl,rfl,hH,h1,h2,hz,q⟩:=h
 cases rx;obtain ⟨t,rfl⟩:=ry;obtain ⟨z,d,n,r,hl,e⟩:=I.lstM hH
 have C:d.toArray.size * k.toNat<=sizeLine:=by rw [bX,← hl];exact hz
 have E:¬ d.toArray.size * k.toNat > (2 ^ 63 - 1) / 8:=by
  have:(sizeLine:Nat)<=(2 ^ 63 - 1) / 8:=by decide
  omega
 have B:¬ (!Builtin.List.listFitsIndex k)=true:=by
  rw [fitsIndex_both h1 h2];exact bW
 have g:¬ Builtin.List.listTooLong (d.toArray.size * k.toNat)=true:=by
  rw [qmc_ C];exact bW
 have D:List.foldl (fun x1 x2=>x1++x2) #[] (List.replicate (if d.toArray.isEmpty=true then 0 else k.toNat) d.toArray)=(List.replicate k.toNat d).flatten.toArray:=by
  have f0:∀ m:Nat,List.foldl (fun x1 x2=>x1++x2) #[] (List.replicate m d.toArray)=(List.replicate m d).flatten.toArray:=fun m=>by
   have:=qbv_ d m [];rw [List.nil_append] at this;exact this
  rw [f0]
  cases d with
  | nil=>simp
  | cons a r'=>rw [if_neg (by simp)]
 refine wpAny_binaryOp_repeat_ref (T:="list") (U:="int") (by decide) ⟨_,e,rfl⟩ (fun s'=>typeIs_int s' k t) noFill_list_mul F.fills_int_mul F.slot_int_rmul repeat_list F.slot_int_index.lookup
  (call_meets F.slot_int_rmul (typeIs_int s k t) F.entry_int_rmul (F.args_int_rmul_2 _ _) (int___rmul___int_list k t l d.toArray n)
   ⟨e,rfl,⟨_,e,rfl⟩,call_meets F.slot_list_mul ⟨_,e,rfl⟩ F.entry_list_mul (F.args_list_mul_2 _ _) (AutoListH.list___mul___list_int_3 l d.toArray n k t B E g) ⟨e,?_⟩⟩)
 rw [D];exact ⟨.ref _,_,I.lnew (t':=s.toks) (r.rep k.toNat) (by rw [qoh_,dM];exact hz),rfl,q _ I.fresh⟩
end
section
variable {prog:Program}{w:World}{A:Around}{E:Value->Shared->Prop}{s:Shared}
end
section
variable {X:Cx}
end
end L2
namespace Att
open PySem PySem.W PySem.Calls PyProof.Rows
theorem u0_ {P:Params}{h:Heap}:∀ (ns:List Int) (vs:List Value),WellAll P h vs (ns.map WData.int)->IntsAre vs ns:=by
 intro ns
 induction ns with
 | nil =>
  intro vs w;rw [fG] at w
  cases w;exact .nil
 | cons n ns ih =>
  intro vs w;rw [cN] at w
  cases w with
  | cons a b =>
   cases a;exact .cons _ _ (ih _ b)
theorem qj1_ {l:OpenLaw}{n:Nat} (hn:l.most=some n) {P:Params}{h:Heap}{args:List WData}{vals:List Value}
  (hpre:l.row.toRowW.claim.pre args=true) (hwl:WellAll P h vals args) :
  ∃ a vs ns,vals=[Value.ref a]∧args=[WData.list (ns.map WData.int)]∧h.get? a=some { cls:=.type "list",data:=.seq vs.toArray } ∧ IntsAre vs ns∧ns.length≤n:=by
 have s:WShape.hasAll [] args [.list .int]=true:=(pre_splitW hpre).1
 have hc:l.pre.holds [] { args:=args } = true:=(pre_splitW hpre).2;obtain ⟨d,r,rfl,h1,h2⟩:=hasAllW_cons s;obtain rfl:=hasAllW_nil h2;obtain ⟨xs,rfl,h3⟩:=hasW_list h1;obtain ⟨ns,rfl⟩:=items_int h3
 have g:ns.length<=n:=by
  unfold OpenLaw.pre at hc
  have h4:(WTm.not (.lt (.lit (.int (n:Int))) (.len (.arg 0)))).holds [] { args:=[.list (ns.map .int)] } = true:=by
   have h4:=(holds_andW hc).1;rw [hn] at h4;exact h4
  have h5:=condW_of h4 (w_not (w_lt w_lit (w_len_list (w_arg rfl))));rw [b9] at h5;refine Nat.le_of_not_lt fun q=>?_
  have q':(n:Int) < ((ns.length:Nat):Int):=by omega
  first
   | (rw [bN q'] at h5;exact absurd h5 (by decide))
   | (simp at h5;omega)
 cases hwl with
 | cons w1 w2 =>
  cases w2
  cases w1 with
  | list ho hall=>exact ⟨_,_,ns,rfl,rfl,ho,u0_ ns _ hall,g⟩
theorem qj2_ (l:OpenLaw) (args:List WData):l.row.toRowW.claim.post args (.bool true) args=true :=
 postW_of (r:=l.row.toRowW) (X:=(true == true))
  (show WShape.has [] (.bool true) .bool=true by first | rfl | decide | simp [WShape.has,WShape.arms,WShape.armsAll])
  (show (WTm.eq .res (.lit (.bool true))).value [] { args:=args,res:=some (.bool true),after:=args } = some (.bool (true == true)) from w_eq_bool (w_res rfl) w_lit) rfl
theorem attach_call {l:OpenLaw}{n:Nat}{q:Program}{loose:List Str}{XP:(Str->Option Value)->Heap->Prop}{YP:World->Heap->Prop}{d:DefRec}
  (hn:l.most=some n) (hdf:d.params.defaults=[])
  (call:∀ (w:World) (s₀ s₁:Shared) (mg mb:Str->Option Value) (fa:Addr) (o:Obj) (pm cd doc:Value) (a:Addr) (vs:List Value) (ns:List Int),
   Ground q loose [] XP w s₀ mg mb s₁.heap->YP w s₁.heap →
   s₁.heap.get? fa=some o->o.data=.func (docDef d.name d.params d.body d.scope pm cd doc)->s₁.heap.CodeRec cd d.name->mg d.name=some (.ref fa) →
   s₁.heap.get? a=some { cls:=.type "list",data:=.seq vs.toArray } → IntsAre vs ns→ns.length≤n→s₁.gens = #[] →
   codeAny (model l.prog w) callerA (.call (.ref fa) ⟨[.ref a],[]⟩) (fun r s'=>r=.ok (.ret (.bool true))/\OldK s₁.heap s'.heap/\s'.os=s₁.os/\AllBare s'.gens) s₁) :
  WalkO q loose XP YP l.row.toRowW d [] (fun f vs=>PySem.call f vs):=by
 intro w s₀ s₁ mg mb G Y fa o pm cd doc dV kV ho hd E hD D hg H I as B J O C L;obtain rfl:dV=.none:=Dflts.none hD hdf;obtain rfl:kV=.none:=Dflts.noKw hD;obtain ⟨a,vs,ns,rfl,rfl,h,g,s⟩:=qj1_ hn B C;refine enter_call (fA (call w s₀ s₁ mg mb fa o pm cd doc a vs ns G Y ho (fd_plain hd) E D h g s hg) fun r s' hq=>?_);obtain ⟨rfl,h2,h3,h4⟩:=hq;exact ⟨.inl ⟨.bool true,.bool true,[],rfl,fun _=>rfl,.bool true,qj2_ l _,fun _=>⟨List.Pairwise.nil,fun _ hm=>(nomatch hm)⟩⟩,h2,h3,h4⟩
section
variable {prog:Program}{w:World}{A:Around}{E:Value->Shared->Prop}{s:Shared}{K:Frag}
end
end Att
namespace L2
open PySem PySem.Spec PyProof.Rows
theorem qbw_:∀ {vs:List Value}{ns:List Int},IntsAre vs ns->Vals (ns.map V.int) vs
 | _,_,.nil=>.nil
 | _,_,.cons n t h=>.cons ⟨t,rfl⟩ (qbw_ h)
abbrev KOf {K:PySem.W.Frag}{h:Heap} (_:K.In h):PySem.W.Frag:=K
end L2
namespace L2
open PySem PySem.Spec PyProof.Rows
def qC_ (s:Stmt) (j:Nat):Stmt:=match s with
 | .ClassDef _ _ _ body _ _ _ _ _ _ _=>body.getD j (.Pass ⟨0,0,0,0⟩)
 | _=>.Pass ⟨0,0,0,0⟩
def q5_ (s:Stmt):Arguments:=match s with
 | .FunctionDef _ a _ _ _ _ _ _ _ _=>a
 | _=>{ posonlyargs:=[],args:=[],vararg:=none,kwonlyargs:=[],kw_defaults:=[],kwarg:=none,defaults:=[] }
def qM_ (s:Stmt):List Stmt:=match s with
 | .FunctionDef _ _ b _ _ _ _ _ _ _=>b
 | _=>[]
def qe_ (s:Stmt):Scope:=match s with
 | .FunctionDef _ _ _ _ _ _ sc _ _ _=>sc
 | _=>{ kind:=.function,names:=[],isGenerator:=false,isCoroutine:=false }
abbrev CX0:CXT:=fun _ _ _ _ _ _=>False
abbrev E0:XK:=fun _ _ _=>False
theorem qj_ {X:Cx}:zc_ CX0 X E0:=fun _ _ _ _ _ _ _ h=>h.elim
structure Fun (K:PySem.W.Frag) (x qual:Str) (st:Stmt) (f:Addr) (fd:FuncData):Prop where
 ex:∃ (oc:Value) (od:Option Addr) (kV doc pm:Value) (an:Option Addr) (cdv ct:Value) (osl:Array (Option Value)),
  fd=PySem.W.fnOf x qual (q5_ st) (qM_ st) (qe_ st) .none kV doc pm an cdv ct/\K.lookup f=some ⟨oc,od,.func fd,osl⟩/\PySem.W.codeIn K cdv qual=true
 kp:PySem.W.keepIn K (.ref f)=true
section
variable {P:Program}{w:World}{K:PySem.W.Frag}{mg:Str->Option Value}{base:Heap}
theorem Fun.ok {x qual:Str}{st:Stmt}{f:Addr}{fd:FuncData}{N ps:List Str}{k:Nat}{sp:Sp} (F:Fun K x qual st f fd) (S:qk_ N ps (qe_ st)) (len:∀ vs H Q E,sp vs H Q E->vs.length=ps.length)
  (hbody:∀ (cdv:Value) (A:Around) (outer:List Env) (s:Shared) (H:Hp) (vs:List V) (Q:VK) (E:XK),Room k (A.deeper (envOfC qual (qe_ st) s.heap.objs.size f cdv))->sp vs H Q E →
   ∃ t,PSs (cxOf CX0 P w K mg base N qual (qe_ st) f cdv A outer s H E).nox (qM_ st) t/\t { nx:=fun _ H'=>Q .non H',rt:=Q } (start N vs) H):FnOk P w K mg base CX0 (k+1) f fd ps sp:=by
 obtain ⟨oc,od,kV,l,pm,an,cdv,ct,osl,rfl,lk,g⟩:=F.ex;refine qnx_ lk g S len fun A outer s H vs Q E hr d=>?_;obtain ⟨t,h,q⟩:=hbody cdv A outer s H vs Q E hr d;exact ⟨t,h.nox,q⟩
theorem Fun.binds {x qual:Str}{st:Stmt}{f:Addr}{fd:FuncData}{ps:List Str} (F:Fun K x qual st f fd)
  (h:∀ (kV doc pm:Value) (an:Option Addr) (cdv ct:Value) (us:List Value),us.length=ps.length->bindArgs (PySem.W.fnOf x qual (q5_ st) (qM_ st) (qe_ st) .none kV doc pm an cdv ct) ⟨us,[]⟩=pure (ps.zip us)):Binds K fd ps []:=by
 obtain ⟨oc,od,kV,doc,pm,an,cdv,ct,osl,rfl,lk,d⟩:=F.ex;exact .all (h kV doc pm an cdv ct)
theorem qj3_ {x qual:Str}{st:Stmt}{f:Addr}{oc:Value}{od an:Option Addr}{osl:Array (Option Value)}{kV doc pm cdv ct:Value} (l:K.lookup f=some ⟨oc,od,.func (PySem.W.fnOf x qual (q5_ st) (qM_ st) (qe_ st) .none kV doc pm an cdv ct),osl⟩)
  (c:PySem.W.codeIn K cdv qual=true) (k:PySem.W.keepIn K (.ref f)=true):Fun K x qual st f (PySem.W.fnOf x qual (q5_ st) (qM_ st) (qe_ st) .none kV doc pm an cdv ct):=⟨⟨oc,od,kV,doc,pm,an,cdv,ct,osl,rfl,l,c⟩,k⟩
end
theorem j5_ {A:Around}{k:Nat} (hr:Room k A):A.units+1 < cLine:=cY (Nat.add_le_add_left (by decide:1<=64) _) hr.units
theorem qj4_ {n:Nat} (h:n<=1000):n < sizeLine:=cY h (by decide)
section
variable {X:Cx}
theorem pv (i:Nat) {x:Str}{pos:Pos} (hN:X.N[i]?=some x:=by rfl) (hv:Vis X.env.scope x:=by first | exact Or.inl rfl | exact Or.inr (Or.inl rfl) | exact Or.inr (Or.inr rfl)) (hd:(x == ("__debug__" : Str))=false:=by decide)
  (hcd:(x == ("__classdict__" : Str))=false:=by decide):PE X (.Name x pos) (tVar i):=qpr_ hN hv hd hcd
end
theorem iteF {A B:Prop} (h:B):if false=true then A else B:=by
 rw [if_neg bW];exact h
theorem iteT {A B:Prop} (h:A):if true=true then A else B:=by
 rw [if_pos rfl];exact h
theorem ite2 {c A B:Prop} [Decidable c] (h1:c->A) (h2:¬ c->B):if c then A else B:=by
 by_cases h:c
 ·rw [if_pos h]
  exact h1 h
 ·rw [if_neg h]
  exact h2 h
def Same (H H':Hp):Prop:=∀ b o,H b=some o->H' b=some o
theorem Same.refl (H:Hp):Same H H:=fun _ _ h=>h
theorem Same.trans {H H1 H2:Hp} (a:Same H H1) (b:Same H1 H2):Same H H2:=fun c o h=>b c o (a c o h)
theorem Same.free {H H':Hp} (e:Same H H') {l:Addr} (h:H' l=Option.none):H l=Option.none:=by
 cases q:H l with
 | none=>rfl
 | some o =>
  rw [e l o q] at h
  cases h
theorem Same.seq {K:PySem.W.Frag}{H H':Hp}{a:Addr}{xs:List V} (e:Same H H') (h:SqL K H a xs):SqL K H' a xs:=by
 rcases h with (h | ⟨o,h⟩) | h
 ·exact .inl (.inl (e _ _ h))
 ·exact .inl (.inr ⟨o,e _ _ h⟩)
 ·exact .inr h
section
variable {X:Cx}{st:Stmt}{rest:List Stmt}{t:TS}{G:TS->Prop}{pos:Pos}
theorem xx {b:List Stmt} (k:let Y:=X;∃ t,PSs Y b t/\G t):∃ t,PSs X b t/\G t:=k
theorem xc (h:PS X st t) (k:let u:=t;∃ t',PSs X rest t'/\G (tSeq u t')):∃ t',PSs X (st :: rest) t'/\G t' :=
 let ⟨_,h',g⟩:=k
 ⟨_,ux_ h h',g⟩
theorem xl (h:PS X st t) (k:let u:=t;G u):∃ t',PSs X [st] t'/\G t':=⟨_,vW_ h,k⟩
theorem xq (k:∃ t,PS X st t/\(let u:=t;∃ t',PSs X rest t'/\G (tSeq u t'))):∃ t',PSs X (st :: rest) t'/\G t' :=
 let ⟨_,h,_,h',g⟩:=k
 ⟨_,ux_ h h',g⟩
theorem x1 (k:∃ t,PS X st t/\(let u:=t;G u)):∃ t',PSs X [st] t'/\G t' :=
 let ⟨_,h,g⟩:=k
 ⟨_,vW_ h,g⟩
theorem xi {c:Expr}{a b:List Stmt}{tc:TT} (hc:PT X c tc) (k:∃ t,PSs X a t/\∃ u,PSs X b u/\G (tIfS tc t u)):∃ t,PS X (.If c a b pos) t/\G t :=
 let ⟨_,ha,_,hb,g⟩:=k
 ⟨_,qqp_ hc ha hb,g⟩
theorem xf {tg iter:Expr}{body:List Stmt}{wi:TI}{g:TG} (hp:PassesOwn (model X.prog X.w) X.A X.env X.xe) (hc:X.calm=true) (hi:PI X tg iter wi) (hg:PG X tg g) (k:∃ tb,PSs X body tb/\G (tFor wi g tb))
  (hs:∀ x,foldedSetIterable iter X.env x=pure x:=by intro _;rfl):∃ t,PS X (.For tg iter body [] pos) t/\G t :=
 let ⟨_,hb,q⟩:=k
 ⟨_,qpy_ hp hc hi hg hb hs,q⟩
theorem xw {c:Expr}{body:List Stmt}{tc:TT} (hp:PassesOwn (model X.prog X.w) X.A X.env X.xe) (hc:PT X c tc) (k:∃ tb,PSs X body tb/\G (qjn_ tc tb)):∃ t,PS X (.While c body [] pos) t/\G t :=
 let ⟨_,hb,q⟩:=k
 ⟨_,ql8_ hp hc hb,q⟩
end
theorem ln1 {f:FuncData}{ps:List Str} (us:List Value) (hl:us.length=1) (h:∀ x0,bindArgs f ⟨[x0],[]⟩=pure (ps.zip [x0])):bindArgs f ⟨us,[]⟩=pure (ps.zip us):=match us,hl with | [x0],_=>h x0
theorem ln2 {f:FuncData}{ps:List Str} (us:List Value) (hl:us.length=2) (h:∀ x0 x1,bindArgs f ⟨[x0,x1],[]⟩=pure (ps.zip [x0,x1])):bindArgs f ⟨us,[]⟩=pure (ps.zip us):=match us,hl with | [x0,x1],_=>h x0 x1
theorem ln3 {f:FuncData}{ps:List Str} (us:List Value) (hl:us.length=3) (h:∀ x0 x1 x2,bindArgs f ⟨[x0,x1,x2],[]⟩=pure (ps.zip [x0,x1,x2])):bindArgs f ⟨us,[]⟩=pure (ps.zip us):=match us,hl with | [x0,x1,x2],_=>h x0 x1 x2
theorem ln4 {f:FuncData}{ps:List Str} (us:List Value) (hl:us.length=4) (h:∀ x0 x1 x2 x3,bindArgs f ⟨[x0,x1,x2,x3],[]⟩=pure (ps.zip [x0,x1,x2,x3])):bindArgs f ⟨us,[]⟩=pure (ps.zip us):=match us,hl with | [x0,x1,x2,x3],_=>h x0 x1 x2 x3
theorem ln5 {f:FuncData}{ps:List Str} (us:List Value) (hl:us.length=5) (h:∀ x0 x1 x2 x3 x4,bindArgs f ⟨[x0,x1,x2,x3,x4],[]⟩=pure (ps.zip [x0,x1,x2,x3,x4])):bindArgs f ⟨us,[]⟩=pure (ps.zip us):=match us,hl with | [x0,x1,x2,x3,x4],_=>h x0 x1 x2 x3 x4
inductive E1 {T0:Type} (p:T0->Prop):Prop
 | mk:∀ x0,p x0->E1 p
inductive E2 {T0 T1:Type} (p:T0->T1->Prop):Prop
 | mk:∀ x0 x1,p x0 x1->E2 p
inductive E3 {T0 T1 T2:Type} (p:T0->T1->T2->Prop):Prop
 | mk:∀ x0 x1 x2,p x0 x1 x2->E3 p
inductive E6 {T0 T1 T2 T3 T4 T5:Type} (p:T0->T1->T2->T3->T4->T5->Prop):Prop
 | mk:∀ x0 x1 x2 x3 x4 x5,p x0 x1 x2 x3 x4 x5->E6 p
inductive A2 (p0 p1:Prop):Prop
 | mk:p0->p1->A2 p0 p1
inductive A3 (p0 p1 p2:Prop):Prop
 | mk:p0->p1->p2->A3 p0 p1 p2
inductive A4 (p0 p1 p2 p3:Prop):Prop
 | mk:p0->p1->p2->p3->A4 p0 p1 p2 p3
inductive A5 (p0 p1 p2 p3 p4:Prop):Prop
 | mk:p0->p1->p2->p3->p4->A5 p0 p1 p2 p3 p4
inductive A6 (p0 p1 p2 p3 p4 p5:Prop):Prop
 | mk:p0->p1->p2->p3->p4->p5->A6 p0 p1 p2 p3 p4 p5
inductive A8 (p0 p1 p2 p3 p4 p5 p6 p7:Prop):Prop
 | mk:p0->p1->p2->p3->p4->p5->p6->p7->A8 p0 p1 p2 p3 p4 p5 p6 p7
inductive A10 (p0 p1 p2 p3 p4 p5 p6 p7 p8 p9:Prop):Prop
 | mk:p0->p1->p2->p3->p4->p5->p6->p7->p8->p9->A10 p0 p1 p2 p3 p4 p5 p6 p7 p8 p9
def BndP (x q:Str) (st:Stmt) (ps:List Str):Prop:=∀ (kV doc pm:Value) (an:Option Addr) (cdv ct:Value) (us:List Value),us.length=ps.length->bindArgs (PySem.W.fnOf x q (q5_ st) (qM_ st) (qe_ st) .none kV doc pm an cdv ct) ⟨us,[]⟩=pure (ps.zip us)
def fd (K:PySem.W.Frag) (f:Addr):FuncData:=((K.lookup f).bind fun o=>match o.data with | .func d=>some d | _=>none).getD (PySem.W.fnOf "" "" (q5_ (.Pass ⟨0,0,0,0⟩)) [] (qe_ (.Pass ⟨0,0,0,0⟩)) .none .none .none .none none .none .none)
theorem qdp_ {K:PySem.W.Frag}{f:Addr}{oc:Value}{od:Option Addr}{d:FuncData}{osl:Array (Option Value)} (l:K.lookup f=some ⟨oc,od,.func d,osl⟩):fd K f=d:=by
 unfold fd;rw [l];rfl
structure GD (K:PySem.W.Frag) (mg:Str->Option Value) (x:Str) (st:Stmt) (f:Addr) (ps:List Str):Prop where
 m:mg x=some (.ref f)
 F:Fun K x x st f (fd K f)
 b:Binds K (fd K f) ps []
 k:PySem.W.keepIn K (.ref f)=true
structure MD (K:PySem.W.Frag) (C:Addr) (x q:Str) (st:Stmt) (f:Addr) (ps:List Str):Prop where
 me:Meth K C x f
 F:Fun K x q st f (fd K f)
 b:Binds K (fd K f) ps []
 k:PySem.W.keepIn K (.ref f)=true
section
variable {K:PySem.W.Frag}{h:Heap}{mg:Str->Option Value}{x q:Str}{st:Stmt}{f C:Addr}{ps:List Str}{oc:Value}{od an:Option Addr}{osl:Array (Option Value)}{kV doc pm cdv ct:Value}
theorem gd_mk (X:K.In h) (G:h.Ns mainGlobals mg) (a:PySem.W.nsIn K mainGlobals x=some (some (.ref f))) (l:K.lookup f=some ⟨oc,od,.func (PySem.W.fnOf x x (q5_ st) (qM_ st) (qe_ st) .none kV doc pm an cdv ct),osl⟩) (c:PySem.W.codeIn K cdv x=true) (k:PySem.W.keepIn K (.ref f)=true) (hb:BndP x x st ps):GD K mg x st f ps:=by
 have F:Fun K x x st f (fd K f):=by rw [qdp_ l];exact qj3_ l c k
 exact ⟨PySem.W.mg_of X G a,F,F.binds hb,k⟩
theorem md_mk (a:PySem.W.findIn K (.ref C) x=some (some (.ref f))) (i:PySem.W.isFn K (.ref f)=true) (l:K.lookup f=some ⟨oc,od,.func (PySem.W.fnOf x q (q5_ st) (qM_ st) (qe_ st) .none kV doc pm an cdv ct),osl⟩) (c:PySem.W.codeIn K cdv q=true) (k:PySem.W.keepIn K (.ref f)=true) (hb:BndP x q st ps):MD K C x q st f ps:=by
 have F:Fun K x q st f (fd K f):=by rw [qdp_ l];exact qj3_ l c k
 exact ⟨⟨a,i,k⟩,F,F.binds hb,k⟩
end
abbrev FnO (P:Program) (w:World) (K:PySem.W.Frag) (mg:Str->Option Value) (base:Heap) (k:Nat) (f:Addr) (ps:List Str) (sp:Sp):Prop:=FnOk P w K mg base CX0 k f (fd K f) ps sp
theorem Room.u {j k:Nat}{A:Around} (r:Room k A) (h:j<=k:=by decide):Room j A:=r.mono h
theorem scM {N P:List Str}{sc:Scope} (h1:sc.kind=.function:=by rfl) (h2:sc.isCoroutine=false:=by rfl) (h3:sc.isGenerator=false:=by rfl) (h4:N.Nodup:=by decide +kernel) (h5:N.take P.length=P:=by rfl) (h6:∀ x∈P,sc.names.lookup x=some .local\/sc.names.lookup x=some .cell:=by decide +kernel) (h7:∀ y∈sc.names,y.2≠.free:=by decide +kernel):qk_ N P sc:=⟨h1,h2,h3,h4,h5,h6,h7⟩
section
variable {P:Program}{w:World}{K:PySem.W.Frag}{mg:Str->Option Value}{base:Heap}
theorem Fun.okA {x qual:Str}{st:Stmt}{f:Addr}{fd:FuncData}{N ps:List Str}{k:Nat}{sp:Sp} (F:Fun K x qual st f fd) (S:qk_ N ps (qe_ st))
  (hbody:∀ (cdv:Value) (A:Around) (outer:List Env) (s:Shared) (H:Hp) (vs:List V) (Q:VK) (E:XK),Room k (A.deeper (envOfC qual (qe_ st) s.heap.objs.size f cdv))->sp vs H Q E →
   ∃ t,PSs (cxOf CX0 P w K mg base N qual (qe_ st) f cdv A outer s H E).nox (qM_ st) t/\t { nx:=fun _ H'=>Q .non H',rt:=Q } (start N vs) H)
  (len:∀ vs H Q E,sp vs H Q E->vs.length=ps.length:=by intro vs H Q E h;first | (cases h;subst_vars;rfl) | ((repeat (obtain ⟨_,h⟩:=h));subst_vars;rfl)):FnOk P w K mg base CX0 (k+1) f fd ps sp:=F.ok S len hbody
end
end L2
namespace GF
theorem two_mul_xor (a b:Nat):2 * (a ^^^ b)=(2 * a) ^^^ (2 * b):=by
 apply dD
 intro i;rw [d0]
 cases i with
 | zero=>simp [Nat.testBit_zero]
 | succ i=>simp [dE]
theorem uf_ (a b:Nat):(a ^^^ b) / 2=(a / 2) ^^^ (b / 2):=by
 apply dD
 intro i;rw [d0,← dE,← dE,← dE,d0]
theorem ug_ (a b:Nat):(a ^^^ b) % 2=(a % 2+b % 2) % 2:=by
 have h:=d0 a b 0;simp only [Nat.testBit_zero] at h
 rcases cO a with ha | ha <;> rcases cO b with hb | hb <;>
  rcases cO (a ^^^ b) with hc | hc <;> simp_all
theorem xor4 (a b c d:Nat):(a ^^^ b) ^^^ (c ^^^ d)=(a ^^^ c) ^^^ (b ^^^ d):=by
 rw [dj,dj,← dj b c d,Nat.xor_comm b c,dj c b d]
def dbl (r w x:Nat):Nat:=if 2 ^ w<=2 * x then (2 * x) ^^^ r else 2 * x
structure Rule (r w:Nat):Prop where
 lo:2 ^ w<=r
 hi:r < 2 ^ (w+1)
theorem zK_ {w x:Nat} (h:x < 2 ^ (w+1)):(2 ^ w<=x) ↔ x.testBit w=true:=by
 constructor
 ·intro h1
  rw [Nat.testBit_eq_decide_div_mod_eq]
  have:x / 2 ^ w=1:=by
   apply Nat.div_eq_of_lt_le
   ·omega
   ·rw [dl] at h;omega
  rw [this];rfl
 ·intro h1
  exact Nat.ge_two_pow_of_testBit h1
theorem qj5_ {w x:Nat} (h:x < 2 ^ (w+1)) (hb:x.testBit w=false):x < 2 ^ w:=by
 refine Nat.lt_of_not_le fun q=>?_;rw [(zK_ h).mp q] at hb
 cases hb
variable {r w:Nat}
theorem dbl_lt (R:Rule r w) {x:Nat} (hx:x < 2 ^ w):dbl r w x < 2 ^ w:=by
 unfold dbl
 have h2:2 * x < 2 ^ (w+1):=by rw [dl];omega
 split
 ·rename_i h
  refine qj5_ (dq h2 R.hi) ?_;rw [d0,(zK_ h2).mp h,(zK_ R.hi).mp R.lo];rfl
 ·omega
theorem qd2_ {x:Nat} (hx:x < 2 ^ w):dbl r w x=(2 * x) ^^^ (bif (2 * x).testBit w then r else 0):=by
 have h2:2 * x < 2 ^ (w+1):=by rw [dl];omega
 unfold dbl
 split
 ·rename_i h
  rw [(zK_ h2).mp h];rfl
 ·rename_i h
  cases e:(2 * x).testBit w
  ·simp
  ·exact absurd ((zK_ h2).mpr e) h
theorem qgy_ (R:Rule r w) {a b:Nat} (ha:a < 2 ^ w) (hb:b < 2 ^ w):dbl r w (a ^^^ b)=dbl r w a ^^^ dbl r w b:=by
 rw [qd2_ (dq ha hb),qd2_ ha,qd2_ hb,two_mul_xor,d0,xor4]
 congr 1
 cases (2 * a).testBit w <;> cases (2 * b).testBit w <;> simp
theorem zd_:dbl r w 0=0:=by
 unfold dbl
 have:0 < 2 ^ w:=d5 w;rw [if_neg (by omega)]
def tm (r w a b:Nat):Nat:=if b=0 then 0 else (if b % 2=1 then a else 0) ^^^ tm r w (dbl r w a) (b / 2)
termination_by b
decreasing_by omega
theorem tm_zero (a:Nat):tm r w a 0=0:=by rw [tm];simp
theorem tm_step (a b:Nat):tm r w a b=(if b % 2=1 then a else 0) ^^^ tm r w (dbl r w a) (b / 2):=by
 by_cases h:b=0
 ·subst h
  rw [tm_zero]
  simp [tm_zero]
 ·rw [tm];simp [h]
theorem tm_lt (R:Rule r w):∀ {b a:Nat},a < 2 ^ w->tm r w a b < 2 ^ w:=by
 intro b
 induction b using Nat.strongRecOn with
 | _ b ih =>
  intro a ha
  by_cases h:b=0
  ·subst h;rw [tm_zero];exact d5 w
  ·rw [tm_step]
   refine dq ?_ (ih (b / 2) (by omega) (dbl_lt R ha))
   split
   ·exact ha
   ·exact d5 w
theorem yb_ (R:Rule r w):∀ {b a c:Nat},a < 2 ^ w->c < 2 ^ w->tm r w (a ^^^ c) b=tm r w a b ^^^ tm r w c b:=by
 intro b
 induction b using Nat.strongRecOn with
 | _ b ih =>
  intro a c ha hc
  by_cases h:b=0
  ·subst h;simp [tm_zero]
  ·rw [tm_step,tm_step a,tm_step c,qgy_ R ha hc,ih (b / 2) (by omega) (dbl_lt R ha) (dbl_lt R hc),xor4]
   congr 1
   split <;> simp
theorem yE_ (R:Rule r w):∀ {b a:Nat},a < 2 ^ w->tm r w (dbl r w a) b=dbl r w (tm r w a b):=by
 intro b
 induction b using Nat.strongRecOn with
 | _ b ih =>
  intro a ha
  by_cases h:b=0
  ·subst h;simp [tm_zero,zd_]
  ·have hz:(if b % 2=1 then a else 0) < 2 ^ w:=by
    split
    ·exact ha
    ·exact d5 w
   rw [tm_step,tm_step a,qgy_ R hz (tm_lt R (dbl_lt R ha)),ih (b / 2) (by omega) (dbl_lt R ha)]
   congr 1
   split <;> simp [zd_]
theorem tm_xor_right:∀ {b c a:Nat},tm r w a (b ^^^ c)=tm r w a b ^^^ tm r w a c:=by
 intro b
 induction b using Nat.strongRecOn with
 | _ b ih =>
  intro c a
  by_cases h:b=0
  ·subst h;simp [tm_zero]
  ·rw [tm_step a (b ^^^ c),tm_step a b,tm_step a c,uf_,ih (b / 2) (by omega),xor4]
   congr 1
   rw [ug_];rcases cO b with hb | hb <;> rcases cO c with hc | hc <;> simp [hb,hc]
abbrev ev (r w x:Nat):Nat:=tm r w 1 x
theorem qoi_ (hw':1 < w):dbl r w 1=2:=by
 unfold dbl
 have:2 ^ 2<=2 ^ w:=dh (by decide) hw'
 rw [if_neg (by omega)]
theorem one_lt (hw:1 < w):1 < 2 ^ w:=by
 have:2 ^ 2<=2 ^ w:=dh (by decide) hw
 omega
theorem ze_ (a x:Nat) (R:Rule r w) (ha:a < 2 ^ w):tm r w a x=(if x % 2=1 then a else 0) ^^^ dbl r w (tm r w a (x / 2)):=by
 rw [tm_step,yE_ R ha]
theorem qoj_ (R:Rule r w) (hw:1 < w):∀ {k x:Nat},k<=w->x < 2 ^ k->ev r w x=x:=by
 intro k
 induction k with
 | zero =>
  intro x _ hx
  have:x=0:=by simpa using hx
  subst this;exact tm_zero 1
 | succ k ih =>
  intro x hk hx
  have d:x / 2 < 2 ^ k:=by rw [dl] at hx;omega
  have g:2 ^ k<=2 ^ (w - 1):=dh (by decide) (by omega)
  have l:2 * 2 ^ (w - 1)=2 ^ w:=by rw [dM,← dl];congr 1;omega
  have h1:ev r w (x / 2)=x / 2:=ih (by omega) d
  unfold ev at h1 ⊢
  have hd:dbl r w (x / 2)=2 * (x / 2):=by
   unfold dbl;rw [if_neg (by omega)]
  rw [ze_ 1 x R (one_lt hw),h1,hd];rcases cO x with h | h
  ·rw [if_neg (by omega),cS];omega
  ·rw [if_pos h]
   apply dD
   intro i;rw [d0]
   cases i with
   | zero=>simp [Nat.testBit_zero,h]
   | succ i=>simp [dE]
theorem one_tm (R:Rule r w) (hw:1 < w) {x:Nat} (hx:x < 2 ^ w):tm r w 1 x=x:=qoj_ R hw (bF w) hx
theorem tm_one (a:Nat):tm r w a 1=a:=by
 rw [tm_step];simp [tm_zero]
theorem qp0_ (a:Nat):tm r w a 2=dbl r w a:=by
 rw [tm_step];simp [tm_one]
theorem tm_comm (R:Rule r w) (hw:1 < w) {a b:Nat} (ha:a < 2 ^ w) (hb:b < 2 ^ w):tm r w a b=tm r w b a:=by
 have d:∀ x y:Nat,tm r w (ev r w x) y=tm r w (ev r w y) x:=by
  intro x
  induction x using Nat.strongRecOn with
  | _ x ih =>
   intro y
   by_cases h:x=0
   ·subst h
    show tm r w (tm r w 1 0) y=tm r w (ev r w y) 0
    rw [tm_zero,tm_zero]
    have:∀ y,tm r w 0 y=0:=by
     intro y
     induction y using Nat.strongRecOn with
     | _ y ihy =>
      by_cases hy:y=0
      ·subst hy;exact tm_zero 0
      ·rw [tm_step,zd_,ihy (y / 2) (by omega)];simp
    exact this y
   ·have e1:ev r w x=(if x % 2=1 then 1 else 0) ^^^ dbl r w (ev r w (x / 2)):=ze_ 1 x R (one_lt hw)
    have l1:ev r w (x / 2) < 2 ^ w:=tm_lt R (one_lt hw)
    have l2:(if x % 2=1 then 1 else 0) < 2 ^ w:=by
     split
     ·exact one_lt hw
     ·exact d5 w
    have ly:ev r w y < 2 ^ w:=tm_lt R (one_lt hw);rw [e1,yb_ R l2 (dbl_lt R l1),yE_ R l1,ih (x / 2) (by omega) y,ze_ (ev r w y) x R ly]
    congr 1
    split
    ·rfl
    ·have:∀ y,tm r w 0 y=0:=by
      intro y
      induction y using Nat.strongRecOn with
      | _ y ihy =>
       by_cases hy:y=0
       ·subst hy;exact tm_zero 0
       ·rw [tm_step,zd_,ihy (y / 2) (by omega)];simp
     exact this y
 have h:=d a b;rw [show ev r w a=a from one_tm R hw ha,show ev r w b=b from one_tm R hw hb] at h;exact h
theorem zero_tm (y:Nat):tm r w 0 y=0:=by
 induction y using Nat.strongRecOn with
 | _ y ihy =>
  by_cases hy:y=0
  ·subst hy;exact tm_zero 0
  ·rw [tm_step,zd_,ihy (y / 2) (by omega)];simp
theorem qd3_ (R:Rule r w) (hw:1 < w) {a z:Nat} (ha:a < 2 ^ w) (hz:z < 2 ^ w):tm r w a (dbl r w z)=dbl r w (tm r w a z):=by
 rw [tm_comm R hw ha (dbl_lt R hz),yE_ R hz,tm_comm R hw hz ha]
theorem tm_assoc (R:Rule r w) (hw:1 < w) {a b:Nat} (ha:a < 2 ^ w) (hb:b < 2 ^ w):∀ c,tm r w (tm r w a b) c=tm r w a (tm r w b c):=by
 intro c
 induction c using Nat.strongRecOn with
 | _ c ih =>
  by_cases h:c=0
  ·subst h;simp [tm_zero]
  ·rw [ze_ _ c R (tm_lt R ha),ze_ b c R hb,tm_xor_right,qd3_ R hw ha (tm_lt R hb),ih (c / 2) (by omega)]
   congr 1
   split
   ·rfl
   ·exact (tm_zero a).symm
end GF
namespace GF
theorem qf5_ (a b:Nat):(a &&& b) / 2=(a / 2) &&& (b / 2):=by
 apply dD
 intro i;rw [Nat.testBit_and,← dE,← dE,← dE,Nat.testBit_and]
theorem qf6_ (a b:Nat):(a &&& b) % 2=(a % 2) * (b % 2):=by
 have h:=Nat.testBit_and a b 0;simp only [Nat.testBit_zero] at h
 rcases cO a with ha | ha <;> rcases cO b with hb | hb <;>
  rcases cO (a &&& b) with hc | hc <;> simp_all
theorem xor_add_and:∀ (a b:Nat),(a ^^^ b)+2 * (a &&& b)=a+b:=by
 intro a
 induction a using Nat.strongRecOn with
 | _ a ih =>
  intro b
  by_cases h:a=0
  ·subst h;simp
  ·have h1:=ih (a / 2) (by omega) (b / 2)
   have e1:=uf_ a b
   have e2:=qf5_ a b
   have m1:=ug_ a b
   have m2:=qf6_ a b;rcases cO a with ha | ha <;> rcases cO b with hb | hb <;> rw [ha,hb] at m1 m2 <;> omega
variable {r w:Nat}
end GF
namespace GF
def it (r w:Nat):Nat->Nat
 | 0=>1
 | n+1=>dbl r w (it r w n)
structure Good (r w:Nat):Prop where
 rule:Rule r w
 w4:4<=w
 w8:w<=8
 odd:r % 2=1
 lo16:16<=r
 hi511:r<=511
 back:it r w (2 ^ w - 1)=1
 first:∀ n,1<=n->n < 2 ^ w - 1->it r w n≠1
theorem Good.w1 {r w:Nat} (g:Good r w):1 < w:=bR (by decide) g.w4
theorem Good.top16 {r w:Nat} (g:Good r w):16<=2 ^ w:=dh (n:=2) (by decide) g.w4
theorem Good.top256 {r w:Nat} (g:Good r w):2 ^ w<=256:=dh (n:=2) (by decide) g.w8
theorem Good.last1 {r w:Nat} (g:Good r w):1<=2 ^ w - 1:=by
 have:=g.top16;omega
theorem it_lt {r w:Nat} (R:Rule r w) (hw:1 < w):∀ n,it r w n < 2 ^ w
 | 0=>one_lt hw
 | n+1=>dbl_lt R (it_lt R hw n)
def yP_ (r w:Nat):Nat->Nat->Nat->Option Nat
 | 0,_,_=>none
 | fuel+1,x,n=>if x=1 then some n else yP_ r w fuel (dbl r w x) (n+1)
theorem qa2_ {r w:Nat}:∀ {fuel n m:Nat},yP_ r w fuel (it r w n) n=some m->it r w m=1/\∀ k,n<=k->k < m->it r w k≠1:=by
 intro fuel
 induction fuel with
 | zero=>intro n m h;cases h
 | succ fuel ih =>
  intro n m h;unfold yP_ at h
  split at h
  ·rename_i e
   cases h;exact ⟨e,fun k h1 h2=>absurd h2 (by omega)⟩
  ·rename_i e
   obtain ⟨h1,h2⟩:=ih (n:=n+1) h;refine ⟨h1,fun k a b=>?_⟩
   by_cases q:k=n
   ·subst q;exact e
   ·exact h2 k (by omega) b
def rules:List Nat:=[19,25,37,41,47,55,59,61,67,91,97,103,109,115,131,137,143,145,157,167,171,185,191,193,
 203,211,213,229,239,241,247,253,285,299,301,333,351,355,357,361,369,391,397,425,451,463,487,501]
def chk (r:Nat):Bool:=decide (16<=r) && decide (r<=511) && decide (r % 2=1) && decide (4<=r.log2) && decide (r.log2<=8) && decide (2 ^ r.log2<=r) && decide (r < 2 ^ (r.log2+1)) &&
 decide (yP_ r r.log2 600 2 1=some (2 ^ r.log2 - 1))
theorem qj6_:rules.all chk=true:=by decide +kernel
theorem qf7_ {r:Nat} (h:chk r=true):Good r r.log2:=by
 unfold chk at h;simp only [cC,decide_eq_true_eq] at h;obtain ⟨⟨⟨⟨⟨⟨⟨h1,h2⟩,h3⟩,h4⟩,h5⟩,h6⟩,h7⟩,h8⟩:=h
 have e:it r r.log2 1=2:=qoi_ (by omega)
 have h9:yP_ r r.log2 600 (it r r.log2 1) 1=some (2 ^ r.log2 - 1):=by rw [e];exact h8
 obtain ⟨b1,b2⟩:=qa2_ h9;exact ⟨⟨h6,h7⟩,h4,h5,h3,h1,h2,b1,b2⟩
def ruleOf (c:Int):Nat:=rules.getD (c % 48).toNat 19
theorem qf8_ (c:Int):Good (ruleOf c) (ruleOf c).log2:=by
 apply qf7_
 have h:=c5.mp qj6_
 apply h
 unfold ruleOf
 have hl:rules.length=48:=rfl
 have h1:(c % 48).toNat < rules.length:=by rw [hl];omega
 rw [b7,b8 h1];exact cR h1
end GF
namespace GF
def mask (r w:Nat):Nat->Nat->Nat->Nat
 | 0,_,acc=>acc
 | fuel+1,x,acc=>mask r w fuel (dbl r w x) (acc ||| 2 ^ x)
theorem qmd_ {r w:Nat}:∀ {fuel n acc b:Nat},(mask r w fuel (it r w n) acc).testBit b=true->acc.testBit b=true\/∃ k,it r w k=b:=by
 intro fuel
 induction fuel with
 | zero=>intro n acc b h;exact .inl h
 | succ fuel ih =>
  intro n acc b h;rcases ih (n:=n+1) h with q | q
  ·rw [Nat.testBit_or,Nat.testBit_two_pow,dP] at q
   rcases q with q | q
   ·exact .inl q
   ·exact .inr ⟨n,bC q⟩
  ·exact .inr q
theorem qio_:rules.all (fun r=>decide (mask r r.log2 (2 ^ r.log2 - 1) 1 0=2 ^ 2 ^ r.log2 - 2))=true:=by decide +kernel
theorem qok_ {N b:Nat} (h0:0 < b) (h:b < N):(2 ^ N - 2).testBit b=true:=by
 obtain ⟨M,rfl⟩:∃ M,N=M+1:=⟨N - 1,by omega⟩
 obtain ⟨c,rfl⟩:∃ c,b=c+1:=⟨b - 1,by omega⟩
 have e:(2 ^ (M+1) - 2) / 2=2 ^ M - 1:=by rw [dl];omega
 rw [dE,e,Nat.testBit_two_pow_sub_one];exact bN (by omega)
structure Full (r w:Nat):Prop extends Good r w where
 all:∀ x,0 < x->x < 2 ^ w->∃ n,it r w n=x
theorem ruleOf_full (c:Int):Full (ruleOf c) (ruleOf c).log2:=by
 refine ⟨qf8_ c,fun x h0 h=>?_⟩
 have hm:ruleOf c∈rules:=by
  unfold ruleOf
  have hl:rules.length=48:=rfl
  have h1:(c % 48).toNat < rules.length:=by rw [hl];omega
  rw [b7,b8 h1];exact cR h1
 have q:=bC (c5.mp qio_ _ hm)
 have b:=qok_ h0 h;rw [<- q] at b;rcases qmd_ (n:=0) b with z | z
 ·rw [Nat.zero_testBit] at z;cases z
 ·exact z
variable {r w:Nat}
theorem qf9_ (g:Good r w) {x:Nat} (hx:x < 2 ^ w) (h:dbl r w x=0):x=0:=by
 unfold dbl at h
 split at h
 ·have e:2 * x=r:=by
   have:=congrArg (· ^^^ r) h;simp only [cS,dj,dN,cT] at this;exact this
  have:=g.odd;omega
 ·omega
theorem u1_ (g:Good r w) {y:Nat} (hy:y < 2 ^ w):∀ n,tm r w (it r w n) y=0->y=0
 | 0,h=>by rw [show it r w 0=1 from rfl,one_tm g.rule g.w1 hy] at h;exact h
 | n+1,h=>by
  rw [show it r w (n+1)=dbl r w (it r w n) from rfl,yE_ g.rule (it_lt g.rule g.w1 n)] at h;exact u1_ g hy n (qf9_ g (tm_lt g.rule (it_lt g.rule g.w1 n)) h)
theorem tm_eq_zero (g:Full r w) {x y:Nat} (hx:x < 2 ^ w) (hy:y < 2 ^ w):tm r w x y=0 ↔ (x=0\/y=0):=by
 constructor
 ·intro h
  by_cases h0:x=0
  ·exact .inl h0
  ·obtain ⟨n,rfl⟩:=g.all x (by omega) hx
   exact .inr (u1_ g.toGood hy n h)
 ·rintro (rfl | rfl)
  ·exact zero_tm y
  ·exact tm_zero x
def pw (r w x:Nat):Nat->Nat
 | 0=>1
 | n+1=>tm r w (pw r w x n) x
theorem pw_lt (g:Good r w) {x:Nat} (hx:x < 2 ^ w):∀ n,pw r w x n < 2 ^ w
 | 0=>one_lt g.w1
 | n+1=>tm_lt g.rule (pw_lt g hx n)
theorem pw_add (g:Good r w) {x:Nat} (hx:x < 2 ^ w) (m:Nat):∀ n,pw r w x (m+n)=tm r w (pw r w x m) (pw r w x n)
 | 0=>by rw [Nat.add_zero,show pw r w x 0=1 from rfl,tm_one]
 | n+1=>by
  rw [<- Nat.add_assoc]
  show tm r w (pw r w x (m+n)) x=tm r w (pw r w x m) (tm r w (pw r w x n) x)
  rw [pw_add g hx m n,tm_assoc g.rule g.w1 (pw_lt g hx m) (pw_lt g hx n)]
theorem pw_one (x:Nat) (g:Good r w) (hx:x < 2 ^ w):pw r w x 1=x:=by
 show tm r w 1 x=x
 exact one_tm g.rule g.w1 hx
theorem u2_ (g:Good r w) {x:Nat} (hx:x < 2 ^ w) (m:Nat):∀ n,pw r w (pw r w x m) n=pw r w x (m * n)
 | 0=>by rw [Nat.mul_zero];rfl
 | n+1=>by
  rw [Nat.mul_succ,pw_add g hx]
  show tm r w (pw r w (pw r w x m) n) (pw r w x m)=_
  rw [u2_ g hx m n]
theorem qip_ (g:Good r w):∀ n,it r w n=pw r w 2 n
 | 0=>rfl
 | n+1=>by
  show dbl r w (it r w n)=tm r w (pw r w 2 n) 2
  rw [qip_ g n,qp0_]
theorem two_lt (g:Good r w):2 < 2 ^ w:=by have:=g.top16;omega
theorem qj7_ (g:Good r w):∀ n,pw r w 1 n=1
 | 0=>rfl
 | n+1=>by
  show tm r w (pw r w 1 n) 1=1
  rw [qj7_ g n,tm_one]
theorem qol_ (g:Full r w) {x:Nat} (h0:0 < x) (hx:x < 2 ^ w):pw r w x (2 ^ w - 1)=1:=by
 obtain ⟨n,rfl⟩:=g.all x h0 hx;rw [qip_ g.toGood,u2_ g.toGood (two_lt g.toGood),dM,← u2_ g.toGood (two_lt g.toGood),← qip_ g.toGood,g.back,qj7_ g.toGood]
theorem pw_back (g:Full r w) {x:Nat} (h0:0 < x) (hx:x < 2 ^ w):tm r w x (pw r w x (2 ^ w - 1 - 1))=1:=by
 have h:=qol_ g h0 hx
 have e:2 ^ w - 1=1+(2 ^ w - 1 - 1):=by have:=g.top16;omega
 rw [e,pw_add g.toGood hx,pw_one x g.toGood hx] at h;exact h
theorem pw_half (g:Good r w) {x:Nat} (hx:x < 2 ^ w) (n:Nat):pw r w (tm r w x x) n=pw r w x (2 * n):=by
 have e:tm r w x x=pw r w x 2:=by
  show _=tm r w (tm r w 1 x) x
  rw [one_tm g.rule g.w1 hx]
 rw [e,u2_ g hx]
end GF
namespace GF
variable {r w:Nat}
theorem qga_ {i j:Nat} (h:i ^^^ j=0):i=j:=by
 have:=congrArg (· ^^^ j) h;simp only [dj,dN,cT,cS] at this;exact this
theorem tm_inj (g:Full r w) {x i j:Nat} (h0:x≠0) (hx:x < 2 ^ w) (hi:i < 2 ^ w) (hj:j < 2 ^ w) (h:tm r w x i=tm r w x j):i=j:=by
 have e:tm r w x (i ^^^ j)=0:=by rw [tm_xor_right,h,dN]
 rcases (tm_eq_zero g hx (dq hi hj)).mp e with z | z
 ·exact absurd z h0
 ·exact qga_ z
end GF
namespace GF
def join (w:Nat):List Nat->Nat
 | []=>0
 | x :: xs=>join w xs * 2 ^ w+x
def syms (w:Nat):Nat->Nat->List Nat
 | 0,_=>[]
 | n+1,b=>b % 2 ^ w :: syms w n (b / 2 ^ w)
theorem syms_length (w:Nat):∀ (n b:Nat),(syms w n b).length=n
 | 0,_=>rfl
 | n+1,b=>by rw [syms,cM,syms_length w n]
theorem qgz_ {w:Nat}:∀ {n b x:Nat},x∈syms w n b->x < 2 ^ w
 | 0,b,x,h=>by simp [syms] at h
 | n+1,b,x,h=>by
  rw [syms] at h;rcases bL.mp h with e | h
  ·rw [e];exact Nat.mod_lt _ (d5 w)
  ·exact qgz_ h
theorem qbx_ {w:Nat}:∀ {row:List Nat},(∀ x∈row,x < 2 ^ w)->syms w row.length (join w row)=row
 | [],_=>rfl
 | x :: row,h=>by
  have hx:x < 2 ^ w:=h x cF;rw [cM,syms,join]
  have e1:(join w row * 2 ^ w+x) % 2 ^ w=x:=by rw [dM,Nat.mul_add_mod,Nat.mod_eq_of_lt hx]
  have e2:(join w row * 2 ^ w+x) / 2 ^ w=join w row:=by
   rw [dM,Nat.mul_add_div (d5 w),Nat.div_eq_of_lt hx,Nat.add_zero]
  rw [e1,e2,qbx_ fun y hy=>h y (cz _ hy)]
theorem qg0_ {w:Nat}:∀ {row:List Nat},(∀ x∈row,x < 2 ^ w)->join w row < (2 ^ w) ^ row.length
 | [],_=>by simp [join]
 | x :: row,h=>by
  have hx:x < 2 ^ w:=h x cF
  have ih:=qg0_ (row:=row) fun y hy=>h y (cz _ hy);rw [join,cM,dl]
  have:(join w row+1) * 2 ^ w<=(2 ^ w) ^ row.length * 2 ^ w:=Nat.mul_le_mul_right _ ih;rw [Nat.add_mul,Nat.one_mul] at this;omega
theorem qby_ {w:Nat}:∀ {n b:Nat},b < (2 ^ w) ^ n->join w (syms w n b)=b
 | 0,b,h=>by
  have:b=0:=by simpa using h
  rw [this];rfl
 | n+1,b,h=>by
  rw [syms,join,qby_ (n:=n) (b:=b / 2 ^ w)]
  ·rw [dM];exact Nat.div_add_mod b (2 ^ w)
  ·rw [dl] at h
   exact Nat.div_lt_of_lt_mul (by rw [dM];exact h)
theorem u3_ (w:Nat):∀ (n:Nat) (f:Nat->Nat),f 0=0->join w ((syms w n 0).map f)=0
 | 0,_,_=>rfl
 | n+1,f,h=>by
  rw [syms,Nat.zero_mod,Nat.zero_div,cN,join,u3_ w n f h,h]
  simp
theorem u4_ {w x y a b:Nat} (hx:x < 2 ^ w) (hy:y < 2 ^ w):(a * 2 ^ w+x) ^^^ (b * 2 ^ w+y)=(a ^^^ b) * 2 ^ w+(x ^^^ y):=by
 apply dD
 intro i;rw [d0,dM a,dM b,dM (a ^^^ b),Nat.testBit_two_pow_mul_add _ hx,Nat.testBit_two_pow_mul_add _ hy,Nat.testBit_two_pow_mul_add _ (dq hx hy)]
 split
 ·rw [d0]
 ·rw [d0]
theorem qd4_ {w:Nat}:∀ {n:Nat}{f g:Nat->Nat}{b c:Nat},(∀ x,f x < 2 ^ w)->(∀ x,g x < 2 ^ w) →
  join w ((syms w n b).map f) ^^^ join w ((syms w n c).map g)=join w (List.zipWith (fun x y=>f x ^^^ g y) (syms w n b) (syms w n c))
 | 0,_,_,_,_,_,_=>by simp [syms,join]
 | n+1,f,g,b,c,hf,hg=>by
  rw [syms,syms,cN,cN,List.zipWith_cons_cons,join,join,join,u4_ (hf _) (hg _),qd4_ hf hg]
theorem qd5_ {w:Nat}:∀ {n b k:Nat},k < n->(syms w n b)[k]?=some (b / (2 ^ w) ^ k % 2 ^ w)
 | 0,_,_,h=>absurd h (cX _)
 | n+1,b,0,_=>by rw [syms,Nat.pow_zero,Nat.div_one];rfl
 | n+1,b,k+1,h=>by
  rw [syms,List.getElem?_cons_succ,qd5_ (by omega),Nat.div_div_eq_div_mul,dl,dM ((2 ^ w) ^ k)]
theorem qd6_ {w:Nat}:∀ {n b c:Nat},syms w n (b ^^^ c)=List.zipWith (fun x y=>x ^^^ y) (syms w n b) (syms w n c)
 | 0,_,_=>rfl
 | n+1,b,c=>by
  rw [syms,syms,syms,List.zipWith_cons_cons]
  congr 1
  ·apply dD
   intro i;rw [d0,Nat.testBit_mod_two_pow,Nat.testBit_mod_two_pow,Nat.testBit_mod_two_pow,d0]
   by_cases h:i < w <;> simp [h]
  ·have e:(b ^^^ c) / 2 ^ w=b / 2 ^ w ^^^ c / 2 ^ w:=by
    apply dD
    intro i;rw [d0,Nat.testBit_div_two_pow,Nat.testBit_div_two_pow,Nat.testBit_div_two_pow,d0]
   rw [e,qd6_]
end GF
namespace GF
def sumB (r w n:Nat) (ps:List (Nat × Nat)):Nat:=ps.foldl (fun t p=>t ^^^ join w ((syms w n p.2).map (tm r w p.1))) 0
def dg (r w:Nat) (ps:List (Nat × Nat)) (k:Nat):Nat:=ps.foldl (fun t p=>t ^^^ tm r w (p.2 / (2 ^ w) ^ k % 2 ^ w) p.1) 0
theorem vu_ {α:Type} (F:α->Nat):∀ (ps:List α) (t:Nat),ps.foldl (fun t p=>t ^^^ F p) t=t ^^^ ps.foldl (fun t p=>t ^^^ F p) 0
 | [],t=>by simp
 | p :: ps,t=>by
  rw [List.foldl_cons,List.foldl_cons,vu_ F ps (t ^^^ F p),vu_ F ps (0 ^^^ F p),cS,dj]
theorem sumB_append (r w n:Nat) (ps qs:List (Nat × Nat)):sumB r w n (ps++qs)=sumB r w n ps ^^^ sumB r w n qs:=by
 unfold sumB;rw [List.foldl_append,vu_ (fun p:Nat × Nat=>join w ((syms w n p.2).map (tm r w p.1))) qs]
theorem syms_range (w n b:Nat):syms w n b=(List.range n).map fun k=>b / (2 ^ w) ^ k % 2 ^ w:=by
 apply cU
 intro k
 by_cases h:k < n
 ·rw [qd5_ h,bE,cb h]
  rfl
 ·rw [bT (by rw [syms_length];omega),bT (by simp;omega)]
theorem qbz_ {w:Nat}{f g:Nat->Nat}:∀ (ks:List Nat),(∀ k,f k < 2 ^ w)->(∀ k,g k < 2 ^ w)->join w (ks.map f) ^^^ join w (ks.map g)=join w (ks.map fun k=>f k ^^^ g k)
 | [],_,_=>by simp [join]
 | k :: ks,hf,hg=>by
  rw [cN,cN,cN,join,join,join,u4_ (hf k) (hg k),qbz_ ks hf hg]
theorem qb0_ (w:Nat):∀ (ks:List Nat),join w (ks.map fun _=>0)=0
 | []=>rfl
 | k :: ks=>by rw [cN,join,qb0_ w ks];simp
theorem join_snoc (w:Nat):∀ (xs:List Nat) (x:Nat),join w (xs++[x])=join w xs+x * (2 ^ w) ^ xs.length
 | [],x=>by simp [join]
 | y :: xs,x=>by
  rw [List.cons_append,join,join_snoc w xs,join,cM,dl,Nat.add_mul,Nat.mul_assoc];omega
theorem sumB_snoc (r w n:Nat) (ps:List (Nat × Nat)) (p:Nat × Nat):sumB r w n (ps++[p])=sumB r w n ps ^^^ join w ((syms w n p.2).map (tm r w p.1)):=by
 unfold sumB;rw [List.foldl_append];rfl
end GF
namespace GF
variable {r w:Nat}
def dot (r w:Nat):Nat->(Nat->Nat)->(Nat->Nat)->Nat
 | 0,_,_=>0
 | n+1,a,x=>dot r w n a x ^^^ tm r w (a n) (x n)
theorem dot_lt (R:Rule r w) {a x:Nat->Nat}:∀ n,(∀ k,k < n->a k < 2 ^ w)->dot r w n a x < 2 ^ w
 | 0,_=>d5 w
 | n+1,h=>dq (dot_lt R n fun k hk=>h k (cA hk)) (tm_lt R (h n (cm n)))
theorem dot_congr {a b x y:Nat->Nat}:∀ n,(∀ k,k < n->a k=b k/\x k=y k)->dot r w n a x=dot r w n b y
 | 0,_=>rfl
 | n+1,h=>by
  rw [dot,dot,dot_congr n fun k hk=>h k (cA hk),(h n (cm n)).1,(h n (cm n)).2]
theorem uz_ (a:Nat->Nat):∀ n,dot r w n a (fun _=>0)=0
 | 0=>rfl
 | n+1=>by rw [dot,uz_ a n,tm_zero];rfl
theorem v3_ {a x:Nat->Nat}{p v:Nat} (hx:x p=0):∀ n,dot r w n a (fun k=>if k=p then v else x k)=dot r w n a x ^^^ (if p < n then tm r w (a p) v else 0)
 | 0=>by
  rw [if_neg (cX p),dot,dot];rfl
 | n+1=>by
  rw [dot,dot,v3_ hx n]
  by_cases e:n=p
  ·subst e
   rw [if_neg (cI n),if_pos rfl,if_pos (cm n),hx,tm_zero,cT]
  ·rw [if_neg e]
   by_cases h:p < n
   ·rw [if_pos h,if_pos (cA h),dj,dj,Nat.xor_comm (tm r w (a p) v)]
   ·rw [if_neg h,if_neg (by omega),cT,cT]
theorem dot_add (R:Rule r w) {a b x:Nat->Nat}:∀ n,(∀ k,k < n->a k < 2 ^ w/\b k < 2 ^ w)->dot r w n (fun k=>a k ^^^ b k) x=dot r w n a x ^^^ dot r w n b x
 | 0,_=>by rw [dot,dot,dot];rfl
 | n+1,h=>by
  rw [dot,dot,dot,dot_add R n fun k hk=>h k (cA hk),yb_ R (h n (cm n)).1 (h n (cm n)).2];exact xor4 _ _ _ _
theorem dot_scale (R:Rule r w) (hw:1 < w) {a x:Nat->Nat}{c:Nat} (hc:c < 2 ^ w):∀ n,(∀ k,k < n->a k < 2 ^ w/\x k < 2 ^ w)->dot r w n (fun k=>tm r w (a k) c) x=tm r w (dot r w n a x) c
 | 0,_=>(zero_tm c).symm
 | n+1,h=>by
  have hn:=h n (cm n)
  have ih:=dot_scale R hw hc n fun k hk=>h k (cA hk);rw [dot,dot,ih,yb_ R (dot_lt R n fun k hk=>(h k (cA hk)).1) (tm_lt R hn.1)]
  congr 1
  rw [tm_assoc R hw hn.1 hc,tm_comm R hw hc hn.2,← tm_assoc R hw hn.1 hn.2]
theorem ym_ (R:Rule r w) (hw:1 < w) {a x:Nat->Nat}{c:Nat}:∀ n,(∀ k,k < n->a k < 2 ^ w/\x k < 2 ^ w)->dot r w n a (fun k=>tm r w (x k) c)=tm r w (dot r w n a x) c
 | 0,_=>(zero_tm c).symm
 | n+1,h=>by
  have hn:=h n (cm n)
  have ih:=ym_ R hw (c:=c) n fun k hk=>h k (cA hk);rw [dot,dot,ih,yb_ R (dot_lt R n fun k hk=>(h k (cA hk)).1) (tm_lt R hn.1),tm_assoc R hw hn.1 hn.2]
theorem qd7_ {a x y:Nat->Nat}:∀ n,dot r w n a (fun k=>x k ^^^ y k)=dot r w n a x ^^^ dot r w n a y
 | 0=>by rw [dot,dot,dot];rfl
 | n+1=>by
  rw [dot,dot,dot,qd7_ n,tm_xor_right];exact xor4 _ _ _ _
structure Tab (r w N M:Nat) (L:Nat->Nat->Nat) (T:Nat->Nat->Nat):Prop where
 lt:∀ i k,i < M->k < N+M->T i k < 2 ^ w
 of:∀ i k,i < M->k < N->T i k=dot r w M (fun j=>L j k) (fun j=>T i (N+j))
 keep:∀ x:Nat->Nat,(∀ k,k < N->x k < 2 ^ w)->(∀ i,i < M->dot r w N (T i) x=0)->∀ j,j < M->dot r w N (L j) x=0
def swapT (T:Nat->Nat->Nat) (h f:Nat):Nat->Nat->Nat:=fun i=>if i=h then T f else if i=f then T h else T i
def clearT (r w:Nat) (T:Nat->Nat->Nat) (h p c:Nat):Nat->Nat->Nat:=fun i k=>if i=h then tm r w (T h k) c else T i k ^^^ tm r w (tm r w (T h k) c) (T i p)
theorem uA_ {T:Nat->Nat->Nat}{h f M i:Nat} (hh:h < M) (hf:f < M) (hi:i < M):∃ j,j < M/\swapT T h f i=T j:=by
 unfold swapT
 by_cases e:i=h
 ·exact ⟨f,hf,by rw [if_pos e]⟩
 ·by_cases e2:i=f
  ·exact ⟨h,hh,by rw [if_neg e,if_pos e2]⟩
  ·exact ⟨i,hi,by rw [if_neg e,if_neg e2]⟩
theorem Tab.swap {N M:Nat}{L T:Nat->Nat->Nat} (t:Tab r w N M L T) {h f:Nat} (hh:h < M) (hf:f < M):Tab r w N M L (swapT T h f):=by
 refine ⟨fun i k hi hk=>?_,fun i k hi hk=>?_,fun x hx hz=>t.keep x hx fun i hi=>?_⟩
 ·obtain ⟨j,hj,e⟩:=uA_ (T:=T) hh hf hi
  rw [e];exact t.lt j k hj hk
 ·obtain ⟨j,hj,e⟩:=uA_ (T:=T) hh hf hi
  rw [e];exact t.of j k hj hk
 ·by_cases e:i=h
  ·have:=hz f hf
   unfold swapT at this
   by_cases e2:f=h
   ·rw [if_pos e2,e2] at this
    rw [e];exact this
   ·rw [if_neg e2,if_pos rfl] at this
    rw [e];exact this
  ·by_cases e2:i=f
   ·have:=hz h hh
    unfold swapT at this;rw [if_pos rfl] at this;rw [e2];exact this
   ·have:=hz i hi
    unfold swapT at this;rw [if_neg e,if_neg e2] at this;exact this
theorem Tab.clear {N M:Nat}{L T:Nat->Nat->Nat} (g:Full r w) (t:Tab r w N M L T) (hL:∀ j k,j < M->k < N->L j k < 2 ^ w) {h p c:Nat} (hh:h < M) (hp:p < N) (hc:c < 2 ^ w) (hc0:c≠0):Tab r w N M L (clearT r w T h p c):=by
 have R:=g.rule
 have hw:=g.w1;refine ⟨fun i k hi hk=>?_,fun i k hi hk=>?_,fun x hx hz=>t.keep x hx ?_⟩
 ·unfold clearT
  by_cases e:i=h
  ·rw [if_pos e]
   exact tm_lt R (t.lt h k hh hk)
  ·rw [if_neg e]
   exact dq (t.lt i k hi hk) (tm_lt R (tm_lt R (t.lt h k hh hk)))
 ·unfold clearT
  by_cases e:i=h
  ·simp only [if_pos e]
   rw [t.of h k hh hk,← ym_ R hw M fun j hj=>⟨hL j k hj hk,t.lt h (N+j) hh (by omega)⟩]
  ·simp only [if_neg e]
   rw [qd7_,ym_ R hw M fun j hj=>⟨hL j k hj hk,tm_lt R (t.lt h (N+j) hh (by omega))⟩,ym_ R hw M fun j hj=>⟨hL j k hj hk,t.lt h (N+j) hh (by omega)⟩,← t.of i k hi hk,← t.of h k hh hk]
 ·have d:∀ i k,i < M->k < N->T i k < 2 ^ w:=fun i k hi hk=>t.lt i k hi (by omega)
  have hd:∀ i,i < M->dot r w N (T i) x < 2 ^ w:=fun i hi=>dot_lt R N fun k hk=>d i k hi hk
  have h1:dot r w N (T h) x=0:=by
   have z:=hz h hh
   have e:dot r w N (clearT r w T h p c h) x=tm r w (dot r w N (T h) x) c:=by
    rw [<- dot_scale R hw hc N fun k hk=>⟨d h k hh hk,hx k hk⟩];exact dot_congr N fun k _=>⟨by unfold clearT;rw [if_pos rfl],rfl⟩
   rw [e] at z;rcases (tm_eq_zero g (hd h hh) hc).mp z with y | y
   ·exact y
   ·exact absurd y hc0
  intro i hi
  by_cases e:i=h
  ·rw [e]
   exact h1
  ·have z:=hz i hi
   have e2:dot r w N (clearT r w T h p c i) x=dot r w N (T i) x ^^^ tm r w (tm r w (dot r w N (T h) x) c) (T i p):=by
    rw [<- dot_scale R hw hc N fun k hk=>⟨d h k hh hk,hx k hk⟩,← dot_scale R hw (d i p hi hp) N fun k hk=>⟨tm_lt R (d h k hh hk),hx k hk⟩,← dot_add R N fun k hk=>⟨d i k hi hk,tm_lt R (tm_lt R (d h k hh hk))⟩];exact dot_congr N fun k _=>⟨by unfold clearT;rw [if_neg e],rfl⟩
   rw [e2,h1,zero_tm,zero_tm,cT] at z;exact z
structure Piv (N M:Nat) (T:Nat->Nat->Nat) (hs:List Nat) (Z:Nat->Prop):Prop where
 hl:hs.length<=M
 lt:∀ t p:Nat,hs[t]?=some p->p < N
 one:∀ t p:Nat,hs[t]?=some p->∀ i,i < M->T i p=if i=t then 1 else 0
 zero:∀ k,Z k->∀ i,hs.length<=i->i < M->T i k=0
section
variable {N M:Nat}{L T:Nat->Nat->Nat}{hs:List Nat}{Z:Nat->Prop}{p c f:Nat}
theorem Piv.start:Piv N M T [] (fun _=>False):=⟨cn _,fun t p h=>by simp at h,fun t p h=>by simp at h,fun k z=>z.elim⟩
theorem Piv.weaken {Z':Nat->Prop} (h:Piv N M T hs Z) (e:∀ k,Z' k->Z k):Piv N M T hs Z':=⟨h.hl,h.lt,h.one,fun k z=>h.zero k (e k z)⟩
theorem Piv.skip (h:Piv N M T hs Z) (hz:∀ i,hs.length<=i->i < M->T i p=0):Piv N M T hs (fun k=>Z k\/k=p) :=
 ⟨h.hl,h.lt,h.one,fun k z=>z.elim (h.zero k) fun e=>by rw [e];exact hz⟩
theorem Piv.step (g:Full r w) (h:Piv N M T hs Z) (t:Tab r w N M L T) (hp:p < N) (hf:hs.length<=f) (hfM:f < M) (hc:c < 2 ^ w) (hinv:tm r w (T f p) c=1) :
  Piv N M (clearT r w (swapT T hs.length f) hs.length p c) (hs++[p]) (fun k=>Z k\/k=p):=by
 have R:=g.rule
 have hw:=g.w1
 have l:hs.length < M:=by omega
 have s:swapT T hs.length f hs.length=T f:=by unfold swapT;rw [if_pos rfl]
 have ge:∀ i,hs.length<=i->i < M->∃ j,hs.length<=j/\j < M/\swapT T hs.length f i=T j:=fun i h1 h2=>by
  unfold swapT
  by_cases e:i=hs.length
  ·exact ⟨f,hf,hfM,by rw [if_pos e]⟩
  ·by_cases e2:i=f
   ·exact ⟨hs.length,bF _,l,by rw [if_neg e,if_pos e2]⟩
   ·exact ⟨i,h1,h2,by rw [if_neg e,if_neg e2]⟩
 have lo:∀ i,i < hs.length->swapT T hs.length f i=T i:=fun i h1=>by
  unfold swapT;rw [if_neg (by omega),if_neg (by omega)]
 have col:∀ k,(∀ i,hs.length<=i->i < M->T i k=0)->∀ i,i < M->clearT r w (swapT T hs.length f) hs.length p c i k=if i < hs.length then T i k else 0:=fun k hz i hi=>by
  unfold clearT;rw [s,hz f hf hfM,zero_tm,zero_tm]
  by_cases e:i=hs.length
  ·rw [if_pos e,if_neg (by omega)]
  ·rw [if_neg e,cT]
   by_cases e2:i < hs.length
   ·rw [if_pos e2,lo i e2]
   ·obtain ⟨j,j1,j2,ej⟩:=ge i (by omega) hi
    rw [if_neg e2,ej,hz j j1 j2]
 have d:∀ i,i < M->clearT r w (swapT T hs.length f) hs.length p c i p=if i=hs.length then 1 else 0:=fun i hi=>by
  unfold clearT;rw [s,hinv]
  by_cases e:i=hs.length
  ·rw [if_pos e,if_pos e]
  ·obtain ⟨j,j2,ej⟩:=uA_ (T:=T) (h:=hs.length) (f:=f) l hfM hi
   rw [if_neg e,if_neg e,ej,one_tm R hw (t.lt j p j2 (by omega)),dN]
 refine ⟨by rw [cg];simp;omega,fun t' q e=>?_,fun t' q e i hi=>?_,fun k z i h1 h2=>?_⟩
 ·rw [List.getElem?_append] at e
  split at e
  ·exact h.lt t' q e
  ·have:q=p:=by
    cases ht:t' - hs.length with
    | zero=>rw [ht] at e;simpa using e.symm
    | succ m=>rw [ht] at e;simp at e
   rw [this];exact hp
 ·rw [List.getElem?_append] at e
  split at e
  ·rename_i hlt
   have hz:∀ i,hs.length<=i->i < M->T i q=0:=fun i h1 h2=>by
    rw [h.one t' q e i h2,if_neg (by omega)]
   rw [col q hz i hi]
   by_cases e2:i < hs.length
   ·rw [if_pos e2]
    exact h.one t' q e i hi
   ·rw [if_neg e2,if_neg (by omega)]
  ·rename_i hge
   have ht:t'=hs.length/\q=p:=by
    cases ht:t' - hs.length with
    | zero=>rw [ht] at e;exact ⟨by omega,by simpa using e.symm⟩
    | succ m=>rw [ht] at e;simp at e
   rw [ht.2,ht.1];exact d i hi
 ·rw [cg] at h1
  have B:hs.length < i:=by simp at h1;omega
  rcases z with z | z
  ·rw [col k (h.zero k z) i h2,if_neg (by omega)]
  ·rw [z,d i h2,if_neg (by omega)]
theorem reckoned_ok (g:Full r w) (t:Tab r w N M L T) (hL:∀ j k,j < M->k < N->L j k < 2 ^ w) (h:Piv N M T hs Z) (hf:hs.length<=f) (hfM:f < M) (hp:p < N) (hinv:tm r w (T f p) c=1) :
  (dot r w M (fun j=>L j p) (fun j=>tm r w (T f (N+j)) c)=1)/\∀ k,k < N->Z k->dot r w M (fun j=>L j k) (fun j=>tm r w (T f (N+j)) c)=0:=by
 have R:=g.rule
 have e:∀ k,k < N->dot r w M (fun j=>L j k) (fun j=>tm r w (T f (N+j)) c)=tm r w (T f k) c:=fun k hk=>by
  rw [ym_ R g.w1 M fun j hj=>⟨hL j k hj hk,t.lt f (N+j) hfM (by omega)⟩,← t.of f k hfM hk]
 refine ⟨by rw [e p hp];exact hinv,fun k hk z=>?_⟩
 rw [e k hk,h.zero k z f hf hfM,zero_tm]
def makeX (T:Nat->Nat->Nat) (hs:List Nat) (p:Nat):Nat->Nat->Nat
 | 0=>fun k=>if k=p then 1 else 0
 | t+1=>fun k=>if k=hs.getD t 0 then T t p else makeX T hs p t k
theorem makeX_none {k:Nat} (hkp:k≠p):∀ t,t<=hs.length->(∀ s,s < t->hs.getD s 0≠k)->makeX T hs p t k=0
 | 0,_,_=>by unfold makeX;rw [if_neg hkp]
 | t+1,ht,h=>by
  unfold makeX;rw [if_neg (fun z=>h t (cm t) z.symm)];exact makeX_none hkp t (by omega) fun s hs'=>h s (by omega)
theorem makeX_place:∀ t,t<=hs.length->(∀ s,s < t->hs.getD s 0≠p)->makeX T hs p t p=1
 | 0,_,_=>by unfold makeX;rw [if_pos rfl]
 | t+1,ht,h=>by
  unfold makeX;rw [if_neg (fun z=>h t (cm t) z.symm)];exact makeX_place t (by omega) fun s hs'=>h s (by omega)
theorem getD_at {t:Nat} (h:t < hs.length):hs[t]?=some (hs.getD t 0):=by
 rw [b7,b8 h];rfl
theorem qd8_ (g:Full r w) (t:Tab r w N M L T) (h:Piv N M T hs Z) (hp:p < N) (hnp:∀ s,s < hs.length->hs.getD s 0≠p) {i:Nat} (hi:i < M):∀ q,q<=hs.length->dot r w N (T i) (makeX T hs p q)=T i p ^^^ (if i < q then T i p else 0)
 | 0,_=>by
  rw [if_neg (cX i),cT]
  have e:dot r w N (T i) (fun k=>if k=p then 1 else (fun _=>0) k)=_:=v3_ (x:=fun _=>0) (p:=p) (v:=1) rfl N
  rw [uz_,cS,if_pos hp,tm_one] at e;exact e
 | q+1,hq=>by
  have R:=g.rule
  have hq':q < hs.length:=hq
  have dup:∀ s,s < q->hs.getD s 0≠hs.getD q 0:=fun s hs' z=>by
   have a1:=h.one s _ (getD_at (by omega)) s (by have:=h.hl;omega)
   have a2:=h.one q _ (getD_at hq') s (by have:=h.hl;omega)
   rw [z,a2,if_pos rfl,if_neg (by omega)] at a1
   exact absurd a1 (by decide)
  have e:dot r w N (T i) (makeX T hs p (q+1))=_:=v3_ (x:=makeX T hs p q) (p:=hs.getD q 0) (v:=T q p) (makeX_none (hnp q hq') q (by omega) dup) N
  rw [if_pos (h.lt q _ (getD_at hq')),qd8_ g t h hp hnp hi q (by omega),h.one q _ (getD_at hq') i hi] at e
  rw [e]
  by_cases z:i=q
  ·subst z
   rw [if_pos rfl,if_neg (cI i),if_pos (cm i),one_tm R g.w1 (t.lt i p hi (by omega)),cT]
  ·rw [if_neg z,zero_tm,cT]
   by_cases z2:i < q
   ·rw [if_pos z2,if_pos (by omega)]
   ·rw [if_neg z2,if_neg (by omega)]
theorem makeX_lt (g:Full r w) (t:Tab r w N M L T) (h:Piv N M T hs Z) (hp:p < N) (k:Nat):∀ q,q<=hs.length->makeX T hs p q k < 2 ^ w
 | 0,_=>by
  have:=g.top16;unfold makeX
  split <;> omega
 | q+1,hq=>by
  unfold makeX
  split
  ·exact t.lt q p (by have:=h.hl;omega) (by omega)
  ·exact makeX_lt g t h hp k q (by omega)
theorem free_ok (g:Full r w) (t:Tab r w N M L T) (h:Piv N M T hs Z) (hp:p < N) (hnp:∀ s,s < hs.length->hs.getD s 0≠p) (hz:∀ i,hs.length<=i->i < M->T i p=0):∀ j,j < M->dot r w N (L j) (makeX T hs p hs.length)=0:=by
 refine t.keep _ (fun k _=>makeX_lt g t h hp k _ (bF _)) fun i hi=>?_;rw [qd8_ g t h hp hnp hi _ (bF _)]
 by_cases z:i < hs.length
 ·rw [if_pos z,dN]
 ·rw [if_neg z,hz i (by omega) hi]
  rfl
theorem Tab.start (g:Full r w) (hL:∀ j k,j < M->k < N->L j k < 2 ^ w) (h1:∀ i k,i < M->k < N->T i k=L i k) (h2:∀ i j,i < M->j < M->T i (N+j)=if j=i then 1 else 0):Tab r w N M L T:=by
 have d:=g.top16;refine ⟨fun i k hi hk=>?_,fun i k hi hk=>?_,fun x hx hz j hj=>?_⟩
 ·by_cases e:k < N
  ·rw [h1 i k hi e]
   exact hL i k hi e
  ·obtain ⟨j,rfl⟩:∃ j,k=N+j:=⟨k - N,by omega⟩
   rw [h2 i j hi (by omega)]
   split <;> omega
 ·have e:dot r w M (fun j=>L j k) (fun j=>if j=i then 1 else (fun _=>0) j)=_:=v3_ (x:=fun _=>0) (p:=i) (v:=1) rfl M
  rw [uz_,cS,if_pos hi,tm_one] at e;rw [h1 i k hi hk,← e];exact (dot_congr M fun j hj=>⟨rfl,(h2 i j hi hj).symm⟩)
 ·rw [<- hz j hj]
  exact dot_congr N fun k hk=>⟨(h1 j k hj hk).symm,rfl⟩
end
end GF
namespace GF
end GF
namespace GF
variable {r w:Nat}
def sc (r w n f b:Nat):Nat:=join w ((syms w n b).map (tm r w f))
theorem qqx_ (R:Rule r w) {n f b:Nat} (hf:f < 2 ^ w):sc r w n f b < (2 ^ w) ^ n:=by
 unfold sc
 have:=qg0_ (w:=w) (row:=(syms w n b).map (tm r w f)) fun x hx=>by
  obtain ⟨y,_,rfl⟩:=cG.mp hx;exact tm_lt R hf
 rw [b9,syms_length] at this;exact this
theorem sc_xor (R:Rule r w) {n f b c:Nat} (hf:f < 2 ^ w):sc r w n f (b ^^^ c)=sc r w n f b ^^^ sc r w n f c:=by
 unfold sc;rw [qd4_ (fun x=>tm_lt R hf) (fun x=>tm_lt R hf),qd6_,List.map_zipWith]
 congr 2
 funext x y
 exact tm_xor_right
theorem sc_zero {n b:Nat}:sc r w n 0 b=0:=by
 unfold sc
 have:(syms w n b).map (tm r w 0)=(List.range n).map fun _=>0:=by
  rw [syms_range,cq];exact d9 fun k _=>zero_tm _
 rw [this,qb0_]
theorem u5_ {n f:Nat}:sc r w n f 0=0:=u3_ w n _ (tm_zero f)
theorem sc_one (R:Rule r w) (hw:1 < w) {n b:Nat} (hb:b < (2 ^ w) ^ n):sc r w n 1 b=b:=by
 unfold sc
 have:(syms w n b).map (tm r w 1)=syms w n b:=by
  conv=>rhs;rw [<- List.map_id (syms w n b)]
  exact d9 fun x hx=>one_tm R hw (qgz_ hx)
 rw [this,qby_ hb]
theorem qb1_ {n:Nat} (p:Nat × Nat) (ps:List (Nat × Nat)):sumB r w n (p :: ps)=sc r w n p.1 p.2 ^^^ sumB r w n ps:=by
 rw [show p :: ps=[p]++ps from rfl,sumB_append]
 congr 1
 exact cS _
theorem qd9_ {n:Nat}:sumB r w n []=0:=rfl
theorem sumB_lt (R:Rule r w) {n:Nat}:∀ {fs bs:List Nat},(∀ f∈fs,f < 2 ^ w)->sumB r w n (fs.zip bs) < (2 ^ w) ^ n
 | [],bs,_=>by
  rw [List.zip_nil_left,qd9_];exact Nat.pow_pos (d5 w)
 | _ :: _,[],_=>by
  rw [List.zip_nil_right,qd9_];exact Nat.pow_pos (d5 w)
 | f :: fs,b :: bs,h=>by
  rw [List.zip_cons_cons,qb1_,← Nat.pow_mul];refine dq ?_ ?_
  ·rw [Nat.pow_mul];exact qqx_ R (h f cF)
  ·rw [Nat.pow_mul];exact sumB_lt R fun x hx=>h x (cz _ hx)
theorem sumB_unit (R:Rule r w) (hw:1 < w) {n t:Nat}:∀ (M s:Nat) (bs:List Nat),bs.length=M->(∀ b∈bs,b < (2 ^ w) ^ n)->sumB r w n (((List.range M).map fun j=>if j+s=t then 1 else 0).zip bs)=if s<=t/\t < s+M then bs.getD (t - s) 0 else 0
 | 0,s,bs,_,_=>by
  rw [if_neg (by omega)]
  rfl
 | M+1,s,[],hl,_=>by simp at hl
 | M+1,s,b :: bs,hl,h=>by
  have ih:=sumB_unit R hw (n:=n) (t:=t) M (s+1) bs (by simpa using hl) fun x hx=>h x (cz _ hx)
  rw [List.range_succ_eq_map,cN,cq,List.zip_cons_cons,qb1_]
  have e:((fun j=>if j+s=t then 1 else 0) ∘ Nat.succ)=fun j=>if j+(s+1)=t then 1 else 0:=by
   funext j
   show (if j+1+s=t then 1 else 0)=_
   rw [show j+1+s=j+(s+1) by omega]
  rw [e,ih];dsimp only
  by_cases z:s=t
  ·subst z
   rw [if_pos (by omega),if_neg (by omega),if_pos (by omega),cT,fB,sc_one R hw (h b cF)]
   rfl
  ·rw [if_neg (by omega),sc_zero,cS]
   by_cases y:s+1<=t/\t < s+1+M
   ·rw [if_pos y,if_pos (by omega)]
    rw [show t - s=(t - (s+1))+1 by omega]
    rfl
   ·rw [if_neg y,if_neg (by omega)]
end GF
namespace GF
variable {r w:Nat}
def xsum:Nat->(Nat->Nat)->Nat
 | 0,_=>0
 | n+1,F=>xsum n F ^^^ F n
theorem xsum_congr {F G:Nat->Nat}:∀ n,(∀ k,k < n->F k=G k)->xsum n F=xsum n G
 | 0,_=>rfl
 | n+1,h=>by rw [xsum,xsum,xsum_congr n fun k hk=>h k (cA hk),h n (cm n)]
theorem xsum_xor (F G:Nat->Nat):∀ n,xsum n (fun k=>F k ^^^ G k)=xsum n F ^^^ xsum n G
 | 0=>(dN 0).symm
 | n+1=>by rw [xsum,xsum,xsum,xsum_xor F G n];exact xor4 _ _ _ _
theorem qb2_:∀ n,xsum n (fun _=>0)=0
 | 0=>rfl
 | n+1=>by rw [xsum,qb2_ n];rfl
theorem xsum_single {n p:Nat}{F:Nat->Nat} (hp:p < n) (h:∀ k,k < n->k≠p->F k=0):xsum n F=F p:=by
 have d:∀ m,m<=n->xsum m F=if p < m then F p else 0:=by
  intro m
  induction m with
  | zero=>intro _;rw [if_neg (cX _)];rfl
  | succ m ih =>
   intro hm;rw [xsum,ih (by omega)]
   by_cases z:m=p
   ·subst z
    rw [if_neg (cI _),if_pos (cm _),cS]
   ·rw [h m (by omega) z,cT]
    by_cases y:p < m
    ·rw [if_pos y,if_pos (by omega)]
    ·rw [if_neg y,if_neg (by omega)]
 rw [d n (bF _),if_pos hp]
theorem qp1_ (R:Rule r w) {n f g b:Nat} (hf:f < 2 ^ w) (hg:g < 2 ^ w):sc r w n (f ^^^ g) b=sc r w n f b ^^^ sc r w n g b:=by
 unfold sc;rw [syms_range,cq,cq,cq];refine Eq.trans ?_ (qbz_ (f:=tm r w f ∘ fun k=>b / (2 ^ w) ^ k % 2 ^ w) (g:=tm r w g ∘ fun k=>b / (2 ^ w) ^ k % 2 ^ w) _ (fun k=>tm_lt R hf) (fun k=>tm_lt R hg)).symm
 congr 1
 exact d9 fun k _=>yb_ R hf hg
theorem qqy_ (R:Rule r w) (hw:1 < w) {n f g b:Nat} (hf:f < 2 ^ w) (hg:g < 2 ^ w):sc r w n f (sc r w n g b)=sc r w n (tm r w f g) b:=by
 unfold sc
 have h:=qbx_ (w:=w) (row:=(syms w n b).map (tm r w g)) fun x hx=>by
  obtain ⟨y,_,rfl⟩:=cG.mp hx;exact tm_lt R hg
 rw [b9,syms_length] at h;rw [h,cq]
 congr 1
 exact d9 fun d _=>(tm_assoc R hw hf hg d).symm
theorem qg1_ (R:Rule r w) {n f:Nat} (hf:f < 2 ^ w) (F:Nat->Nat):∀ m,sc r w n f (xsum m F)=xsum m (fun k=>sc r w n f (F k))
 | 0=>u5_
 | m+1=>by rw [xsum,xsum,sc_xor R hf,qg1_ R hf F m]
theorem sumB_range {n:Nat} (f x:Nat->Nat):∀ (m:Nat),sumB r w n (((List.range m).map f).zip ((List.range m).map x))=xsum m (fun k=>sc r w n (f k) (x k))
 | 0=>rfl
 | m+1=>by
  rw [di,cK,cK,List.zip_append (by rw [b9,b9]),sumB_append,sumB_range f x m,xsum]
  congr 1
  exact cS _
theorem list_range (X:List Nat):X=(List.range X.length).map fun k=>X.getD k 0:=by
 apply cU
 intro k;rw [bE]
 by_cases h:k < X.length
 ·rw [cb h,b8 h]
  show some _=some (X.getD k 0)
  rw [b7,b8 h];rfl
 ·rw [bT (by omega),bT (by rw [bI];omega)]
  rfl
theorem sumB_filter {n:Nat} (b:Nat->Bool) (f x:Nat->Nat):∀ m,sumB r w n (((List.range m).filter b).map fun k=>(f k,x k))=xsum m (fun k=>if b k=true then sc r w n (f k) (x k) else 0)
 | 0=>rfl
 | m+1=>by
  rw [di,ee,cK,sumB_append,sumB_filter b f x m,xsum]
  congr 1
  by_cases z:b m=true
  ·rw [eU z,dQ,if_pos z]
   exact cS _
  ·rw [eV z,dQ,if_neg z]
   rfl
theorem lines_zero (R:Rule r w) (hw:1 < w) {n m:Nat}{e:Nat->Nat->Nat}{x y:Nat->Nat}:∀ (M:Nat),(∀ t j,t < M->j < m->e t j < 2 ^ w)->(∀ t,t < M->y t < 2 ^ w)->(∀ t,t < M->xsum m (fun j=>sc r w n (e t j) (x j))=0)->xsum m (fun j=>sc r w n (dot r w M (fun t=>e t j) y) (x j))=0
 | 0,_,_,_=>by
  have:xsum m (fun j=>sc r w n (dot r w 0 (fun t=>e t j) y) (x j))=xsum m (fun _=>0):=xsum_congr m fun j _=>sc_zero;rw [this,qb2_]
 | M+1,he,hy,h0=>by
  have ih:=lines_zero R hw M (fun t j ht hj=>he t j (cA ht) hj) (fun t ht=>hy t (cA ht)) fun t ht=>h0 t (cA ht)
  have e1:xsum m (fun j=>sc r w n (dot r w (M+1) (fun t=>e t j) y) (x j))=xsum m (fun j=>sc r w n (dot r w M (fun t=>e t j) y) (x j) ^^^ sc r w n (y M) (sc r w n (e M j) (x j))):=xsum_congr m fun j hj=>by
   have hm:=he M j (cm M) hj
   have hyM:=hy M (cm M);rw [dot,qp1_ R (dot_lt R M fun t ht=>he t j (cA ht) hj) (tm_lt R hm),qqy_ R hw hyM hm,tm_comm R hw hyM hm]
  rw [e1,xsum_xor,ih,cS,← qg1_ R (hy M (cm M)),h0 M (cm M),u5_]
end GF
namespace L2
open PySem PySem.Spec PyProof.Rows
section
variable {X:Cx}
inductive uh_ (x:V) (xs:List V) (H:Hp) (Q:VK):Prop
 | mk:∀ i,x=.int i->xs=[]->Q (.int ((Builtin.Int.intBits i:Nat):Int)) H->uh_ x xs H Q
theorem yQ_:MtR X "int.bit_length" (uh_):=by
 intro d s σ H x xs v us Q I rx rs h;obtain ⟨i,rfl,rfl,q⟩:=h;obtain ⟨t,rfl⟩:=rx
 cases rs;exact call_int_bit_length ⟨.int _,H,I.tok _,⟨_,rfl⟩,q⟩
end
theorem qiq_ (a b:Nat):Builtin.bitAnd (a:Int) (b:Int)=((a &&& b:Nat):Int):=by
 unfold Builtin.bitAnd;rw [bN (Int.natCast_nonneg a),bN (Int.natCast_nonneg b)]
 simp
theorem jj_ (a b:Nat):Builtin.bitXor (a:Int) (b:Int)=((a ^^^ b:Nat):Int):=by
 have h:=PyProof.Rows.bitXor_and (a:Int) (b:Int);rw [h,qiq_]
 have:=GF.xor_add_and a b;omega
theorem jO_ {r w:Nat} (h1:2 ^ w<=r) (h2:r < 2 ^ (w+1)):Builtin.Int.intBits (r:Int)=w+1:=by
 unfold Builtin.Int.intBits
 have hr:0 < r:=bR (d5 w) h1
 have:((r:Int) == 0)=false:=cP.mpr (by omega)
 rw [this]
 have e:(r:Int).natAbs=r:=Int.natAbs_natCast r;rw [e]
 have:r.log2=w:=(Nat.log2_eq_iff (by omega)).mpr ⟨h1,h2⟩
 simp [this]
def Itv (K:PySem.W.Frag) (a:Addr) (xs:List V):It :=
 ⟨fun i H=>SqL K H a xs/\i < xs.length,fun i H x H'=>H'=H/\xs[xs.length - 1 - i]?=some x,fun i _=>i=xs.length⟩
theorem qme_ {P:Program}{w:World}{K:PySem.W.Frag}{tg:Expr} (a it:Addr) (xs:List V):Turn P w K tg (Itv K a xs) [it] it (fun i h=>h.IsRevIter it a ((xs.length:Int) - 1 - (i:Int))) where
 mem:=by simp
 obj:=fun i h st b hb=>by
  have e:b=it:=by simpa using hb
  subst e;obtain ⟨o,e,c,d⟩:=st;exact ⟨o,e,fun v z=>by rw [d] at z;cases z⟩
 keep:=fun i h h' st k=>st.at fun o e=>k it (by simp) o e
 item:=by
  intro X hP hw hK hc i l s σ H E I hf st hg;subst hP hw hK;obtain ⟨hq,hi⟩:=hg;obtain ⟨r,rv,p,hz⟩:=I.list hq
  have hx:xs[xs.length - 1 - i]?=some (xs[xs.length - 1 - i]'(by omega)):=b8 (by omega)
  obtain ⟨u,hu,ru⟩:=rv.get hx;obtain ⟨f0,f1,f2,f3,f4,f5⟩:=hf it (by simp)
  have e:(xs.length:Int) - 1 - (i:Int)=((xs.length - 1 - i:Nat):Int):=by omega
  rw [e] at st;refine wpAny_pyNext_rev_item st p.isList (x:=u) (by simpa using hu) fun h' g sb=>?_
  have e2:((xs.length - 1 - i:Nat):Int) - 1=(xs.length:Int) - 1 - ((i+1:Nat):Int):=by omega
  rw [e2] at g
  have I1:Inv X l σ H { s with heap:=h' }:=I.turned (t':=s.toks) (fun b o hb e=>(sb.2 b hb).trans e) f0 f1 f3 f4 f5;obtain ⟨o,e,c,d⟩:=id g;exact ⟨u,rfl,uU_ (s:={ s with heap:=h' }) e c d (by decide) ⟨_,H,I1,ru,⟨rfl,hx⟩,g,fun b hb=>(hf b hb).1⟩⟩
 done:=by
  intro X hP hw hK hc i l s σ H E I hf st hg;subst hP hw hK
  have hg:i=xs.length:=hg;obtain ⟨f0,f1,f2,f3,f4,f5⟩:=hf it (by simp)
  have e:(xs.length:Int) - 1 - (i:Int) = -1:=by omega
  rw [e] at st;exact wpAny_pyNext_rev_end (I.ok.hd hc) st fun h' eb=>⟨rfl,I.turned (t':=s.toks) (fun b o hb e=>eb b o hb e) f0 f1 f3 f4 f5⟩
 self:=fun _ _ _ _ _ st h=>wpAny_pyIter_revIter st h
section
variable {X:Cx}{tg:Expr}
inductive qj8_ (K:PySem.W.Frag) (R:It->Hp->Prop) (vs:List V) (H1:Hp):Prop
 | mk:∀ l xs,vs=[.ref l]->SqL K H1 l xs->R (Itv K l xs) H1->qj8_ K R vs H1
def iRev (K:PySem.W.Frag) (ta:TA):TI:=fun σ H R=>ta σ H fun vs H1=>qj8_ K R vs H1
theorem qdd_:bootBuiltins "reversed" = some (.type "reversed"):=by decide +kernel
theorem qp2_ {a:Expr}{ta:TA}{p pos:Pos} (hg:Gl X "reversed") (hm:X.mg "reversed" = none) (ha:PA X [a] ta) (hs:starEach [a] X.env=[(false,eval a X.env)]:=by rfl):PI X tg (.Call (.Name "reversed" p) [a] [] pos) (iRev X.K ta):=by
 intro g s σ H R I h;refine Call_ (jK_ I hg hm qdd_ (d8 (thn (ha pos g s σ H _ I h) fun us s1 ⟨vs,H1,I1,r1,q1⟩=>?_) hs rfl));obtain ⟨l,xs,e,hq,q⟩:=q1;subst e;obtain ⟨u,rfl,ru⟩:=jy_ r1
 cases ru;obtain ⟨d,rv,pl,hz⟩:=I1.list hq;refine call_reversed_list pl.isList ?_
 have r:((d.toArray.size:Nat):Int) - 1=(xs.length:Int) - 1 - ((0:Nat):Int):=by rw [bX,← rv.length];omega
 have st:(s1.heap.push (revObj l ((d.toArray.size:Int) - 1))).IsRevIter s1.heap.objs.size l ((xs.length:Int) - 1 - ((0:Nat):Int)):=by
  rw [<- r];exact ⟨_,bZ _ rfl,rfl,rfl⟩
 refine wpAny_pyIter_revIter st ?_;refine ⟨s1.heap.objs.size,[s1.heap.objs.size],_,_,H1,rfl,I1.kept (t':=s1.toks) fun b o e=>bD _ e,qme_ l _ xs,st,fun b hb=>?_,q⟩
 have e:b=s1.heap.objs.size:=by simpa using hb
 subst e;exact I1.fpOk (bF _) (I1.hok.fresh (bF _))
end
theorem qom_ {K:PySem.W.Frag}{a:Addr}{xs:List V}{g:TG}{tb:TS}{D:Ends}{σ:St}{H:Hp} (Pv:Nat->St->Hp->Prop) (h0:Pv 0 σ H) (hl:∀ i σ H,i<=xs.length->Pv i σ H->SqL K H a xs)
  (hs:∀ i x σ H,i < xs.length->xs[xs.length - 1 - i]?=some x->Pv i σ H->g x σ H fun σ2 H2=>tb { D with nx:=Pv (i+1),ct:=Pv (i+1),bk:=D.nx } σ2 H2) (hd:∀ σ H,Pv xs.length σ H->D.nx σ H) :
  ∃ W:Nat->Nat->St->Hp->Prop,(∃ m,W 0 m σ H)/\∀ i m σ H,W i m σ H →
   ((Itv K a xs).stop i H/\D.nx σ H)\/((Itv K a xs).go i H/\∃ N:St->Hp->Prop,(∀ σ' H',N σ' H'->∃ m',m' < m/\W (i+1) m' σ' H')/\∀ x H',(Itv K a xs).yld i H x H'->g x σ H' fun σ2 H2=>tb { D with nx:=N,ct:=N,bk:=D.nx } σ2 H2):=by
 refine ⟨fun i m σ H=>m=xs.length - i/\i<=xs.length/\Pv i σ H,⟨xs.length,by simp,cn _,h0⟩,?_⟩
 rintro i m σ H ⟨rfl,hi,p⟩
 have q:=hl i σ H hi p
 by_cases hlt:i < xs.length
 ·refine .inr ⟨⟨q,hlt⟩,Pv (i+1),fun σ' H' p'=>⟨xs.length - (i+1),by omega,rfl,hlt,p'⟩,fun x H' y=>?_⟩
  obtain ⟨e,y⟩:=y;subst e;exact hs i x σ _ hlt y p
 ·have e:i=xs.length:=by omega
  exact .inl ⟨e,hd σ H (e ▸ p)⟩
theorem zW_ {env:Env}:∀ (names:List (Str × NameKind)) (acc:List (Str × Addr)),(∀ n,(n,NameKind.free)∈names->∃ c,env.cells.lookup n=some c)->(∀ n c,acc.lookup n=some c->env.cells.lookup n=some c) →
  ∃ cl:List (Str × Addr),(forIn names acc (fun x r=>match x with
    | (name,kind)=>if (kind == NameKind.free)=true then do
      let c ← cellOf env name
      pure (ForInStep.yield ((name,c) :: r))
     else pure (ForInStep.yield r)):Sem (List (Str × Addr)))=pure cl/\(∀ n c,cl.lookup n=some c->env.cells.lookup n=some c) ∧
   ∀ n,((n,NameKind.free)∈names\/(acc.lookup n).isSome=true)->(cl.lookup n).isSome=true
 | [],acc,_,h=>⟨acc,rfl,h,fun n q=>q.elim (fun z=>by simp at z) id⟩
 | (n,k) :: r,acc,hf,h=>by
  rw [List.forIn_cons]
  by_cases hk:k=.free
  ·subst hk
   obtain ⟨c,hc⟩:=hf n cF
   have e:cellOf env n=pure c:=by unfold cellOf;rw [hc]
   obtain ⟨cl,h1,h2,h3⟩:=zW_ r ((n,c) :: acc) (fun m hm=>hf m (cz _ hm)) (fun m d hm=>by
    rw [cu] at hm
    cases q:(m == n) with
    | true=>rw [q] at hm;cases hm;rw [eq_of_beq q];exact hc
    | false=>rw [q] at hm;exact h m d hm)
   refine ⟨cl,?_,h2,fun m hm=>h3 m ?_⟩
   ·show ((if (NameKind.free == NameKind.free)=true then _ else _) >>= _)=_
    rw [if_pos (by decide),e]
    exact h1
   ·rcases hm with hm | hm
    ·rcases bL.mp hm with z | z
     ·cases z
      exact .inr (by rw [cu,dY];rfl)
     ·exact .inl z
    ·refine .inr ?_
     rw [cu]
     cases q:(m == n) with
     | true=>rfl
     | false=>exact hm
  ·have hb:(k == NameKind.free)=false:=by simpa using hk
   obtain ⟨cl,h1,h2,h3⟩:=zW_ r acc (fun m hm=>hf m (cz _ hm)) h;refine ⟨cl,?_,h2,fun m hm=>h3 m ?_⟩
   ·show ((if (k == NameKind.free)=true then _ else _) >>= _)=_
    rw [if_neg (by rw [hb];exact bW)]
    exact h1
   ·rcases hm with hm | hm
    ·rcases bL.mp hm with z | z
     ·cases z
      exact absurd rfl hk
     ·exact .inl z
    ·exact .inr hm
theorem u6_ {env:Env}{scope:Scope} (hf:∀ n,(n,NameKind.free)∈scope.names->∃ c,env.cells.lookup n=some c) :
  ∃ cl:List (Str × Addr),closureFor scope env=pure cl/\(∀ n c,cl.lookup n=some c->env.cells.lookup n=some c)/\∀ n,(n,NameKind.free)∈scope.names->(cl.lookup n).isSome=true:=by
 obtain ⟨cl,h1,h2,h3⟩:=zW_ scope.names [] hf (fun n c h=>by simp at h)
 refine ⟨cl,?_,h2,fun n h=>h3 n (.inl h)⟩;unfold closureFor
 have:(forIn scope.names ([]:List (Str × Addr)) (fun x r=>match x with
    | (name,kind)=>if (kind == NameKind.free)=true then do
      let c ← cellOf env name
      pure (ForInStep.yield ((name,c) :: r))
     else pure (ForInStep.yield r)):Sem (List (Str × Addr)))=pure cl:=h1
 first
  | exact this
  | (rw [show ∀ x:Sem (List (Str × Addr)),(x >>= fun cs=>pure cs)=x from fun x=>by simp];exact this)
  | (simp only [bind_pure];exact this)
theorem jA_ {env:Env}:∀ (names:List (Str × NameKind)) (x:Str),
  (names.map fun (n,k)=>if (k == NameKind.free && env.scope.kind == .function && env.kindOf n == some .cell)=true then (n,NameKind.cell) else (n,k)).lookup x =
   (names.lookup x).map fun k=>if (k == NameKind.free && env.scope.kind == .function && env.kindOf x == some .cell)=true then NameKind.cell else k
 | [],x=>rfl
 | (n,k) :: r,x=>by
  have ih:=jA_ (env:=env) r x
  show List.lookup x ((if (k == NameKind.free && env.scope.kind == .function && env.kindOf n == some .cell)=true then (n,NameKind.cell) else (n,k)) :: _)=_
  cases q:(x == n) with
  | true =>
   have e:=eq_of_beq q;subst e
   by_cases hc:(k == NameKind.free && env.scope.kind == .function && env.kindOf x == some .cell)=true
   ·rw [if_pos hc]
    simp only [cu,q,da,if_pos hc]
   ·rw [if_neg hc]
    simp only [cu,q,da,if_neg hc]
  | false =>
   by_cases hc:(k == NameKind.free && env.scope.kind == .function && env.kindOf n == some .cell)=true
   ·rw [if_pos hc]
    simp only [cu,q];exact ih
   ·rw [if_neg hc]
    simp only [cu,q];exact ih
def qj9_ (N:List Str) (osc sc:Scope) (cap:List Nat) (own:List Str):Bool :=
 (sc.kind == .function) && sc.names.all (fun y=>(y.2 != .cell) && ((y.2 != .local) || (sc.names.lookup y.1 == some .local)) && ((y.2 != .free) || ((sc.names.lookup y.1 == some .free) && ((osc.names.lookup y.1 == some .cell) || (osc.names.lookup y.1 == some .free))))) &&
  cap.all (fun i=>match N[i]? with | some x=>sc.names.lookup x == some .free | none=>false) && own.all (fun x=>sc.names.lookup x == some .local) && decide ((cap.map (fun i=>N.getD i Str.empty)++own).Nodup)
structure CompOk (N:List Str) (osc sc:Scope) (cap:List Nat) (own:List Str):Prop where
 kind:sc.kind=.function
 nocell:∀ y∈sc.names,y.2≠.cell
 locs:∀ y∈sc.names,y.2=.local->sc.names.lookup y.1=some .local
 free1:∀ y∈sc.names,y.2=.free->sc.names.lookup y.1=some .free
 frees:∀ y∈sc.names,y.2=.free->osc.names.lookup y.1=some .cell\/osc.names.lookup y.1=some .free
 capf:∀ i∈cap,∃ x,N[i]?=some x/\sc.names.lookup x=some .free
 owns:∀ x∈own,sc.names.lookup x=some .local
 nd:(cap.map (fun i=>N.getD i Str.empty)++own).Nodup
theorem CompOk.of {N:List Str}{osc sc:Scope}{cap:List Nat}{own:List Str} (h:qj9_ N osc sc cap own=true):CompOk N osc sc cap own:=by
 unfold qj9_ at h;simp only [cC] at h;obtain ⟨⟨⟨⟨h1,h2⟩,h3⟩,h4⟩,h5⟩:=h
 have all:=c5.mp h2;refine ⟨eq_of_beq h1,fun y hy=>?_,fun y hy e=>?_,fun y hy e=>?_,fun y hy e=>?_,fun i hi=>?_,fun x hx=>?_,bC h5⟩
 ·have q:=all y hy
  simp only [cC] at q;intro e;rw [e] at q;exact absurd q.1.1 (by decide)
 ·have q:=all y hy
  simp only [cC,dP] at q;rcases q.1.2 with z | z
  ·rw [e] at z;exact absurd z (by decide)
  ·exact eq_of_beq z
 ·have q:=all y hy
  simp only [cC,dP] at q;rcases q.2 with z | z
  ·rw [e] at z;exact absurd z (by decide)
  ·exact eq_of_beq z.1
 ·have q:=all y hy
  simp only [cC,dP] at q;rcases q.2 with z | z
  ·rw [e] at z;exact absurd z (by decide)
  ·exact z.2.imp eq_of_beq eq_of_beq
 ·have q:=c5.mp h3 i hi
  cases e:N[i]? with
  | none=>rw [e] at q;cases q
  | some x=>rw [e] at q;exact ⟨x,rfl,eq_of_beq q⟩
 ·exact eq_of_beq (c5.mp h4 x hx)
abbrev yF_ (N:List Str) (cap:List Nat) (own:List Str):List Str:=cap.map (fun i=>N.getD i Str.empty)++own
abbrev jm_ (σ:St) (cap:List Nat) (own:List Str):St:=cap.map (fun i=>(σ[i]?).join)++own.map fun _=>none
def jW_ (X:Cx) (sc:Scope) (cl:List (Str × Addr)) (C:Addr) (cap:List Nat) (own:List Str) (s₀:Shared) (H₀:Hp) (ex:List Addr):Cx :=
 { X with N:=yF_ X.N cap own,s₀:=s₀,H₀:=H₀,env:=compEnvC sc cl C X.env,outer:=X.stack,stack:=X.stack,ex:=ex,fn:=fun _=>false,pn:=[],xe:=fun _ _=>False }
section
variable {X:Cx}{pins:List (Addr × Obj)}{σ:St}{H:Hp}{s:Shared}{sc:Scope}{cl:List (Str × Addr)}{cap:List Nat}{own:List Str}
theorem qea_ (S:CompOk X.N X.env.scope sc cap own) {x:Str}{C:Addr} (h:(compEnvC sc cl C X.env).kindOf x=some .cell\/(compEnvC sc cl C X.env).kindOf x=some .free):(x,NameKind.free)∈sc.names:=by
 have e:(compEnvC sc cl C X.env).kindOf x=(sc.names.lookup x).map fun k=>if (k == NameKind.free && X.env.scope.kind == .function && X.env.kindOf x == some .cell)=true then NameKind.cell else k:=jA_ sc.names x
 rw [e] at h
 cases q:sc.names.lookup x with
 | none=>rw [q] at h;rcases h with z | z <;> cases z
 | some k =>
  have hm:=cQ q
  have hk:k=.free:=by
   rw [q] at h;simp only [da,eJ] at h
   by_cases c:(k == NameKind.free && X.env.scope.kind == .function && X.env.kindOf x == some .cell)=true
   ·simp only [cC] at c
    exact eq_of_beq c.1.1
   ·rw [if_neg c] at h
    rcases h with z | z
    ·exact absurd z (S.nocell _ hm)
    ·exact z
  rw [hk] at hm;exact hm
theorem qka_ (S:CompOk X.N X.env.scope sc cap own) {x:Str}{C:Addr} (h:sc.names.lookup x=some .free):(compEnvC sc cl C X.env).kindOf x=some .cell\/(compEnvC sc cl C X.env).kindOf x=some .free:=by
 have e:(compEnvC sc cl C X.env).kindOf x=(sc.names.lookup x).map fun k=>if (k == NameKind.free && X.env.scope.kind == .function && X.env.kindOf x == some .cell)=true then NameKind.cell else k:=jA_ sc.names x
 rw [e,h];simp only [da,eJ]
 split
 ·exact .inl rfl
 ·exact .inr rfl
theorem Inv.block {h':Heap}{fp:List Addr}{t':Nat} (I:Inv X pins σ H s) (S:CompOk X.N X.env.scope sc cap own) (hc1:∀ n c,cl.lookup n=some c->X.env.cells.lookup n=some c) (hc2:∀ n,(n,NameKind.free)∈sc.names->(cl.lookup n).isSome=true)
  (hf:∀ b∈fp,FpOk X pins H b) (hlt:∀ b∈fp,b < s.heap.objs.size) {m:Str->Option Value} (hn:h'.Ns s.heap.objs.size m) (k:∀ b u,s.heap.get? b=some u->h'.get? b=some u) :
  Inv (jW_ X sc cl s.heap.objs.size cap own s H fp) [] (jm_ σ cap own) H { s with heap:=h',toks:=t' }:=by
 refine ⟨⟨I.mod,S.kind,I.ok.glob,I.ok.blt,bF _,fun x y c a b=>I.ok.inj x y c (hc1 x c a) (hc1 y c b),fun x hx=>?_,fun x c z=>absurd z (by show ¬ (false=true);decide),I.ok.hd,I.ok.frames,.inl rfl,fun b hb=>⟨bP (hlt b hb),fun x c e=>(hf b hb).2.2.2.2.1 x c (hc1 x c e)⟩,I.bs,bG I.ok.bsz I.sz,fun b o e hb=>?_,fun b hb z=>?_,I.stack,I.stkFree⟩,
  rfl,I.bare,Un.kept k,⟨m,hn,fun i x v e1 e2 e3=>?_⟩,fun x c e=>?_,I.hok.fresh (bF _),fun x c e=>I.freeC x c (hc1 x c e),fun p hp=>absurd hp (by show p∉([]++[]:List (Addr × Obj));simp),I.hok.kept k,?_⟩
 ·have hm:=qea_ S hx
  exact dL.mp (hc2 x hm)
 ·rcases (hf b hb).2.2.2.1 with z | z
  ·exact I.ok.noex b o e z
  ·exact absurd (bR (bJ (I.ok.bs b o e).1) z) (cI _)
 ·rcases bL.mp (I.stkSub b z) with q | q
  ·exact (hf b hb).2.1 q
  ·exact (hf b hb).2.2.1 q
 ·by_cases hi:i < cap.length
  ·have g:(yF_ X.N cap own)[i]?=some x:=e1
   have d:(jm_ σ cap own)[i]?=some (some v):=e2;rw [yF_,cW (by simpa using hi),bE,b8 hi] at g
   rw [jm_,cW (by simpa using hi),bE,b8 hi] at d
   simp only [da,eJ] at g d;obtain ⟨y,hy,hl⟩:=S.capf _ (cR hi)
   have l:x=y:=by
    rw [<- g,b7,hy];rfl
   subst l
   have ev:σ[cap[i]]?=some (some v):=by
    cases q:σ[cap[i]]? with
    | none=>rw [q] at d;cases d
    | some o=>rw [q] at d;exact congrArg some d
   obtain ⟨m0,C,B⟩:=I.loc
   have hm:=cQ hl
   have h:=S.frees _ hm rfl;obtain ⟨u,ru,lk⟩:=B _ x v hy ev (h.elim (fun z=>.inr (.inl z)) fun z=>.inr (.inr z));refine ⟨u,ru,.inr ⟨qka_ S hl,?_⟩⟩;obtain ⟨c,hc⟩:=dL.mp (hc2 x hm);refine ⟨c,hc,?_⟩;rcases lk with ⟨z,_⟩ | ⟨_,c',r,q⟩
   ·have z':X.env.scope.names.lookup x=some .local:=z
    rcases h with w | w <;> (rw [z'] at w;cases w)
   ·have:=hc1 x c hc
    rw [r] at this
    cases this;obtain ⟨o,ho,hd⟩:=q;exact ⟨o,k _ o ho,hd⟩
  ·have d:(jm_ σ cap own)[i]?=some (some v):=e2
   rw [jm_,de (by simpa using hi),bE] at d
   cases q:own[i - (cap.map fun i=>(σ[i]?).join).length]? with
   | none=>rw [q] at d;cases d
   | some o=>rw [q] at d;cases d
 ·obtain ⟨v,o,ho,hd⟩:=I.cell x c (hc1 x c e)
  exact ⟨v,o,k c o ho,hd⟩
 ·show (jm_ σ cap own).length=(yF_ X.N cap own).length
  simp [jm_,yF_]
def PTs (X:Cx) (ifs:List Expr) (t:TT):Prop :=
 ∀ (pins:List (Addr × Obj)) (s:Shared) (σ:St) (H:Hp) (Q:Bool->Hp->Prop),Inv X pins σ H s->t σ H Q →
  wpAny (model X.prog X.w) X.A (forIn ifs true fun c r=>if r=true then do let ok ← isTrue c X.env (eval c X.env);pure (ForInStep.yield ok) else pure (ForInStep.yield r)) (TP X pins σ Q) X.xe s
def jk_:TT:=fun _ H Q=>Q true H
theorem qI_:PTs X [] jk_:=fun _ _ _ H _ I h=>wpAny_tests_nil ⟨H,I,h⟩
theorem jl_ {c:Expr}{t:TT} (h:PT X c t):PTs X [c] t:=fun pins s σ H Q I q=>wpAny_tests_one (h pins s σ H Q I q)
end
theorem qb3_ {prog:Program}{w:World}{A:Around}{R:Result->Shared->Prop}{s:Shared}{elt target iter:Expr}{ifs:List Expr}{scope:Scope}{pos:Pos}{it acc:Value}{env:Env} (I:Nat->Shared->Prop)
  (turn:∀ n s,I n s->wpAny (model prog w) A (pyNext it) (fun r s₁=>match r with
   | none=>R (.ok .next) s₁
   | some v=>wpAny (model prog w) A (letOwnedTupleGo target it v) (fun _ s₁=>wpAny (model prog w) A (assign target env v) (fun _ s₂ =>
     wpAny (model prog w) A (forIn ifs true fun c r=>if r=true then do let ok ← isTrue c env (eval c env);pure (ForInStep.yield ok) else pure (ForInStep.yield r)) (fun ok s₃ =>
      if ok=true then wpAny (model prog w) A (eval elt env) (fun x s₄ =>
       wpAny (model prog w) A (call (.builtin "list.append") [acc,x]) (fun _ s₅=>∃ m,m < n∧I m s₅) (fun _ _=>False) s₄) (fun _ _=>False) s₃
      else ∃ m,m < n/\I m s₃) (fun _ _=>False) s₂) (fun _ _=>False) s₁) (fun _ _=>False) s₁) (fun _ _=>False) s)
  (n:Nat) (h:I n s) :
  codeAny (model prog w) A (.compLoop (.ListComp elt [⟨target,iter,ifs,0⟩] scope pos) 0 it acc env) R s:=by
 refine codeAny_loop rfl I (fun n s hI=>?_) n h
 show wpAny _ A ((compTurn (.ListComp elt [⟨target,iter,ifs,0⟩] scope pos) 0 it acc env).onRaise (fun x=>do noteFrame x env;theTreesLotGoes x)) _ _ s
 refine wpAny_noted ?_;rw [compTurn_list];refine wpAny_noRaise ?_;refine bH (wpAny_standAt (bH (d7 (turn n s hI) (fun r s₁ h₁=>?_) fun _ _ h'=>h')))
 cases r with
 | none=>exact c7 h₁
 | some v =>
  refine bH (d7 h₁ (fun _ s₁ h₁=>?_) fun _ _ h'=>h');refine bH (d7 h₁ (fun _ s₂ h₂=>bH (d7 h₂ (fun ok s₃ h₃=>?_) fun _ _ h'=>h')) fun _ _ h'=>h')
  cases ok with
  | false=>exact c7 ⟨rfl,h₃⟩
  | true =>
   exact bH (bH (d7 h₃ (fun x s₄ h₄=>bH (d7 h₄ (fun _ s₅ h₅=>c7 (c7 ⟨rfl,h₅⟩)) fun _ _ h'=>h')) fun _ _ h'=>h'))
def q0_ (J:It) (g:TG) (tt:TT) (te:TE) (σ0:St) (H1:Hp) (D:Addr) (Q:Hp->Prop):Prop :=
 ∃ W:Nat->Nat->List V->St->Hp->Prop,(∃ m,W 0 m [] σ0 (upd H1 D (.lst [])))/\∀ i m ys σ H,W i m ys σ H->H D=some (.lst ys) ∧
  ((J.stop i H/\Q H)\/(J.go i H/\∀ x H',J.yld i H x H'->g x σ H' fun σ2 H2=>tt σ2 H2 fun b H3 =>
   if b=true then te σ2 H3 fun v H4=>H4 D=some (.lst ys)/\ys.length < sizeLine/\∃ m',m' < m/\W (i+1) m' (ys++[v]) σ2 (upd H4 D (.lst (ys++[v])))
   else ∃ m',m' < m/\W (i+1) m' ys σ2 H3))
def u7_ (cap:List Nat) (own:List Str) (wi:TI) (g:TG) (tt:TT) (te:TE):TE:=fun σ H Q=>wi σ H fun J H1=>∀ D,H1 D=none->q0_ J g tt te (jm_ σ cap own) H1 D (fun H'=>Q (.ref D) H')
section
variable {X:Cx}{sc:Scope}{cap:List Nat}{own:List Str}{tg iter elt:Expr}{ifs:List Expr}{pos:Pos}{wi:TI}{g:TG}{tt:TT}{te:TE}
theorem qb4_ {use:Option (Value->Sem Unit)}{ppos:Pos}{pins:List (Addr × Obj)}{s:Shared}{σ:St}{H:Hp}{Q:V->Hp->Prop}{R:Value->Shared->Prop} (hc:X.calm=true) (S:CompOk X.N X.env.scope sc cap own) (hi:PI X tg iter wi)
  (hg:∀ cl C s₀ H₀ ex,PG (jW_ X sc cl C cap own s₀ H₀ ex) tg g) (ht:∀ cl C s₀ H₀ ex,PTs (jW_ X sc cl C cap own s₀ H₀ ex) ifs tt) (he:∀ cl C s₀ H₀ ex,PE (jW_ X sc cl C cap own s₀ H₀ ex) elt te)
  (hs:∀ x,foldedSetIterable iter X.env x=pure x) (I:Inv X pins σ H s) (h:u7_ cap own wi g tt te σ H Q)
  (fin:∀ (D C:Addr) (H':Hp) (s':Shared) (m:Str->Option Value),Inv X pins σ H' s'->s'.heap.Ns C m->FpOk X pins H' C->Q (.ref D) H'->compPost (model X.prog X.w) X.A X.xe use R (.ref D) C (.ok .next) s') :
  wpAny (model X.prog X.w) X.A (comprehension (.ListComp elt [⟨tg,iter,ifs,0⟩] sc pos) sc X.env ppos (newList []) false (eval iter X.env) use) R X.xe s:=by
 obtain ⟨cl,U,ae,ar⟩:=u6_ (env:=X.env) (scope:=sc) fun n hn=>X.env.cells.lookup n |> fun _=>I.ok.has n (S.frees _ hn rfl);refine wpAny_comprehension_free (use:=use) rfl hs U S.kind S.locs (thn (hi pins s σ H _ I h) fun v s1 h1=>thn h1 fun aG s2 h2=>?_);obtain ⟨it,fp,tn,J,H2,rfl,I2,T,Z,f2,q⟩:=h2;refine wpAny_newObj_type ?_;obtain ⟨D,hD⟩:∃ D,D=s2.heap.objs.size:=⟨_,rfl⟩
 have ax:H2 D=none:=by rw [hD];exact I2.hok.fresh (bF _)
 have I3:Inv X pins σ (upd H2 D (.lst [])) { s2 with heap:=s2.heap.push { cls:=.type "list",dict:=none,data:=.seq ([]:List Value).toArray } }:=by
  rw [hD];exact I2.laid (t':=s2.toks) (fun b u e=>bD _ e) (bF _) ⟨cn _,[],_,.nil,bZ _ rfl⟩
 have ak:∀ b∈fp,b≠D:=fun b hb z=>by
  obtain ⟨o,ho,_⟩:=T.obj _ _ Z b hb;exact absurd (bJ ho) (by rw [z,hD];exact cI _)
 have f3:∀ b∈fp,FpOk X pins (upd H2 D (.lst [])) b:=fun b hb=>⟨by rw [qd_ (ak b hb)];exact (f2 b hb).1,(f2 b hb).2⟩
 have ap:tn 0 (s2.heap.push { cls:=.type "list",dict:=none,data:=.seq ([]:List Value).toArray }):=T.keep _ _ _ Z fun b _ o e=>bD _ e
 rw [<- hD];obtain ⟨W,⟨m0,w0⟩,turn⟩:=q D ax
 generalize au:({ s2 with heap:=s2.heap.push { cls:=.type "list",dict:=none,data:=.seq ([]:List Value).toArray } }:Shared)=s3 at I3 ⊢
 have G:tn 0 s3.heap:=by rw [<- au];exact ap
 refine wpAny_newFunctionEnv S.nocell (by intro y hy;simp at hy) (fun h1 aw aD=>?_) S.kind
 have hk:∀ b u,s3.heap.get? b=some u->h1.get? b=some u:=fun b u e=>aD.extBut b u (bP (bJ e)) (bD _ e)
 have E:∀ b∈fp,b < s3.heap.objs.size:=fun b hb=>by
  obtain ⟨o,ho,_⟩:=T.obj _ _ G b hb;exact bJ ho
 have I4:=I3.block (t':=s3.toks+([]:List (Str × Value)).length) S ae ar f3 E aw hk
 have fC:∀ H',H' s3.heap.objs.size=none->FpOk X pins H' s3.heap.objs.size:=fun H' hn=>I3.fpOk (bF _) hn;obtain ⟨C,hC⟩:∃ C,C=s3.heap.objs.size:=⟨_,rfl⟩;rw [<- hC] at I4 fC;rw [<- hC];obtain ⟨Xc,l⟩:∃ Xc,Xc=jW_ X sc cl C cap own s3 (upd H2 D (.lst [])) fp:=⟨_,rfl⟩;rw [<- l] at I4
 have gX:PG Xc tg g:=l ▸ hg cl C s3 _ fp
 have tX:PTs Xc ifs tt:=l ▸ ht cl C s3 _ fp
 have eX:PE Xc elt te:=l ▸ he cl C s3 _ fp
 have x1:Xc.prog=X.prog:=by rw [l];rfl
 have x2:Xc.w=X.w:=by rw [l];rfl
 have x3:Xc.K=X.K:=by rw [l];rfl
 have x4:Xc.calm=true:=by rw [l];exact hc
 have x5:Xc.A=X.A:=by rw [l];rfl
 have x6:Xc.env=compEnvC sc cl C X.env:=by rw [l];rfl
 have x7:Xc.xe=fun _ _=>False:=by rw [l];rfl
 have B:∀ {H':Hp},(∀ b∈fp,H' b=none)->∀ b∈fp,FpOk Xc [] H' b:=fun hn b hb=>by
  rw [l];refine ⟨hn b hb,?_,?_,.inl hb,fun x c e=>(f3 b hb).2.2.2.2.1 x c (ae x c e),fun p hp=>absurd hp (by show p∉([]++[]:List (Addr × Obj));simp)⟩
  ·show b≠C
   rw [hC];exact bP (E b hb)
  ·intro z
   rcases bL.mp (I3.stkSub b z) with q | q
   ·exact (f3 b hb).2.1 q
   ·exact (f3 b hb).2.2.1 q
 have ah:tn 0 h1:=T.keep _ _ _ G fun b _ o e=>hk b o e
 have L:∀ s4:Shared,s4 = { s3 with heap:=h1,toks:=s3.toks+([]:List (Str × Value)).length } →
   codeAny (model X.prog X.w) X.A (.compLoop (.ListComp elt [⟨tg,iter,ifs,0⟩] sc pos) 0 (.ref it) (.ref D) (compEnvC sc cl C X.env)) (compPost (model X.prog X.w) X.A X.xe use R (.ref D) C) s4:=by
  rintro s4 rfl;refine qb3_ (fun n s'=>∃ i σ' H' ys,Inv Xc [] σ' H' s'/\tn i s'.heap/\(∀ b∈fp,H' b=none)/\H' D=some (.lst ys)/\W i n ys σ' H') ?_ m0 ⟨0,_,_,[],I4,ah,fun b hb=>(f3 b hb).1,qc_,w0⟩;rintro n s5 ⟨i,σ5,H5,ys,I5,aa,ai,aF,w5⟩;obtain ⟨_,O⟩:=turn i n ys σ5 H5 w5;rcases O with ⟨stop,qq⟩ | ⟨go,step⟩
  ·have td:=T.done Xc x1 x2 x3 x4 i [] s5 σ5 H5 (fun _ _=>False) I5 (B ai) aa stop
   rw [x5] at td;refine thn td fun r s6 ⟨hr,I6⟩=>?_;subst hr
   show compPost _ _ _ _ _ _ _ (.ok .next) s6
   obtain ⟨m6,Y,_⟩:=id I6.loc;rw [x6] at Y
   have u6:=I6.base
   have aj:=I6.hok
   have as:H5 C=none:=by have:=I6.free;rw [x6] at this;exact this
   have aC:s6.os=s3.os:=by have:=I6.os;rw [l] at this;exact this
   rw [l] at u6 aj
   have IX:Inv X pins σ H5 s6:=I3.call' (s':=s6) aC u6 aj I6.bare fun b hb=>⟨(f3 b hb).2.2.2.1,(f3 b hb).2.1,(f3 b hb).2.2.2.2.1,(f3 b hb).2.2.2.2.2⟩;exact fin D C H5 s6 m6 IX Y (fC H5 as) qq
  ·have ti:=T.item Xc x1 x2 x3 x4 i [] s5 σ5 H5 (fun _ _=>False) I5 (B ai) aa go
   rw [x5] at ti;refine thn ti fun r s6 ⟨u,hr,h6⟩=>?_;subst hr;refine thn h6 fun _ s7 ⟨x,H7,I7,r7,y7,P,az⟩=>?_
   have an:=I7.pinned (B az) (T.obj _ _ P)
   have a7:=gX _ s7 σ5 H7 x u _ an r7 (step x H7 y7);rw [x1,x2,x5,x6,x7] at a7;refine thn a7 fun _ s8 ⟨σ8,H8,I8,q8⟩=>?_
   have a8:=tX _ s8 σ8 H8 _ I8 q8;rw [x1,x2,x5,x6,x7] at a8
   have again:∀ {σ9:St}{H9:Hp}{s9:Shared}{zs:List V}{m':Nat},Inv Xc ([]++yN_ fp s7.heap) σ9 H9 s9->H9 D=some (.lst zs)->m' < n->W (i+1) m' zs σ9 H9 →
     ∃ m,m < n/\∃ i σ' H' ys,Inv Xc [] σ' H' s9/\tn i s9.heap/\(∀ b∈fp,H' b=none)/\H' D=some (.lst ys)/\W i m ys σ' H':=fun {σ9 H9 s9 zs m'} I9 hz hm w9=>by
    refine ⟨m',hm,i+1,σ9,H9,zs,I9.unpinned,T.keep _ _ _ P fun b hb o e=>(I9.pin (b,o) (cH _ (cH _ (j2_ hb e)))).1,fun b hb=>?_,hz,w9⟩;obtain ⟨o,e,d⟩:=T.obj _ _ P b hb;exact (I9.pin (b,o) (cH _ (cH _ (j2_ hb e)))).2.1
   refine thn a8 fun ok s9 ⟨H9,I9,q9⟩=>?_
   cases ok with
   | false =>
    rw [if_neg bW] at q9 ⊢;obtain ⟨m',hm,w9⟩:=q9;exact again I9 (turn _ _ _ _ _ w9).1 hm w9
   | true =>
    rw [if_pos rfl] at q9 ⊢
    have a9:=eX _ s9 σ8 H9 _ I9 q9;rw [x1,x2,x5,x6,x7] at a9;refine thn a9 fun v ao ⟨y,ad,av,aB,al,am,m',hm,aA⟩=>?_
    have ac:=qQ_ (X:=Xc) ([]++yN_ fp s7.heap) ao σ8 ad (.ref D) [y] (.ref D) [v] (fun _ ab=>ab=upd ad D (.lst (ys++[y]))) av rfl (.cons aB .nil) ⟨D,ys,y,rfl,rfl,al,am,rfl⟩;rw [x1,x2,x5,x7] at ac;refine thn ac fun _ aE ⟨_,ab,aq,_,ay⟩=>?_;subst ay;exact again aq qc_ hm aA
 exact codeAny_compStart_list (L _ rfl) (T.self _ 0 _ _ _ ah (L _ rfl))
theorem qJ_ (S:CompOk X.N X.env.scope sc cap own) (hc:X.calm=true) (hi:PI X tg iter wi)
  (hg:∀ cl C s₀ H₀ ex,PG (jW_ X sc cl C cap own s₀ H₀ ex) tg g) (ht:∀ cl C s₀ H₀ ex,PTs (jW_ X sc cl C cap own s₀ H₀ ex) ifs tt) (he:∀ cl C s₀ H₀ ex,PE (jW_ X sc cl C cap own s₀ H₀ ex) elt te)
  (hs:∀ x,foldedSetIterable iter X.env x=pure x:=by intro _;rfl):PE X (.ListComp elt [⟨tg,iter,ifs,0⟩] sc pos) (u7_ cap own wi g tt te):=by
 intro d s σ H Q I h;rw [eval_ListComp];refine qb4_ (use:=none) hc S hi hg ht he hs I h fun D C H' s' m I' hn hf q=>?_;refine ⟨m,hn,fun h' sb=>?_⟩;obtain ⟨f0,f1,f2,f3,f4,f5⟩:=hf;exact ⟨.ref D,H',I'.turned (t':=s'.toks) (fun b o hb e=>(sb.2 b hb).trans e) f0 f1 f3 f4 f5,rfl,q⟩
theorem jp_ {i:Nat}{x:Str}{pos' spos:Pos} (hN:X.N.Nodup) (hi':X.N[i]?=some x) (hx:Loc X.env.scope x) (S:CompOk X.N X.env.scope sc cap own) (hc:X.calm=true) (hi:PI X tg iter wi)
  (hg:∀ cl C s₀ H₀ ex,PG (jW_ X sc cl C cap own s₀ H₀ ex) tg g) (ht:∀ cl C s₀ H₀ ex,PTs (jW_ X sc cl C cap own s₀ H₀ ex) ifs tt) (he:∀ cl C s₀ H₀ ex,PE (jW_ X sc cl C cap own s₀ H₀ ex) elt te)
  (hsw:swapsWith (.ListComp elt [⟨tg,iter,ifs,0⟩] sc pos) (some (.Name x pos')) spos.line X.env=pure true:=by rfl) (hs:∀ x,foldedSetIterable iter X.env x=pure x:=by intro _;rfl)
  (hf:X.fn x=true\/X.env.scope.names.lookup x=some .local:=by first | exact .inl rfl | exact .inr rfl | assumption) :
  PS X (.Assign [.Name x pos'] (.ListComp elt [⟨tg,iter,ifs,0⟩] sc pos) spos) (fun D σ H=>u7_ cap own wi g tt te σ H fun v H1=>D.nx (σ.set i (some v)) H1):=by
 intro d s σ H D I h;rw [exec_Assign_Name_used _ _ _ _ hsw];refine bH (wpAny_standAt (bH ?_))
 show wpAny _ X.A (do let _ ← comprehension (.ListComp elt [⟨tg,iter,ifs,0⟩] sc pos) sc X.env _ (newList []) false (eval iter X.env) (some (assign (.Name x pos') X.env))) _ _ s
 refine bH (thn (qb4_ (use:=some (assign (.Name x pos') X.env)) (R:=fun _ s'=>SP X d D .next s') hc S hi hg ht he hs I h fun A C H' s' m I' hn E q=>?_) (fun _ s' hq=>c7 (c7 hq)));obtain ⟨f0,f1,f2,f3,f4,f5⟩:=E;refine wpAny_assign_Name (qbn_ I' hN hi' hx (v:=.ref A) rfl (fun l r ⟨a,sa,ha⟩=>?_) hf)
 have B:C≠a:=by
  rcases ha with z | z
  ·rw [z];exact f1
  ·exact fun w=>f4 x a z w.symm
 refine ⟨m,hn.sameBut sa B,fun h' sb=>?_⟩;exact ⟨_,H',r.turned (t':=l.toks) (fun b o hb e=>(sb.2 b hb).trans e) f0 f1 f3 f4 f5,q⟩
end
section
variable {X:Cx}{pins:List (Addr × Obj)}{σ:St}{H:Hp}{s:Shared}{h':Heap}
theorem Inv.turnedUp {fp:List Addr}{a:Addr}{o:HO}{t':Nat} (I:Inv X pins σ H s) (hf:∀ b∈fp,FpOk X pins H b) (k:∀ b u,b∉fp->s.heap.get? b=some u->h'.get? b=some u) (ha:s.heap.objs.size<=a)
  (new:ObjOk X.prog X.w (upd H a o) h' a o):Inv X pins σ (upd H a o) { s with heap:=h',toks:=t' }:=by
 have ne:∀ b u,s.heap.get? b=some u->b≠a:=fun b u e=>bP (bR (bJ e) ha)
 have nH:H a=none:=I.hok.fresh ha
 have nb:∀ b u,H b=some u->b≠a:=fun b u e z=>by rw [z,nH] at e;cases e
 have nf:∀ b u,H b=some u->b∉fp:=fun b u e z=>by rw [(hf b z).1] at e;cases e
 refine I.step (g':=s.gens) (d':=s.drawn) (ch:=fp) (fun b hb=>⟨(hf b hb).2.2.2.1,(hf b hb).2.1,(hf b hb).2.2.2.2.1,(hf b hb).2.2.2.2.2⟩) (fun b o _ _ hc e _=>k b o hc e) (fun b o _ _ hc e _=>⟨o.slots,k b o hc e⟩)
  (fun b o _ e n=>by rw [qd_ (ne b o e)];exact n) (fun b o hc e=>?_) (fun b xs e=>by rw [qd_ (nb b _ e)];exact e) (fun b o u e=>by rw [qd_ (nb b _ e)];exact e) (fun b ps e=>⟨#[],by rw [qd_ (nb b _ e),e];simp⟩)
  (fun m hm=>by
   obtain ⟨oL,es,ep,ho,r⟩:=hm
   exact ⟨oL,es,ep,k _ oL (fun z=>(hf _ z).2.1 rfl) ho,r⟩) (fun b u e=>?_) I.bare
 ·exact ⟨o,k b o hc e⟩
 ·by_cases hb:b=a
  ·subst hb;rw [qc_] at e;cases e;exact new
  ·rw [qd_ hb] at e
   refine (I.hok b u e).stay (fun c v hc q=>k c v ?_ q) (fun c q=>by rw [qd_ (nb c _ q)];exact q) fun c xs q=>by rw [qd_ (nb c _ q)];exact q
   rcases hc with z | z
   ·rw [z];exact nf b u e
   ·exact nf c _ z
theorem Inv.turnedL {fp:List Addr}{t':Nat} (I:Inv X pins σ H s) (hf:∀ b∈fp,FpOk X pins H b) (k:∀ b u,b∉fp->s.heap.get? b=some u->h'.get? b=some u):Inv X pins σ H { s with heap:=h',toks:=t' }:=by
 have nf:∀ b u,H b=some u->b∉fp:=fun b u e z=>by rw [(hf b z).1] at e;cases e
 refine I.step (g':=s.gens) (d':=s.drawn) (ch:=fp) (fun b hb=>⟨(hf b hb).2.2.2.1,(hf b hb).2.1,(hf b hb).2.2.2.2.1,(hf b hb).2.2.2.2.2⟩) (fun b o _ _ hc e _=>k b o hc e) (fun b o _ _ hc e _=>⟨o.slots,k b o hc e⟩)
  (fun b o _ e n=>n) (fun b o hc e=>⟨o,k b o hc e⟩) (fun b xs e=>e) (fun b o u e=>e) (fun b ps e=>⟨#[],by rw [e];simp⟩)
  (fun m hm=>by
   obtain ⟨oL,es,ep,ho,r⟩:=hm
   exact ⟨oL,es,ep,k _ oL (fun z=>(hf _ z).2.1 rfl) ho,r⟩) (fun b u e=>?_) I.bare
 refine (I.hok b u e).stay (fun c v hc q=>k c v ?_ q) (fun _ q=>q) fun _ _ q=>q;rcases hc with z | z
 ·rw [z];exact nf b u e
 ·exact nf c _ z
end
def Itz (K:PySem.W.Frag) (l1 l2:Addr) (xs ys:List V):It :=
 ⟨fun i H=>SqL K H l1 xs/\SqL K H l2 ys/\i < xs.length/\i < ys.length,fun i H x H'=>∃ T u v,H T=none/\x=.ref T/\xs[i]?=some u/\ys[i]?=some v/\H'=upd H T (.tup [u,v]),
  fun i H=>SqL K H l1 xs/\SqL K H l2 ys/\(xs.length<=i\/ys.length<=i)⟩
structure Five (z TI TO i1 i2:Addr):Prop where
 TIz:TI≠z
 TOz:TO≠z
 i1z:i1≠z
 i2z:i2≠z
 TITO:TI≠TO
 TIi1:TI≠i1
 TIi2:TI≠i2
 TOi1:TO≠i1
 TOi2:TO≠i2
 i12:i1≠i2
theorem qon_ (n:Nat):Five (n+4) (n+2) (n+3) n (n+1) :=
 ⟨(by omega:(n+2:Nat)≠n+4),(by omega:(n+3:Nat)≠n+4),(by omega:(n:Nat)≠n+4),(by omega:(n+1:Nat)≠n+4),(by omega:(n+2:Nat)≠n+3),(by omega:(n+2:Nat)≠n),
  (by omega:(n+2:Nat)≠n+1),(by omega:(n+3:Nat)≠n),(by omega:(n+3:Nat)≠n+1),(by omega:(n:Nat)≠n+1)⟩
theorem jC_ {h:Heap}{a b:Addr}{x y:Array Value}{o:Obj}{T:String} (hl:h.IsList a x) (ho:h.get? b=some o) (hc:o.cls=.type T) (hT:T ≠ "list"):a≠b:=by
 rintro rfl;obtain ⟨o',g,d,_⟩:=hl;rw [ho] at g
 cases g;rw [hc] at d
 cases d;exact hT rfl
theorem Five.apart {h:Heap}{z TI TO i1 i2 l1 l2:Addr}{a b c d:Value}{k1 k2:Nat}{xs ys:Array Value} (F:Five z TI TO i1 i2) (hz:PySem.IsZip h z TI TO a) (hTO:PySem.IsPair h TO b c) (h1:h.IsListIter i1 l1 k1) (h2:h.IsListIter i2 l2 k2)
  (hl1:h.IsList l1 xs) (hl2:h.IsList l2 ys):PySem.ZipApart z TI TO i1 i2 l1 l2:=by
 obtain ⟨o1,e1,c1,_⟩:=id h1;obtain ⟨o2,e2,c2,_⟩:=id h2
 exact ⟨F.TIz,F.TOz,F.i1z,F.i2z,F.TITO,F.TIi1,F.TIi2,F.TOi1,F.TOi2,F.i12,
  jC_ (y:=xs) hl1 hz rfl (by decide),jC_ (y:=xs) hl1 hTO rfl (by decide),jC_ (y:=xs) hl1 e1 c1 (by decide),jC_ (y:=xs) hl1 e2 c2 (by decide),
  jC_ (y:=xs) hl2 hz rfl (by decide),jC_ (y:=xs) hl2 hTO rfl (by decide),jC_ (y:=xs) hl2 e1 c1 (by decide),jC_ (y:=xs) hl2 e2 c2 (by decide)⟩
theorem qmf_ {P:Program}{w:World}{K:PySem.W.Frag}{elts:List Expr}{x1}{tp:Pos}{z TI TO i1 i2 l1 l2:Addr} (F:Five z TI TO i1 i2) (xs ys:List V) :
  Turn P w K (.Tuple elts x1 tp) (Itz K l1 l2 xs ys) [z,TI,TO,i1,i2] z (fun i h=>PySem.IsZip h z TI TO .none/\PySem.IsPair h TI (.ref i1) (.ref i2)/\(∃ a b,PySem.IsPair h TO a b)/\h.IsListIter i1 l1 i/\h.IsListIter i2 l2 i) where
 mem:=by simp
 obj:=fun i h st b hb=>by
  obtain ⟨hz,l,⟨a,c,g⟩,⟨o1,e1,c1,d1⟩,o2,e2,c2,d2⟩:=st;simp only [bL,ca,or_false] at hb;rcases hb with rfl | rfl | rfl | rfl | rfl
  ·exact ⟨_,hz,fun v q=>by have q':Data.fields _=Data.cell v:=q;cases q'⟩
  ·exact ⟨_,l,fun v q=>by have q':Data.seq _ _=Data.cell v:=q;cases q'⟩
  ·exact ⟨_,g,fun v q=>by have q':Data.seq _ _=Data.cell v:=q;cases q'⟩
  ·exact ⟨o1,e1,fun v q=>by rw [d1] at q;cases q⟩
  ·exact ⟨o2,e2,fun v q=>by rw [d2] at q;cases q⟩
 keep:=fun i h h' st k=>by
  obtain ⟨hz,l,⟨a,b,g⟩,h1,h2⟩:=st;exact ⟨k z (by simp) _ hz,k TI (by simp) _ l,⟨a,b,k TO (by simp) _ g⟩,h1.at fun o e=>k i1 (by simp) o e,h2.at fun o e=>k i2 (by simp) o e⟩
 item:=by
  intro X hP hw hK hc i J s σ H E I hf st hg;subst hP hw hK;obtain ⟨hz,l,⟨a,b,g⟩,h1,h2⟩:=st;obtain ⟨q1,q2,b1,b2⟩:=hg;obtain ⟨L,B,p1,_⟩:=I.list q1;obtain ⟨D,r,p2,_⟩:=I.list q2
  have hx:xs[i]?=some xs[i]:=b8 b1
  have hy:ys[i]?=some ys[i]:=b8 b2;obtain ⟨u,hu,ru⟩:=B.get hx;obtain ⟨v,hv,rv⟩:=r.get hy
  have lt:∀ {c o},s.heap.get? c=some o->c≠s.heap.objs.size:=fun e=>bP (bJ e);refine PySem.wpAny_pyNext_zip_item (F.apart (d:=.none) hz g h1 h2 p1.isList p2.isList) hz l g h1 h2 p1.isList p2.isList (x:=u) (y:=v) (by simpa using hu) (by simpa using hv) fun h' a1 a2 a3 a4 a5 a6 hk=>?_
  refine ⟨_,rfl,PySem.wpAny_letOwnedTupleGo_zip a1 fun O C sb=>?_⟩
  have Q:s.heap.objs.size≠z:=(lt hz).symm
  have kk:∀ b u,b∉[z,TI,TO,i1,i2]->s.heap.get? b=some u->O.get? b=some u:=fun b u hb e=>by
   simp only [bL,ca,or_false,not_or] at hb;exact sb.extBut _ _ hb.1 (hk b u hb.1 hb.2.2.1 hb.2.2.2.1 hb.2.2.2.2 e)
  refine ⟨.ref s.heap.objs.size,upd H s.heap.objs.size (.tup [xs[i],ys[i]]),I.turnedUp (t':=s.toks) hf kk (bF _) ⟨by show 2<=sizeLine;decide,[u,v],.cons ru (.cons rv .nil),⟨_,sb.extBut _ _ Q a5,rfl,_,rfl⟩⟩,rfl,
   ⟨_,_,_,I.hok.fresh (bF _),rfl,hx,hy,rfl⟩,⟨C,sb.extBut _ _ F.TIz (hk _ _ F.TIz F.TITO F.TIi1 F.TIi2 l),⟨_,_,sb.extBut _ _ F.TOz a2⟩,a3.at fun o e=>sb.extBut _ _ F.i1z e,a4.at fun o e=>sb.extBut _ _ F.i2z e⟩,fun b hb=>?_⟩
  have:b≠s.heap.objs.size:=by
   obtain ⟨o1,e1,_⟩:=id h1;obtain ⟨o2,e2,_⟩:=id h2;simp only [bL,ca,or_false] at hb;rcases hb with rfl | rfl | rfl | rfl | rfl
   ·exact lt hz
   ·exact lt l
   ·exact lt g
   ·exact lt e1
   ·exact lt e2
  rw [qd_ this];exact (hf b hb).1
 done:=by
  intro X hP hw hK hc i J s σ H E I hf st hg;subst hP hw hK;obtain ⟨hz,l,⟨a,b,g⟩,h1,h2⟩:=st;obtain ⟨q1,q2,G⟩:=hg;obtain ⟨L,B,p1,_⟩:=I.list q1;obtain ⟨D,r,p2,_⟩:=I.list q2
  have l1:=B.length
  have l2:=r.length;refine PySem.wpAny_pyNext_zip_end (I.ok.hd hc) (F.apart (d:=.none) hz g h1 h2 p1.isList p2.isList) hz l g h1 h2 p1.isList p2.isList ?_ fun h' hk=>⟨rfl,I.turnedL (t':=s.toks) hf fun b u hb e=>?_⟩
  ·rcases G with q | q
   ·exact .inl (by rw [Array.getElem?_eq_none];simp;omega)
   ·exact .inr (by rw [Array.getElem?_eq_none];simp;omega)
  ·simp only [bL,ca,or_false,not_or] at hb
   exact hk b u hb.1 hb.2.2.1 hb.2.2.2.1 hb.2.2.2.2 e
 self:=fun _ _ _ _ _ st h=>PySem.wpAny_pyIter_zip st.1 h
section
variable {X:Cx}
inductive qkb_ (K:PySem.W.Frag) (R:It->Hp->Prop) (vs:List V) (H1:Hp):Prop
 | mk:∀ l1 l2 xs ys,vs=[.ref l1,.ref l2]->SqL K H1 l1 xs->SqL K H1 l2 ys->R (Itz K l1 l2 xs ys) H1->qkb_ K R vs H1
def iZip (K:PySem.W.Frag) (ta:TA):TI:=fun σ H R=>ta σ H fun vs H1=>qkb_ K R vs H1
theorem qmg_:bootBuiltins "zip" = some (.type "zip"):=by decide +kernel
theorem vv_ {elts:List Expr}{x1}{tp:Pos}{a b:Expr}{ta:TA}{p pos:Pos} (hg:Gl X "zip") (hm:X.mg "zip" = none) (ha:PA X [a,b] ta) (hs:starEach [a,b] X.env=[(false,eval a X.env),(false,eval b X.env)]:=by rfl) (hs2:starEach [b] X.env=[(false,eval b X.env)]:=by rfl) :
  PI X (.Tuple elts x1 tp) (.Call (.Name "zip" p) [a,b] [] pos) (iZip X.K ta):=by
 intro d s σ H R I h;refine Call_ (jK_ I hg hm qmg_ (d8 (thn (ha pos d s σ H _ I h) fun us s1 ⟨vs,H1,I1,r1,q1⟩=>?_) (by rw [hs,hs2]) (by rw [hs2];rfl)))
 obtain ⟨l1,l2,xs,ys,e,h1,h2,q⟩:=q1;subst e;obtain ⟨u,v,rfl,ru,rv⟩:=vX_ r1
 cases ru
 cases rv;obtain ⟨g,B,p1,_⟩:=I1.list h1;obtain ⟨l,r,p2,_⟩:=I1.list h2;refine PySem.call_zip_2 p1.isList p2.isList fun h' a1 a2 a3 a4 a5 a6 a7=>?_;refine PySem.wpAny_pyIter_zip a1 ?_
 refine ⟨s1.heap.objs.size+4,[s1.heap.objs.size+4,s1.heap.objs.size+2,s1.heap.objs.size+3,s1.heap.objs.size,s1.heap.objs.size+1],_,_,H1,rfl,I1.kept (t':=s1.toks) fun b o e=>a7 b o e,qmf_ (qon_ _) xs ys,
  ⟨a1,a2,⟨_,_,a3⟩,a4,a5⟩,fun b hb=>?_,q⟩
 have:s1.heap.objs.size<=b:=by
  simp only [bL,ca,or_false] at hb;rcases hb with rfl | rfl | rfl | rfl | rfl
  ·exact dZ _ 4
  ·exact dZ _ 2
  ·exact dZ _ 3
  ·exact bF _
  ·exact dZ _ 1
 exact I1.fpOk this (I1.hok.fresh this)
end
theorem qa3_ {K:PySem.W.Frag}{l1 l2:Addr}{xs ys:List V}{g:TG}{tb:TS}{D:Ends}{σ:St}{H:Hp} (Pv:Nat->St->Hp->Prop) (h0:Pv 0 σ H) (hl:∀ i σ H,i<=xs.length->Pv i σ H->SqL K H l1 xs/\SqL K H l2 ys) (he:xs.length=ys.length)
  (hs:∀ i u v T σ H,i < xs.length->xs[i]?=some u->ys[i]?=some v->H T=none->Pv i σ H->g (.ref T) σ (upd H T (.tup [u,v])) fun σ2 H2=>tb { D with nx:=Pv (i+1),ct:=Pv (i+1),bk:=D.nx } σ2 H2) (hd:∀ σ H,Pv xs.length σ H->D.nx σ H) :
  ∃ W:Nat->Nat->St->Hp->Prop,(∃ m,W 0 m σ H)/\∀ i m σ H,W i m σ H →
   ((Itz K l1 l2 xs ys).stop i H/\D.nx σ H)\/((Itz K l1 l2 xs ys).go i H/\∃ N:St->Hp->Prop,(∀ σ' H',N σ' H'->∃ m',m' < m/\W (i+1) m' σ' H')/\∀ x H',(Itz K l1 l2 xs ys).yld i H x H'->g x σ H' fun σ2 H2=>tb { D with nx:=N,ct:=N,bk:=D.nx } σ2 H2):=by
 refine ⟨fun i m σ H=>m=xs.length - i/\i<=xs.length/\Pv i σ H,⟨xs.length,by simp,cn _,h0⟩,?_⟩
 rintro i m σ H ⟨rfl,hi,p⟩;obtain ⟨q1,q2⟩:=hl i σ H hi p
 by_cases hlt:i < xs.length
 ·refine .inr ⟨⟨q1,q2,hlt,by omega⟩,Pv (i+1),fun σ' H' p'=>⟨xs.length - (i+1),by omega,rfl,hlt,p'⟩,fun x H' y=>?_⟩
  obtain ⟨T,u,v,hT,rfl,hu,hv,rfl⟩:=y;exact hs i u v T σ H hlt hu hv hT p
 ·have e:i=xs.length:=by omega
  exact .inl ⟨⟨q1,q2,.inl (by omega)⟩,hd σ H (e ▸ p)⟩
inductive Dt where
 | non | bl (b:Bool) | int (i:Int) | str (x:Str) | lst (l:List Dt) | tup (l:List Dt)
mutual
def eqD:Dt->Dt->Bool
 | .non,.non=>true
 | .bl a,.bl b=>a == b
 | .bl a,.int b=>(if a then 1 else 0) == b
 | .int a,.bl b=>a == (if b then 1 else 0)
 | .int a,.int b=>a == b
 | .str a,.str b=>a == b
 | .lst a,.lst b=>eqDs a b
 | .tup a,.tup b=>eqDs a b
 | _,_=>false
def eqDs:List Dt->List Dt->Bool
 | [],[]=>true
 | a :: as,b :: bs=>eqD a b && eqDs as bs
 | [],_ :: _=>false
 | _ :: _,[]=>false
end
mutual
def depD:Dt->Nat
 | .lst a=>qir_ a+1
 | .tup a=>qir_ a+1
 | _=>0
def qir_:List Dt->Nat
 | []=>0
 | a :: as=>max (depD a) (qir_ as)
end
mutual
def Sees (K:PySem.W.Frag) (H:Hp):V->Dt->Prop
 | v,.non=>v=.non
 | v,.bl b=>v=.bl b
 | v,.int i=>v=.int i
 | v,.str x=>v=.str x
 | v,.lst ds=>∃ a xs,v=.ref a/\SqL K H a xs/\qis_ K H xs ds
 | v,.tup ds=>∃ a xs,v=.ref a/\SqT K H a xs/\qis_ K H xs ds
def qis_ (K:PySem.W.Frag) (H:Hp):List V->List Dt->Prop
 | xs,[]=>xs=[]
 | xs,d :: ds=>∃ v vs,xs=v :: vs/\Sees K H v d/\qis_ K H vs ds
end
section
variable {X:Cx}{pins:List (Addr × Obj)}{σ:St}{H:Hp}{s:Shared}
end
section
variable {X:Cx}
end
theorem Same.up {H H':Hp}{D:Addr}{o:HO} (s:Same H H') (n:H D=none):Same H (upd H' D o):=fun b u e=>by rw [qd_ (qh_ e n)];exact s b u e
theorem vw_ {J:It}{n k:Nat}{src f:Nat->V}{te:TE}{cs:St}{H1:Hp}{D:Addr}{Q:Hp->Prop} (hD:H1 D=none) (hk:k=cs.length) (hn:n<=sizeLine)
  (stop:∀ H,Same H1 H->J.stop n H) (go:∀ i H,i < n->Same H1 H->J.go i H) (yld:∀ i H x H',i < n->Same H1 H->J.yld i H x H'->x=src i/\H'=H)
  (he:∀ i H (R:V->Hp->Prop),i < n->Same H1 H->(∀ H4,Same H H4->R (f i) H4)->te (cs++[some (src i)]) H R)
  (hQ:∀ H,Same H1 H->H D=some (.lst ((List.range n).map f))->Q H):q0_ J (qR_ k) jk_ te (cs++[none]) H1 D Q:=by
 refine ⟨fun i m ys σ H=>m=n - i/\i<=n/\Same H1 H/\ys=(List.range i).map f/\H D=some (.lst ys)/\∃ o,σ=cs++[o],⟨n,rfl,cn _,(Same.refl _).up hD,rfl,qc_,none,rfl⟩,?_⟩;rintro i m ys σ H ⟨rfl,hi,sm,rfl,hd,o,rfl⟩;refine ⟨hd,?_⟩
 by_cases hlt:i < n
 ·refine .inr ⟨go i H hlt sm,fun x H' y=>?_⟩
  obtain ⟨rfl,rfl⟩:=yld i H x H' hlt sm y
  have e:(cs++[o]).set k (some (src i))=cs++[some (src i)]:=by
   rw [hk,eA _ _ (bF _),fB];rfl
  unfold qR_;rw [e];unfold jk_;refine iteT ?_;refine he i H' _ hlt sm fun H4 s4=>⟨s4 _ _ hd,?_,n - (i+1),by omega,rfl,hlt,(sm.trans s4).up hD,?_,qc_,_,rfl⟩
  ·rw [b9,bI]
   omega
  ·rw [di,cK]
   rfl
 ·have e:i=n:=by omega
  subst e;exact .inl ⟨stop H sm,hQ H sm hd⟩
theorem u8_ {K:PySem.W.Frag}{a:Addr}{xs:List V}{f:V->V}{k:Nat}{te:TE}{cs:St}{H1:Hp}{D:Addr}{Q:Hp->Prop} (hs:SqL K H1 a xs) (hD:H1 D=none) (hk:k=cs.length) (hn:xs.length<=sizeLine)
  (he:∀ x H (R:V->Hp->Prop),x∈xs->Same H1 H->(∀ H4,Same H H4->R (f x) H4)->te (cs++[some x]) H R)
  (hQ:∀ H,Same H1 H->H D=some (.lst (xs.map f))->Q H):q0_ (Itl K a) (qR_ k) jk_ te (cs++[none]) H1 D Q:=by
 refine vw_ (src:=fun i=>xs.getD i .non) (f:=fun i=>f (xs.getD i .non)) (n:=xs.length) hD hk hn (fun H sm=>⟨xs,sm.seq hs,bF _⟩) (fun i H hi sm=>⟨xs,xs[i],sm.seq hs,b8 hi⟩) (fun i H x H' hi sm y=>?_) (fun i H R hi sm r=>?_) (fun H sm hd=>hQ H sm ?_)
 ·obtain ⟨e,y⟩:=y
  refine ⟨?_,e⟩
  have:=y xs (sm.seq hs);rw [b7,this];rfl
 ·refine he _ H R ?_ sm r
  rw [b7,b8 hi];exact cR hi
 ·rw [hd]
  congr 2
  apply eW
  ·simp
  ·intro i h1 h2
   simp at h1 h2
   simp [h1]
theorem qgb_ {lo:Int}{n:Nat}{f:Nat->V}{k:Nat}{te:TE}{cs:St}{H1:Hp}{D:Addr}{Q:Hp->Prop} (hD:H1 D=none) (hk:k=cs.length) (hn:n<=sizeLine)
  (he:∀ i H (R:V->Hp->Prop),i < n->Same H1 H->(∀ H4,Same H H4->R (f i) H4)->te (cs++[some (.int (lo+i))]) H R)
  (hQ:∀ H,Same H1 H->H D=some (.lst ((List.range n).map f))->Q H):q0_ (Itr lo n) (qR_ k) jk_ te (cs++[none]) H1 D Q :=
 vw_ (src:=fun i=>.int (lo+(i:Nat))) hD hk hn (fun H _=>bF _) (fun i H hi _=>hi) (fun i H x H' _ _ y=>⟨y.2,y.1⟩) he hQ
theorem ui_ {n:Nat}{f:Nat->V}{k:Nat}{te:TE}{cs:St}{H1:Hp}{D:Addr}{Q:Hp->Prop} (hD:H1 D=none) (hk:k=cs.length) (hn:n<=sizeLine)
  (he:∀ i H (R:V->Hp->Prop),i < n->Same H1 H->(∀ H4,Same H H4->R (f i) H4)->te (cs++[some (.int (i:Nat))]) H R)
  (hQ:∀ H,Same H1 H->H D=some (.lst ((List.range n).map f))->Q H):q0_ (Itr 0 n) (qR_ k) jk_ te (cs++[none]) H1 D Q :=
 qgb_ hD hk hn (fun i H R hi sm r=>by
  have e:(0:Int)+(i:Nat)=(i:Nat):=by omega
  rw [e]
  exact he i H R hi sm r) hQ
section
variable {X:Cx}{K:PySem.W.Frag}
theorem yt_ {e:Expr}{f:Str}{pos:Pos}{ta:TE} (hK:X.K=K) (he:PE X e ta) (hb:attributeBase e f X.env (eval e X.env)=eval e X.env):PE X (.Attribute e f pos) (tFld K ta f):=by
 subst hK;exact qt_ he hb
theorem q9_ (hK:X.K=K):IxR X (rIxL K):=by subst hK;exact qz_
theorem qoo_ (hK:X.K=K):IxR X (rIxT K):=by subst hK;exact vs_
theorem qde_ (hK:X.K=K):jr_ X (.builtin "len") (yr_ K):=by subst hK;exact qr_
end
def u9_:List Expr->Option (List Int)
 | []=>some []
 | .Constant (.int i) _ _ :: r=>(u9_ r).map (i :: ·)
 | _=>none
theorem qg2_ {X:Cx}:∀ {es:List Expr}{is:List Int},u9_ es=some is->PA X es (fun _ H Q=>Q (is.map V.int) H)
 | [],is,h=>by
  cases h;exact qb_
 | e :: es,is,h=>by
  unfold u9_ at h
  split at h
  ·rename_i z
   cases z
  ·rename_i i j pos r heq
   cases heq
   cases q:u9_ es with
   | none=>rw [q] at h;cases h
   | some js =>
    rw [q] at h
    cases h;intro pos pins s σ H Q I hq;exact qa_ qf_ (qg2_ q) (by rfl) pos pins s σ H Q I hq
  ·cases h
theorem p0 {j:Int} (h:(0:Int) < j):(0:Int) < j:=h
def XObj (h:Heap) (x C:Addr) (od tb:Option Addr) (fl:Value):Prop :=
 ∃ oe vs,h.get? x=some oe/\oe.cls=.ref C/\oe.dict=od/\oe.data=.fields vs ∧
  match tb with
  | none=>vs[1]?=some Value.none
  | some T=>vs[1]?=some (.ref T)/\T≠x/\∃ oT ts,h.get? T=some oT/\oT.data=.fields ts/\ts[3]?=some fl
section
variable {P:Program}{w:World}{K:PySem.W.Frag}{mg:Str->Option Value}{base:Heap}{N:List Str}{qual:Str}{scope:Scope}{f:Addr}{cd:Value}{A:Around}{outer:List Env}{s:Shared}{H:Hp}{E E':XK}
end
section
variable {P:Program}{w:World}{K:PySem.W.Frag}{mg:Str->Option Value}{base:Heap}
end
section
variable {X:Cx}{E:XK}{c:Str}{C Pk:Addr}{p cpos pos:Pos}{e:Expr}{es:List Expr}{t:TA}
end
section
variable {X:Cx}{pins:List (Addr × Obj)}{σ:St}{H:Hp}{s:Shared}{h':Heap}
def XP (X:Cx) (pins:List (Addr × Obj)) (EX:St->XK) (e:Value) (s':Shared):Prop :=
 ∃ (x C T:Addr) (od:Option Addr) (σ:St) (H':Hp),e=.ref x/\Inv X pins σ H' s'/\XObj s'.heap x C od (some T) .none/\X.s₀.heap.get? x=none/\X.s₀.heap.get? T=none/\H' x=none/\H' T=none ∧
  (∀ p∈X.pn++pins,p.1≠x/\p.1≠T)/\EX σ (.ref C) od H'
end
abbrev TEX:=St->Hp->VK->XK->Prop
section
variable {X:Cx}{k:Nat}{f C:Addr}{fd:FuncData}{ps:List Str}{sp:Sp}{dvs:List V}{ds:List Value}{x m:Str}{p pos apos:Pos}{e o:Expr}{es:List Expr}{te:TE}{ta:TE}{t:TA}
end
abbrev TSX:=Ends->(St->XK)->St->Hp->Prop
section
variable {X:Cx}{e:Expr}{te:TEX}{t:TS}{u:TSX}{st:Stmt}{rest:List Stmt}{pos:Pos}
end
section
variable {X:Cx}{pins:List (Addr × Obj)}{σ:St}{H:Hp}{s:Shared}{x C T:Addr}{od:Option Addr}{fl:Value}
end
abbrev TH:=Ends->Addr->Option Addr->St->Hp->Prop
section
variable {X:Cx}{c n:Str}{C':Addr}{i:Nat}{p pos:Pos}{b₀:Stmt}{suite:List Stmt}{hs:List ExceptHandler}{ts:TS}{th:TH}
end
section
variable {prog:Program}{w:World}{A:Around}{E:Value->Shared->Prop}{s:Shared}{K:PySem.W.Frag}{x C Pk:Addr}{ox:Obj}{od:Option Obj}{name:Str}{tk:Tok}{fill expr:Bool}{r:Builtin.ObjectAttr.Found}{Q:Value->Shared->Prop}
end
section
variable {X:Cx}
end
abbrev TJ:=St->Hp->(Hp->Prop)->Prop
section
variable {X:Cx}{e v₁ v₂:Expr}{es:List Expr}{n:Nat}{te:TE}{t:TJ}{pos:Pos}
end
section
variable {prog:Program}{w:World}{A:Around}{E:Value->Shared->Prop}{s:Shared}{K:PySem.W.Frag}{C Pk f:Addr}{rest:List Value}
end
section
variable {prog:Program}{w:World}{A:Around}{E:Value->Shared->Prop}{s:Shared}{K:PySem.W.Frag}{x C Pk:Addr}{ox:Obj}{od:Option Obj}{name:Str}{v:Value}{Q:Unit->Shared->Prop}
end
section
variable {fl:Bool}{X:Cx}{pins:List (Addr × Obj)}{σ:St}{H:Hp}{s:Shared}{x C Pk:Addr}{f:Str}{A:Around}{E:Value->Shared->Prop}
end
section
variable {X:Cx}{o e value:Expr}{f:Str}{pos pos':Pos}{ta tv:TE}
end
section
variable {prog:Program}{w:World}{A:Around}{E:Value->Shared->Prop}{s:Shared}{K:PySem.W.Frag}{x C Pk:Addr}{oe:Obj}{vs:Array Value}{us:List Value}{Q:Value->Shared->Prop}
end
section
variable {X:Cx}{P c:Str}{p pos apos:Pos}{e:Expr}{es:List Expr}{t:TA}{Pk:Addr}
end
def drop (H:Hp) (x:Addr):Hp:=fun b=>if b=x then none else H b
section
variable {X:Cx}{pins:List (Addr × Obj)}{σ:St}{H:Hp}{s:Shared}{x:Addr}{φ:Heap->Prop}
end
section
variable {X:Cx}{E:XK}{c:Str}{C Pk f:Addr}{fd:FuncData}{ps:List Str}{sp:Sp}{k:Nat}{p cpos pos:Pos}{e:Expr}{es:List Expr}{t:TA}
end
structure RowsAt (H:Hp) (ps:List Addr) (n:Nat) (row:Nat->List V):Prop where
 len:ps.length=n
 nd:ps.Nodup
 on:∀ j p,ps[j]?=some p->H p=some (.lst (row j))
section
variable {H H':Hp}{ps:List Addr}{n:Nat}{row:Nat->List V}{p:Addr}
theorem RowsAt.same (h:RowsAt H ps n row) (s:Same H H'):RowsAt H' ps n row:=⟨h.len,h.nd,fun j p e=>s _ _ (h.on j p e)⟩
theorem RowsAt.none:RowsAt H [] 0 row:=⟨rfl,List.nodup_nil,fun j p e=>by simp at e⟩
theorem RowsAt.ne (h:RowsAt H ps n row) (hp:H p=Option.none):p∉ps:=fun m=>by
 obtain ⟨j,hj,e⟩:=List.getElem_of_mem m
 have:=h.on j p (by rw [b8 hj,e])
 rw [hp] at this
 cases this
theorem RowsAt.snoc (h:RowsAt H ps n row) (np:p∉ps) (hp:H p=some (.lst (row n))):RowsAt H (ps++[p]) (n+1) row:=by
 refine ⟨by rw [cg,h.len];rfl,List.nodup_append.mpr ⟨h.nd,by simp,fun a ha b hb e=>?_⟩,fun j q e=>?_⟩
 ·rw [bS.mp hb] at e
  exact np (e ▸ ha)
 ·rw [List.getElem?_append] at e
  split at e
  ·exact h.on j q e
  ·rename_i hj
   have g:j - ps.length=0:=by
    by_cases z:j - ps.length=0
    ·exact z
    ·rw [bT (by simp;omega)] at e;cases e
   have d:j=n:=by have:=h.len;omega
   rw [g] at e
   cases e;rw [d];exact hp
theorem RowsAt.upd (h:RowsAt H ps n row) (hp:p∉ps) {o:HO}:RowsAt (upd H p o) ps n row:=by
 refine ⟨h.len,h.nd,fun j q e=>?_⟩
 have:q≠p:=fun z=>hp (by rw [<- z];exact bO e)
 rw [qd_ this];exact h.on j q e
end
theorem qb5_ {J:It}{n k:Nat}{src:Nat->V}{row:Nat->List V}{te:TE}{cs:St}{H1:Hp}{D:Addr}{Q:Hp->Prop} (hD:H1 D=none) (hk:k=cs.length) (hn:n<=sizeLine)
  (stop:∀ H,Same H1 H->J.stop n H) (go:∀ i H,i < n->Same H1 H->J.go i H) (yld:∀ i H x H',i < n->Same H1 H->J.yld i H x H'->x=src i/\H'=H)
  (he:∀ i H (R:V->Hp->Prop),i < n->Same H1 H->(∀ p H4,H p=none->Same H H4->H4 p=some (.lst (row i))->R (.ref p) H4)->te (cs++[some (src i)]) H R)
  (hQ:∀ ps H,Same H1 H->H D=some (.lst (ps.map V.ref))->RowsAt H ps n row->(∀ p∈ps,H1 p=none)->D∉ps->Q H):q0_ J (qR_ k) jk_ te (cs++[none]) H1 D Q:=by
 refine ⟨fun i m ys σ H=>m=n - i/\i<=n/\Same H1 H/\(∃ ps:List Addr,ys=ps.map V.ref/\RowsAt H ps i row/\(∀ p∈ps,H1 p=none)/\D∉ps)/\H D=some (.lst ys)/\∃ o,σ=cs++[o],
  ⟨n,rfl,cn _,(Same.refl _).up hD,⟨[],rfl,RowsAt.none,by simp,by simp⟩,qc_,none,rfl⟩,?_⟩
 rintro i m ys σ H ⟨rfl,hi,sm,⟨ps,rfl,hr,hf,d⟩,hd,o,rfl⟩;refine ⟨hd,?_⟩
 by_cases hlt:i < n
 ·refine .inr ⟨go i H hlt sm,fun x H' y=>?_⟩
  obtain ⟨rfl,rfl⟩:=yld i H x H' hlt sm y
  have e:(cs++[o]).set k (some (src i))=cs++[some (src i)]:=by
   rw [hk,eA _ _ (bF _),fB];rfl
  unfold qR_;rw [e];unfold jk_;refine iteT ?_;refine he i H' _ hlt sm fun p H4 hp s4 h4=>⟨s4 _ _ hd,?_,n - (i+1),by omega,rfl,hlt,(sm.trans s4).up hD,⟨ps++[p],by rw [cK];rfl,?_,?_,?_⟩,qc_,_,rfl⟩
  ·rw [b9,hr.len]
   omega
  ·have np:p≠D:=fun z=>by rw [z,hd] at hp;cases hp
   have g:=hr.ne hp;refine ((hr.same s4).snoc g h4).upd ?_;intro z;rcases bU.mp z with z | z
   ·exact d z
   ·exact np (bS.mp z).symm
  ·intro q hq
   rcases bU.mp hq with z | z
   ·exact hf q z
   ·rw [bS.mp z]
    exact sm.free hp
  ·intro z
   rcases bU.mp z with z | z
   ·exact d z
   ·rw [bS.mp z] at hd
    rw [hd] at hp;cases hp
 ·have e:i=n:=by omega
  subst e;exact .inl ⟨stop H sm,hQ ps H sm hd hr hf d⟩
theorem qit_ {n:Nat}{row:Nat->List V}{k:Nat}{te:TE}{cs:St}{H1:Hp}{D:Addr}{Q:Hp->Prop} (hD:H1 D=none) (hk:k=cs.length) (hn:n<=sizeLine)
  (he:∀ i H (R:V->Hp->Prop),i < n->Same H1 H->(∀ p H4,H p=none->Same H H4->H4 p=some (.lst (row i))->R (.ref p) H4)->te (cs++[some (.int (i:Nat))]) H R)
  (hQ:∀ ps H,Same H1 H->H D=some (.lst (ps.map V.ref))->RowsAt H ps n row->(∀ p∈ps,H1 p=none)->D∉ps->Q H):q0_ (Itr 0 n) (qR_ k) jk_ te (cs++[none]) H1 D Q :=
 qb5_ (src:=fun i=>.int (0+(i:Nat))) hD hk hn (fun H _=>bF _) (fun i H hi _=>hi) (fun i H x H' _ _ y=>⟨y.2,y.1⟩) (fun i H R hi sm r=>by
  have e:(0:Int)+(i:Nat)=(i:Nat):=by omega
  rw [e]
  exact he i H R hi sm r) hQ
theorem qiu_ {K:PySem.W.Frag}{a:Addr}{xs:List V}{row:Nat->List V}{k:Nat}{te:TE}{cs:St}{H1:Hp}{D:Addr}{Q:Hp->Prop} (hs:SqL K H1 a xs) (hD:H1 D=none) (hk:k=cs.length) (hn:xs.length<=sizeLine)
  (he:∀ i x H (R:V->Hp->Prop),xs[i]?=some x->Same H1 H->(∀ p H4,H p=none->Same H H4->H4 p=some (.lst (row i))->R (.ref p) H4)->te (cs++[some x]) H R)
  (hQ:∀ ps H,Same H1 H->H D=some (.lst (ps.map V.ref))->RowsAt H ps xs.length row->(∀ p∈ps,H1 p=none)->D∉ps->Q H):q0_ (Itl K a) (qR_ k) jk_ te (cs++[none]) H1 D Q:=by
 refine qb5_ (src:=fun i=>xs.getD i .non) hD hk hn (fun H sm=>⟨xs,sm.seq hs,bF _⟩) (fun i H hi sm=>⟨xs,xs[i],sm.seq hs,b8 hi⟩) (fun i H x H' hi sm y=>?_) (fun i H R hi sm r=>?_) hQ
 ·obtain ⟨e,y⟩:=y
  refine ⟨?_,e⟩
  have:=y xs (sm.seq hs);rw [b7,this];rfl
 ·refine he i _ H R ?_ sm r
  rw [b7,b8 hi];rfl
variable {X:Cx}
theorem qeb_:∀ {ns:List Int}{its:List Value},Vals (ns.map V.int) its->IntsAre its ns
 | [],_,.nil=>.nil
 | n :: ns,_,.cons r rs=>by
  obtain ⟨t,rfl⟩:=r;exact .cons n t (qeb_ rs)
theorem zX_:∀ {ns:List Int}{its:List Value},IntsAre its ns->Vals (ns.map V.int) its
 | _,_,.nil=>.nil
 | _,_,.cons n t rs=>.cons ⟨t,rfl⟩ (zX_ rs)
theorem qec_ {h:Heap}{vs:List Value}{out:Array Value}:∃ e,(sortedAll h vs out).get? (h.objs.size+1)=some (seqObj "list" out e):=by
 unfold sortedAll;refine sortedHeap_at (n:=0) (Heap.get?_push_at ?_ rfl)
 simp [Heap.update,Heap.push]
inductive vd_ (K:PySem.W.Frag) (xs:List V) (H:Hp) (Q:VK):Prop
 | mk:∀ (p:Addr) (ns:List Int),xs=[.ref p]->SqL K H p (ns.map V.int)->ns.length < 64->(∀ l ns',H l=none->ns'.Perm ns->List.Pairwise (fun x y=>x<=y) ns'->Q (.ref l) (upd H l (.lst (ns'.map V.int))))->vd_ K xs H Q
theorem qgc_:jr_ X (.builtin "sorted") (vd_ X.K):=by
 intro C s σ H xs us Q I r h;obtain ⟨p,ns,rfl,hq,hl,q⟩:=h;obtain ⟨u,rfl,rx⟩:=jy_ r
 cases rx;obtain ⟨g,r',pl,hz⟩:=I.list hq
 have d:=r'.length;rw [b9] at d;refine sorted_ints (ns:=ns) pl.isList (qeb_ r') (by omega) fun out B hi hp hs=>?_
 obtain ⟨e,he⟩:=qec_ (h:=s.heap) (vs:=g) (out:=out)
 have hv:=zX_ hi
 have l:=hv.length;rw [b9,hp.length_eq] at l;refine ⟨.ref (s.heap.objs.size+1),_,I.laid (t':=s.toks) (fun b o' z=>sortedAll_old z) (eF _) (show ObjOk X.prog X.w _ _ _ (.lst (B.map V.int)) from ⟨?_,out.toList,e,hv,?_⟩),rfl,q _ _ (I.hok.fresh (eF _)) hp hs⟩
 ·rw [b9,hp.length_eq]
  exact bG (du hl) (by decide)
 ·rw [he]
section
variable {K:PySem.W.Frag}
theorem qdf_ (hK:X.K=K):jr_ X (.type "list") (ys_ K):=by
 subst hK;exact jz_
end
def Ite (K:PySem.W.Frag) (l:Addr) (xs:List V):It :=
 ⟨fun i H=>SqL K H l xs/\i < xs.length,fun i H x H'=>∃ T u,H T=none/\x=.ref T/\xs[i]?=some u/\H'=upd H T (.tup [.int (i:Nat),u]),fun i H=>SqL K H l xs/\xs.length<=i⟩
theorem qkc_ {P:Program}{w:World}{K:PySem.W.Frag}{elts:List Expr}{x1}{tp:Pos}{z it l:Addr} (zi:z≠it) (xs:List V) :
  Turn P w K (.Tuple elts x1 tp) (Ite K l xs) [z,it] z (fun i h=>(∃ old,PySem.IsEnum h z it (i:Nat) old)/\h.IsListIter it l i) where
 mem:=by simp
 obj:=fun i h st b hb=>by
  obtain ⟨⟨old,hz⟩,o1,e1,c1,d1⟩:=st;simp only [bL,ca,or_false] at hb;rcases hb with rfl | rfl
  ·exact ⟨_,hz,fun v q=>by have q':Data.fields _=Data.cell v:=q;cases q'⟩
  ·exact ⟨o1,e1,fun v q=>by rw [d1] at q;cases q⟩
 keep:=fun i h h' st k=>by
  obtain ⟨⟨old,hz⟩,h1⟩:=st;exact ⟨⟨old,k z (by simp) _ hz⟩,h1.at fun o e=>k it (by simp) o e⟩
 item:=by
  intro X hP hw hK hc i r s σ H E I hf st hg;subst hP hw hK;obtain ⟨⟨old,hz⟩,h1⟩:=st;obtain ⟨q1,b1⟩:=hg;obtain ⟨B,d,p1,_⟩:=I.list q1
  have hx:xs[i]?=some xs[i]:=b8 b1;obtain ⟨u,hu,ru⟩:=d.get hx
  have lt:∀ {c o},s.heap.get? c=some o->c≠s.heap.objs.size:=fun e=>bP (bJ e);refine PySem.wpAny_pyNext_enum_item hz h1 p1.isList (x:=u) (by simpa using hu) zi fun h' a1 a2 a3 a4 hk=>?_
  refine ⟨_,rfl,PySem.wpAny_letOwnedTupleGo_enum a1 fun C g sb=>?_⟩
  have D:s.heap.objs.size≠z:=(lt hz).symm
  have kk:∀ b u,b∉[z,it]->s.heap.get? b=some u->C.get? b=some u:=fun b u hb e=>by
   simp only [bL,ca,or_false,not_or] at hb;exact sb.extBut _ _ hb.1 (hk b u hb.1 hb.2 e)
  refine ⟨.ref s.heap.objs.size,upd H s.heap.objs.size (.tup [.int (i:Nat),xs[i]]),I.turnedUp (t':=s.toks+1) hf kk (bF _) ⟨by show 2<=sizeLine;decide,[.int (i:Nat) s.toks,u],.cons ⟨_,rfl⟩ (.cons ru .nil),⟨_,sb.extBut _ _ D a3,rfl,_,rfl⟩⟩,rfl,
   ⟨_,_,I.hok.fresh (bF _),rfl,hx,rfl⟩,⟨⟨_,g⟩,a2.at fun o e=>sb.extBut _ _ zi.symm e⟩,fun b hb=>?_⟩
  have:b≠s.heap.objs.size:=by
   obtain ⟨o1,e1,_⟩:=id h1;simp only [bL,ca,or_false] at hb;rcases hb with rfl | rfl
   ·exact lt hz
   ·exact lt e1
  rw [qd_ this];exact (hf b hb).1
 done:=by
  intro X hP hw hK hc i r s σ H E I hf st hg;subst hP hw hK;obtain ⟨⟨old,hz⟩,h1⟩:=st;obtain ⟨q1,G⟩:=hg;obtain ⟨B,d,p1,_⟩:=I.list q1
  have l1:=d.length;refine PySem.wpAny_pyNext_enum_end (I.ok.hd hc) hz h1 p1.isList (by rw [Array.getElem?_eq_none];simp;omega) fun h' hk=>⟨rfl,I.turnedL (t':=s.toks) hf fun b u hb e=>?_⟩
  simp only [bL,ca,or_false,not_or] at hb;exact hk b u hb.2 e
 self:=fun _ _ _ _ _ ⟨⟨_,hz⟩,_⟩ h=>PySem.wpAny_pyIter_enum hz h
section
variable {X:Cx}
inductive qg3_ (K:PySem.W.Frag) (R:It->Hp->Prop) (vs:List V) (H1:Hp):Prop
 | mk:∀ l xs,vs=[.ref l]->SqL K H1 l xs->R (Ite K l xs) H1->qg3_ K R vs H1
def qqz_ (K:PySem.W.Frag) (ta:TA):TI:=fun σ H R=>ta σ H fun vs H1=>qg3_ K R vs H1
theorem qa4_:bootBuiltins "enumerate" = some (.type "enumerate"):=by decide +kernel
theorem v4_ {elts:List Expr}{x1}{tp:Pos}{a:Expr}{ta:TA}{p pos:Pos} (hg:Gl X "enumerate") (hm:X.mg "enumerate" = none) (ha:PA X [a] ta) (hs:starEach [a] X.env=[(false,eval a X.env)]:=by rfl) :
  PI X (.Tuple elts x1 tp) (.Call (.Name "enumerate" p) [a] [] pos) (qqz_ X.K ta):=by
 intro d s σ H R I h;refine Call_ (jK_ I hg hm qa4_ (d8 (thn (ha pos d s σ H _ I h) fun us s1 ⟨vs,H1,I1,r1,q1⟩=>?_) hs rfl));obtain ⟨l,xs,e,h1,q⟩:=q1;subst e;obtain ⟨u,rfl,ru⟩:=jy_ r1
 cases ru;obtain ⟨g,r,p1,_⟩:=I1.list h1;refine PySem.call_enumerate_list p1.isList fun h' a1 a2 a3 a4=>?_;refine PySem.wpAny_pyIter_enum a1 ?_;refine ⟨s1.heap.objs.size+1,[s1.heap.objs.size+1,s1.heap.objs.size],_,_,H1,rfl,I1.kept (t':=s1.toks) fun b o e=>a4 b o e,qkc_ (Nat.succ_ne_self _) xs,⟨⟨_,a1⟩,a2⟩,fun b hb=>?_,q⟩
 have:s1.heap.objs.size<=b:=by
  simp only [bL,ca,or_false] at hb;rcases hb with rfl | rfl
  ·exact dZ _ 1
  ·exact bF _
 exact I1.fpOk this (I1.hok.fresh this)
end
theorem qed_ {K:PySem.W.Frag}{l:Addr}{xs:List V}{g:TG}{tb:TS}{D:Ends}{σ:St}{H:Hp} (Pv:Nat->St->Hp->Prop) (h0:Pv 0 σ H) (hl:∀ i σ H,i<=xs.length->Pv i σ H->SqL K H l xs)
  (hs:∀ i u T σ H,i < xs.length->xs[i]?=some u->H T=none->Pv i σ H->g (.ref T) σ (upd H T (.tup [.int (i:Nat),u])) fun σ2 H2=>tb { D with nx:=Pv (i+1),ct:=Pv (i+1),bk:=D.nx } σ2 H2) (hd:∀ σ H,Pv xs.length σ H->D.nx σ H) :
  ∃ W:Nat->Nat->St->Hp->Prop,(∃ m,W 0 m σ H)/\∀ i m σ H,W i m σ H →
   ((Ite K l xs).stop i H/\D.nx σ H)\/((Ite K l xs).go i H/\∃ N:St->Hp->Prop,(∀ σ' H',N σ' H'->∃ m',m' < m/\W (i+1) m' σ' H')/\∀ x H',(Ite K l xs).yld i H x H'->g x σ H' fun σ2 H2=>tb { D with nx:=N,ct:=N,bk:=D.nx } σ2 H2):=by
 refine ⟨fun i m σ H=>m=xs.length - i/\i<=xs.length/\Pv i σ H,⟨xs.length,by simp,cn _,h0⟩,?_⟩
 rintro i m σ H ⟨rfl,hi,p⟩
 have q1:=hl i σ H hi p
 by_cases hlt:i < xs.length
 ·refine .inr ⟨⟨q1,hlt⟩,Pv (i+1),fun σ' H' p'=>⟨xs.length - (i+1),by omega,rfl,hlt,p'⟩,fun x H' y=>?_⟩
  obtain ⟨T,u,hT,rfl,hu,rfl⟩:=y;exact hs i u T σ H hlt hu hT p
 ·have e:i=xs.length:=by omega
  exact .inl ⟨⟨q1,by omega⟩,hd σ H (e ▸ p)⟩
theorem qa5_ {X:Cx}{K:PySem.W.Frag}{es:List Expr}{k:Nat}{t:TGs}{n:Nat}{pos:Pos} (hK:X.K=K) (hc:X.calm=true) (h:PGs X es t) (hn:(assignEach es X.env).length=n:=by rfl) (hst:(assignEach es X.env).findIdx? (·.1)=none:=by rfl):PG X (.Tuple es k pos) (gTup K n t):=by
 subst hK;exact yL_ hc h hn hst
theorem qb6_ {J:It}{n:Nat}{g:TG}{stt:Nat->St}{Ok:St->Prop}{f:Nat->V}{te:TE}{σ0:St}{H1:Hp}{D:Addr}{Q:Hp->Prop} (hD:H1 D=none) (hn:n<=sizeLine) (h0:Ok σ0) (hok:∀ i,i < n->Ok (stt i))
  (stop:∀ H,Same H1 H->J.stop n H) (go:∀ i H,i < n->Same H1 H->J.go i H)
  (tg:∀ i σ H x H' (R:St->Hp->Prop),i < n->Same H1 H->Ok σ->J.yld i H x H'->(∀ H'',Same H H''->R (stt i) H'')->g x σ H' R)
  (he:∀ i H (R:V->Hp->Prop),i < n->Same H1 H->(∀ H4,Same H H4->R (f i) H4)->te (stt i) H R)
  (hQ:∀ H,Same H1 H->H D=some (.lst ((List.range n).map f))->Q H):q0_ J g jk_ te σ0 H1 D Q:=by
 refine ⟨fun i m ys σ H=>m=n - i/\i<=n/\Same H1 H/\ys=(List.range i).map f/\H D=some (.lst ys)/\Ok σ,⟨n,rfl,cn _,(Same.refl _).up hD,rfl,qc_,h0⟩,?_⟩;rintro i m ys σ H ⟨rfl,hi,sm,rfl,hd,ho⟩;refine ⟨hd,?_⟩
 by_cases hlt:i < n
 ·refine .inr ⟨go i H hlt sm,fun x H' y=>?_⟩
  refine tg i σ H x H' _ hlt sm ho y fun H'' s2=>?_;unfold jk_;refine iteT ?_;refine he i H'' _ hlt (sm.trans s2) fun H4 s4=>⟨(s2.trans s4) _ _ hd,?_,n - (i+1),by omega,rfl,hlt,(sm.trans (s2.trans s4)).up hD,?_,qc_,hok i hlt⟩
  ·rw [b9,bI]
   omega
  ·rw [di,cK]
   rfl
 ·have e:i=n:=by omega
  subst e;exact .inl ⟨stop H sm,hQ H sm hd⟩
theorem qiv_ {J:It}{n:Nat}{g:TG}{stt:Nat->St}{Ok:St->Prop}{row:Nat->List V}{te:TE}{σ0:St}{H1:Hp}{D:Addr}{Q:Hp->Prop} (hD:H1 D=none) (hn:n<=sizeLine) (h0:Ok σ0) (hok:∀ i,i < n->Ok (stt i))
  (stop:∀ H,Same H1 H->J.stop n H) (go:∀ i H,i < n->Same H1 H->J.go i H)
  (tg:∀ i σ H x H' (R:St->Hp->Prop),i < n->Same H1 H->Ok σ->J.yld i H x H'->(∀ H'',Same H H''->R (stt i) H'')->g x σ H' R)
  (he:∀ i H (R:V->Hp->Prop),i < n->Same H1 H->(∀ p H4,H p=none->Same H H4->H4 p=some (.lst (row i))->R (.ref p) H4)->te (stt i) H R)
  (hQ:∀ ps H,Same H1 H->H D=some (.lst (ps.map V.ref))->RowsAt H ps n row->(∀ p∈ps,H1 p=none)->D∉ps->Q H):q0_ J g jk_ te σ0 H1 D Q:=by
 refine ⟨fun i m ys σ H=>m=n - i/\i<=n/\Same H1 H/\(∃ ps:List Addr,ys=ps.map V.ref/\RowsAt H ps i row/\(∀ p∈ps,H1 p=none)/\D∉ps)/\H D=some (.lst ys)/\Ok σ,
  ⟨n,rfl,cn _,(Same.refl _).up hD,⟨[],rfl,RowsAt.none,by simp,by simp⟩,qc_,h0⟩,?_⟩
 rintro i m ys σ H ⟨rfl,hi,sm,⟨ps,rfl,hr,hf,d⟩,hd,ho⟩;refine ⟨hd,?_⟩
 by_cases hlt:i < n
 ·refine .inr ⟨go i H hlt sm,fun x H' y=>?_⟩
  refine tg i σ H x H' _ hlt sm ho y fun H'' s2=>?_;unfold jk_;refine iteT ?_;refine he i H'' _ hlt (sm.trans s2) fun p H4 hp s4 h4=>⟨(s2.trans s4) _ _ hd,?_,n - (i+1),by omega,rfl,hlt,(sm.trans (s2.trans s4)).up hD,⟨ps++[p],by rw [cK];rfl,?_,?_,?_⟩,qc_,hok i hlt⟩
  ·rw [b9,hr.len]
   omega
  ·have np:p≠D:=fun z=>by rw [z,s2 _ _ hd] at hp;cases hp
   have h:=(hr.same s2).ne hp;refine ((hr.same (s2.trans s4)).snoc h h4).upd ?_;intro z;rcases bU.mp z with z | z
   ·exact d z
   ·exact np (bS.mp z).symm
  ·intro q hq
   rcases bU.mp hq with z | z
   ·exact hf q z
   ·rw [bS.mp z]
    exact (sm.trans s2).free hp
  ·intro z
   rcases bU.mp z with z | z
   ·exact d z
   ·rw [bS.mp z] at hd
    rw [s2 _ _ hd] at hp;cases hp
 ·have e:i=n:=by omega
  subst e;exact .inl ⟨stop H sm,hQ ps H sm hd hr hf d⟩
theorem qa6_ {K:PySem.W.Frag}{cs:St}{k:Nat} (hk:k=cs.length) {T:Addr}{u v:V}{o1 o2:Option V}{H:Hp}{R:St->Hp->Prop} (hT:H T=none) (q:∀ H'',Same H H''->R (cs++[some u,some v]) H'') :
  gTup K 2 (yD_ (qR_ k) (yD_ (qR_ (k+1)) gNil)) (.ref T) (cs++[o1,o2]) (upd H T (.tup [u,v])) R:=by
 refine ⟨T,_,rfl,SqT.of qc_,rfl,_,_,rfl,_,_,rfl,rfl,?_⟩
 have e:((cs++[o1,o2]).set k (some u)).set (k+1) (some v)=cs++[some u,some v]:=by
  subst hk
  have e1:(List.length cs).succ - List.length cs=1:=by omega
  rw [eA _ _ (bF _),eA _ _ (eF _),fB,e1];rfl
 rw [e];exact q _ fun b o e=>by rw [qd_ (qh_ e hT)];exact e
theorem qkd_ {K:PySem.W.Frag}{l1 l2:Addr}{xs ys:List V}{f:Nat->V}{k:Nat}{te:TE}{cs:St}{H1:Hp}{D:Addr}{Q:Hp->Prop} (h1:SqL K H1 l1 xs) (h2:SqL K H1 l2 ys) (hl:xs.length=ys.length) (hD:H1 D=none) (hk:k=cs.length) (hn:xs.length<=sizeLine)
  (he:∀ i u v H (R:V->Hp->Prop),xs[i]?=some u->ys[i]?=some v->Same H1 H->(∀ H4,Same H H4->R (f i) H4)->te (cs++[some u,some v]) H R)
  (hQ:∀ H,Same H1 H->H D=some (.lst ((List.range xs.length).map f))->Q H):q0_ (Itz K l1 l2 xs ys) (gTup K 2 (yD_ (qR_ k) (yD_ (qR_ (k+1)) gNil))) jk_ te (cs++[none,none]) H1 D Q:=by
 refine qb6_ (n:=xs.length) (stt:=fun i=>cs++[xs[i]?,ys[i]?]) (Ok:=fun σ=>∃ o1 o2,σ=cs++[o1,o2]) hD hn ⟨none,none,rfl⟩ (fun i _=>⟨_,_,rfl⟩) (fun H sm=>⟨sm.seq h1,sm.seq h2,.inl (bF _)⟩) (fun i H hi sm=>⟨sm.seq h1,sm.seq h2,hi,by omega⟩) (fun i σ H x H' R hi sm ho y q=>?_) (fun i H R hi sm r=>?_) hQ
 ·obtain ⟨o1,o2,rfl⟩:=ho
  obtain ⟨T,u,v,hT,rfl,hu,hv,rfl⟩:=y;exact qa6_ hk hT fun d s=>by rw [<- hu,← hv];exact q d s
 ·rw [b8 hi,b8 (by omega)]
  exact he i _ _ H R (b8 hi) (b8 (by omega)) sm r
theorem qiw_ {K:PySem.W.Frag}{l:Addr}{xs:List V}{row:Nat->List V}{k:Nat}{te:TE}{cs:St}{H1:Hp}{D:Addr}{Q:Hp->Prop} (h1:SqL K H1 l xs) (hD:H1 D=none) (hk:k=cs.length) (hn:xs.length<=sizeLine)
  (he:∀ i u H (R:V->Hp->Prop),xs[i]?=some u->Same H1 H->(∀ p H4,H p=none->Same H H4->H4 p=some (.lst (row i))->R (.ref p) H4)->te (cs++[some (.int (i:Nat)),some u]) H R)
  (hQ:∀ ps H,Same H1 H->H D=some (.lst (ps.map V.ref))->RowsAt H ps xs.length row->(∀ p∈ps,H1 p=none)->D∉ps->Q H):q0_ (Ite K l xs) (gTup K 2 (yD_ (qR_ k) (yD_ (qR_ (k+1)) gNil))) jk_ te (cs++[none,none]) H1 D Q:=by
 refine qiv_ (n:=xs.length) (stt:=fun i=>cs++[some (.int (i:Nat)),xs[i]?]) (Ok:=fun σ=>∃ o1 o2,σ=cs++[o1,o2]) hD hn ⟨none,none,rfl⟩ (fun i _=>⟨_,_,rfl⟩) (fun H sm=>⟨sm.seq h1,bF _⟩) (fun i H hi sm=>⟨sm.seq h1,hi⟩) (fun i σ H x H' R hi sm ho y q=>?_) (fun i H R hi sm r=>?_) hQ
 ·obtain ⟨o1,o2,rfl⟩:=ho
  obtain ⟨T,u,hT,rfl,hu,rfl⟩:=y;exact qa6_ hk hT fun d s=>by rw [<- hu];exact q d s
 ·rw [b8 hi]
  exact he i _ H R (b8 hi) sm r
theorem qmh_ {K:PySem.W.Frag}{l1 l2:Addr}{xs ys:List V}{g:TG}{tb:TS}{D:Ends}{σ:St}{H:Hp} (Pv:Nat->St->Hp->Prop) (h0:Pv 0 σ H) (hl:∀ i σ H,i<=xs.length->Pv i σ H->SqL K H l1 xs/\SqL K H l2 ys) (he:xs.length<=ys.length)
  (hs:∀ i u v T σ H,i < xs.length->xs[i]?=some u->ys[i]?=some v->H T=none->Pv i σ H->g (.ref T) σ (upd H T (.tup [u,v])) fun σ2 H2=>tb { D with nx:=Pv (i+1),ct:=Pv (i+1),bk:=D.nx } σ2 H2) (hd:∀ σ H,Pv xs.length σ H->D.nx σ H) :
  ∃ W:Nat->Nat->St->Hp->Prop,(∃ m,W 0 m σ H)/\∀ i m σ H,W i m σ H →
   ((Itz K l1 l2 xs ys).stop i H/\D.nx σ H)\/((Itz K l1 l2 xs ys).go i H/\∃ N:St->Hp->Prop,(∀ σ' H',N σ' H'->∃ m',m' < m/\W (i+1) m' σ' H')/\∀ x H',(Itz K l1 l2 xs ys).yld i H x H'->g x σ H' fun σ2 H2=>tb { D with nx:=N,ct:=N,bk:=D.nx } σ2 H2):=by
 refine ⟨fun i m σ H=>m=xs.length - i/\i<=xs.length/\Pv i σ H,⟨xs.length,by simp,cn _,h0⟩,?_⟩
 rintro i m σ H ⟨rfl,hi,p⟩;obtain ⟨q1,q2⟩:=hl i σ H hi p
 by_cases hlt:i < xs.length
 ·refine .inr ⟨⟨q1,q2,hlt,by omega⟩,Pv (i+1),fun σ' H' p'=>⟨xs.length - (i+1),by omega,rfl,hlt,p'⟩,fun x H' y=>?_⟩
  obtain ⟨T,u,v,hT,rfl,hu,hv,rfl⟩:=y;exact hs i u v T σ H hlt hu hv hT p
 ·have e:i=xs.length:=by omega
  exact .inl ⟨⟨q1,q2,.inl (by omega)⟩,hd σ H (e ▸ p)⟩
section
variable {X:Cx}{pos:Pos}
end
section
variable {X:Cx}{e:Expr}{es:List Expr}{n:Nat}{te:TE}{t:TJ}{pos:Pos}
end
theorem qb7_ {α:Type} (f:α->Bool) (d:α):∀ (l:List α),(List.range l.length).any (fun i=>f (l.getD i d))=l.any f:=fun l=>by
 rw [fk,eZ,eZ]
 constructor
 ·rintro ⟨i,hi,e⟩
  have hi:=bQ.mp hi;rw [b7,b8 hi] at e;exact ⟨_,cR hi,e⟩
 ·rintro ⟨x,hx,e⟩
  obtain ⟨i,hi,rfl⟩:=List.getElem_of_mem hx;refine ⟨i,bQ.mpr hi,?_⟩;rw [b7,b8 hi];exact e
theorem qke_ {α:Type} (f:α->Bool) (d:α):∀ (l:List α),(List.range l.length).all (fun i=>f (l.getD i d))=l.all f:=fun l=>by
 rw [fk,c5,c5]
 constructor
 ·intro h x hx
  obtain ⟨i,hi,rfl⟩:=List.getElem_of_mem hx
  have:=h i (bQ.mpr hi);rw [b7,b8 hi] at this;exact this
 ·intro h i hi
  have hi:=bQ.mp hi;rw [b7,b8 hi];exact h _ (cR hi)
section
variable {X:Cx}
theorem qee_ {ns:List Int}{its:List Value} (rv:Vals (ns.map V.int) its) {i:Nat}{v:Value} (h:its.toArray[i]?=some v):∃ t,v=Value.int (ns.getD i 0) t:=by
 have h':its[i]?=some v:=by simpa using h
 have hi:i < ns.length:=by
  have:=rv.length;rw [b9] at this;rw [this];exact (bK.mp h').1
 obtain ⟨u,hu,ru⟩:=rv.get (i:=i) (x:=V.int ns[i]) (by rw [bE,b8 hi];rfl)
 rw [h'] at hu
 cases hu;obtain ⟨t,rfl⟩:=ru;exact ⟨t,by rw [b7,b8 hi];rfl⟩
theorem qg4_ {bs:List Bool}{its:List Value} (rv:Vals (bs.map V.bl) its) {i:Nat}{v:Value} (h:its.toArray[i]?=some v):v=Value.bool (bs.getD i false):=by
 have h':its[i]?=some v:=by simpa using h
 have hi:i < bs.length:=by
  have:=rv.length;rw [b9] at this;rw [this];exact (bK.mp h').1
 obtain ⟨u,hu,ru⟩:=rv.get (i:=i) (x:=V.bl bs[i]) (by rw [bE,b8 hi];rfl)
 rw [h'] at hu
 cases hu;rw [b7,b8 hi];exact ru
inductive uj_ (K:PySem.W.Frag) (xs:List V) (H:Hp) (Q:VK):Prop
 | mk:∀ (p:Addr) (ns:List Int),xs=[.ref p]->SqL K H p (ns.map V.int)->(Q (.bl (ns.any fun i=>i != 0)) H)->uj_ K xs H Q
theorem qb8_ (hc:X.calm=true):jr_ X (.builtin "any") (uj_ X.K):=by
 intro l s σ H xs us Q I r h;obtain ⟨p,ns,rfl,hq,q⟩:=h;obtain ⟨u,rfl,rx⟩:=jy_ r
 cases rx;obtain ⟨d,rv,⟨o,nn,e1,e2,e3,e4⟩,hz⟩:=I.list hq
 have g:p≠s.heap.objs.size:=bP (bJ e1);refine call_any_walk (eE ⟨o,e1,e2,nn,e4⟩ ?_);refine ⟨_,_,_,_,_,_,fun i=>ns.getD i 0 != 0,rfl,Walks.list (A:=X.A.in1) (show X.A.in1.handled=none from I.ok.hd hc) s.heap.objs.size p g d.toArray,⟨⟨_,bZ _ rfl,rfl,rfl⟩,⟨o,bD _ e1,e2,nn,e4⟩⟩,fun i v s' Q' E' hv q'=>?_,fun h' tk kp=>?_⟩
 ·obtain ⟨t,rfl⟩:=qee_ rv hv
  exact P.truthy_int q'
 ·have hl:d.toArray.size=ns.length:=by
   have:=rv.length;rw [b9] at this
   simp [this]
  rw [hl,qb7_ (fun i:Int=>i != 0) 0 ns];exact ⟨.bl _,H,I.kept (t':=tk) fun b o e=>kp b o (fun z=>by rw [bS.mp z] at e;exact absurd (bJ e) (cI _)) (bD _ e),rfl,q⟩
inductive uk_ (K:PySem.W.Frag) (xs:List V) (H:Hp) (Q:VK):Prop
 | mk:∀ (p:Addr) (bs:List Bool),xs=[.ref p]->SqL K H p (bs.map V.bl)->(Q (.bl (bs.all fun b=>b)) H)->uk_ K xs H Q
theorem qkf_ (hc:X.calm=true):jr_ X (.builtin "all") (uk_ X.K):=by
 intro l s σ H xs us Q I r h;obtain ⟨p,bs,rfl,hq,q⟩:=h;obtain ⟨u,rfl,rx⟩:=jy_ r
 cases rx;obtain ⟨d,rv,⟨o,nn,e1,e2,e3,e4⟩,hz⟩:=I.list hq
 have g:p≠s.heap.objs.size:=bP (bJ e1);refine call_all_walk (eE ⟨o,e1,e2,nn,e4⟩ ?_);refine ⟨_,_,_,_,_,_,fun i=>bs.getD i false,rfl,Walks.list (A:=X.A.in1) (show X.A.in1.handled=none from I.ok.hd hc) s.heap.objs.size p g d.toArray,⟨⟨_,bZ _ rfl,rfl,rfl⟩,⟨o,bD _ e1,e2,nn,e4⟩⟩,fun i v s' Q' E' hv q'=>?_,fun h' tk kp=>?_⟩
 ·rw [qg4_ rv hv]
  exact dG q'
 ·have hl:d.toArray.size=bs.length:=by
   have:=rv.length;rw [b9] at this
   simp [this]
  rw [hl,qke_ (fun b:Bool=>b) false bs];exact ⟨.bl _,H,I.kept (t':=tk) fun b o e=>kp b o (fun z=>by rw [bS.mp z] at e;exact absurd (bJ e) (cI _)) (bD _ e),rfl,q⟩
end
theorem js_ {K:PySem.W.Frag}{a:Addr}{xs:List V}{f:Nat->V}{k:Nat}{te:TE}{cs:St}{H1:Hp}{D:Addr}{Q:Hp->Prop} (hs:SqL K H1 a xs) (hD:H1 D=none) (hk:k=cs.length) (hn:xs.length<=sizeLine)
  (he:∀ i x H (R:V->Hp->Prop),xs[i]?=some x->Same H1 H->(∀ H4,Same H H4->R (f i) H4)->te (cs++[some x]) H R)
  (hQ:∀ H,Same H1 H->H D=some (.lst ((List.range xs.length).map f))->Q H):q0_ (Itl K a) (qR_ k) jk_ te (cs++[none]) H1 D Q:=by
 refine vw_ (src:=fun i=>xs.getD i .non) (f:=f) (n:=xs.length) hD hk hn (fun H sm=>⟨xs,sm.seq hs,bF _⟩) (fun i H hi sm=>⟨xs,xs[i],sm.seq hs,b8 hi⟩) (fun i H x H' hi sm y=>?_) (fun i H R hi sm r=>?_) hQ
 ·obtain ⟨e,y⟩:=y
  refine ⟨?_,e⟩
  have:=y xs (sm.seq hs);rw [b7,this];rfl
 ·refine he i _ H R ?_ sm r
  rw [b7,b8 hi];rfl
theorem yc_ {J:It}{n k:Nat}{src f:Nat->V}{b:Nat->Bool}{tt:TT}{te:TE}{cs:St}{H1:Hp}{D:Addr}{Q:Hp->Prop} (hD:H1 D=none) (hk:k=cs.length) (hn:n<=sizeLine)
  (stop:∀ H,Same H1 H->J.stop n H) (go:∀ i H,i < n->Same H1 H->J.go i H) (yld:∀ i H x H',i < n->Same H1 H->J.yld i H x H'->x=src i/\H'=H)
  (ht:∀ i H (R:Bool->Hp->Prop),i < n->Same H1 H->(∀ H4,Same H H4->R (b i) H4)->tt (cs++[some (src i)]) H R)
  (he:∀ i H (R:V->Hp->Prop),i < n->b i=true->Same H1 H->(∀ H4,Same H H4->R (f i) H4)->te (cs++[some (src i)]) H R)
  (hQ:∀ H,Same H1 H->H D=some (.lst (((List.range n).filter b).map f))->Q H):q0_ J (qR_ k) tt te (cs++[none]) H1 D Q:=by
 refine ⟨fun i m ys σ H=>m=n - i/\i<=n/\Same H1 H/\ys=((List.range i).filter b).map f/\H D=some (.lst ys)/\∃ o,σ=cs++[o],⟨n,rfl,cn _,(Same.refl _).up hD,rfl,qc_,none,rfl⟩,?_⟩;rintro i m ys σ H ⟨rfl,hi,sm,rfl,hd,o,rfl⟩;refine ⟨hd,?_⟩
 by_cases hlt:i < n
 ·refine .inr ⟨go i H hlt sm,fun x H' y=>?_⟩
  obtain ⟨rfl,rfl⟩:=yld i H x H' hlt sm y
  have e:(cs++[o]).set k (some (src i))=cs++[some (src i)]:=by
   rw [hk,eA _ _ (bF _),fB];rfl
  unfold qR_;rw [e];refine ht i H' _ hlt sm fun H4 s4=>?_
  have er:(List.range (i+1)).filter b=(List.range i).filter b++(if b i=true then [i] else []):=by
   rw [di,ee]
   congr 1
   by_cases z:b i=true
   ·rw [if_pos z,eU z,dQ]
   ·rw [if_neg z,eV z,dQ]
  by_cases z:b i=true
  ·rw [if_pos z]
   refine he i H4 _ hlt z (sm.trans s4) fun H5 s5=>⟨s5 _ _ (s4 _ _ hd),?_,n - (i+1),by omega,rfl,hlt,((sm.trans s4).trans s5).up hD,?_,qc_,_,rfl⟩
   ·rw [b9]
    have:=cj b (List.range i);rw [bI] at this;omega
   ·rw [er,if_pos z,cK]
    rfl
  ·rw [if_neg z]
   refine ⟨n - (i+1),by omega,rfl,hlt,sm.trans s4,?_,s4 _ _ hd,_,rfl⟩
   rw [er,if_neg z,dA]
 ·have e:i=n:=by omega
  subst e;exact .inl ⟨stop H sm,hQ H sm hd⟩
theorem jP_ {n:Nat}{f:Nat->V}{b:Nat->Bool}{k:Nat}{tt:TT}{te:TE}{cs:St}{H1:Hp}{D:Addr}{Q:Hp->Prop} (hD:H1 D=none) (hk:k=cs.length) (hn:n<=sizeLine)
  (ht:∀ i H (R:Bool->Hp->Prop),i < n->Same H1 H->(∀ H4,Same H H4->R (b i) H4)->tt (cs++[some (.int (i:Nat))]) H R)
  (he:∀ i H (R:V->Hp->Prop),i < n->b i=true->Same H1 H->(∀ H4,Same H H4->R (f i) H4)->te (cs++[some (.int (i:Nat))]) H R)
  (hQ:∀ H,Same H1 H->H D=some (.lst (((List.range n).filter b).map f))->Q H):q0_ (Itr 0 n) (qR_ k) tt te (cs++[none]) H1 D Q :=
 yc_ (src:=fun i=>.int (0+(i:Nat))) hD hk hn (fun H _=>bF _) (fun i H hi _=>hi) (fun i H x H' _ _ y=>⟨y.2,y.1⟩) (fun i H R hi sm r=>by
  have e:(0:Int)+(i:Nat)=(i:Nat):=by omega
  rw [e];exact ht i H R hi sm r) (fun i H R hi hb sm r=>by
  have e:(0:Int)+(i:Nat)=(i:Nat):=by omega
  rw [e]
  exact he i H R hi hb sm r) hQ
variable {X:Cx}
def qdq_:Value->V
 | .bool b=>.bl b
 | .int i _=>.int i
 | .str x _=>.str x
 | .bytes b _=>.byt b
 | .float b _=>.flt b
 | .ref a=>.ref a
 | .type n=>.ty n
 | _=>.non
theorem qef_ {z:V}{u:Value} (h:RelV z u):qdq_ u=z:=by
 cases z with
 | non=>cases h;rfl
 | bl b=>cases h;rfl
 | int i=>obtain ⟨t,rfl⟩:=h;rfl
 | str i=>obtain ⟨t,rfl⟩:=h;rfl
 | byt i=>obtain ⟨t,rfl⟩:=h;rfl
 | flt i=>obtain ⟨t,rfl⟩:=h;rfl
 | ref a=>cases h;rfl
 | ty n=>cases h;rfl
theorem qgd_ {f:V->Bool}{xs:List V}{its:List Value} (r:Vals xs its):its.countP (fun u=>f (qdq_ u))=xs.countP f:=by
 induction r with
 | nil=>rfl
 | cons h _ ih=>rw [e9,e9,ih,qef_ h]
theorem qmi_ {xs:List V}{its:List Value} (r:Vals xs its):∀ u∈its,∃ z∈xs,RelV z u:=by
 induction r with
 | nil=>intro u h;cases h
 | cons h _ ih =>
  intro u hu;rcases bL.mp hu with e | e
  ·subst e
   exact ⟨_,cF,h⟩
  ·obtain ⟨z,hz,rz⟩:=ih u e
   exact ⟨z,cz _ hz,rz⟩
inductive qkg_ (x:V) (vs:List V) (H:Hp) (Q:VK):Prop
 | mk:∀ (l:Addr) (xs:List V) (y:V),x=.ref l->vs=[y]->H l=some (.lst xs)->j4_ y=true->((∀ z∈xs,j4_ z=true))->(Q (.int ((xs.countP fun z=>eqV z y:Nat):Int)) H)->qkg_ x vs H Q
theorem qmj_:MtM X "list.count" qkg_:=by
 intro B s σ H x vs v us Q I rx rv h;obtain ⟨l,xs,y,rfl,rfl,hH,hy,hx,q⟩:=h
 cases rx;obtain ⟨u,rfl,ru⟩:=rv.one;obtain ⟨z,d,n,r,hl,e⟩:=I.lstM hH;refine call_meets F.slot_list_count ⟨_,e,rfl⟩ F.entry_list_count (F.args_list_count_2 _ _) (SeqAt.list_countAt l d.toArray n none #[] u (fun v=>eqV (qdq_ v) y)) ⟨e,?_,?_⟩
 ·intro v hv
  have g:v∈d:=by simpa using hv
  obtain ⟨z,hz,rz⟩:=qmi_ r v g
  have eb:=qef_ rz
  show SeqAt.EqAt _ _ v u (eqV (qdq_ v) y)
  rw [eb];exact qdz_ rz ru (hx z hz) hy
 ·refine ⟨.int ((xs.countP fun z=>eqV z y:Nat):Int),H,I.tok _,⟨s.toks,?_⟩,q⟩
  rw [<- qgd_ r]
def SameBut (D:Addr) (H H':Hp):Prop:=∀ y o,y≠D->H y=some o->H' y=some o
theorem qix_ {K:PySem.W.Frag}{l:Addr}{xs:List V}{f:Nat->V}{k:Nat}{te:TE}{cs:St}{H1:Hp}{D:Addr}{Q:Hp->Prop} (h1:SqL K H1 l xs) (hD:H1 D=none) (hk:k=cs.length) (hn:xs.length<=sizeLine)
  (he:∀ i u H (R:V->Hp->Prop),xs[i]?=some u->Same H1 H->(∀ H4,Same H H4->R (f i) H4)->te (cs++[some (.int (i:Nat)),some u]) H R)
  (hQ:∀ H,Same H1 H->H D=some (.lst ((List.range xs.length).map f))->Q H):q0_ (Ite K l xs) (gTup K 2 (yD_ (qR_ k) (yD_ (qR_ (k+1)) gNil))) jk_ te (cs++[none,none]) H1 D Q:=by
 refine qb6_ (n:=xs.length) (stt:=fun i=>cs++[some (.int (i:Nat)),xs[i]?]) (Ok:=fun σ=>∃ o1 o2,σ=cs++[o1,o2]) hD hn ⟨none,none,rfl⟩ (fun i _=>⟨_,_,rfl⟩) (fun H sm=>⟨sm.seq h1,bF _⟩) (fun i H hi sm=>⟨sm.seq h1,hi⟩) (fun i σ H x H' R hi sm ho y q=>?_) (fun i H R hi sm r=>?_) hQ
 ·obtain ⟨o1,o2,rfl⟩:=ho
  obtain ⟨T,u,hT,rfl,hu,rfl⟩:=y;exact qa6_ hk hT fun d s=>by rw [<- hu];exact q d s
 ·rw [b8 hi]
  exact he i _ H R (b8 hi) sm r
variable {X:Cx}
end L2
namespace GF
end GF
namespace L2
open PySem PySem.Spec PyProof.Rows
theorem qaa_ {M:Model}{A:Around}{E:Value->Shared->Prop}:∀ (names:List (Str × NameKind)) (acc:List (Str × Addr)) (s:Shared) (Q:List (Str × Addr)->Shared->Prop),names.filter (fun p=>p.2 == NameKind.cell)=[]->Q acc s →
  wpAny M A (forIn names acc (fun x r=>match x with
    | (name,kind)=>if (kind == NameKind.cell)=true then do
      let c ← alloc { cls:=.type "cell",data:=.cell none }
      pure (ForInStep.yield ((name,c) :: r))
     else pure (ForInStep.yield r)):Sem (List (Str × Addr))) Q E s
 | [],acc,s,Q,_,h=>c7 h
 | (n,k) :: r,acc,s,Q,hf,h=>by
  rw [List.forIn_cons]
  have hb:(k == NameKind.cell)=false:=by
   cases q:(k == NameKind.cell) with
   | false=>rfl
   | true=>rw [List.filter_cons,if_pos q] at hf;cases hf
  rw [List.filter_cons,if_neg (by rw [hb];exact bW)] at hf
  refine bH ?_
  show wpAny M A (if (k == NameKind.cell)=true then _ else _) _ E s
  rw [if_neg (by rw [hb];exact bW)]
  exact c7 (qaa_ r acc s Q hf h)
theorem qb9_ {M:Model}{A:Around}{E:Value->Shared->Prop}{y:Str}:∀ (names:List (Str × NameKind)) (acc:List (Str × Addr)) (s:Shared) (Q:List (Str × Addr)->Shared->Prop),names.filter (fun p=>p.2 == NameKind.cell)=[(y,NameKind.cell)] →
  Q ((y,s.heap.objs.size) :: acc) { s with heap:=s.heap.push { cls:=.type "cell",data:=.cell none } } →
  wpAny M A (forIn names acc (fun x r=>match x with
    | (name,kind)=>if (kind == NameKind.cell)=true then do
      let c ← alloc { cls:=.type "cell",data:=.cell none }
      pure (ForInStep.yield ((name,c) :: r))
     else pure (ForInStep.yield r)):Sem (List (Str × Addr))) Q E s
 | [],acc,s,Q,hf,h=>by cases hf
 | (n,k) :: r,acc,s,Q,hf,h=>by
  rw [List.forIn_cons];refine bH ?_
  show wpAny M A (if (k == NameKind.cell)=true then _ else _) _ E s
  cases hb:(k == NameKind.cell) with
  | false =>
   rw [List.filter_cons,if_neg (by rw [hb];exact bW)] at hf
   rw [if_neg bW];exact c7 (qb9_ r acc s Q hf h)
  | true =>
   rw [List.filter_cons,if_pos hb] at hf;obtain ⟨e1,e2⟩:=List.cons.inj hf
   cases e1;rw [if_pos rfl];exact bH (wpAny_alloc (c7 (qaa_ r _ _ Q e2 h)))
theorem qiy_ {M:Model}{A:Around}{E:Value->Shared->Prop}{s:Shared}{scope:Scope}{globals:Addr}{closure:List (Str × Addr)}{qual:Str}{func:Option Addr}{code:Value}{around:Option Env}{builtins:Addr}{Q:Env->Shared->Prop}{y:Str}
  (hc:scope.names.filter (fun p=>p.2 == NameKind.cell)=[(y,NameKind.cell)])
  (h:∀ h':Heap,h'.Ns s.heap.objs.size (fun _=>none)->(∀ b u,s.heap.get? b=some u->h'.get? b=some u)->h'.IsCell (s.heap.objs.size+1) none →
   Q (newEnv scope s.heap.objs.size globals ((y,s.heap.objs.size+1) :: closure) qual func code around builtins) { s with heap:=h' }) :
  wpAny M A (newFunctionEnv scope globals closure [] qual func code around builtins) Q E s:=by
 unfold newFunctionEnv;refine bH (wpAny_alloc (bH (qb9_ _ _ _ _ hc ?_)))
 have hs:(s.heap.push { cls:=.type (if around.isSome=true then "dict" else "frame"),data:=.dict #[] }).objs.size=s.heap.objs.size+1:=by simp [Heap.push]
 have:=h ((s.heap.push { cls:=.type (if around.isSome=true then "dict" else "frame"),data:=.dict #[] }).push { cls:=.type "cell",data:=.cell none }) ?_ ?_ ?_
 ·rw [<- hs] at this
  exact bH (c7 (c7 this))
 ·exact (Heap.Ns.new _ _).push _
 ·exact fun b u e=>bD _ (bD _ e)
 ·rw [<- hs]
  exact ⟨_,bZ _ rfl,rfl⟩
def qg5_ (N:List Str) (osc sc:Scope) (cap:List Nat) (y:Str):Bool :=
 (sc.kind == .function) && (sc.names.filter (fun p=>p.2 == NameKind.cell) == [(y,NameKind.cell)]) && (sc.names.lookup y == some .cell) && sc.names.all (fun y=>((y.2 != .local) || (sc.names.lookup y.1 == some .local)) && ((y.2 != .free) || ((sc.names.lookup y.1 == some .free) && ((osc.names.lookup y.1 == some .cell) || (osc.names.lookup y.1 == some .free))))) &&
  cap.all (fun i=>match N[i]? with | some x=>sc.names.lookup x == some .free | none=>false)
structure CompOkC (N:List Str) (osc sc:Scope) (cap:List Nat) (y:Str):Prop where
 kind:sc.kind=.function
 one:sc.names.filter (fun p=>p.2 == NameKind.cell)=[(y,NameKind.cell)]
 mine:sc.names.lookup y=some .cell
 locs:∀ y∈sc.names,y.2=.local->sc.names.lookup y.1=some .local
 free1:∀ y∈sc.names,y.2=.free->sc.names.lookup y.1=some .free
 frees:∀ y∈sc.names,y.2=.free->osc.names.lookup y.1=some .cell\/osc.names.lookup y.1=some .free
 capf:∀ i∈cap,∃ x,N[i]?=some x/\sc.names.lookup x=some .free
theorem CompOkC.of {N:List Str}{osc sc:Scope}{cap:List Nat}{y:Str} (h:qg5_ N osc sc cap y=true):CompOkC N osc sc cap y:=by
 unfold qg5_ at h;simp only [cC] at h;obtain ⟨⟨⟨⟨h1,h2⟩,h3⟩,h4⟩,h5⟩:=h
 have all:=c5.mp h4;refine ⟨eq_of_beq h1,eq_of_beq h2,eq_of_beq h3,fun y hy e=>?_,fun y hy e=>?_,fun y hy e=>?_,fun i hi=>?_⟩
 ·have q:=all y hy
  simp only [cC,dP] at q;rcases q.1 with z | z
  ·rw [e] at z;exact absurd z (by decide)
  ·exact eq_of_beq z
 ·have q:=all y hy
  simp only [cC,dP] at q;rcases q.2 with z | z
  ·rw [e] at z;exact absurd z (by decide)
  ·exact eq_of_beq z.1
 ·have q:=all y hy
  simp only [cC,dP] at q;rcases q.2 with z | z
  ·rw [e] at z;exact absurd z (by decide)
  ·exact z.2.imp eq_of_beq eq_of_beq
 ·have q:=c5.mp h5 i hi
  cases e:N[i]? with
  | none=>rw [e] at q;cases q
  | some x=>rw [e] at q;exact ⟨x,rfl,eq_of_beq q⟩
def yi_ (X:Cx) (sc:Scope) (cl:List (Str × Addr)) (C:Addr) (cap:List Nat) (y:Str) (s₀:Shared) (H₀:Hp) (ex:List Addr):Cx :=
 { X with N:=yF_ X.N cap [y],s₀:=s₀,H₀:=H₀,env:=compEnvC sc ((y,C+1) :: cl) C X.env,outer:=X.stack,stack:=X.stack,ex:=ex,fn:=fun x=>x == y,pn:=[],xe:=fun _ _=>False }
section
variable {X:Cx}{pins:List (Addr × Obj)}{σ:St}{H:Hp}{s:Shared}{sc:Scope}{cl:List (Str × Addr)}{cap:List Nat}{y:Str}
theorem qdg_ (S:CompOkC X.N X.env.scope sc cap y) {x:Str}{C:Addr} (h:(compEnvC sc cl C X.env).kindOf x=some .cell\/(compEnvC sc cl C X.env).kindOf x=some .free):x=y\/(x,NameKind.free)∈sc.names:=by
 have e:(compEnvC sc cl C X.env).kindOf x=(sc.names.lookup x).map fun k=>if (k == NameKind.free && X.env.scope.kind == .function && X.env.kindOf x == some .cell)=true then NameKind.cell else k:=jA_ sc.names x
 rw [e] at h
 cases q:sc.names.lookup x with
 | none=>rw [q] at h;rcases h with z | z <;> cases z
 | some k =>
  have hm:=cQ q
  by_cases hk:k=.free
  ·rw [hk] at hm
   exact .inr hm
  ·rw [q] at h
   simp only [da,eJ] at h
   have d:(k == NameKind.free)=false:=by simpa using hk
   rw [d] at h;simp only [Bool.false_and,fh,if_false] at h;rcases h with z | z
   ·have:(x,NameKind.cell)∈sc.names.filter (fun p=>p.2 == NameKind.cell):=bV.mpr ⟨by rw [z] at hm;exact hm,rfl⟩
    rw [S.one] at this
    simp at this
    exact .inl this
   ·exact absurd z hk
theorem qiz_ {x:Str}{C:Addr} (h:sc.names.lookup x=some .free):(compEnvC sc cl C X.env).kindOf x=some .cell\/(compEnvC sc cl C X.env).kindOf x=some .free:=by
 have e:(compEnvC sc cl C X.env).kindOf x=(sc.names.lookup x).map fun k=>if (k == NameKind.free && X.env.scope.kind == .function && X.env.kindOf x == some .cell)=true then NameKind.cell else k:=jA_ sc.names x
 rw [e,h];simp only [da,eJ]
 split
 ·exact .inl rfl
 ·exact .inr rfl
theorem jD_ {n:Str}{C c:Addr} (h:((y,C) :: cl).lookup n=some c):(n=y/\c=C)\/cl.lookup n=some c:=by
 rw [cu] at h
 cases q:(n == y) with
 | true =>
  rw [q] at h
  cases h;exact .inl ⟨eq_of_beq q,rfl⟩
 | false =>
  rw [q] at h;exact .inr h
theorem qab_ {n:Str}{C:Addr} (h:n≠y):((y,C) :: cl).lookup n=cl.lookup n:=by
 rw [cu]
 have:(n == y)=false:=by simpa using h
 rw [this]
theorem Inv.blockC {h':Heap}{fp:List Addr}{t':Nat} (I:Inv X pins σ H s) (S:CompOkC X.N X.env.scope sc cap y) (hc1:∀ n c,cl.lookup n=some c->X.env.cells.lookup n=some c) (hc2:∀ n,(n,NameKind.free)∈sc.names->(cl.lookup n).isSome=true)
  (hf:∀ b∈fp,FpOk X pins H b) (hlt:∀ b∈fp,b < s.heap.objs.size) {m:Str->Option Value} (hn:h'.Ns s.heap.objs.size m) (k:∀ b u,s.heap.get? b=some u->h'.get? b=some u) (hcell:h'.IsCell (s.heap.objs.size+1) none) :
  Inv (yi_ X sc cl s.heap.objs.size cap y s H fp) [] (jm_ σ cap [y]) H { s with heap:=h',toks:=t' }:=by
 have h:∀ n c,cl.lookup n=some c->c < s.heap.objs.size:=fun n c e=>by
  obtain ⟨v,q⟩:=I.cell n c (hc1 n c e);exact q.lt
 refine ⟨⟨I.mod,S.kind,I.ok.glob,I.ok.blt,bF _,fun x z c a b=>?_,fun x hx=>?_,fun x c e1 e2=>?_,I.ok.hd,I.ok.frames,.inl rfl,fun b hb=>⟨bP (hlt b hb),fun x c e=>?_⟩,I.bs,bG I.ok.bsz I.sz,fun b o e hb=>?_,fun b hb z=>?_,I.stack,I.stkFree⟩,
  rfl,I.bare,Un.kept k,⟨m,hn,fun i x v e1 e2 e3=>?_⟩,fun x c e=>?_,I.hok.fresh (bF _),fun x c e=>?_,fun p hp=>absurd hp (by show p∉([]++[]:List (Addr × Obj));simp),I.hok.kept k,?_⟩
 ·rcases jD_ a with ⟨ex,ec⟩ | a2
  ·rcases jD_ b with ⟨ez,_⟩ | b2
   ·exact ex.trans ez.symm
   ·exact absurd (Nat.lt_of_succ_lt (ec ▸ h _ _ b2)) (cI _)
  ·rcases jD_ b with ⟨ez,ec⟩ | b2
   ·exact absurd (Nat.lt_of_succ_lt (ec ▸ h _ _ a2)) (cI _)
   ·exact I.ok.inj x z c (hc1 x c a2) (hc1 z c b2)
 ·by_cases hy:x=y
  ·subst hy
   exact ⟨_,by show List.lookup x ((x,_) :: cl)=_;rw [cu,dY]⟩
  ·rcases qdg_ S hx with hm | hm
   ·exact absurd hm hy
   ·obtain ⟨c,hc⟩:=dL.mp (hc2 x hm)
    exact ⟨c,(qab_ hy).trans hc⟩
 ·have ey:x=y:=eq_of_beq e1
  rcases jD_ e2 with ⟨_,rfl⟩ | e2
  ·exact eF _
  ·subst ey
   have d:List.lookup x ((x,s.heap.objs.size+1) :: cl)=some c:=by assumption
   rw [cu,dY] at d
   cases d;exact eF _
 ·rcases jD_ e with ⟨_,rfl⟩ | e
  ·exact eC (cA (hlt b hb))
  ·exact (hf b hb).2.2.2.2.1 x c (hc1 x c e)
 ·rcases (hf b hb).2.2.2.1 with z | z
  ·exact I.ok.noex b o e z
  ·exact absurd (bR (bJ (I.ok.bs b o e).1) z) (cI _)
 ·rcases bL.mp (I.stkSub b z) with q | q
  ·exact (hf b hb).2.1 q
  ·exact (hf b hb).2.2.1 q
 ·by_cases hi:i < cap.length
  ·have g:(yF_ X.N cap [y])[i]?=some x:=e1
   have d:(jm_ σ cap [y])[i]?=some (some v):=e2;rw [yF_,cW (by simpa using hi),bE,b8 hi] at g
   rw [jm_,cW (by simpa using hi),bE,b8 hi] at d
   simp only [da,eJ] at g d;obtain ⟨z,hy,hl⟩:=S.capf _ (cR hi)
   have r:x=z:=by
    rw [<- g,b7,hy];rfl
   subst r
   have ev:σ[cap[i]]?=some (some v):=by
    cases q:σ[cap[i]]? with
    | none=>rw [q] at d;cases d
    | some o=>rw [q] at d;exact congrArg some d
   obtain ⟨m0,E,C⟩:=I.loc
   have hm:=cQ hl
   have l:=S.frees _ hm rfl
   have D:x≠y:=fun z=>by rw [z,S.mine] at hl;cases hl
   obtain ⟨u,ru,lk⟩:=C _ x v hy ev (l.elim (fun z=>.inr (.inl z)) fun z=>.inr (.inr z));refine ⟨u,ru,.inr ⟨qiz_ hl,?_⟩⟩;obtain ⟨c,hc⟩:=dL.mp (hc2 x hm);refine ⟨c,(qab_ D).trans hc,?_⟩;rcases lk with ⟨z,_⟩ | ⟨_,c',B,q⟩
   ·have z':X.env.scope.names.lookup x=some .local:=z
    rcases l with w | w <;> (rw [z'] at w;cases w)
   ·have:=hc1 x c hc
    rw [B] at this
    cases this;obtain ⟨o,ho,hd⟩:=q;exact ⟨o,k _ o ho,hd⟩
  ·have d:(jm_ σ cap [y])[i]?=some (some v):=e2
   rw [jm_,de (by simpa using hi),bE] at d
   cases q:[y][i - (cap.map fun i=>(σ[i]?).join).length]? with
   | none=>rw [q] at d;cases d
   | some o=>rw [q] at d;cases d
 ·rcases jD_ e with ⟨_,rfl⟩ | e
  ·exact ⟨none,hcell⟩
  ·obtain ⟨v,o,ho,hd⟩:=I.cell x c (hc1 x c e)
   exact ⟨v,o,k c o ho,hd⟩
 ·rcases jD_ e with ⟨_,rfl⟩ | e
  ·exact I.hok.fresh (eF _)
  ·exact I.freeC x c (hc1 x c e)
 ·show (jm_ σ cap [y]).length=(yF_ X.N cap [y]).length
  simp [jm_,yF_]
end
section
variable {X:Cx}{sc:Scope}{cap:List Nat}{y:Str}{tg iter elt:Expr}{ifs:List Expr}{pos:Pos}{wi:TI}{g:TG}{tt:TT}{te:TE}
theorem qi0_ {use:Option (Value->Sem Unit)}{ppos:Pos}{pins:List (Addr × Obj)}{s:Shared}{σ:St}{H:Hp}{Q:V->Hp->Prop}{R:Value->Shared->Prop} (hc:X.calm=true) (S:CompOkC X.N X.env.scope sc cap y) (hi:PI X tg iter wi)
  (hg:∀ cl C s₀ H₀ ex,PG (yi_ X sc cl C cap y s₀ H₀ ex) tg g) (ht:∀ cl C s₀ H₀ ex,PTs (yi_ X sc cl C cap y s₀ H₀ ex) ifs tt) (he:∀ cl C s₀ H₀ ex,PE (yi_ X sc cl C cap y s₀ H₀ ex) elt te)
  (hs:∀ x,foldedSetIterable iter X.env x=pure x) (I:Inv X pins σ H s) (h:u7_ cap [y] wi g tt te σ H Q)
  (fin:∀ (D C:Addr) (H':Hp) (s':Shared) (m:Str->Option Value),Inv X pins σ H' s'->s'.heap.Ns C m->FpOk X pins H' C->Q (.ref D) H'->compPost (model X.prog X.w) X.A X.xe use R (.ref D) C (.ok .next) s') :
  wpAny (model X.prog X.w) X.A (comprehension (.ListComp elt [⟨tg,iter,ifs,0⟩] sc pos) sc X.env ppos (newList []) false (eval iter X.env) use) R X.xe s:=by
 obtain ⟨cl,Y,ah,as⟩:=u6_ (env:=X.env) (scope:=sc) fun n hn=>X.env.cells.lookup n |> fun _=>I.ok.has n (S.frees _ hn rfl);refine wpAny_comprehension_free (use:=use) rfl hs Y S.kind S.locs (thn (hi pins s σ H _ I h) fun v s1 h1=>thn h1 fun aG s2 h2=>?_);obtain ⟨it,fp,tn,J,H2,rfl,I2,T,aa,f2,q⟩:=h2;refine wpAny_newObj_type ?_;obtain ⟨D,hD⟩:∃ D,D=s2.heap.objs.size:=⟨_,rfl⟩
 have ay:H2 D=none:=by rw [hD];exact I2.hok.fresh (bF _)
 have I3:Inv X pins σ (upd H2 D (.lst [])) { s2 with heap:=s2.heap.push { cls:=.type "list",dict:=none,data:=.seq ([]:List Value).toArray } }:=by
  rw [hD];exact I2.laid (t':=s2.toks) (fun b u e=>bD _ e) (bF _) ⟨cn _,[],_,.nil,bZ _ rfl⟩
 have al:∀ b∈fp,b≠D:=fun b hb z=>by
  obtain ⟨o,ho,_⟩:=T.obj _ _ aa b hb;exact absurd (bJ ho) (by rw [z,hD];exact cI _)
 have f3:∀ b∈fp,FpOk X pins (upd H2 D (.lst [])) b:=fun b hb=>⟨by rw [qd_ (al b hb)];exact (f2 b hb).1,(f2 b hb).2⟩
 have aq:tn 0 (s2.heap.push { cls:=.type "list",dict:=none,data:=.seq ([]:List Value).toArray }):=T.keep _ _ _ aa fun b _ o e=>bD _ e
 rw [<- hD];obtain ⟨W,⟨m0,w0⟩,turn⟩:=q D ay
 generalize av:({ s2 with heap:=s2.heap.push { cls:=.type "list",dict:=none,data:=.seq ([]:List Value).toArray } }:Shared)=s3 at I3 ⊢
 have G:tn 0 s3.heap:=by rw [<- av];exact aq
 refine qiy_ S.one fun h1 ax hk U=>?_
 have B:∀ b∈fp,b < s3.heap.objs.size:=fun b hb=>by
  obtain ⟨o,ho,_⟩:=T.obj _ _ G b hb;exact bJ ho
 have I4:=I3.blockC (t':=s3.toks) S ah as f3 B ax hk U
 have fC:∀ H',H' s3.heap.objs.size=none->FpOk X pins H' s3.heap.objs.size:=fun H' hn=>I3.fpOk (bF _) hn;obtain ⟨C,hC⟩:∃ C,C=s3.heap.objs.size:=⟨_,rfl⟩;rw [<- hC] at I4 fC;rw [<- hC];obtain ⟨Xc,l⟩:∃ Xc,Xc=yi_ X sc cl C cap y s3 (upd H2 D (.lst [])) fp:=⟨_,rfl⟩;rw [<- l] at I4
 have gX:PG Xc tg g:=l ▸ hg cl C s3 _ fp
 have tX:PTs Xc ifs tt:=l ▸ ht cl C s3 _ fp
 have eX:PE Xc elt te:=l ▸ he cl C s3 _ fp
 have x1:Xc.prog=X.prog:=by rw [l];rfl
 have x2:Xc.w=X.w:=by rw [l];rfl
 have x3:Xc.K=X.K:=by rw [l];rfl
 have x4:Xc.calm=true:=by rw [l];exact hc
 have x5:Xc.A=X.A:=by rw [l];rfl
 have x6:Xc.env=compEnvC sc ((y,C+1) :: cl) C X.env:=by rw [l];rfl
 have x7:Xc.xe=fun _ _=>False:=by rw [l];rfl
 have E:∀ {H':Hp},(∀ b∈fp,H' b=none)->∀ b∈fp,FpOk Xc [] H' b:=fun hn b hb=>by
  rw [l];refine ⟨hn b hb,?_,?_,.inl hb,fun x c e=>?_,fun p hp=>absurd hp (by show p∉([]++[]:List (Addr × Obj));simp)⟩
  ·show b≠C
   rw [hC];exact bP (B b hb)
  ·intro z
   rcases bL.mp (I3.stkSub b z) with q | q
   ·exact (f3 b hb).2.1 q
   ·exact (f3 b hb).2.2.1 q
  ·rcases jD_ e with ⟨_,rfl⟩ | e
   ·rw [hC]
    exact eC (cA (B b hb))
   ·exact (f3 b hb).2.2.2.2.1 x c (ah x c e)
 have ai:tn 0 h1:=T.keep _ _ _ G fun b _ o e=>hk b o e
 have L:∀ s4:Shared,s4 = { s3 with heap:=h1,toks:=s3.toks } →
   codeAny (model X.prog X.w) X.A (.compLoop (.ListComp elt [⟨tg,iter,ifs,0⟩] sc pos) 0 (.ref it) (.ref D) (compEnvC sc ((y,C+1) :: cl) C X.env)) (compPost (model X.prog X.w) X.A X.xe use R (.ref D) C) s4:=by
  rintro s4 rfl;refine qb3_ (fun n s'=>∃ i σ' H' ys,Inv Xc [] σ' H' s'/\tn i s'.heap/\(∀ b∈fp,H' b=none)/\H' D=some (.lst ys)/\W i n ys σ' H') ?_ m0 ⟨0,_,_,[],I4,ai,fun b hb=>(f3 b hb).1,qc_,w0⟩;rintro n s5 ⟨i,σ5,H5,ys,I5,ab,aj,aF,w5⟩;obtain ⟨_,O⟩:=turn i n ys σ5 H5 w5;rcases O with ⟨stop,qq⟩ | ⟨go,step⟩
  ·have td:=T.done Xc x1 x2 x3 x4 i [] s5 σ5 H5 (fun _ _=>False) I5 (E aj) ab stop
   rw [x5] at td;refine thn td fun r s6 ⟨hr,I6⟩=>?_;subst hr
   show compPost _ _ _ _ _ _ _ (.ok .next) s6
   obtain ⟨m6,Z,_⟩:=id I6.loc;rw [x6] at Z
   have u6:=I6.base
   have ak:=I6.hok
   have au:H5 C=none:=by have:=I6.free;rw [x6] at this;exact this
   have aD:s6.os=s3.os:=by have:=I6.os;rw [l] at this;exact this
   rw [l] at u6 ak
   have IX:Inv X pins σ H5 s6:=I3.call' (s':=s6) aD u6 ak I6.bare fun b hb=>⟨(f3 b hb).2.2.2.1,(f3 b hb).2.1,(f3 b hb).2.2.2.2.1,(f3 b hb).2.2.2.2.2⟩;exact fin D C H5 s6 m6 IX Z (fC H5 au) qq
  ·have ti:=T.item Xc x1 x2 x3 x4 i [] s5 σ5 H5 (fun _ _=>False) I5 (E aj) ab go
   rw [x5] at ti;refine thn ti fun r s6 ⟨u,hr,h6⟩=>?_;subst hr;refine thn h6 fun _ s7 ⟨x,H7,I7,r7,y7,P,aA⟩=>?_
   have ao:=I7.pinned (E aA) (T.obj _ _ P)
   have a7:=gX _ s7 σ5 H7 x u _ ao r7 (step x H7 y7);rw [x1,x2,x5,x6,x7] at a7;refine thn a7 fun _ s8 ⟨σ8,H8,I8,q8⟩=>?_
   have a8:=tX _ s8 σ8 H8 _ I8 q8;rw [x1,x2,x5,x6,x7] at a8
   have again:∀ {σ9:St}{H9:Hp}{s9:Shared}{zs:List V}{m':Nat},Inv Xc ([]++yN_ fp s7.heap) σ9 H9 s9->H9 D=some (.lst zs)->m' < n->W (i+1) m' zs σ9 H9 →
     ∃ m,m < n/\∃ i σ' H' ys,Inv Xc [] σ' H' s9/\tn i s9.heap/\(∀ b∈fp,H' b=none)/\H' D=some (.lst ys)/\W i m ys σ' H':=fun {σ9 H9 s9 zs m'} I9 hz hm w9=>by
    refine ⟨m',hm,i+1,σ9,H9,zs,I9.unpinned,T.keep _ _ _ P fun b hb o e=>(I9.pin (b,o) (cH _ (cH _ (j2_ hb e)))).1,fun b hb=>?_,hz,w9⟩;obtain ⟨o,e,d⟩:=T.obj _ _ P b hb;exact (I9.pin (b,o) (cH _ (cH _ (j2_ hb e)))).2.1
   refine thn a8 fun ok s9 ⟨H9,I9,q9⟩=>?_
   cases ok with
   | false =>
    rw [if_neg bW] at q9 ⊢;obtain ⟨m',hm,w9⟩:=q9;exact again I9 (turn _ _ _ _ _ w9).1 hm w9
   | true =>
    rw [if_pos rfl] at q9 ⊢
    have a9:=eX _ s9 σ8 H9 _ I9 q9;rw [x1,x2,x5,x6,x7] at a9;refine thn a9 fun v ap ⟨y,ae,aw,aC,am,an,m',hm,aB⟩=>?_
    have ad:=qQ_ (X:=Xc) ([]++yN_ fp s7.heap) ap σ8 ae (.ref D) [y] (.ref D) [v] (fun _ ac=>ac=upd ae D (.lst (ys++[y]))) aw rfl (.cons aC .nil) ⟨D,ys,y,rfl,rfl,am,an,rfl⟩;rw [x1,x2,x5,x7] at ad;refine thn ad fun _ aE ⟨_,ac,ar,_,az⟩=>?_;subst az;exact again ar qc_ hm aB
 exact codeAny_compStart_list (L _ rfl) (T.self _ 0 _ _ _ ai (L _ rfl))
theorem qmk_ (S:CompOkC X.N X.env.scope sc cap y) (hc:X.calm=true) (hi:PI X tg iter wi)
  (hg:∀ cl C s₀ H₀ ex,PG (yi_ X sc cl C cap y s₀ H₀ ex) tg g) (ht:∀ cl C s₀ H₀ ex,PTs (yi_ X sc cl C cap y s₀ H₀ ex) ifs tt) (he:∀ cl C s₀ H₀ ex,PE (yi_ X sc cl C cap y s₀ H₀ ex) elt te)
  (hs:∀ x,foldedSetIterable iter X.env x=pure x:=by intro _;rfl):PE X (.ListComp elt [⟨tg,iter,ifs,0⟩] sc pos) (u7_ cap [y] wi g tt te):=by
 intro d s σ H Q I h;rw [eval_ListComp];refine qi0_ (use:=none) hc S hi hg ht he hs I h fun D C H' s' m I' hn hf q=>?_;refine ⟨m,hn,fun h' sb=>?_⟩;obtain ⟨f0,f1,f2,f3,f4,f5⟩:=hf;exact ⟨.ref D,H',I'.turned (t':=s'.toks) (fun b o hb e=>(sb.2 b hb).trans e) f0 f1 f3 f4 f5,rfl,q⟩
end
section
variable {X:Cx}
end
theorem qml_ {M:Model}{A:Around}{E:Value->Shared->Prop}{s:Shared}{env:Env}{name:Str}{args:Arguments}{body:List Stmt}{scope:Scope}{pos:Pos}{Q:Flow->Shared->Prop}
  (h1:defaultsOf args env=([],[])) (h2:annotationsOf (args.args++args.posonlyargs++args.vararg.toList++args.kwonlyargs++args.kwarg.toList) env=[])
  (h:wpAny M A (makeFunction name (qualnameIn env name name) args (.stmts body) scope env [] [] [] pos pos.line) (fun f s1=>wpAny M A (storeName env name f) (fun _ s2=>Q .next s2) E s1) E s) :
  wpAny M A (exec (.FunctionDef name args body [] none [] scope none name pos) env) Q E s:=by
 rw [arm_exec_FunctionDef];obtain ⟨po,a,va,ko,kd,d,df⟩:=args;unfold defStmt;simp only [h1,h2,evalEach,evalOpt,List.isEmpty_nil,Bool.not_true,Bool.false_and,fG,Option.map_none,Option.toList_none,dA];rw [if_neg bW];refine bH (wpAny_evalAll_nil ?_);refine bH (wpAny_standAt ?_);refine bH (dt ?_);refine bH (wpAny_evalAll_nil ?_);refine bH (dt (c7 (α:=List (Option Value)) (a:=[]) ?_));refine dt ?_;refine bH (c7 (α:=List (Str × Value)) (a:=[]) ?_);refine d7 h (fun f s1 q=>?_) fun _ _ z=>z;refine bH (c7 (α:=Value) (a:=f) ?_);refine bH (wpAny_standAt ?_);refine bH (wpAny_bindName ?_);exact d7 q (fun _ s2 z=>c7 z) fun _ _ z=>z
def yd_ (q:Str) (c:Addr):HO:=.ext fun h=>h.CodeRec (.ref c) q
def FunO (fa:Addr) (fd:FuncData):HO:=.ext fun h=>h.get? fa=some { cls:=.type "function",data:=.func fd }
structure TabK (X:Cx) (c P:Addr):Prop where
 cd:X.env.code=.ref c
 hd:PySem.W.codeHdIn X.K c P=true
 blt:X.base.BuiltinsAt X.mg P
 ne:mainGlobals≠P
section
variable {X:Cx}{pins:List (Addr × Obj)}{σ:St}{H:Hp}{s:Shared}
theorem qmm_ {P:Program}{w:World}{h:Heap}{c:Addr}{q:Str} (e:h.CodeRec (.ref c) q):ObjOk P w H h c (yd_ q c):=by
 refine ⟨e,?_,fun h1 h2 e1 k=>?_⟩
 ·obtain ⟨c',o,vs,t,e1,e2,_⟩:=e
  cases e1;exact ⟨o,e2⟩
 ·obtain ⟨c',o,vs,t,e1,e2,e3⟩:=e1
  cases e1;exact ⟨c,o,vs,t,rfl,k o e2,e3⟩
theorem qg6_ {P:Program}{w:World}{h:Heap}{fa:Addr}{fd:FuncData} (e:h.get? fa=some { cls:=.type "function",data:=.func fd }):ObjOk P w H h fa (FunO fa fd):=⟨e,⟨_,e⟩,fun h1 h2 e1 k=>k _ e1⟩
theorem Inv.fnew {P c':Addr}{ps more:Array Value}{q:Str}{h':Heap}{fd:FuncData}{tk:Nat} (I:Inv X pins σ H s) (hP:H P=some (.tbl ps)) (x:Heap.ExtBut P s.heap h') (h1:s.heap.objs.size<=c') (h2:c' < h'.objs.size) (cr:h'.CodeRec (.ref c') q) (ht:h'.get? P=some (PySem.W.tabObj (ps++more))) :
  Inv X pins σ (upd (upd (upd H P (.tbl (ps++more))) c' (yd_ q c')) h'.objs.size (FunO h'.objs.size fd)) { s with heap:=h'.push { cls:=.type "function",data:=.func fd },toks:=tk }:=by
 have D:P < s.heap.objs.size:=(I.hok P _ hP).lt
 have l:s.heap.objs.size<=h'.objs.size:=bG h1 (du h2)
 have nP:∀ b,H b=none->b≠P:=fun b e z=>by rw [z,hP] at e;cases e
 have h:∀ b o,s.heap.get? b=some o->b≠c'/\b≠h'.objs.size:=fun b o e=>⟨bP (bR (bJ e) h1),bP (bR (bJ e) l)⟩
 have g:∀ b u,H b=some u->b≠c'/\b≠h'.objs.size:=fun b u e=>⟨bP (bR (I.hok b u e).lt h1),bP (bR (I.hok b u e).lt l)⟩
 have d:∀ b o,b≠P→s.heap.get? b=some o→(h'.push { cls:=.type "function",data:=.func fd }).get? b=some o:=fun b o hb e=>bD _ (x b o hb e)
 have at_:∀ b u,b≠P->H b=some u->upd (upd (upd H P (.tbl (ps++more))) c' (yd_ q c')) h'.objs.size (FunO h'.objs.size fd) b=some u:=fun b u hb e=>by
  rw [qd_ (g b u e).2,qd_ (g b u e).1,qd_ hb];exact e
 have C:upd (upd (upd H P (.tbl (ps++more))) c' (yd_ q c')) h'.objs.size (FunO h'.objs.size fd) P=some (.tbl (ps++more)):=by
  rw [qd_ (g P _ hP).2,qd_ (g P _ hP).1];exact qc_
 refine I.step (g':=s.gens) (d':=s.drawn) (ch:=[]) (fun _ z=>nomatch z) (fun b o _ _ _ e n=>d b o (nP b n) e) (fun b o _ _ _ e n=>⟨o.slots,d b o (nP b n) e⟩) (fun b o _ e n=>?_) (fun b o _ e=>?_) (fun b xs e=>at_ b _ (fun z=>by rw [z,hP] at e;cases e) e) (fun b o u e=>at_ b _ (fun z=>by rw [z,hP] at e;cases e) e) (fun b E e=>?_) (fun m hm=>?_) (fun b u e=>?_) I.bare
 ·rw [qd_ (h b o e).2,qd_ (h b o e).1,qd_ (nP b n)]
  exact n
 ·by_cases z:b=P
  ·rw [z]
   exact ⟨_,bD _ ht⟩
  ·exact ⟨o,d b o z e⟩
 ·by_cases z:b=P
  ·subst z
   rw [hP] at e
   cases e;exact ⟨more,C⟩
  ·exact ⟨#[],by rw [at_ b _ z e];simp⟩
 ·obtain ⟨o,es,ep,ho,r⟩:=hm
  exact ⟨o,es,ep,d _ o (nP _ I.free) ho,r⟩
 ·by_cases z1:b=h'.objs.size
  ·rw [z1,qc_] at e
   cases e;rw [z1];exact qg6_ (bZ _ rfl)
  rw [qd_ z1] at e
  by_cases z2:b=c'
  ·rw [z2,qc_] at e
   cases e;rw [z2];refine qmm_ ?_;obtain ⟨B,o,vs,t,e1,e2,e3⟩:=cr;exact ⟨B,o,vs,t,e1,bD _ e2,e3⟩
  rw [qd_ z2] at e
  by_cases z3:b=P
  ·rw [z3,qc_] at e
   cases e;rw [z3];exact bD _ ht
  rw [qd_ z3] at e;refine (I.hok b u e).stay (fun c v hc q=>d c v ?_ q) (fun c q=>at_ c _ (fun z=>by rw [z,hP] at q;cases q) q) fun c xs q=>at_ c _ (fun z=>by rw [z,hP] at q;cases q) q
  rcases hc with z | z
  ·rw [z];exact z3
  ·exact fun y=>by rw [y,hP] at z;cases z
theorem Inv.fhit {h':Heap}{fd:FuncData}{tk:Nat} (I:Inv X pins σ H s) (x:∀ b o,s.heap.get? b=some o->h'.get? b=some o) (le':s.heap.objs.size<=h'.objs.size) :
  Inv X pins σ (upd H h'.objs.size (FunO h'.objs.size fd)) { s with heap:=h'.push { cls:=.type "function",data:=.func fd },toks:=tk } :=
 I.laid (t':=tk) (fun b u e=>bD _ (x b u e)) le' (qg6_ (bZ _ rfl))
inductive tFn (P:Addr) (pos:Pos) (q:Str) (mk:Value->Value->Value->Value->FuncData) (σ:St) (H:Hp) (Q:VK):Prop
 | mk:∀ ps,H P=some (.tbl ps)->TriplesOk ps.toList->(((codeAmong pos ps.toList=none/\∀ (c' fa:Addr) (doc pm ctv:Value),H c'=none->H fa=none->fa≠c'->Q (.ref fa) (upd (upd (upd H P (.tbl (ps ++ #[rawInt pos.line,rawInt pos.col,.ref c']))) c' (yd_ q c')) fa (FunO fa (mk doc pm (.ref c') ctv))))\/∃ c',codeAmong pos ps.toList=some (.ref c')/\H c'=some (yd_ q c')/\∀ (fa:Addr) (doc pm ctv:Value),H fa=none->Q (.ref fa) (upd H fa (FunO fa (mk doc pm (.ref c') ctv)))))->tFn P pos q mk σ H Q
theorem Inv.blt {P:Addr} (I:Inv X pins σ H s) (b:X.base.BuiltinsAt X.mg P):s.heap.BuiltinsAt X.mg P:=by
 obtain ⟨bm,o,e1,e2,e3,e4,e5,e6,e7,e8⟩:=b;exact ⟨bm,o,e1,e2,e3,e4,I.bk _ _ e5,e6,e7,e8⟩
theorem Inv.nsg (I:Inv X pins σ H s):s.heap.Ns mainGlobals X.mg:=by
 obtain ⟨o,es,ep,ho,r⟩:=I.mod.glob;exact ⟨o,es,ep,I.bk _ _ ho,r⟩
theorem qmn_ {c P:Addr}{name q:Str}{params:Arguments}{body:List Stmt}{scope:Scope}{pos:Pos}{ln:Nat}{clos:List (Str × Addr)}{Q:VK} (T:TabK X c P) (hcl:closureFor scope X.env=pure clos) (I:Inv X pins σ H s)
  (h:tFn P pos q (fun doc pm cdv ctv=>PySem.W.fnX name q params body scope clos .none .none doc pm none cdv ctv) σ H Q) :
  wpAny (model X.prog X.w) X.A (makeFunction name q params (.stmts body) scope X.env [] [] [] pos ln) (EP X pins σ Q) X.xe s:=by
 obtain ⟨ps,hP,tr,h⟩:=h
 have hd:=PySem.W.codeHd_of_K I.kIn T.hd
 have tb:s.heap.get? P=some (PySem.W.tabObj ps):=I.hok P _ hP;rcases h with ⟨hn,h⟩ | ⟨c',hs,hc,h⟩
 ·refine PySem.W.makeFunction_K hcl I.ok.glob I.nsg T.cd hd tb tr hn T.ne (I.blt T.blt) fun c' ctv doc h' tk x h1 h2 cr ht=>?_
  refine ⟨.ref h'.objs.size,_,I.fnew (more:=#[rawInt pos.line,rawInt pos.col,.ref c']) hP x h1 h2 cr ht,rfl,h c' h'.objs.size doc _ ctv (I.hok.fresh h1) (I.hok.fresh (bG h1 (du h2))) (eC h2)⟩
 ·refine PySem.W.makeFunction_hit hcl I.ok.glob I.nsg T.cd hd tb tr hs (I.blt T.blt) fun ctv doc h' tk x d=>?_
  exact ⟨.ref h'.objs.size,_,I.fhit x d,rfl,h h'.objs.size doc _ ctv (I.hok.fresh d)⟩
theorem qeg_ {c P:Addr}{name q:Str}{params:Arguments}{body:Expr}{scope:Scope}{pos:Pos}{ln:Nat}{clos:List (Str × Addr)}{Q:VK} (T:TabK X c P) (hcl:closureFor scope X.env=pure clos) (I:Inv X pins σ H s)
  (h:tFn P pos q (fun _ pm cdv ctv=>PySem.W.kla_fn name q params body scope clos pm cdv ctv) σ H Q) :
  wpAny (model X.prog X.w) X.A (makeFunction name q params (.expr body) scope X.env [] [] [] pos ln) (EP X pins σ Q) X.xe s:=by
 obtain ⟨ps,hP,tr,h⟩:=h
 have hd:=PySem.W.codeHd_of_K I.kIn T.hd
 have tb:s.heap.get? P=some (PySem.W.tabObj ps):=I.hok P _ hP;rcases h with ⟨hn,h⟩ | ⟨c',hs,hc,h⟩
 ·refine PySem.W.kla_makeFunction hcl I.ok.glob I.nsg T.cd hd tb tr hn T.ne (I.blt T.blt) fun c' ctv h' tk x h1 h2 cr ht=>?_
  refine ⟨.ref h'.objs.size,_,I.fnew (more:=#[rawInt pos.line,rawInt pos.col,.ref c']) hP x h1 h2 cr ht,rfl,h c' h'.objs.size .none _ ctv (I.hok.fresh h1) (I.hok.fresh (bG h1 (du h2))) (eC h2)⟩
 ·refine PySem.W.kla_makeFunctionHit hcl I.ok.glob I.nsg T.cd hd tb tr hs (I.blt T.blt) fun ctv h' tk x d=>?_
  exact ⟨.ref h'.objs.size,_,I.fhit x d,rfl,h h'.objs.size .none _ ctv (I.hok.fresh d)⟩
theorem qp3_ {c P:Addr}{i:Nat}{name:Str}{params:Arguments}{body:List Stmt}{scope:Scope}{pos:Pos}{clos:List (Str × Addr)} (T:TabK X c P) (hcl:closureFor scope X.env=pure clos) (hN:X.N.Nodup) (hi:X.N[i]?=some name) (hx:Loc X.env.scope name)
  (h1:defaultsOf params X.env=([],[]):=by rfl) (h2:annotationsOf (params.args++params.posonlyargs++params.vararg.toList++params.kwonlyargs++params.kwarg.toList) X.env=[]:=by rfl) (hf:X.fn name=true\/X.env.scope.names.lookup name=some .local:=by first | exact .inl rfl | exact .inr rfl) :
  PS X (.FunctionDef name params body [] none [] scope none name pos) (tAsg (tFn P pos (qualnameIn X.env name name) (fun d pm g l=>PySem.W.fnX name (qualnameIn X.env name name) params body scope clos .none .none d pm none g l)) (qR_ i)):=by
 intro r s σ H D I h;refine qml_ h1 h2 (thn (qmn_ T hcl I h) fun v s1 ⟨y,H1,I1,r1,q1⟩=>?_);exact zU_ I1 hN hi hx r1 (fun s2 I2=>⟨_,H1,I2,q1⟩) hf
end
def CelO (c:Addr) (v:V):HO:=.ext fun h=>∃ u,RelV v u/\h.IsCell c (some u)
def trC (cvs:List (Addr × V)) (H:Hp):Hp:=fun b=>match cvs.lookup b with
 | some v=>some (CelO b v)
 | none=>H b
def untr (cvs:List (Addr × V)) (H:Hp):Hp:=fun b=>match cvs.lookup b with
 | some _=>none
 | none=>H b
section
variable {cvs:List (Addr × V)}{H:Hp}{b:Addr}{v:V}
theorem vx_ (e:cvs.lookup b=some v):trC cvs H b=some (CelO b v):=by unfold trC;rw [e]
theorem jh_ (e:cvs.lookup b=none):trC cvs H b=H b:=by unfold trC;rw [e]
theorem yu_ (e:cvs.lookup b=some v):untr cvs H b=none:=by unfold untr;rw [e]
theorem q1_ (e:cvs.lookup b=none):untr cvs H b=H b:=by unfold untr;rw [e]
theorem qop_ {P:Program}{w:World}{h:Heap}{c:Addr}{u:Value} (r:RelV v u) (e:h.IsCell c (some u)):ObjOk P w H h c (CelO c v):=by
 obtain ⟨o,e1,e2⟩:=e;refine ⟨⟨u,r,o,e1,e2⟩,⟨o,e1⟩,fun h1 h2 ⟨u',r',o',d,g⟩ k=>⟨u',r',o',k _ d,g⟩⟩
theorem qg7_ {P:Program}{w:World}{h:Heap} (x:HOk P w H h) (free:∀ c v,cvs.lookup c=some v->H c=none) (cel:∀ c v,cvs.lookup c=some v->∃ u,RelV v u/\h.IsCell c (some u)):HOk P w (trC cvs H) h:=fun b o e=>by
 have out:∀ c u,H c=some u->cvs.lookup c=none:=fun c u e=>by
  cases q:cvs.lookup c with
  | none=>rfl
  | some v=>rw [free c v q] at e;cases e
 cases q:cvs.lookup b with
 | some v =>
  rw [vx_ q] at e
  cases e;obtain ⟨u,r,z⟩:=cel b v q;exact qop_ r z
 | none =>
  rw [jh_ q] at e;exact (x b o e).stay (fun _ _ _ z=>z) (fun c z=>by rw [jh_ (out c _ z)];exact z) fun c xs z=>by rw [jh_ (out c _ z)];exact z
theorem qmo_ {P:Program}{w:World}{h:Heap} (x:HOk P w H h) (cel:∀ c v,cvs.lookup c=some v->H c=some (CelO c v)):HOk P w (untr cvs H) h:=fun b o e=>by
 cases q:cvs.lookup b with
 | some v=>rw [yu_ q] at e;cases e
 | none =>
  rw [q1_ q] at e;refine (x b o e).stay (fun _ _ _ z=>z) (fun c z=>?_) fun c xs z=>?_
  ·cases q2:cvs.lookup c with
   | none=>rw [q1_ q2];exact z
   | some v=>rw [cel c v q2] at z;cases z
  ·cases q2:cvs.lookup c with
   | none=>rw [q1_ q2];exact z
   | some v=>rw [cel c v q2] at z;cases z
end
structure yv_ (N P:List Str) (sc:Scope):Prop where
 kind:sc.kind=.function
 co:sc.isCoroutine=false
 gen:sc.isGenerator=false
 nd:N.Nodup
 pre:N.take P.length=P
 par:∀ x∈P,sc.names.lookup x=some .local
 nocell:∀ y∈sc.names,y.2≠.cell
def envC (q:Str) (scope:Scope) (L fa:Addr) (cd:Value) (clos:List (Str × Addr)):Env:=newEnv scope L mainGlobals clos (q++Str.ofString ".<locals>.") (some fa) cd none builtinsNs
def cxC (P:Program) (w:World) (K:PySem.W.Frag) (mg:Str->Option Value) (base:Heap) (N:List Str) (env:Env) (A:Around) (outer:List Env) (s:Shared) (H:Hp):Cx where
 prog:=P
 w:=w
 K:=K
 mg:=mg
 base:=base
 A:=A.deeper env
 N:=N
 s₀:=s
 H₀:=H
 env:=env
 outer:=outer
 stack:=env :: outer
 ex:=[]
 calm:=true
 fn:=fun _=>false
 pn:=[]
 xe:=fun _ _=>False
def qnz_ (ps:List Str) (vs:List V) (scope:Scope) (clos:List (Str × Addr)) (cvs:List (Addr × V)) (N:List Str) (σ:St):Prop :=
 σ.length=N.length/\∀ (i:Nat) (x:Str) (v:V),N[i]?=some x->σ[i]?=some (some v)->(ps[i]?=some x/\vs[i]?=some v)\/(scope.names.lookup x=some .free/\∃ c,clos.lookup x=some c/\cvs.lookup c=some v)
structure Clos (scope:Scope) (clos:List (Str × Addr)) (cvs:List (Addr × V)) (H:Hp):Prop where
 inj:∀ x y c,clos.lookup x=some c->clos.lookup y=some c->x=y
 has:∀ x,scope.names.lookup x=some .free->∃ c,clos.lookup x=some c
 val:∀ x c,clos.lookup x=some c->∃ v,cvs.lookup c=some v
 at_:∀ c v,cvs.lookup c=some v->H c=some (CelO c v)
section
variable {P:Program}{w:World}{K:PySem.W.Frag}{mg:Str->Option Value}{base:Heap}{A:Around}{outer:List Env}{s:Shared}{H:Hp}{N ps:List Str}{scope:Scope}{fa:Addr}{q:Str}{cd:Value}{clos:List (Str × Addr)}{cvs:List (Addr × V)}{vs:List V}{us:List Value}{σ0:St}{h':Heap}{tk:Nat}
theorem qg8_:∀ {ps:List Str}{us:List Value}{i:Nat}{x:Str}{u:Value},ps.Nodup->ps[i]?=some x->us[i]?=some u->(ps.zip us).reverse.lookup x=some u
 | ps,us,i,x,u,nd,e1,e2=>by
  have hm:(x,u)∈(ps.zip us).reverse:=List.mem_reverse.mpr (bO (i:=i) (List.getElem?_zip_eq_some (z:=(x,u)).mpr ⟨e1,e2⟩))
  have uq:∀ v,(x,v)∈(ps.zip us).reverse->v=u:=fun v hv=>by
   obtain ⟨j,hj⟩:=List.getElem?_of_mem (List.mem_reverse.mp hv);obtain ⟨j1,j2⟩:=List.getElem?_zip_eq_some.mp hj
   have:i=j:=uv_ nd e1 j1;subst this;rw [e2] at j2;exact (bM j2).symm
  generalize (ps.zip us).reverse=l at hm uq
  induction l with
  | nil=>exact absurd hm ca
  | cons p l ih =>
   obtain ⟨y,v⟩:=p;rw [cu]
   by_cases e:x=y
   ·subst e
    simp only [dY];rw [uq v cF]
   ·have:(x == y)=false:=cP.mpr e
    rw [this];refine ih ?_ fun v hv=>uq v (cz _ hv);rcases bL.mp hm with z | z
    ·exact absurd (Prod.mk.inj z).1 e
    ·exact z
theorem qoq_ (S:yv_ N ps scope) (hd:A.handled=none) (e0:Env0 P w K mg base A outer s H) (r:Vals vs us) (C:Clos scope clos cvs H) (h0:qnz_ ps vs scope clos cvs N σ0)
  (hn:h'.Ns s.heap.objs.size fun x=>(ps.zip us).reverse.lookup x) (hs:Heap.SameBut s.heap.objs.size (s.heap.push { cls:=.type "frame",data:=.dict #[] }) h') :
  Inv (cxC P w K mg base N (envC q scope s.heap.objs.size fa cd clos) A outer s (untr cvs H)) [] σ0 (untr cvs H) { s with heap:=h',toks:=tk }:=by
 have hk:∀ b o,s.heap.get? b=some o->h'.get? b=some o:=fun b o e=>by
  rw [hs.2 b (bP (bJ e))];exact bD _ e
 have h:∀ b:Addr,b∉([]:List Addr):=fun b=>ca
 have g:∀ x c,clos.lookup x=some c->∃ v u,cvs.lookup c=some v/\RelV v u/\s.heap.IsCell c (some u):=fun x c e=>by
  obtain ⟨v,hv⟩:=C.val x c e;obtain ⟨⟨u,r,z⟩,_⟩:=(show ObjOk P w H s.heap c (CelO c v) from e0.hok c _ (C.at_ c v hv));exact ⟨v,u,hv,r,z⟩
 have ik:∀ {c u},s.heap.IsCell c (some u)->h'.IsCell c (some u):=fun ⟨o,e1,e2⟩=>⟨o,hk _ _ e1,e2⟩
 refine ⟨⟨e0.mod,S.kind,rfl,rfl,bF _,C.inj,fun x hx=>?_,(fun x c z=>Bool.noConfusion z),fun _=>hd,Around.frames_deeper e0.frames,.inr ⟨rfl,rfl⟩,fun b z=>absurd z (h b),fun b o e=>⟨(e0.bs b o e).1,?_⟩,e0.bsz,fun b _ _=>h b,fun b z=>absurd z (h b),e0.funs,fun b hb=>?_⟩,
  rfl,e0.bare,Un.kept hk,⟨_,hn,fun i x v h1 h2 h3=>?_⟩,fun x c e=>?_,?_,fun x c e=>?_,fun p hp=>absurd (show p∈([]:List (Addr × Obj)) from hp) (by simp),(qmo_ e0.hok C.at_).kept hk,h0.1⟩
 ·rcases hx with hx | hx
  ·exact absurd rfl (S.nocell _ (cQ (show scope.names.lookup x=some .cell from hx)))
  ·exact C.has x hx
 ·have:=(e0.bs b o e).2
  cases z:cvs.lookup b with
  | none=>exact (q1_ z).trans this
  | some v=>exact yu_ z
 ·have:=e0.frf b hb
  cases z:cvs.lookup b with
  | none=>exact (q1_ z).trans this
  | some v=>exact yu_ z
 ·rcases h0.2 i x v h1 h2 with ⟨hp,hv⟩ | ⟨hf,c,hc,hv⟩
  ·obtain ⟨u,hu,rv⟩:=r.get hv
   have l:ps.Nodup:=by rw [<- S.pre];exact S.nd.sublist (fz _ _)
   exact ⟨u,rv,.inl ⟨S.par x (bO hp),qg8_ l hp hu⟩⟩
  ·obtain ⟨v',u,d,ru,z⟩:=g x c hc
   rw [hv] at d
   cases d;exact ⟨u,ru,.inr ⟨.inr hf,c,hc,ik z⟩⟩
 ·obtain ⟨v',u,d,ru,z⟩:=g x c e
  exact ⟨_,ik z⟩
 ·have:=e0.hok.fresh (bF _)
  show untr cvs H s.heap.objs.size=none
  cases z:cvs.lookup s.heap.objs.size with
  | none=>exact (q1_ z).trans this
  | some v=>exact yu_ z
 ·obtain ⟨v',u,d,_⟩:=g x c e
  exact yu_ d
theorem qg9_ {s':Shared}{H':Hp}{σ':St}{env:Env}{v:V}{u:Value}{Q:VK} (C:Clos scope clos cvs H) (e0:Env0 P w K mg base A outer s H) (J:Inv (cxC P w K mg base N env A outer s (untr cvs H)) [] σ' H' s') (rv:RelV v u) (hq:Q v (trC cvs H')):CE outer P w H s Q u s':=by
 have B:Un (frs outer) [] (untr cvs H) H' s.heap s'.heap:=J.base
 have g:∀ b,(∀ v,H b≠some (CelO b v))->cvs.lookup b=none:=fun b hb=>by
  cases z:cvs.lookup b with
  | none=>rfl
  | some v=>exact absurd (C.at_ b v z) (hb v)
 have d:∀ b,H b=none->cvs.lookup b=none:=fun b hb=>g b fun v z=>by rw [hb] at z;cases z
 have h:∀ b:Addr,b∉([]:List Addr):=fun b=>ca
 have l:∀ c v,cvs.lookup c=some v->c∉frs outer:=fun c v e z=>by
  have:=e0.frf c z;rw [C.at_ c v e] at this
  cases this
 have cell:∀ c v,cvs.lookup c=some v->H' c=none/\∃ u,RelV v u/\s'.heap.IsCell c (some u):=fun c v e=>by
  obtain ⟨⟨u,r,o,e1,e2⟩,_⟩:=(show ObjOk P w H s.heap c (CelO c v) from e0.hok c _ (C.at_ c v e));exact ⟨B.free c o e1 (yu_ e) (h c),u,r,o,B.keep c o e1 (yu_ e) (l c v e) (h c),e2⟩
 refine ⟨v,trC cvs H',J.os,J.bare,⟨fun b o e n hb hx=>?_,fun b o e n hb hx=>?_,fun b o e n hx=>?_,fun b o e hx=>B.there b o e hx,fun b xs e=>?_,fun b o x e=>?_,fun b ps e=>?_⟩,qg7_ J.hok (fun c v e=>(cell c v e).1) (fun c v e=>(cell c v e).2),rv,hq⟩
 ·exact B.keep b o e ((q1_ (d b n)).trans n) hb hx
 ·exact B.slot b o e ((q1_ (d b n)).trans n) hb hx
 ·exact (jh_ (d b n)).trans (B.free b o e ((q1_ (d b n)).trans n) hx)
 ·have z:=g b fun v y=>by rw [e] at y;cases y
  exact (jh_ z).trans (B.tups b xs ((q1_ z).trans e))
 ·have z:=g b fun v y=>by rw [e] at y;cases y
  exact (jh_ z).trans (B.frzs b o x ((q1_ z).trans e))
 ·have z:=g b fun v y=>by rw [e] at y;cases y
  obtain ⟨more,y⟩:=B.tbls b ps ((q1_ z).trans e);exact ⟨more,(jh_ z).trans y⟩
theorem qor_ {k:Nat}{name:Str}{params:Arguments}{body:List Stmt}{doc pm ctv:Value}{c':Addr}{Q:VK}{E:XK}{t:TS} (S:yv_ N ps scope) (hr:Room (k+1) A) (e0:Env0 P w K mg base A outer s H) (r:Vals vs us)
  (hf:H fa=some (FunO fa (PySem.W.fnX name q params body scope clos .none .none doc pm none (.ref c') ctv))) (hc:H c'=some (yd_ q c')) (hb:bindArgs (PySem.W.fnX name q params body scope clos .none .none doc pm none (.ref c') ctv) ⟨us,[]⟩=pure (ps.zip us))
  (C:Clos scope clos cvs H) (h0:qnz_ ps vs scope clos cvs N σ0)
  (ht:PSs (cxC P w K mg base N (envC q scope s.heap.objs.size fa (.ref c') clos) A outer s (untr cvs H)) body t) (hq:t { nx:=fun _ H'=>Q .non (trC cvs H'),rt:=fun v H'=>Q v (trC cvs H') } σ0 (untr cvs H)) :
  codeAny (model P w) A (.call (.ref fa) ⟨us,[]⟩) (CR CX0 outer P w H s Q E) s:=by
 have h:s.heap.NoLimit:=e0.mod.nolimit.keeps fun b o e=>(e0.bs b o e).1
 have ho:s.heap.get? fa=some { cls:=.type "function",data:=.func (PySem.W.fnX name q params body scope clos .none .none doc pm none (.ref c') ctv) }:=(e0.hok fa _ hf).1
 have g:s.heap.CodeRec (.ref c') q:=(e0.hok c' _ hc).1;refine codeAny_call_function hr.depth ho rfl S.co S.gen rfl g ?_;rw [hb];refine c7 ?_;refine wpAny_newFunctionEnv S.nocell (fun x hx=>S.par x.1 (fm hx).1) (fun h' hn hs=>?_) S.kind
 have hk:∀ b o,s.heap.get? b=some o->h'.get? b=some o:=fun b o e=>by
  rw [hs.2 b (bP (bJ e))];exact bD _ e
 refine ⟨h.keeps hk,codeAny_func ?_⟩
 have I:=qoq_ (q:=q) (fa:=fa) (cd:=.ref c') (tk:=s.toks+(ps.zip us).length) S hr.hd e0 r C h0 hn hs;refine d7 (ht [] _ σ0 _ _ I hq) (fun fl s' d=>?_) fun e s' d=>False.elim d
 cases fl with
 | ret u =>
  obtain ⟨v,σ',H',J,rv,q⟩:=d;exact qg9_ C e0 J rv q
 | next =>
  obtain ⟨σ',H',J,q⟩:=d;exact qg9_ (v:=V.non) (u:=Value.none) C e0 J rfl q
 | brk =>
  obtain ⟨_,_,_,q⟩:=d;exact False.elim q
 | cont =>
  obtain ⟨_,_,_,q⟩:=d;exact False.elim q
end
abbrev TR:=(V->St->Hp->Prop)->St->Hp->Prop
def PSR (X:Cx) (body:List Stmt) (t:TR):Prop:=∀ (pins:List (Addr × Obj)) (s:Shared) (σ:St) (H:Hp) (R:V->St->Hp->Prop),Inv X pins σ H s->t R σ H →
 wpAny (model X.prog X.w) X.A (execs body X.env) (fun f s'=>∃ v σ' H' u,f=.ret u/\Inv X pins σ' H' s'/\RelV v u/\R v σ' H') X.xe s
def tRC (t:TS) (u:TR):TR:=fun R σ H=>t { nx:=u R,rt:=fun _ _=>False } σ H
def tRR (te:TE):TR:=fun R σ H=>te σ H fun v H'=>R v σ H'
section
variable {X:Cx}{st:Stmt}{rest:List Stmt}{t:TS}{u:TR}{e:Expr}{te:TE}{pos:Pos}
theorem qmp_ (h1:PS X st t) (h2:PSR X rest u):PSR X (st :: rest) (tRC t u):=by
 intro d s σ H R I h;refine wpAny_execs_cons (thn (h1 d s σ H { nx:=u R,rt:=fun _ _=>False } I h) fun f s1 q=>?_)
 cases f with
 | next =>
  obtain ⟨σ',H',I',q⟩:=q;exact h2 d s1 σ' H' R I' q
 | ret v=>obtain ⟨_,_,_,_,_,q⟩:=q;exact False.elim q
 | brk=>obtain ⟨_,_,_,q⟩:=q;exact False.elim q
 | cont=>obtain ⟨_,_,_,q⟩:=q;exact False.elim q
theorem qos_ (he:PE X e te):PSR X [.Return (some e) pos] (tRR te):=by
 intro d s σ H R I h;refine wpAny_execs_cons (wpAny_Return_some (thn (he d s σ H _ I h) fun v s1 ⟨x,H1,I1,r1,q1⟩=>?_));exact ⟨x,σ,H1,v,rfl,I1,r1,q1⟩
end
def qkh_ (N:List Str) (scope:Scope) (cs:List (Str × Addr)) (σ:St) (cvs:List (Addr × V)):Prop:=∀ c v,cvs.lookup c=some v->∃ (i:Nat) (y:Str),N[i]?=some y/\σ[i]?=some (some v)/\cs.lookup y=some c/\scope.names.lookup y=some .cell
section
variable {P:Program}{w:World}{K:PySem.W.Frag}{mg:Str->Option Value}{base:Heap}
end
abbrev SpV:=V->List V->Hp->VK->Prop
def qac_ (P:Program) (w:World) (K:PySem.W.Frag) (mg:Str->Option Value) (base:Heap) (k:Nat) (sp:SpV):Prop :=
 ∀ (A:Around) (outer:List Env) (s:Shared) (H:Hp) (f:V) (us:List Value) (vs:List V) (Q:VK),Room k A->Env0 P w K mg base A outer s H->Vals vs us->sp f vs H Q →
  ∃ fa fd,f=.ref fa/\H fa=some (FunO fa fd)/\codeAny (model P w) A (.call (.ref fa) ⟨us,[]⟩) (CR CX0 outer P w H s Q E0) s
section
variable {X:Cx}{k:Nat}{sp:SpV}{x m:Str}{p pos apos:Pos}{e o:Expr}{es:List Expr}{ta:TE}{t:TA}{i:Nat}{pins:List (Addr × Obj)}{σ:St}{H:Hp}{s:Shared}{Q:VK}{us:List Value}{vs:List V}{f:V}
theorem qot_ {u:Value} (F:qac_ X.prog X.w X.K X.mg X.base k sp) (hr:Room k X.A) (I:Inv X pins σ H s) (rf:RelV f u) (r:Vals vs us) (h:sp f vs H Q) :
  ∃ fa ob fd,u=.ref fa/\s.heap.get? fa=some ob/\ob.data=.func fd/\wpAny (model X.prog X.w) X.A (call (.ref fa) us) (EP X pins σ Q) X.xe s:=by
 obtain ⟨fa,fd,rfl,hf,hc⟩:=F X.A X.stack s H f us vs Q hr I.env0 r h;obtain rfl:u=.ref fa:=rf;refine ⟨fa,_,fd,rfl,(I.hok fa _ hf).1,rfl,?_⟩;refine wpAny_call (fA hc fun r s' hq=>?_)
 cases r with
 | error e=>exact False.elim hq
 | ok fl =>
  cases fl with
  | ret u=>exact I.after hq
  | next=>exact False.elim hq
  | brk=>exact False.elim hq
  | cont=>exact False.elim hq
inductive qeh_ (K:PySem.W.Frag) (m:Str) (sp:SpV) (t:TA) (σ:St) (Q:VK) (x:V) (H1:Hp):Prop
 | mk:∀ a C dx fs fa fd,x=.ref a->H1 a=some (.ins C dx fs)->Cls K C->NoAttr K C m->fs.lookup m=some (.ref fa)->H1 fa=some (FunO fa fd)->(t σ H1 fun vs H2=>H2 fa=some (FunO fa fd)/\sp (.ref fa) vs H2 Q)->qeh_ K m sp t σ Q x H1
def qp4_ (K:PySem.W.Frag) (m:Str) (sp:SpV) (ta:TE) (t:TA):TE:=fun σ H Q=>ta σ H fun x H1=>qeh_ K m sp t σ Q x H1
theorem qmq_ {pl:Sem Bool} (F:qac_ X.prog X.w X.K X.mg X.base k sp) (hr:Room k X.A) (ho:PE X o ta) (ha:PA X (e :: es) t) (he:starEach (e :: es) X.env=(false,eval e X.env) :: starEach es X.env:=by rfl)
  (ht:eval (.Call (.Attribute o m apos) (e :: es) [] pos) X.env=(do
   let ov ← eval o X.env
   standAt apos.atName
   let (f,first) ← holding [ov] (getMethod ov m pl)
   callWith pos f first (backTo pos (starEach (e :: es) X.env)) (backToKw pos (keywordEach [] X.env))):=by rfl) :
  PE X (.Call (.Attribute o m apos) (e :: es) [] pos) (qp4_ X.K m sp ta t):=by
 intro d s σ H Q I h;refine PySem.W.methodCall_KW (pl:=pl) (thn (ho d s σ H _ I h) fun u s1 ⟨x,H1,I1,rx,a,C,dx,fs,fa,fd,ex,ea,cl,na,l,hf,q⟩=>?_) ht;subst ex;obtain rfl:u=Value.ref a:=rx;obtain ⟨mA,O,_⟩:=vY_ I1.hok ea;obtain ⟨od,J,_⟩:=O.look;refine PySem.W.method_usual I1.kIn J (eQ (cl.get m)).1 (eQ (cl.get m)).2 na rfl ?_;refine uX_ I1 ea cl na l fun u2 s2 I2 ru=>?_;obtain rfl:u2=Value.ref fa:=ru
 refine callWith_def (fd:=fd) (o:={ cls:=.type "function",data:=.func fd }) rfl (thn (ha pos d s2 σ H1 _ I2 q) fun us s3 ⟨vs,H2,I3,r,g,q2⟩=>?_) he
 obtain ⟨D,ob,B,e1,e2,e3,e4⟩:=qot_ (f:=.ref fa) (u:=.ref fa) F hr I3 rfl r q2
 cases e1;exact ⟨(I3.hok fa _ g).1,e4⟩
end
theorem qki_ {P:Program}{w:World}{K:PySem.W.Frag}{mg mb:Str->Option Value}{CX:CXT}{k:Nat}{fa a:Addr}{fd:FuncData}{x:Str}{sp:Sp}{s₁:Shared}{vs:List Value}{ns:List Int}{ts:List Addr}
  (KX:K.In s₁.heap) (hns:s₁.heap.Ns mainGlobals mg) (hb:s₁.heap.Ns builtinsNs mb) (hbb:∀ x:Str,x ≠ "__name__" → mb x=bootBuiltins x) (hlim:s₁.heap.NoLimit) (hg:s₁.gens = #[])
  (ha:s₁.heap.get? a=some { cls:=.type "list",data:=.seq vs.toArray }) (hi:IntsAre vs ns) (hl:ns.length≤sizeLine) (hr:Room k callerA)
  (hT:∀ p∈ts,s₁.heap.get? p=some (PySem.W.tabObj #[])) (hTK:∀ p∈ts,K.lookup p=none) (hTc:∀ p∈ts,∃ c,PySem.W.codeHdIn K c p=true)
  (hbm:∃ bm ob,mg "__builtins__" = some (.ref bm)∧bm≠builtinsNs∧s₁.heap.get? bm=some ob∧ob.cls=.type "module" ∧ ob.dict=some builtinsNs∧ob.data=.plain)
  (F:∀ base:Heap,K.In base->base.Ns mainGlobals mg->(∀ p∈ts,mainGlobals≠p/\base.BuiltinsAt mg p)->FnOk P w K mg base CX k fa fd [x] sp) (hbind:∀ (s:Shared) (u:Value),BindsTo s fd ⟨[u],[]⟩ [(x,u)])
  (hsp:∀ H:Hp,SqL K H a (ns.map V.int)->(∀ p∈ts,H p=some (.tbl #[]))->sp [.ref a] H (fun v _=>v=.bl true) fun _ _ _=>False)
  (hCX:∀ H e s',CX [] H s₁ (fun _ _ _=>False) e s'->False) :
  codeAny (model P w) callerA (.call (.ref fa) ⟨[.ref a],[]⟩) (fun r s'=>r=.ok (.ret (.bool true))/\OldK s₁.heap s'.heap/\s'.os=s₁.os/\AllBare s'.gens) s₁:=by
 have rv:=qbw_ hi
 have I:=hi.length
 have aT:a∉ts:=fun z=>by
  have:=hT a z;rw [ha] at this
  cases this
 have B:∀ H:Hp,(∀ b,b∉ts->H b=none\/∃ o xs,H b=some (.frz o (.lst xs)))->(∀ p∈ts,H p=some (.tbl #[]))->SqL K H a (ns.map V.int)->HOk P w H s₁.heap->(∀ b,H b≠none->b=a\/b∈ts)->(H a≠none->K.lookup a=none) →
   codeAny (model P w) callerA (.call (.ref fa) ⟨[.ref a],[]⟩) (fun r s'=>r=.ok (.ret (.bool true))/\OldK s₁.heap s'.heap/\s'.os=s₁.os/\AllBare s'.gens) s₁:=by
  intro H hO E hS hok hA hK
  have g:∀ {b:Addr}{o:Obj},s₁.heap.get? b=some o->H b=none->(hidT s₁.heap H).get? b=some o:=fun e n=>ql6_ e n
  have J:∀ {b:Addr}{o:Obj}{es:Array DictEntry}{ep:Nat},s₁.heap.get? b=some o->o.data=.dict es ep->H b=none:=fun {b o es ep} e d=>by
   cases q:H b with
   | none=>rfl
   | some u =>
    rcases hA b (by rw [q];simp) with e' | e'
    ·subst e'
     rw [ha] at e;cases e
     have d':Data.seq vs.toArray _=Data.dict es ep:=d
     cases d'
    ·rw [hT b e'] at e;cases e
     cases d
  have l:∀ {b:Addr}{m:Str->Option Value},s₁.heap.Ns b m->(hidT s₁.heap H).Ns b m:=fun {b m} ⟨o,es,ep,e,d,r⟩=>⟨o,es,ep,g e (J e d),d,r⟩
  have G:K.In (hidT s₁.heap H):=fun b o e=>g (KX b o e) (by
   cases q:H b with
   | none=>rfl
   | some u =>
    rcases hA b (by rw [q];simp) with e' | e'
    ·subst e'
     rw [hK (by rw [q];simp)] at e;cases e
    ·rw [hTK b e'] at e;cases e)
  have hM:Mod K mg (hidT s₁.heap H):=⟨G,l hns,⟨mb,l hb,hbb⟩,let ⟨mc,h1,h2⟩:=hlim;⟨mc,l h1,h2⟩⟩
  have e0:Env0 P w K mg (hidT s₁.heap H) callerA [] s₁ H:=⟨rfl,hM,fun b o e=>qn9_ e,Nat.le_of_eq (qjl_ _ _),trivial,fun b hb=>absurd (show b∈([]:List Addr) from hb) (by simp),hok,.of_eq hg⟩
  have O:∀ p∈ts,mainGlobals≠p/\(hidT s₁.heap H).BuiltinsAt mg p:=fun p hp=>by
   refine ⟨fun z=>?_,?_⟩
   ·obtain ⟨o,es,ep,ho,hd,_⟩:=hns
    rw [z,hT p hp] at ho
    cases ho
    cases hd
   obtain ⟨bm,ob,b1,b2,b3,b4,b5,b6⟩:=hbm;refine ⟨bm,ob,b1,b2,fun z=>?_,fun z=>?_,g b3 ?_,b4,b5,b6⟩
   ·obtain ⟨o,es,ep,ho,hd,_⟩:=hns
    rw [z,ho] at b3
    cases b3;rw [b6] at hd
    cases hd
   ·rw [z,hT p hp] at b3
    cases b3
    cases b6
   ·cases q:H bm with
    | none=>rfl
    | some u =>
     rcases hA bm (by rw [q];simp) with e' | e'
     ·rw [e',ha] at b3
      cases b3
      cases b6
     ·rw [hT bm e'] at b3
      cases b3
      cases b6
  refine fA ((F _ G (l hns) O).run callerA [] s₁ H ⟨[.ref a],[]⟩ [.ref a] [.ref a] _ _ hr e0 (hbind s₁ (.ref a)) (.cons rfl .nil) (hsp H hS E)) fun r s' h=>?_
  cases r with
  | error e=>exact (hCX H e s' h).elim
  | ok fl =>
   cases fl with
   | next=>exact False.elim h
   | brk=>exact False.elim h
   | cont=>exact False.elim h
   | ret u =>
    obtain ⟨v,H',os,bare,un,C,r',q⟩:=h
    have q':v=.bl true:=q;subst q';obtain rfl:u=Value.bool true:=r';refine ⟨rfl,⟨fun b o e=>?_,fun b o e=>un.there b o e (by simp)⟩,os,bare⟩
    by_cases hb:b∈ts
    ·obtain ⟨more,z⟩:=un.tbls b _ (E b hb)
     have z2:s'.heap.get? b=some _:=C b _ z;rw [hT b hb] at e
     cases e;obtain ⟨cc,L⟩:=hTc b hb;exact .inr (.inl ⟨((PySem.W.codeHd_of_K KX L).tab (hT b hb)).isCodeTable,rfl,#[],more,rfl,z2⟩)
    refine .inl ?_
    cases q:H b with
    | none=>exact un.keep b o e q (by intro z;exact absurd (show b∈([]:List Addr) from z) (by simp)) (by simp)
    | some u =>
     rcases hO b hb with z | ⟨ob,xs,z⟩
     ·rw [q] at z;cases z
     ·have z2:=un.frzs b ob _ z
      obtain ⟨e1,_⟩:=hok b _ z;obtain ⟨e2,_⟩:=C b _ z2;rw [e] at e1;cases e1;exact e2
 have tab:∀ (H:Hp) b,b∈ts->ObjOk P w H s₁.heap b (.tbl #[]):=fun H b hb=>hT b hb
 cases hk:K.lookup a with
 | some o =>
  have e:=KX a o hk;rw [ha] at e
  cases e;refine B (fun b=>if b∈ts then some (.tbl #[]) else none) (fun b hb=>.inl (if_neg hb)) (fun p hp=>if_pos hp) (.inr ⟨_,vs.toArray,_,hk,rfl,rfl,rfl,by rw [bX,I];exact hl,by simpa using rv⟩) (fun b u z=>?_) (fun b z=>?_) fun z=>absurd (if_neg aT) z
  ·by_cases hb:b∈ts
   ·have z':=(if_pos hb).symm.trans z
    cases z';exact tab _ b hb
   ·have z':=(if_neg hb).symm.trans z
    cases z'
  ·by_cases hb:b∈ts
   ·exact .inr hb
   ·exact absurd (if_neg hb) z
 | none =>
  refine B (fun b=>if b∈ts then some (.tbl #[]) else if b=a then some (.frz { cls:=.type "list",data:=.seq vs.toArray } (.lst (ns.map V.int))) else none) (fun b hb=>?_) (fun p hp=>if_pos hp) (.inl (.inr ⟨{ cls:=.type "list",data:=.seq vs.toArray },(if_neg aT).trans (if_pos rfl)⟩)) (fun b u z=>?_) (fun b z=>?_) fun _=>hk
  ·by_cases hb2:b=a
   ·exact .inr ⟨_,_,(if_neg hb).trans (if_pos hb2)⟩
   ·exact .inl ((if_neg hb).trans (if_neg hb2))
  ·by_cases hb:b∈ts
   ·have z':=(if_pos hb).symm.trans z
    cases z';exact tab _ b hb
   ·have z':=(if_neg hb).symm.trans z
    by_cases hb2:b=a
    ·have D:=(if_pos hb2).symm.trans z'
     cases D;subst hb2;exact ⟨ha,by rw [b9];exact hl,vs,_,rv,ha⟩
    ·have D:=(if_neg hb2).symm.trans z'
     cases D
  ·by_cases hb:b∈ts
   ·exact .inr hb
   ·by_cases hb2:b=a
    ·exact .inl hb2
    ·exact absurd ((if_neg hb).trans (if_neg hb2)) z
theorem walk_ofT {l:PySem.W.OpenLaw}{n k:Nat}{q:Program}{loose:List Str}{XP:(Str->Option Value)->Heap->Prop}{YP:World->Heap->Prop}{d:DefRec}{K:Params->PySem.W.Frag}{CX:World->CXT}{sp:World->Sp}{x:Str}{ts:List Addr}
  (hn:l.most=some n) (hn2:n<=sizeLine) (hdf:d.params.defaults=[]) (hr:Room k callerA)
  (hY:∀ (w:World) (h:Heap),YP w h->(K w.params).In h/\∀ p∈ts,h.get? p=some (PySem.W.tabObj #[]))
  (F:∀ (w:World) (mg:Str->Option Value) (fa:Addr) (h:Heap),(K w.params).In h->h.Ns mainGlobals mg->mg d.name=some (.ref fa) →
   ∃ fd:FuncData,(∀ (s:Shared) (u:Value),BindsTo s fd ⟨[u],[]⟩ [(x,u)])/\(∀ p∈ts,(K w.params).lookup p=none)/\(∀ p∈ts,∃ c,PySem.W.codeHdIn (K w.params) c p=true) ∧
    ∀ base:Heap,(K w.params).In base->base.Ns mainGlobals mg->(∀ p∈ts,mainGlobals≠p/\base.BuiltinsAt mg p)->FnOk l.prog w (K w.params) mg base (CX w) k fa fd [x] (sp w))
  (hsp:∀ (w:World) (H:Hp) (a:Addr) (ns:List Int),ns.length<=n->SqL (K w.params) H a (ns.map V.int)->(∀ p∈ts,H p=some (.tbl #[]))->sp w [.ref a] H (fun v _=>v=.bl true) fun _ _ _=>False)
  (hCX:∀ (w:World) (H:Hp) (s:Shared) (e:Value) (s':Shared),CX w [] H s (fun _ _ _=>False) e s'->False) :
  PySem.W.WalkO q loose XP YP l.row.toRowW d [] (fun f vs=>PySem.call f vs):=by
 refine Att.attach_call hn hdf fun w s₀ s₁ mg mb fa o pm cd L a vs ns G Y ho hd O E C B r hg=>?_;obtain ⟨KX,hT⟩:=hY w _ Y;obtain ⟨fd,hb,J,I,hF⟩:=F w mg fa _ KX G.T.g E;exact qki_ KX G.T.g G.T.b G.T.builtins G.T.nolimit hg C B (bG r hn2) hr hT J I G.T.bmain hF hb (fun H hS D=>hsp w H a ns r hS D) fun H e s'=>hCX w H s₁ e s'
end L2
namespace L2
open PySem PySem.W PyProof.Rows
section
variable {α β:Type}{n:Nat}{lt:Nat->Nat->Bool}
def KWl (n:Nat) (lt:Nat->Nat->Bool):KasT α->(α->Prop)->Prop
 | .ret a,Q=>Q a
 | .ask i j k,Q=>i < n/\j < n/\KWl n lt (k (lt i j)) Q
theorem KWl.bind {f:α->KasT β}{Q:β->Prop}:∀ (t:KasT α),KWl n lt t (fun a=>KWl n lt (f a) Q)->KWl n lt (t.bind f) Q
 | .ret _,h=>h
 | .ask _ _ k,h=>⟨h.1,h.2.1,KWl.bind (k _) h.2.2⟩
theorem KWl.mono {Q Q':α->Prop} (hq:∀ a,Q a->Q' a):∀ (t:KasT α),KWl n lt t Q->KWl n lt t Q'
 | .ret a,h=>hq a h
 | .ask _ _ k,h=>⟨h.1,h.2.1,KWl.mono hq (k _) h.2.2⟩
theorem KWl.wp {cmp:Nat->Nat->(Bool->Shared->Prop)->Shared->Prop}{R:α->Shared->Prop}{s:Shared} (hc:∀ i j (C:Bool->Shared->Prop),i < n->j < n->C (lt i j) s->cmp i j C s):∀ (t:KasT α),KWl n lt t (fun a=>R a s)->t.kasWp cmp R s
 | .ret _,h=>h
 | .ask i j k,h=>hc i j _ h.1 h.2.1 (KWl.wp hc (k (lt i j)) h.2.2)
end
structure Pm (n:Nat) (p:Array Nat):Prop where
 pm:p.Perm (List.range n).toArray
section
variable {n:Nat}{p:Array Nat}{z:Nat->Int}
theorem Pm.size (h:Pm n p):p.size=n:=by rw [h.pm.size_eq];simp
theorem Pm.lt (h:Pm n p) (hn:0 < n) (i:Nat):p.getD i 0 < n:=by
 by_cases hi:i < p.size
 ·have e:p.getD i 0=p[i]:=by simp [Array.getD,hi]
  rw [e]
  have:=(Array.perm_iff_toList_perm.mp h.pm).mem_iff.mp (show p[i]∈p.toList by simp)
  simpa using this
 ·have e:p.getD i 0=0:=by simp [Array.getD,hi]
  rw [e];exact hn
theorem Pm.inj (h:Pm n p) {i j:Nat} (hi:i < n) (hj:j < n) (e:p.getD i 0=p.getD j 0):i=j:=by
 have hs:=h.size
 have nd:p.toList.Nodup:=(Array.perm_iff_toList_perm.mp h.pm).nodup_iff.mpr (by simpa using d6)
 have e1:p.getD i 0=p.toList[i]'(by simpa [hs] using hi):=by simp [Array.getD,hs,hi]
 have e2:p.getD j 0=p.toList[j]'(by simpa [hs] using hj):=by simp [Array.getD,hs,hj]
 rw [e1,e2] at e
 by_cases q:i=j
 ·exact q
 ·exact absurd e (by
   rcases Nat.lt_or_gt_of_ne q with q | q
   ·exact List.pairwise_iff_getElem.mp nd i j _ _ q
   ·exact fun z=>List.pairwise_iff_getElem.mp nd j i _ _ q z.symm)
def Kz (z:Nat->Int) (p:Array Nat) (i:Nat):Int:=z (p.getD i 0)
def Up (z:Nat->Int) (p:Array Nat) (m:Nat):Prop:=∀ i j,i < j->j < m->Kz z p i < Kz z p j
def Dn (z:Nat->Int) (p:Array Nat) (m:Nat):Prop:=∀ i j,i < j->j < m->Kz z p j < Kz z p i
theorem qdr_ {p q:Array Nat}{i j:Nat} (h:p[i]?=q[j]?):Kz z p i=Kz z q j:=by
 unfold Kz;rw [Array.getD_eq_getD_getElem?,Array.getD_eq_getD_getElem?,h]
theorem Pm.ne (h:Pm n p) (hn:0 < n) (hz:∀ i j,i < n->j < n->z i=z j->i=j) {i j:Nat} (hi:i < n) (hj:j < n) (ij:i≠j):Kz z p i≠Kz z p j:=fun e=>ij (h.inj hi hj (hz _ _ (h.lt hn _) (h.lt hn _) e))
theorem Pm.rev (h:Pm n p) (i j:Nat):Pm n (kas_rev p i j):=⟨(mirror_perm p i j _).trans h.pm⟩
theorem Pm.bub (h:Pm n p) (i j:Nat):Pm n (bubble p i j):=⟨(bubble_perm p i j).trans h.pm⟩
variable (z) in
abbrev ltz:Nat->Nat->Bool:=fun i j=>decide (z i < z j)
theorem qei_ (h:Pm n p) (hn:0 < n) (hz:∀ i j,i < n->j < n->z i=z j->i=j):∀ (f m:Nat),1<=m->m+f<=n->Up z p m->KWl n (ltz z) (kas_asc p f m) fun m'=>m<=m'/\m'<=m+f/\Up z p m'/\(m'=m+f\/Kz z p m' < Kz z p (m' - 1))
 | 0,m,_,_,u=>⟨bF _,bF _,u,.inl rfl⟩
 | f+1,m,h1,hm,u=>by
  refine ⟨h.lt hn _,h.lt hn _,?_⟩
  by_cases c:Kz z p m < Kz z p (m - 1)
  ·rw [show ltz z (p.getD m 0) (p.getD (m - 1) 0)=true from bN c]
   dsimp only;rw [if_pos rfl];exact ⟨bF _,by omega,u,.inr c⟩
  ·rw [show ltz z (p.getD m 0) (p.getD (m - 1) 0)=false from bY c]
   dsimp only;rw [if_neg (by decide)]
   have c':Kz z p (m - 1) < Kz z p m:=by
    have:=h.ne hn hz (show m < n by omega) (show m - 1 < n by omega) (by omega)
    omega
   refine KWl.mono (fun m' q=>⟨by omega,by omega,q.2.2.1,?_⟩) _ (qei_ h hn hz f (m+1) (by omega) (by omega) fun i j d hj=>?_)
   ·rcases q.2.2.2 with q | q
    ·exact .inl (by omega)
    ·exact .inr q
   ·by_cases hjm:j < m
    ·exact u i j d hjm
    ·obtain rfl:j=m:=by omega
     by_cases him:i=j - 1
     ·rw [him];exact c'
     ·exact Int.lt_trans (u i (j - 1) (by omega) (by omega)) c'
theorem qha_ (h:Pm n p) (hn:0 < n) (hz:∀ i j,i < n->j < n->z i=z j->i=j):∀ (f m:Nat),1<=m->m+f<=n->Dn z p m->KWl n (ltz z) (kas_desc f p m 0) fun r=>r.1=p/\r.2.2=0/\m<=r.2.1/\r.2.1<=m+f/\Dn z p r.2.1
 | 0,m,_,_,u=>⟨rfl,rfl,bF _,bF _,u⟩
 | f+1,m,h1,hm,u=>by
  refine ⟨h.lt hn _,h.lt hn _,?_⟩
  by_cases c:Kz z p m < Kz z p (m - 1)
  ·rw [show ltz z (p.getD m 0) (p.getD (m - 1) 0)=true from bN c]
   dsimp only;rw [if_pos rfl,if_neg (by decide)]
   refine KWl.mono (fun r q=>⟨q.1,q.2.1,by omega,by omega,q.2.2.2.2⟩) _ (qha_ h hn hz f (m+1) (by omega) (by omega) fun i j hij hj=>?_)
   by_cases hjm:j < m
   ·exact u i j hij hjm
   ·obtain rfl:j=m:=by omega
    by_cases him:i=j - 1
    ·rw [him];exact c
    ·exact Int.lt_trans c (u i (j - 1) (by omega) (by omega))
  ·rw [show ltz z (p.getD m 0) (p.getD (m - 1) 0)=false from bY c]
   dsimp only;rw [if_neg (by decide)]
   have c':Kz z p (m - 1) < Kz z p m:=by
    have:=h.ne hn hz (show m < n by omega) (show m - 1 < n by omega) (by omega)
    omega
   refine ⟨h.lt hn _,h.lt hn _,?_⟩;rw [show ltz z (p.getD (m - 1) 0) (p.getD m 0)=true from bN c'];dsimp only;rw [if_pos rfl];exact ⟨rfl,rfl,bF _,dZ _ _,u⟩
theorem qp5_ (h:Pm n p) {m:Nat} (hm:m<=n) (u:Dn z p m):Up z (kas_rev p 0 m) m:=by
 intro i j d hj
 have g:∀ k,k < m->Kz z (kas_rev p 0 m) k=Kz z p (m - 1 - k):=fun k hk=>by
  refine qdr_ ?_;unfold kas_rev;rw [getElem?_mirror_all (by rw [h.size];exact hm),if_pos ⟨cn _,hk⟩,Nat.zero_add]
 rw [g i (by omega),g j hj]
 exact u _ _ (by omega) (by omega)
theorem qmr_ (h:Pm n p) (hn:0 < n) (hz:∀ i j,i < n->j < n->z i=z j->i=j) {m:Nat} (h1:1<=m) (hm:m<=n) (u:Dn z p m):KWl n (ltz z) (kas_tail3 m n p) fun r=>Pm n r.2/\1<=r.1/\r.1<=n/\Up z r.2 r.1:=by
 unfold kas_tail3;refine KWl.bind _ (KWl.mono (fun m' q=>?_) _ (qei_ (h.rev 0 m) hn hz (n - m) m h1 (by omega) (qp5_ h hm u)))
 exact ⟨h.rev 0 m,by omega,by omega,q.2.2.1⟩
theorem qms_ (h:Pm n p) (h2:2<=n) (hz:∀ i j,i < n->j < n->z i=z j->i=j):KWl n (ltz z) (kas_count n p) fun r=>Pm n r.2/\1<=r.1/\r.1<=n/\Up z r.2 r.1:=by
 have hn:0 < n:=by omega
 unfold kas_count;refine KWl.bind _ (KWl.mono (fun m q=>?_) _ (qei_ h hn hz (n - 1) 1 (bF 1) (by omega) fun i j _ _=>by omega))
 by_cases e:m=n
 ·rw [if_pos (by simpa using e)]
  exact ⟨h,by omega,by omega,q.2.2.1⟩
 ·rw [if_neg (by simpa using e)]
  by_cases e1:m > 1
  ·rw [if_pos e1]
   refine ⟨h.lt hn _,h.lt hn _,?_⟩;rw [show ltz z (p.getD 0 0) (p.getD (m - 1) 0)=true from bN (q.2.2.1 0 (m - 1) (by omega) (by omega))]
   dsimp only;rw [if_pos rfl];exact ⟨h,by omega,by omega,q.2.2.1⟩
  ·rw [if_neg e1]
   obtain rfl:m=1:=by omega
   have c:Kz z p 1 < Kz z p 0:=by
    rcases q.2.2.2 with c | c
    ·omega
    ·exact c
   unfold kas_descPart;refine KWl.bind _ (KWl.mono (fun r q'=>?_) _ (qha_ h hn hz (n - (1+1)) (1+1) (by omega) (by omega) fun i j d hj=>?_))
   ·obtain ⟨p',m',q0⟩:=r
    obtain ⟨e1,e2,e3,e4,e5⟩:=q';dsimp only at e1 e2 e3 e4 e5 ⊢;subst e1 e2;rw [if_neg (by decide)]
    exact qmr_ h hn hz (by omega) (by omega) e5
   ·obtain rfl:j=1:=by omega
    obtain rfl:i=0:=by omega
    exact c
theorem uB_ (h:Pm n p) (hn:0 < n) (hz:∀ i j,i < n->j < n->z i=z j->i=j) {k:Nat} (hk:k < n) (u:Up z p k):∀ (f l r:Nat),r<=l+f->l<=r->r<=k->(∀ i,i < l->Kz z p i < Kz z p k)->(∀ i,r<=i->i < k->Kz z p k < Kz z p i) →
  KWl n (ltz z) (kas_place p k f l r) fun l'=>l'<=k/\(∀ i,i < l'->Kz z p i < Kz z p k)/\(∀ i,l'<=i->i < k->Kz z p k < Kz z p i)
 | 0,l,r,hf,hl,hr,h1,h2=>by
  obtain rfl:l=r:=by omega
  exact ⟨hr,h1,h2⟩
 | f+1,l,r,hf,hl,hr,h1,h2=>by
  unfold kas_place
  by_cases e:l ≥ r
  ·rw [if_pos e]
   obtain rfl:l=r:=by omega
   exact ⟨hr,h1,h2⟩
  ·rw [if_neg e]
   refine ⟨h.lt hn _,h.lt hn _,?_⟩
   by_cases c:Kz z p k < Kz z p ((l+r) / 2)
   ·rw [show ltz z (p.getD k 0) (p.getD ((l+r) / 2) 0)=true from bN c]
    dsimp only;rw [if_pos rfl];refine uB_ h hn hz hk u f l ((l+r) / 2) (by omega) (by omega) (by omega) h1 fun i hi d=>?_
    by_cases q:i=(l+r) / 2
    ·rw [q];exact c
    ·exact Int.lt_trans c (u _ _ (by omega) d)
   ·rw [show ltz z (p.getD k 0) (p.getD ((l+r) / 2) 0)=false from bY c]
    dsimp only;rw [if_neg (by decide)]
    have c':Kz z p ((l+r) / 2) < Kz z p k:=by
     have:=h.ne hn hz (show k < n by omega) (show (l+r) / 2 < n by omega) (by omega)
     omega
    refine uB_ h hn hz hk u f ((l+r) / 2+1) r (by omega) (by omega) hr (fun i hi=>?_) h2
    by_cases q:i=(l+r) / 2
    ·rw [q];exact c'
    ·exact Int.lt_trans (u _ _ (by omega) (by omega)) c'
theorem qkj_ (hn:0 < n) (hz:∀ i j,i < n->j < n->z i=z j->i=j):∀ (f:Nat) (p:Array Nat) (k:Nat),Pm n p->k+f<=n->Up z p k->KWl n (ltz z) (kas_bin f p k) fun p'=>Pm n p'/\Up z p' (k+f)
 | 0,p,k,h,_,u=>⟨h,u⟩
 | f+1,p,k,h,hk,u=>by
  unfold kas_bin;refine KWl.bind _ (KWl.mono (fun l q=>?_) _ (uB_ h hn hz (show k < n by omega) u k 0 k (by omega) (by omega) (bF _) (fun i hi=>absurd hi (cX i)) fun i h1 h2=>by omega))
  obtain ⟨q1,q2,q3⟩:=q;refine KWl.mono (fun p' q'=>⟨q'.1,by rw [show k+(f+1)=k+1+f by omega];exact q'.2⟩) _ (qkj_ hn hz f _ (k+1) (h.bub k (k - l)) (by omega) fun i j hij hj=>?_)
  have g:∀ i,Kz z (bubble p k (k - l)) i=if i=l then Kz z p k else if l < i/\i<=k then Kz z p (i - 1) else Kz z p i:=fun i=>by
   have e:=getElem?_bubble (xs:=p) (src:=k) (by rw [h.size];omega) (k - l) (by omega) i
   rw [show k - (k - l)=l by omega] at e
   by_cases c1:i=l
   ·rw [if_pos c1] at e ⊢;exact qdr_ e
   ·rw [if_neg c1] at e ⊢
    by_cases c2:l < i/\i<=k
    ·rw [if_pos c2] at e ⊢;exact qdr_ e
    ·rw [if_neg c2] at e ⊢;exact qdr_ e
  rw [g i,g j]
  repeat' split
  all_goals first
   | (exfalso;omega)
   | exact q2 _ (by omega)
   | exact q3 _ (by omega) (by omega)
   | exact u _ _ (by omega) (by omega)
theorem qou_ (h2:2<=n) (hz:∀ i j,i < n->j < n->z i=z j->i=j):KWl n (ltz z) (kas_sort n) fun p=>Pm n p/\Up z p n:=by
 unfold kas_sort;refine KWl.bind _ (KWl.mono (fun r q=>?_) _ (qms_ (p:=(List.range n).toArray) ⟨Array.Perm.refl _⟩ h2 hz));obtain ⟨m,p⟩:=r;obtain ⟨q1,q2,q3,q4⟩:=q;dsimp only at q1 q2 q3 q4 ⊢
 by_cases c:m < n
 ·rw [if_pos c]
  have e:max m 1=m:=by omega
  rw [e];refine KWl.mono (fun p' q'=>⟨q'.1,?_⟩) _ (qkj_ (by omega) hz (n - m) p m q1 (by omega) q4)
  have:=q'.2
  rwa [show m+(n - m)=n by omega] at this
 ·rw [if_neg c]
  obtain rfl:m=n:=by omega
  exact ⟨q1,q4⟩
end
end L2
namespace L2
open PySem PySem.Spec PySem.W PyProof.Rows
section
variable {P:Program}{w:World}{K:PySem.W.Frag}{mg:Str->Option Value}{base:Heap}{A A':Around}{outer:List Env}{s s':Shared}{H H':Hp}
theorem Env0.nofr (e0:Env0 P w K mg base A outer s H) {b:Addr}{o:Obj} (e:base.get? b=some o):b∉frs outer:=fun hb=>by
 have:=(e0.funs.mem hb).1;rw [e] at this;cases this
theorem Env0.after (e0:Env0 P w K mg base A outer s H) (hA:A'.frames=A.frames) (un:Un (frs outer) [] H H' s.heap s'.heap) (hok:HOk P w H' s'.heap) (bare:AllBare s'.gens) (hsz:s.heap.objs.size<=s'.heap.objs.size):Env0 P w K mg base A' outer s' H':=by
 have d:∀ b:Addr,b∉([]:List Addr):=fun b=>ca;refine ⟨hA.trans e0.frames,e0.mod,fun b o e=>?_,bG e0.bsz hsz,?_,fun b hb=>?_,hok,bare⟩
 ·obtain ⟨h1,h2⟩:=e0.bs b o e
  exact ⟨un.keep b o h1 h2 (e0.nofr e) (d b),un.free b o h1 h2 (d b)⟩
 ·have all:∀ (l:List Env),(∀ b∈frs l,b∈frs outer)->s.heap.FunFrames base l->s'.heap.FunFrames base l:=by
   intro l
   induction l with
   | nil=>intro _ _;trivial
   | cons env r ih =>
    intro hs hl;obtain ⟨hk,⟨L,o,hf,hn,ho,hd⟩,hr⟩:=hl
    have hL:L∈frs outer:=hs L (by unfold frs;rw [eP,hf];exact cF)
    obtain ⟨sl,e⟩:=un.slot L o ho (e0.frf L hL) hL (d L);exact ⟨hk,⟨L,_,hf,hn,e,hd⟩,ih (fun b hb=>hs b (by unfold frs;rw [eP,hf];exact cz _ hb)) hr⟩
  exact all outer (fun _ hb=>hb) e0.funs
 ·obtain ⟨_,o,ho,_⟩:=e0.funs.mem hb
  exact un.free b o ho (e0.frf b hb) (d b)
theorem Env0.lt (e0:Env0 P w K mg base A outer s H) {b:Addr} (hb:b∈frs outer):b < s.heap.objs.size:=by
 obtain ⟨_,o,ho,_⟩:=e0.funs.mem hb;exact bJ ho
end
def keyV (c:Int) (n:Nat):HO:=.tup [.int c,.int (n:Nat)]
section
variable {P:Program}{w:World}{A:Around}{s:Shared}{H:Hp}
theorem qov_ {t u:Addr}{c d:Int}{m n:Nat}{Q:Bool->Shared->Prop}{E:Value->Shared->Prop} (hok:HOk P w H s.heap) (h1:H t=some (keyV c m)) (h2:H u=some (keyV d n)) (hcalm:A.handled=none) (hu:A.units+64 < cLine) (q:Q (decide (c < d\/c=d/\m < n)) s) :
  wpAny (model P w) A (keyLt' (tuples' true) (.ref t) (.ref u)) Q E s:=by
 obtain ⟨_,C,r,ot,e1,e2,n1,e3⟩:=hok t _ h1;obtain ⟨_,B,r',ou,l,G,D,g⟩:=hok u _ h2;obtain ⟨x,y,rfl,⟨t1,rfl⟩,⟨t2,rfl⟩⟩:=vX_ r;obtain ⟨x',y',rfl,⟨t3,rfl⟩,⟨t4,rfl⟩⟩:=vX_ r';refine kat_lt e1 e3 l g ?_;refine kat_cons (wpAny_eqBool_int ?_)
 by_cases h:c=d
 ·rw [show (c == d)=true from by simpa using h]
  refine kat_yes (kat_cons (wpAny_eqBool_int ?_))
  by_cases h':m=n
  ·subst h h'
   rw [show (((m:Nat):Int) == ((m:Nat):Int))=true from by simp]
   refine kat_yes (kat_nil ?_)
   have e:decide (c < c\/c=c/\m < m)=false:=bY (by omega)
   rw [e] at q;exact q
  ·rw [show (((m:Nat):Int) == ((n:Nat):Int))=false from by
    have:((m:Nat):Int)≠((n:Nat):Int):=by omega
    simpa using this]
   refine kat_no ?_;rw [show (true && (0+1 == 0))=false from rfl];refine kat_one _ _ ?_;refine lt_int ?_
   have e:decide (c < d\/c=d/\m < n)=decide (((m:Nat):Int) < ((n:Nat):Int)):=by
    by_cases z:m < n
    ·rw [bN (by omega:((m:Nat):Int) < (n:Nat)),bN (.inr ⟨h,z⟩)]
    ·rw [bY (by omega:¬ ((m:Nat):Int) < (n:Nat)),bY (by omega)]
   rw [e] at q;exact q
 ·rw [show (c == d)=false from by simpa using h]
  refine kat_no ?_;rw [show (true && (0 == 0))=true from rfl];refine oneLt_int ?_
  have e:decide (c < d\/c=d/\m < n)=decide (c < d):=by
   by_cases z:c < d
   ·rw [bN z,bN (.inl z)]
   ·rw [bY z,bY (by omega)]
  rw [e] at q;exact q
def klt (ck:Nat->Int) (m n:Nat):Prop:=ck m < ck n\/ck m=ck n/\m < n
instance (ck:Nat->Int) (m n:Nat):Decidable (klt ck m n):=inferInstanceAs (Decidable (_\/_/\_))
def Keys (H:Hp) (ck:Nat->Int):List Nat->List Value->Prop
 | [],[]=>True
 | n :: ns,k :: ks=>(∃ t,k=.ref t/\H t=some (keyV (ck n) n))/\Keys H ck ns ks
 | _,_=>False
theorem Keys.snoc {ck:Nat->Int}{n:Nat}{t:Addr} (h:H t=some (keyV (ck n) n)):∀ {ns:List Nat}{ks:List Value},Keys H ck ns ks->Keys H ck (ns++[n]) (ks++[.ref t])
 | [],[],_=>⟨⟨t,rfl,h⟩,trivial⟩
 | [],_ :: _,z=>z.elim
 | _ :: _,[],z=>z.elim
 | _ :: _,_ :: _,z=>⟨z.1,Keys.snoc h z.2⟩
theorem Keys.imp {H':Hp}{ck:Nat->Int} (h:∀ t xs,H t=some (.tup xs)->H' t=some (.tup xs)):∀ {ns:List Nat}{ks:List Value},Keys H ck ns ks->Keys H' ck ns ks
 | [],[],_=>trivial
 | [],_ :: _,z=>z.elim
 | _ :: _,[],z=>z.elim
 | _ :: _,_ :: _,⟨⟨t,e,z⟩,r⟩=>⟨⟨t,e,h t _ z⟩,Keys.imp h r⟩
theorem Keys.length {ck:Nat->Int}:∀ {ns:List Nat}{ks:List Value},Keys H ck ns ks->ks.length=ns.length
 | [],[],_=>rfl
 | [],_ :: _,z=>z.elim
 | _ :: _,[],z=>z.elim
 | _ :: _,_ :: _,z=>by rw [cM,cM,Keys.length z.2]
theorem Keys.get {ck:Nat->Int}:∀ {ns:List Nat}{ks:List Value}{i:Nat},Keys H ck ns ks->i < ns.length->∃ t,ks.getD i Value.none=.ref t/\H t=some (keyV (ck (ns.getD i 0)) (ns.getD i 0))
 | [],_,i,_,hi=>absurd hi (cX i)
 | _ :: _,[],_,z,_=>z.elim
 | _ :: _,_ :: _,0,⟨⟨t,e,z⟩,_⟩,_=>⟨t,e,z⟩
 | _ :: ns,_ :: ks,i+1,z,hi=>Keys.get (ns:=ns) (ks:=ks) (i:=i) z.2 (by simpa using hi)
theorem Keys.tups {ck:Nat->Int} (hok:HOk P w H s.heap):∀ {ns:List Nat}{ks:List Value},Keys H ck ns ks->∃ fs:List Value,KatTups s.heap ks fs/\fs.length=ns.length/\∀ v∈fs,∃ i t,v=Value.int i t
 | [],[],_=>⟨[],KatTups.nil,rfl,fun _ h=>absurd h ca⟩
 | [],_ :: _,z=>z.elim
 | _ :: _,[],z=>z.elim
 | _ :: ns,_ :: ks,⟨⟨t,e,z⟩,r⟩=>by
  obtain ⟨fs,h1,h2,h3⟩:=Keys.tups hok r;obtain ⟨_,its,rv,ot,e1,e2,n1,e3⟩:=hok t _ z;obtain ⟨x,y,rfl,⟨t1,rfl⟩,⟨t2,rfl⟩⟩:=vX_ rv;subst e;refine ⟨_ :: fs,KatTups.cons e1 e2 e3 rfl h1,by rw [cM,cM,h2],fun v hv=>?_⟩
  rcases bL.mp hv with rfl | hv
  ·exact ⟨_,_,rfl⟩
  ·exact h3 v hv
def kzz (ck:Nat->Int) (ns:List Nat) (B:Int) (i:Nat):Int:=ck (ns.getD i 0) * B+(ns.getD i 0:Nat)
theorem qad_ {ck:Nat->Int}{ns:List Nat}{B:Nat} (hB:∀ n∈ns,n < B) {i j:Nat} (hi:i < ns.length) (hj:j < ns.length):kzz ck ns B i < kzz ck ns B j ↔ klt ck (ns.getD i 0) (ns.getD j 0):=by
 have mem:∀ i,i < ns.length->ns.getD i 0 < B:=fun i h=>hB _ (by rw [b7,b8 h];exact cR h)
 have a:=mem i hi
 have b:=mem j hj;unfold kzz klt;generalize ns.getD i 0=m at a;generalize ns.getD j 0=n at b;generalize ck m=c;generalize ck n=d
 constructor
 ·intro h
  rcases Int.lt_trichotomy c d with z | z | z
  ·exact .inl z
  ·subst z;exact .inr ⟨rfl,by omega⟩
  ·exfalso
   have:(d+1) * (B:Int)<=c * B:=Int.mul_le_mul_of_nonneg_right (by omega) (by omega)
   rw [Int.add_mul] at this;omega
 ·intro h
  rcases h with z | ⟨rfl,z⟩
  ·have:(c+1) * (B:Int)<=d * B:=Int.mul_le_mul_of_nonneg_right (by omega) (by omega)
   rw [Int.add_mul] at this;omega
  ·omega
end
end L2
namespace L2
open PySem PySem.Spec PySem.W PyProof.Rows
section
variable {fs ex:List Addr}{H H':Hp}{h h' h'':Heap}{x:Addr}{P:Program}{w:World}
theorem Un.turn (u:Un fs ex H H' h h') (hx:h.objs.size<=x) (k:∀ b o,b≠x->h'.get? b=some o->h''.get? b=some o):Un fs ex H H' h h'' where
 keep:=fun b o e n hb he=>k b o (bP (bR (bJ e) hx)) (u.keep b o e n hb he)
 slot:=fun b o e n hb he=>let ⟨sl,z⟩:=u.slot b o e n hb he;⟨sl,k b _ (bP (bR (bJ e) hx)) z⟩
 free:=u.free
 there:=fun b o e he=>let ⟨o',z⟩:=u.there b o e he;⟨o',k b _ (bP (bR (bJ e) hx)) z⟩
 tups:=u.tups
 frzs:=u.frzs
 tbls:=u.tbls
theorem HOk.turn (ok:HOk P w H h) (hx:H x=none) (k:∀ b o,b≠x->h.get? b=some o->h'.get? b=some o):HOk P w H h':=fun b o e=>by
 have ne:∀ c u,H c=some u->c≠x:=fun c u e z=>by rw [z,hx] at e;cases e
 refine (ok b o e).stay (fun c v hc q=>k c v ?_ q) (fun _ q=>q) fun _ _ q=>q;rcases hc with z | z
 ·rw [z];exact ne b o e
 ·exact ne c _ z
theorem Un.trk {o:HO} (u:Un fs ex H H' h h') (hx:h.objs.size<=x) (n:H' x=none):Un fs ex H (upd H' x o) h h' where
 keep:=u.keep
 slot:=u.slot
 free:=fun b q e m he=>by
  rw [qd_ (bP (bR (bJ e) hx))];exact u.free b q e m he
 there:=u.there
 tups:=fun b xs e=>by
  have z:=u.tups b xs e;rw [qd_ (qh_ z n)];exact z
 frzs:=fun b q v e=>by
  have z:=u.frzs b q v e;rw [qd_ (qh_ z n)];exact z
 tbls:=fun b ps e=>by
  obtain ⟨m,z⟩:=u.tbls b ps e;exact ⟨m,by rw [qd_ (qh_ z n)];exact z⟩
theorem HOk.trk {o:HO} (ok:HOk P w H h) (n:H x=none) (new:ObjOk P w (upd H x o) h x o):HOk P w (upd H x o) h:=fun b u e=>by
 by_cases hb:b=x
 ·subst hb;rw [qc_] at e;cases e;exact new
 ·rw [qd_ hb] at e
  exact (ok b u e).stay (fun _ _ _ q=>q) (fun c q=>by rw [qd_ (qh_ q n)];exact q) fun c xs q=>by rw [qd_ (qh_ q n)];exact q
end
def jG_ (ns:List Nat):List V:=ns.map fun n=>.int ((n:Nat):Int)
theorem zY_ {ns:List Nat}{vs:List Value} (r:Vals (jG_ ns) vs):vs.length=ns.length/\∀ i,i < ns.length->∃ t,vs.getD i Value.none=Value.int (ns.getD i 0:Nat) t:=by
 have hl:=r.length;unfold jG_ at hl;rw [b9] at hl;refine ⟨hl.symm,fun i hi=>?_⟩
 obtain ⟨u,h1,t,rfl⟩:=r.get (i:=i) (x:=.int ((ns.getD i 0:Nat):Int)) (by
  unfold jG_;rw [bE,b8 hi,b7,b8 hi]
  rfl)
 exact ⟨t,by rw [b7,h1];rfl⟩
section
variable {P:Program}{w:World}{K:PySem.W.Frag}{mg:Str->Option Value}{base:Heap}{A:Around}{outer:List Env}{s:Shared}{H:Hp}{k:Nat}{sp:SpV}{l fa:Addr}{vs:List Value}{ns:List Nat}{ck:Nat->Int}{B:Nat}{Q:VK}{E:Value->Shared->Prop}
theorem qkk_ {s':Shared}{H':Hp}{D kS:Addr}{ks:List Value}{e e1:Nat}{R:PySem.Fin->Shared->Prop} (hA:A.handled=none) (hAu:A.units+64 < cLine) (r:Vals (jG_ ns) vs) (nd:ns.Nodup) (hB:∀ n∈ns,n < B) (h64:ns.length < 64)
  (hok:HOk P w H' s'.heap) (hD:s'.heap.get? D=some (seqObj "list" #[] e1)) (hk:s'.heap.get? kS=some (seqObj "list" ks.toArray e)) (hDk:D≠kS) (hK:Keys H' ck ns ks)
  (fin:∀ (h':Heap) (ms:List Nat) (out:List Value) (c:Nat),(∀ b o,b≠D→b≠kS→s'.heap.get? b=some o→h'.get? b=some o)→h'.get? D=some (seqObj "list" out.toArray c)→Vals (jG_ ms) out→ms.Perm ns→ms.Pairwise (klt ck)→R (.done (.ret .none)) { s' with heap:=h' }) :
  wpAny (model P w) A (ksk_end D false vs.toArray e1 (.ref kS) ks.toArray) R E s':=by
 obtain ⟨G,U⟩:=zY_ r
 have X:=hK.length
 have tail:∀ (st:SortSt) (p:Array Nat),Pm ns.length p->arrOf st=p.map (kas_item (ks.toArray.zip vs.toArray))->failedOf st=none->(∀ i j,i < j->j < ns.length->klt ck (ns.getD (p.getD i 0) 0) (ns.getD (p.getD j 0) 0))->wpAny (model P w) A (ksk_tail D false e1 (.ref kS) st) R E s':=by
  intro st p hp J hf S
  have L:=kat_snds (ks:=ks) (vs:=vs) (by omega) J
  have O:=hp.size
  have s1:=dR s'.heap kS (Obj.mapSeq fun _=>(#[]:Array Value))
  have I:(s'.heap.update kS (Obj.mapSeq fun _=>(#[]:Array Value))).get? D=some (seqObj "list" #[] e1):=(s1.2 D hDk).trans hD
  have s2:=dR (s'.heap.update kS (Obj.mapSeq fun _=>(#[]:Array Value))) D (Obj.mapSeq fun _=>(arrOf st).map (·.2))
  obtain ⟨c2,H⟩:∃ c2,((s'.heap.update kS (Obj.mapSeq fun _=>(#[]:Array Value))).update D (Obj.mapSeq fun _=>(arrOf st).map (·.2))).get? D=some (seqObj "list" ((arrOf st).map (·.2)) c2):=⟨_,get?_update_seq I fun _=>(arrOf st).map (·.2)⟩
  unfold ksk_tail;try dsimp only
  refine bH (listUpdate_at hk rfl ?_ (by rw [bX,sizeLine_eq];omega) (cn _))
  refine bH (wpAny_letGo ?_);refine bH (seqEpoch_at I rfl ?_);simp only [fh,if_false]
  refine bH (listUpdate_at I rfl ?_ (cn _) (by
   show ((arrOf st).map (·.2)).size<=_
   rw [L,bX,b9,dH,O,sizeLine_eq];omega))
  rw [hf];simp only [bne_self_eq_false,fh,if_false]
  have H:=H.trans (congrArg (fun z=>some (seqObj "list" z c2)) L)
  have pl:p.toList.Perm (List.range ns.length):=by simpa using Array.perm_iff_toList_perm.mp hp.pm
  have pin:∀ i∈p.toList,i < ns.length:=fun i hi=>bQ.mp (pl.mem_iff.mp hi);refine c7 (fin _ (p.toList.map fun i=>ns.getD i 0) _ c2 (fun b o hb Y q=>?_) H ?_ ?_ ?_)
  ·rw [s2.2 b hb,s1.2 b Y];exact q
  ·unfold jG_
   rw [cq]
   have:∀ (ls:List Nat),(∀ i∈ls,i < ns.length)->Vals (ls.map ((fun n:Nat=>V.int ((n:Nat):Int)) ∘ fun i=>ns.getD i 0)) (ls.map fun i=>vs.getD i Value.none):=by
    intro ls
    induction ls with
    | nil=>intro _;exact .nil
    | cons i ls ih =>
     intro hl;obtain ⟨t,e⟩:=U i (hl i (.head _));exact .cons ⟨t,e⟩ (ih fun j hj=>hl j (.tail _ hj))
   exact this _ pin
  ·have e0:(List.range ns.length).map (fun i=>ns.getD i 0)=ns:=by
    apply cU
    intro i;rw [bE]
    by_cases hi:i < ns.length
    ·rw [cb hi,b8 hi,da,b7,b8 hi]
     rfl
    ·rw [bT (by rw [bI];omega),bT (by omega)]
     rfl
   have:=pl.map fun i=>ns.getD i 0
   rwa [e0] at this
  ·rw [List.pairwise_map,List.pairwise_iff_getElem]
   intro i j hi hj s
   have:=S i j s (by rw [dH,O] at hj;exact hj)
   have g:∀ m (hm:m < p.toList.length),p.getD m 0=p.toList[m]:=fun m hm=>by
    have:m < p.size:=by simpa using hm
    simp [Array.getD,this]
   rw [g i hi,g j hj] at this;exact this
 unfold ksk_end;try dsimp only
 simp only [fh,if_false]
 by_cases h2:vs.toArray.size < 2
 ·rw [if_pos h2,if_pos h2]
  rw [bX,G] at h2;refine bH (c7 ?_);rw [StateT.run_pure];refine bH (c7 ?_);try dsimp only
  refine tail _ (List.range ns.length).toArray ⟨Array.Perm.refl _⟩ ?_ rfl (fun i j s hj=>by omega)
  have e:=kas_range (ks.toArray.zip vs.toArray);rw [show (ks.toArray.zip vs.toArray).size=ns.length by simp [X,G]] at e
  rw [e]
 ·rw [if_neg h2,if_neg h2]
  rw [bX,G] at h2;obtain ⟨fs,t1,t2,t3⟩:=hK.tups hok
  refine bH (kat_kind (T:=.type "int") t1 (by omega) (fun v hv=>?_) rfl ?_)
  ·obtain ⟨i,t,rfl⟩:=t3 v hv
   exact Looks.of_pure rfl
  rw [show ((Value.type "int") != Value.type "tuple")=true from rfl]
  have hz:∀ i j,i < ns.length->j < ns.length->kzz ck ns B i=kzz ck ns B j->i=j:=fun i j hi hj e=>by
   have n1:¬ klt ck (ns.getD i 0) (ns.getD j 0):=fun z=>by have:=(qad_ hB hi hj).mpr z;omega
   have n2:¬ klt ck (ns.getD j 0) (ns.getD i 0):=fun z=>by have:=(qad_ hB hj hi).mpr z;omega
   have e3:ns.getD i 0=ns.getD j 0:=by
    unfold klt at n1 n2;generalize ck (ns.getD i 0)=c at n1 n2;generalize ck (ns.getD j 0)=d at n1 n2;omega
   rw [b7,b8 hi,b7,b8 hj] at e3;exact (List.getElem_inj nd).mp e3
  have ask:(kas_sort vs.length).kasWp (kas_ask P w A (tuples' true) ks) (fun p l=>l=s'/\Pm ns.length p/\Up (kzz ck ns B) p ns.length) s':=by
   rw [G];refine KWl.wp (lt:=ltz (kzz ck ns B)) (n:=ns.length) (fun i j C hi hj q=>?_) _ (KWl.mono (fun p q=>⟨rfl,q⟩) _ (qou_ (by omega) hz))
   obtain ⟨t,e1,e2⟩:=hK.get hi;obtain ⟨u,e3,e4⟩:=hK.get hj;unfold kas_ask;rw [e1,e3];refine qov_ hok e2 e4 hA hAu ?_
   have e5:decide (ck (ns.getD i 0) < ck (ns.getD j 0)\/ck (ns.getD i 0)=ck (ns.getD j 0)/\ns.getD i 0 < ns.getD j 0)=ltz (kzz ck ns B) i j:=by
    show _=decide _
    rw [decide_eq_decide];exact (qad_ hB hi hj).symm
   rw [e5];exact q
  refine bH (d7 (kat_run (Q:=fun h l=>∃ p:Array Nat,arrOf h=p.map (kas_item (ks.toArray.zip vs.toArray))/\failedOf h=none/\l=s'/\Pm ns.length p/\Up (kzz ck ns B) p ns.length) (by omega) (by omega) (by omega) (fun p' h l a1 a2 a3 a4=>⟨p',a2,a3,a4⟩) ask) ?_ fun _ _ x=>x)
  rintro ⟨⟨⟩,h⟩ l ⟨p,J,hf,rfl,hp,hu⟩;try dsimp only
  refine tail h p hp J hf fun i j s hj=>?_
  have:=hu i j s hj;exact (qad_ hB (hp.lt (by omega) i) (hp.lt (by omega) j)).mp this
end
end L2
namespace L2
open PySem PySem.Spec PySem.W PyProof.Rows
section
variable {P:Program}{w:World}{K:PySem.W.Frag}{mg:Str->Option Value}{base:Heap}{A:Around}{outer:List Env}{s:Shared}{H:Hp}{k:Nat}{sp:SpV}{l fa:Addr}{vs:List Value}{ns:List Nat}{ck:Nat->Int}{B:Nat}{Q:VK}{E:Value->Shared->Prop}
structure qkl_ (P:Program) (w:World) (outer:List Env) (s:Shared) (H:Hp) (D kS:Addr) (e1:Nat) (ck:Nat->Int) (ns:List Nat) (s':Shared) (H':Hp) (ks:List Value) (e:Nat):Prop where
 os:s'.os=s.os
 bare:AllBare s'.gens
 un:Un (frs outer) [] H H' s.heap s'.heap
 hok:HOk P w H' s'.heap
 same:Same H H'
 hD:s'.heap.get? D=some (seqObj "list" #[] e1)
 nD:H' D=none
 hk:s'.heap.get? kS=some (seqObj "list" ks.toArray e)
 nk:H' kS=none
 keys:Keys H' ck ns ks
theorem qi1_ {D kS:Addr}{e1:Nat}{s5:Shared}{R:PySem.Fin->Shared->Prop} (hr:Room k A) (e0:Env0 P w K mg base A outer s H) (r:Vals (jG_ ns) vs) (nd:ns.Nodup) (hB:∀ n∈ns,n < B) (h64:ns.length < 64)
  (hf:∀ (s':Shared) (H':Hp) (n:Nat) (x:Value),n∈ns->Same H H'->Env0 P w K mg base A outer s' H'->Un (frs outer) [] H H' s.heap s'.heap->RelV (.int ((n:Nat):Int)) x->codeAny (model P w) A (.call (.ref fa) ⟨[x],[]⟩) (CR CX0 outer P w H' s' (fun v H''=>∃ t,v=.ref t/\H'' t=some (keyV (ck n) n)/\Same H' H'') E0) s')
  (nDs:s.heap.objs.size<=D) (nks:s.heap.objs.size<=kS) (hDk:D≠kS) (S5:qkl_ P w outer s H D kS e1 ck [] s5 H [] 0)
  (fin:∀ (s':Shared) (H':Hp) (ms:List Nat),s'.os=s.os->AllBare s'.gens->Un (frs outer) [] H (upd H' D (.lst (jG_ ms))) s.heap s'.heap->HOk P w (upd H' D (.lst (jG_ ms))) s'.heap->Same H H'->H' D=none->ms.Perm ns->ms.Pairwise (klt ck)->R (.done (.ret .none)) s') :
  wpAny (model P w) A (ksk_rest D (.ref fa) false vs.toArray e1 (.ref kS)) R E s5:=by
 obtain ⟨C,Z⟩:=zY_ r
 have d:∀ b:Addr,b∉([]:List Addr):=fun b=>ca
 have U:∀ {s':Shared},(∃ o,s'.heap.get? D=some o)->s.heap.objs.size<=s'.heap.objs.size:=fun {s'} ⟨o,z⟩=>bG nDs (du (bJ z))
 have O:D∉frs outer:=fun z=>absurd (e0.lt z) (Nat.not_lt.mpr nDs)
 have aa:kS∉frs outer:=fun z=>absurd (e0.lt z) (Nat.not_lt.mpr nks);unfold ksk_rest;refine bH (wpAny_rule ?_);rw [<- Array.forIn_toList];refine bH (ksk_fold (I:=fun j s'=>∃ H' ks e,qkl_ P w outer s H D kS e1 ck (ns.take j) s' H' ks e) vs 0 s5 ⟨H,[],0,S5⟩ (fun j x s' hx hI=>?_) fun s' hI=>?_)
 ·obtain ⟨H',ks,e,S⟩:=hI
  rw [Nat.zero_add] at S ⊢
  have hj:j < ns.length:=by rw [<- C];exact (bK.mp hx).1
  have hn:ns.getD j 0∈ns:=by rw [b7,b8 hj];exact cR hj
  obtain ⟨t,ex⟩:=Z j hj;rw [b7,hx] at ex
  have ex:x=_:=ex
  have Q:=e0.after (A':=A) rfl S.un S.hok S.bare (U ⟨_,S.hD⟩)
  have hc:=hf s' H' _ x hn S.same Q S.un ⟨t,ex⟩;refine bH (wpAny_attempt (wpAny_call (fA hc fun rs g hq=>?_)))
  cases rs with
  | error _=>exact False.elim hq
  | ok fl =>
   cases fl with
   | next=>exact False.elim hq
   | brk=>exact False.elim hq
   | cont=>exact False.elim hq
   | ret u =>
    obtain ⟨v,H'',os,bare,un,hok,rv,q⟩:=hq;obtain ⟨ta,rfl,G,sm⟩:=q;obtain rfl:u=.ref ta:=rv
    have Y:=un.keep D _ S.hD S.nD O (d D)
    have h:=un.keep kS _ S.hk S.nk aa (d kS)
    have ab:=un.free D _ S.hD S.nD (d D)
    have l:=un.free kS _ S.hk S.nk (d kS)
    have s1:=dR g.heap kS (Obj.mapSeq (·.push (.ref ta)))
    have k1:∀ b o,b≠kS->g.heap.get? b=some o->(g.heap.update kS (Obj.mapSeq (·.push (.ref ta)))).get? b=some o:=fun b o hb z=>(s1.2 b hb).trans z
    have ea:(List.toArray ks).push (.ref ta)=List.toArray (ks++[.ref ta]):=by simp
    have J:=S.keys.length;rw [dv,fE (by omega)] at J
    obtain ⟨c2,T⟩:∃ c2,(g.heap.update kS (Obj.mapSeq (·.push (.ref ta)))).get? kS=some (seqObj "list" (List.toArray (ks++[.ref ta])) c2):=⟨_,by rw [← ea];exact get?_update_seq h (·.push (.ref ta))⟩
    show wpAny _ _ (do Builtin.List.listUpdate (.ref kS) (·.push (.ref ta));pure (ForInStep.yield PUnit.unit)) _ _ _
    refine bH (listUpdate_at h rfl ?_ (by rw [bX,sizeLine_eq];omega) (bG (Nat.le_of_eq (Array.size_push ..)) (by rw [bX,sizeLine_eq];omega)))
    refine c7 ⟨rfl,H'',ks++[.ref ta],c2,os.trans S.os,bare,(S.un.trans un).turn nks k1,hok.turn l k1,fun b o z=>sm b o (S.same b o z),(k1 D _ hDk Y),ab,T,l,?_⟩;rw [List.take_succ,b8 hj]
    have eg:ns.getD j 0=ns[j]:=by rw [b7,b8 hj];rfl
    rw [eg] at G;exact Keys.snoc G (S.keys.imp fun t xs z=>un.tups t xs z)
 ·obtain ⟨H',ks,e,S⟩:=hI
  rw [Nat.zero_add,C,fc] at S
  have J:=S.keys.length;refine bH (listItems_at S.hk rfl ?_);refine qkk_ hr.hd hr.units r nd hB h64 S.hok S.hD S.hk hDk S.keys fun h' ms L c kp hD rv pm pw=>?_
  have u1:Un (frs outer) [] H H' s.heap h':=⟨fun b o z n hb he=>?_,fun b o z n hb he=>?_,S.un.free,fun b o z he=>?_,S.un.tups,S.un.frzs,S.un.tbls⟩
  have X:HOk P w H' h':=fun b o z=>by
   have ne:∀ c u x,H' x=none->H' c=some u->c≠x:=fun c u x n z y=>by rw [y,n] at z;cases z
   refine (S.hok b o z).stay (fun c v hc q=>?_) (fun _ q=>q) fun _ _ q=>q;rcases hc with rfl | y
   ·exact kp c v (ne c o _ S.nD z) (ne c o _ S.nk z) q
   ·exact kp c v (ne c _ _ S.nD y) (ne c _ _ S.nk y) q
  refine fin _ H' ms S.os S.bare (u1.trk nDs S.nD) (X.trk S.nD ⟨?_,L,c,rv,hD⟩) S.same S.nD pm pw
  ·unfold jG_
   rw [b9,pm.length_eq,sizeLine_eq];omega
  ·exact kp b o (bP (bR (bJ z) nDs)) (bP (bR (bJ z) nks)) (S.un.keep b o z n hb he)
  ·obtain ⟨sl,y⟩:=S.un.slot b o z n hb he
   exact ⟨sl,kp b _ (bP (bR (bJ z) nDs)) (bP (bR (bJ z) nks)) y⟩
  ·obtain ⟨o',y⟩:=S.un.there b o z he
   exact ⟨o',kp b _ (bP (bR (bJ z) nDs)) (bP (bR (bJ z) nks)) y⟩
theorem qkm_ (hr:Room (k+2) A) (e0:Env0 P w K mg base A outer s H) (hl:s.heap.IsList l vs.toArray) (r:Vals (jG_ ns) vs) (nd:ns.Nodup) (hB:∀ n∈ns,n < B) (h64:ns.length < 64)
  (hf:∀ (s':Shared) (H':Hp) (n:Nat) (x:Value),n∈ns->Same H H'->Env0 P w K mg base A.in1.in1 outer s' H'->Un (frs outer) [] H H' s.heap s'.heap->RelV (.int ((n:Nat):Int)) x->codeAny (model P w) A.in1.in1 (.call (.ref fa) ⟨[x],[]⟩) (CR CX0 outer P w H' s' (fun v H''=>∃ t,v=.ref t/\H'' t=some (keyV (ck n) n)/\Same H' H'') E0) s')
  (hq:∀ (D:Addr) (H':Hp) (ms:List Nat),H D=none->H' D=none->Same H H'->ms.Perm ns->ms.Pairwise (klt ck)->Q (.ref D) (upd H' D (.lst (jG_ ms)))) :
  wpAny (model P w) A (call (.builtin "sorted") [.ref l] [(Str.ofString "key",.ref fa)]) (fun u s'=>CE outer P w H s Q u s') E s:=by
 obtain ⟨L,O⟩:=zY_ r;refine call_function_entry_kw kind_sorted plain_sorted entry_sorted (ksk_s1 _ _) ?_;unfold Builtin.«sorted»
 refine bH (m:=checkCount "sorted" 1 1 _) (c7 ?_)
 refine bH (collect_list hl ?_ (by rw [sizeLine_eq];omega))
 refine bH (wpAny_newList ?_ (by rw [sizeLine_eq];omega))
 have g:((s.heap.push (seqObj "list" #[] 0)).update s.heap.objs.size (Obj.mapSeq (· ++ vs.toArray))).objs.size=s.heap.objs.size+1:=by
  rw [Heap.size_update,size_push']
 have d:(((s.heap.push (seqObj "list" #[] 0)).update s.heap.objs.size (Obj.mapSeq (· ++ vs.toArray))).push (seqObj "list" vs.toArray 0)).get? (s.heap.objs.size+1)=some (seqObj "list" vs.toArray 0):=by
  rw [<- g];exact bZ _ rfl
 have keep:∀ b o,s.heap.get? b=some o→(((s.heap.push (seqObj "list" #[] 0)).update s.heap.objs.size (Obj.mapSeq (· ++ vs.toArray))).push (seqObj "list" vs.toArray 0)).get? b=some o:=fun b o q=>by
  have h:b < s.heap.objs.size:=bJ q;rw [Heap.get?_push_ne _ _ _ (by rw [g];exact bP (cA h)),Heap.get?_update_ne _ _ _ _ (bP h),Heap.get?_push_ne _ _ _ (bP h)]
  exact q
 show wpAny _ _ _ _ _ { s with heap:=((s.heap.push (seqObj "list" #[] 0)).update s.heap.objs.size (Obj.mapSeq (· ++ vs.toArray))).push (seqObj "list" vs.toArray 0) }
 rw [g]
 generalize (((s.heap.push (seqObj "list" #[] 0)).update s.heap.objs.size (Obj.mapSeq (· ++ vs.toArray))).push (seqObj "list" vs.toArray 0))=h2 at d keep
 refine bH (dt (wpAny_call_entry_kw slot_list_sort ⟨_,d,rfl⟩ entry_list_sort ?body (ksk_l1 _ _)))
 show wpAny (model P w) A.in1.in1 (Builtin.«list.sort» ⟨[.ref (s.heap.objs.size+1)],[(Str.ofString "key",.ref fa)]⟩) _ _ _
 rw [ksk_t1];unfold ksk_tree
 have s1:=dR h2 (s.heap.objs.size+1) (Obj.mapSeq fun _=>(#[]:Array Value))
 obtain ⟨e1,G⟩:∃ e1,(h2.update (s.heap.objs.size+1) (Obj.mapSeq fun _=>(#[]:Array Value))).get? (s.heap.objs.size+1)=some (seqObj "list" #[] e1):=⟨_,get?_update_seq d fun _=>#[]⟩
 refine bH (listItems_at d rfl ?_);refine bH (listUpdate_at d rfl ?_ (by rw [bX,sizeLine_eq];omega) (cn _))
 refine bH (seqEpoch_at G rfl ?_);refine bH (wpAny_newTuple ?_ (by show vs.length<=_;rw [sizeLine_eq];omega))
 refine bH (wpAny_newList ?_ (cn _));refine dt ?_
 have I:∀ b o,s.heap.get? b=some o→(((h2.update (s.heap.objs.size+1) (Obj.mapSeq fun _=>(#[]:Array Value))).push (seqObj "tuple" vs.toArray 0)).push (seqObj "list" #[] 0)).get? b=some o:=fun b o q=>by
  refine bD _ (bD _ ?_);rw [s1.2 b (bP (cA (bJ q)))];exact keep b o q
 have J:s.heap.objs.size+1 < h2.objs.size:=bJ d
 have C:((h2.update (s.heap.objs.size+1) (Obj.mapSeq fun _=>(#[]:Array Value))).push (seqObj "tuple" vs.toArray 0)).objs.size=h2.objs.size+1:=by rw [size_push',Heap.size_update]
 have fr:∀ a,s.heap.objs.size<=a->H a=none:=fun a z=>e0.hok.fresh z
 refine qi1_ (D:=s.heap.objs.size+1) (A:=A.in1.in1) (outer:=outer) (s:=s) (H:=H) (s5:={ s with heap:=((h2.update (s.heap.objs.size+1) (Obj.mapSeq fun _=>(#[]:Array Value))).push (seqObj "tuple" vs.toArray 0)).push (seqObj "list" #[] 0) }) (kS:=((h2.update (s.heap.objs.size+1) (Obj.mapSeq fun _=>(#[]:Array Value))).push (seqObj "tuple" vs.toArray 0)).objs.size) hr.in1.in1 (e0.after rfl Un.refl e0.hok e0.bare (bF _)) r nd hB h64 hf (eF _) (by have:=C;omega) (bP (by have:=C;omega))
  ⟨rfl,e0.bare,Un.kept I,e0.hok.kept I,fun _ _ z=>z,bD _ (bD _ G),fr _ (by omega),bZ _ rfl,fr _ (by rw [C];omega),trivial⟩ ?_
 intro s' H' ms os bare un hok sm nD pm pw;exact ⟨_,rfl,c7 ⟨_,rfl,.ref (s.heap.objs.size+1),_,os,bare,un,hok,rfl,hq _ H' ms (fr _ (by omega)) nD sm pm pw⟩⟩
end
def qkn_ (ps:List Str) (vs:List V) (scope:Scope) (clos:List (Str × Addr)) (cv:List (Str × V)) (N:List Str) (σ:St):Prop :=
 σ.length=N.length/\∀ (i:Nat) (x:Str) (v:V),N[i]?=some x->σ[i]?=some (some v)->(ps[i]?=some x/\vs[i]?=some v)\/(scope.names.lookup x=some .free/\(∃ c,clos.lookup x=some c)/\cv.lookup x=some v)
structure CloL (scope:Scope) (clos:List (Str × Addr)) (cv:List (Str × V)) (H:Hp) (h:Heap):Prop where
 inj:∀ x y c,clos.lookup x=some c->clos.lookup y=some c->x=y
 has:∀ x,scope.names.lookup x=some .free->∃ c,clos.lookup x=some c
 val:∀ x c,clos.lookup x=some c->∃ v u,cv.lookup x=some v/\RelV v u/\h.IsCell c (some u)/\H c=none
section
variable {P:Program}{w:World}{K:PySem.W.Frag}{mg:Str->Option Value}{base:Heap}{A:Around}{outer:List Env}{s:Shared}{H:Hp}{N ps:List Str}{scope:Scope}{fa:Addr}{q:Str}{cd:Value}{clos:List (Str × Addr)}{cv:List (Str × V)}{vs:List V}{us:List Value}{σ0:St}{h':Heap}{tk:Nat}
theorem qmt_ (S:yv_ N ps scope) (hd:A.handled=none) (e0:Env0 P w K mg base A outer s H) (r:Vals vs us) (C:CloL scope clos cv H s.heap) (h0:qkn_ ps vs scope clos cv N σ0)
  (hn:h'.Ns s.heap.objs.size fun x=>(ps.zip us).reverse.lookup x) (hs:Heap.SameBut s.heap.objs.size (s.heap.push { cls:=.type "frame",data:=.dict #[] }) h') :
  Inv (cxC P w K mg base N (envC q scope s.heap.objs.size fa cd clos) A outer s H) [] σ0 H { s with heap:=h',toks:=tk }:=by
 have hk:∀ b o,s.heap.get? b=some o->h'.get? b=some o:=fun b o e=>by
  rw [hs.2 b (bP (bJ e))];exact bD _ e
 have g:∀ b:Addr,b∉([]:List Addr):=fun b=>ca
 have ik:∀ {c u},s.heap.IsCell c (some u)->h'.IsCell c (some u):=fun ⟨o,e1,e2⟩=>⟨o,hk _ _ e1,e2⟩
 refine ⟨⟨e0.mod,S.kind,rfl,rfl,bF _,C.inj,fun x hx=>?_,(fun x c z=>Bool.noConfusion z),fun _=>hd,Around.frames_deeper e0.frames,.inr ⟨rfl,rfl⟩,fun b z=>absurd z (g b),e0.bs,e0.bsz,fun b _ _=>g b,fun b z=>absurd z (g b),e0.funs,e0.frf⟩,
  rfl,e0.bare,Un.kept hk,⟨_,hn,fun i x v h1 h2 h3=>?_⟩,fun x c e=>?_,?_,fun x c e=>?_,fun p hp=>absurd (show p∈([]:List (Addr × Obj)) from hp) (by simp),e0.hok.kept hk,h0.1⟩
 ·rcases hx with hx | hx
  ·exact absurd rfl (S.nocell _ (cQ (show scope.names.lookup x=some .cell from hx)))
  ·exact C.has x hx
 ·rcases h0.2 i x v h1 h2 with ⟨hp,hv⟩ | ⟨hf,⟨c,hc⟩,hv⟩
  ·obtain ⟨u,hu,rv⟩:=r.get hv
   have h:ps.Nodup:=by rw [<- S.pre];exact S.nd.sublist (fz _ _)
   exact ⟨u,rv,.inl ⟨S.par x (bO hp),qg8_ h hp hu⟩⟩
  ·obtain ⟨v',u,d,ru,z,_⟩:=C.val x c hc
   rw [hv] at d
   cases d;exact ⟨u,ru,.inr ⟨.inr hf,c,hc,ik z⟩⟩
 ·obtain ⟨v',u,d,ru,z,_⟩:=C.val x c e
  exact ⟨_,ik z⟩
 ·exact e0.hok.fresh (bF _)
 ·obtain ⟨v',u,d,_,_,n⟩:=C.val x c e
  exact n
theorem qej_ {k:Nat}{name:Str}{params:Arguments}{body:Expr}{pm ctv:Value}{c':Addr}{Q:VK}{E:XK}{t:TE} (S:yv_ N ps scope) (hr:Room (k+1) A) (e0:Env0 P w K mg base A outer s H) (r:Vals vs us)
  (hf:H fa=some (FunO fa (PySem.W.kla_fn name q params body scope clos pm (.ref c') ctv))) (hc:H c'=some (yd_ q c')) (hb:bindArgs (PySem.W.kla_fn name q params body scope clos pm (.ref c') ctv) ⟨us,[]⟩=pure (ps.zip us))
  (C:CloL scope clos cv H s.heap) (h0:qkn_ ps vs scope clos cv N σ0)
  (ht:PE (cxC P w K mg base N (envC q scope s.heap.objs.size fa (.ref c') clos) A outer s H) body t) (hq:t σ0 H Q) :
  codeAny (model P w) A (.call (.ref fa) ⟨us,[]⟩) (CR CX0 outer P w H s Q E) s:=by
 have g:s.heap.NoLimit:=e0.mod.nolimit.keeps fun b o e=>(e0.bs b o e).1
 have ho:s.heap.get? fa=some { cls:=.type "function",data:=.func (PySem.W.kla_fn name q params body scope clos pm (.ref c') ctv) }:=(e0.hok fa _ hf).1
 have d:s.heap.CodeRec (.ref c') q:=(e0.hok c' _ hc).1;refine PySem.W.kla_callFunE hr.depth ho rfl S.co S.gen rfl d ?_;rw [hb];refine c7 ?_;refine wpAny_newFunctionEnv S.nocell (fun x hx=>S.par x.1 (fm hx).1) (fun h' hn hs=>?_) S.kind
 have hk:∀ b o,s.heap.get? b=some o->h'.get? b=some o:=fun b o e=>by
  rw [hs.2 b (bP (bJ e))];exact bD _ e
 refine ⟨g.keeps hk,PySem.W.kla_codeExpr ?_⟩
 have I:=qmt_ (q:=q) (fa:=fa) (cd:=.ref c') (tk:=s.toks+(ps.zip us).length) S hr.hd e0 r C h0 hn hs;refine d7 (ht [] _ σ0 _ _ I hq) (fun u s' ⟨v,H',J,rv,q⟩=>?_) fun e s' h=>False.elim h;exact ⟨v,H',J.os,J.bare,J.base,J.hok,rv,q⟩
end
section
variable {X:Cx}{pins:List (Addr × Obj)}{σ:St}{H:Hp}{s:Shared}
theorem qek_ {P:Addr}{pos:Pos}{q:Str}{mk:Value->Value->Value->Value->FuncData}{Q:VK} (h:tFn P pos q mk σ H Q):tFn P pos q mk σ H fun v H2=>Q v H2/\∃ fa c' doc pm ctv,v=.ref fa/\H2 fa=some (FunO fa (mk doc pm (.ref c') ctv))/\H2 c'=some (yd_ q c'):=by
 obtain ⟨ps,hP,tr,h⟩:=h;refine ⟨ps,hP,tr,?_⟩;rcases h with ⟨hn,h⟩ | ⟨c',hs,hc,h⟩
 ·refine .inl ⟨hn,fun c' fa doc pm ctv n1 n2 ne=>⟨h c' fa doc pm ctv n1 n2 ne,fa,c',doc,pm,ctv,rfl,qc_,?_⟩⟩
  rw [qd_ ne.symm];exact qc_
 ·refine .inr ⟨c',hs,hc,fun fa doc pm ctv n=>⟨h fa doc pm ctv n,fa,c',doc,pm,ctv,rfl,qc_,?_⟩⟩
  rw [qd_ (qh_ hc n)];exact hc
inductive qel_ (K:PySem.W.Frag) (j:Nat) (tb:TE) (σ:St) (Q:VK) (x:V) (H2:Hp):Prop
 | mk:∀ (l:Addr) (ns:List Nat) (ck:Nat->Int) (B:Nat) (vy:V),x=.ref l->SqL K H2 l (jG_ ns)->ns.Nodup->((∀ n∈ns,n < B))->ns.length < 64->σ[j]?=some (some vy)->((∀ (n:Nat) (H':Hp),n∈ns->Same H2 H'->tb [some (.int ((n:Nat):Int)),some vy] H' fun v H''=>∃ t,v=.ref t/\H'' t=some (keyV (ck n) n)/\Same H' H''))->(∀ (D:Addr) (H':Hp) (ms:List Nat),H2 D=none->H' D=none->Same H2 H'->ms.Perm ns->ms.Pairwise (klt ck)->Q (.ref D) (upd H' D (.lst (jG_ ms))))->qel_ K j tb σ Q x H2
def qp6_ (K:PySem.W.Frag) (P:Addr) (lpos:Pos) (q:Str) (mk:Value->Value->Value->Value->FuncData) (j:Nat) (te tb:TE):TE:=fun σ H Q=>te σ H fun x H1=>tFn P lpos q mk σ H1 fun _ H2=>qel_ K j tb σ Q x H2
theorem qmu_ {c P cy:Addr}{p y:Str}{j k:Nat}{e:Expr}{te tb:TE}{params:Arguments}{body:Expr}{scope:Scope}{lpos kp p0 pos:Pos} (T:TabK X c P) (hcl:closureFor scope X.env=pure [(y,cy)]) (hr:Room (k+3) X.A) (hg:Gl X "sorted") (hm:X.mg "sorted" = none) (he:PE X e te)
  (S:yv_ [p,y] [p] scope) (hyf:scope.names.lookup y=some .free) (hfr:∀ q∈scope.names,q.2=.free->q.1=y) (hcy:X.env.cells.lookup y=some cy) (hky:X.env.kindOf y=some .cell) (hfn:X.fn y=true) (hj:X.N[j]?=some y)
  (hb:∀ (pm cdv ctv u:Value),bindArgs (PySem.W.kla_fn (Str.ofString "<lambda>") (X.env.qual++Str.ofString "<lambda>") params body scope [(y,cy)] pm cdv ctv) ⟨[u],[]⟩=pure [(p,u)])
  (hbody:∀ (A:Around) (outer:List Env) (s:Shared) (H:Hp) (fa c':Addr),Room k (A.deeper (envC (X.env.qual++Str.ofString "<lambda>") scope s.heap.objs.size fa (.ref c') [(y,cy)]))→PE (cxC X.prog X.w X.K X.mg X.base [p,y] (envC (X.env.qual++Str.ofString "<lambda>") scope s.heap.objs.size fa (.ref c') [(y,cy)]) A outer s H) body tb)
  (h1:defaultsOf params X.env=([],[]):=by rfl) (hs:starEach [e] X.env=(false,eval e X.env) :: starEach [] X.env:=by rfl) (hs2:backTo pos (starEach [e] X.env)=(false,eval e X.env) :: backTo pos (starEach [] X.env):=by rfl) (hs3:(backTo pos (starEach [e] X.env)).any (·.1)=false:=by rfl) :
  PE X (.Call (.Name "sorted" p0) [e] [⟨some "key",.Lambda params body scope lpos,kp⟩] pos) (qp6_ X.K P lpos (X.env.qual++Str.ofString "<lambda>") (fun _ pm cdv ctv=>PySem.W.kla_fn (Str.ofString "<lambda>") (X.env.qual++Str.ofString "<lambda>") params body scope [(y,cy)] pm cdv ctv) j te tb):=by
 intro r s σ H Q I h;refine dJ (jK_ I hg hm dk ?_ (by decide) (by decide))
 refine callWith_kw ?_ hs2 hs3 rfl rfl
 refine thn ((qa_ he qb_ hs) pos r s σ H (fun vs H1=>match vs with
  | [x]=>tFn P lpos (X.env.qual++Str.ofString "<lambda>") (fun _ pm cdv ctv=>PySem.W.kla_fn (Str.ofString "<lambda>") (X.env.qual++Str.ofString "<lambda>") params body scope [(y,cy)] pm cdv ctv) σ H1 (fun _ H2=>qel_ X.K j tb σ Q x H2)
  | _=>False) I h) ?_
 rintro us s1 ⟨vs,H1,I1,rv,q1⟩
 match vs,rv,q1 with
 | [x],rv,q1 =>
  obtain ⟨u,rfl,rx⟩:=jy_ rv;refine kws_cons (PySem.W.kla_eval h1 (thn (qeg_ T hcl I1 (qek_ q1)) fun f s2 ⟨vf,H2,I2,rf,q2,fa,c',_,pm,ctv,U,L,J⟩=>?_));subst U;obtain rfl:f=Value.ref fa:=rf;obtain ⟨l,ns,ck,B,vy,rfl,D,nd,hB,Z,hσ,O,hq⟩:=q2;obtain rfl:u=Value.ref l:=rx;refine kws_nil ?_;obtain ⟨ad,ri,pl,_⟩:=I2.list D;refine d7 (qkm_ (K:=X.K) (mg:=X.mg) (base:=X.base) (ck:=ck) (B:=B) (ns:=ns) (Q:=Q) hr I2.env0 pl.isList ri nd hB Z (fun s3 H3 n xv hn sm e0 un aa=>?_) hq) (fun u s' ce=>I2.after ce) fun _ _ z=>z;obtain ⟨m,ae,hl⟩:=I2.loc;obtain ⟨uy,ab,lk⟩:=hl j y vy hj hσ (.inr (.inl hky))
  have Y:s2.heap.IsCell cy (some uy):=by
   rcases lk with ⟨z,_⟩ | ⟨_,c2,ec,z⟩
   ·rw [hky] at z;cases z
   ·rw [hcy] at ec;cases ec;exact z
  obtain ⟨oc,ho,hd⟩:=id Y
  have d:=I2.freeC y cy hcy
  have nf:cy∉frs X.stack:=fun z=>by
   rcases bL.mp (I2.stkSub cy z) with e | ac
   ·exact I2.cne y cy hcy e
   ·obtain ⟨_,o2,G,_⟩:=I2.ok.funs.mem ac
    exact absurd (bJ G) (Nat.not_lt.mpr (I2.ok.cab y cy hfn hcy))
  have E:=un.keep cy oc ho d nf ca
  have C:=un.free cy oc ho d ca
  have L1:∀ x c,[(y,cy)].lookup x=some c->x=y/\c=cy:=fun x c e=>by
   rw [cu] at e
   split at e
   ·rename_i hxy
    cases e;exact ⟨eq_of_beq hxy,rfl⟩
   ·cases e
  have g:[(y,cy)].lookup y=some cy:=by rw [cu];simp
  have L3:[(y,vy)].lookup y=some vy:=by rw [cu];simp
  refine qej_ (cv:=[(y,vy)]) (vs:=[.int ((n:Nat):Int)]) (us:=[xv]) (σ0:=[some (.int ((n:Nat):Int)),some vy]) S (k:=k) hr.in1.in1 e0 (.cons aa .nil) (sm _ _ L) (sm _ _ J) (hb _ _ _ _) ⟨fun x z c e1 e2=>((L1 x c e1).1).trans ((L1 z c e2).1).symm,fun x hx=>⟨cy,by have e:x=y:=hfr (x,.free) (cQ hx) rfl;rw [e];exact g⟩,fun x c e=>?_⟩ ⟨rfl,fun i x v e1 e2=>?_⟩ (hbody _ _ _ _ _ _ ((hr.in1.in1).deeper _)) (O n H3 hn sm)
  ·obtain ⟨rfl,rfl⟩:=L1 x c e
   exact ⟨vy,uy,L3,ab,⟨oc,E,hd⟩,C⟩
  ·match i,e1,e2 with
   | 0,e1,e2=>exact .inl ⟨e1,by cases e2;rfl⟩
   | 1,e1,e2 =>
    cases e1
    cases e2;exact .inr ⟨hyf,⟨cy,g⟩,L3⟩
end
structure FunT (K:PySem.W.Frag) (x qual:Str) (st:Stmt) (f:Addr) (fd:FuncData) (c t:Addr):Prop where
 ex:∃ (oc:Value) (od:Option Addr) (kV doc pm:Value) (an:Option Addr) (ct:Value) (osl:Array (Option Value)),
  fd=PySem.W.fnOf x qual (q5_ st) (qM_ st) (qe_ st) .none kV doc pm an (.ref c) ct/\K.lookup f=some ⟨oc,od,.func fd,osl⟩/\PySem.W.codeIn K (.ref c) qual=true
 kp:PySem.W.keepIn K (.ref f)=true
 hd:PySem.W.codeHdIn K c t=true
section
variable {P:Program}{w:World}{K:PySem.W.Frag}{mg:Str->Option Value}{base:Heap}{x qual:Str}{st:Stmt}{f c t:Addr}{fd:FuncData}{N ps:List Str}{k:Nat}{sp:Sp}
theorem FunT.fun (F:FunT K x qual st f fd c t):Fun K x qual st f fd:=by
 obtain ⟨oc,od,kV,d,pm,an,ct,osl,e,lk,g⟩:=F.ex;exact ⟨⟨oc,od,kV,d,pm,an,_,ct,osl,e,lk,g⟩,F.kp⟩
theorem FunT.ok (F:FunT K x qual st f fd c t) (S:qk_ N ps (qe_ st)) (len:∀ vs H Q E,sp vs H Q E->vs.length=ps.length)
  (hbody:∀ (A:Around) (outer:List Env) (s:Shared) (H:Hp) (vs:List V) (Q:VK) (E:XK),Room k (A.deeper (envOfC qual (qe_ st) s.heap.objs.size f (.ref c)))->sp vs H Q E →
   ∃ t,PSs (cxOf CX0 P w K mg base N qual (qe_ st) f (.ref c) A outer s H E).nox (qM_ st) t/\t { nx:=fun _ H'=>Q .non H',rt:=Q } (start N vs) H):FnOk P w K mg base CX0 (k+1) f fd ps sp:=by
 obtain ⟨oc,od,kV,l,pm,an,ct,osl,rfl,lk,g⟩:=F.ex;refine qnx_ lk g S len fun A outer s H vs Q E hr d=>?_;obtain ⟨t,h,q⟩:=hbody A outer s H vs Q E hr d;exact ⟨t,h.nox,q⟩
theorem qhb_ {oc:Value}{od an:Option Addr}{osl:Array (Option Value)}{kV doc pm ct:Value} (l:K.lookup f=some ⟨oc,od,.func (PySem.W.fnOf x qual (q5_ st) (qM_ st) (qe_ st) .none kV doc pm an (.ref c) ct),osl⟩)
  (hc:PySem.W.codeIn K (.ref c) qual=true) (hk:PySem.W.keepIn K (.ref f)=true) (hd:PySem.W.codeHdIn K c t=true):FunT K x qual st f (PySem.W.fnOf x qual (q5_ st) (qM_ st) (qe_ st) .none kV doc pm an (.ref c) ct) c t:=⟨⟨oc,od,kV,doc,pm,an,ct,osl,rfl,l,hc⟩,hk,hd⟩
theorem FunT.tab {A:Around}{outer:List Env}{s:Shared}{H:Hp}{E:XK}{sc:Scope} (F:FunT K x qual st f fd c t) (hb:base.BuiltinsAt mg t) (ne:mainGlobals≠t):TabK (cxOf CX0 P w K mg base N qual sc f (.ref c) A outer s H E).nox c t:=⟨rfl,F.hd,hb,ne⟩
end
end L2
namespace L2
open PySem PySem.Spec PySem.W PyProof.Rows
section
variable {X:Cx}
end
variable {X:Cx}
section
variable {κ:Type} [DecidableEq κ]
def valV (kvs:List (κ × V)) (k:κ):Option V:=(kvs.find? fun kv=>decide (kv.1=k)).map (·.2)
def putK (kvs:List (κ × V)) (k:κ) (v:V):List (κ × V) :=
 if (kvs.any fun kv=>decide (kv.1=k))=true then kvs.map (fun kv=>if kv.1=k then (kv.1,v) else kv) else kvs++[(k,v)]
theorem zZ_ {p:κ × V}{r:List (κ × V)}{k:κ} (e:p.1=k):valV (p :: r) k=some p.2:=by simp [valV,fo,e]
theorem z0_ {p:κ × V}{r:List (κ × V)}{k:κ} (e:¬ p.1=k):valV (p :: r) k=valV r k:=by simp [valV,fo,e]
theorem uC_ (k:κ):∀ kvs:List (κ × V),(kvs.any fun kv=>decide (kv.1=k))=(valV kvs k).isSome
 | []=>rfl
 | p :: r=>by
  rw [fw]
  by_cases e:p.1=k
  ·simp only [zZ_ e,bN e,Bool.true_or,Option.isSome_some]
  ·rw [z0_ e,bY e,dO];exact uC_ k r
theorem ul_ (kvs:List (κ × V)) (k:κ) (v:V):(putK kvs k v).length<=kvs.length+1:=by
 unfold putK
 split
 ·rw [b9];omega
 ·rw [cg,cM,List.length_nil];omega
theorem qmv_ {kvs:List (κ × V)}{k:κ} (v:V) (h:valV kvs k=none):putK kvs k v=kvs++[(k,v)]:=by
 unfold putK;rw [uC_,h];exact if_neg (by decide)
theorem RelO.isSome_eq {o:Option V}{u:Option Value} (r:RelO o u):o.isSome=u.isSome:=by
 cases o with
 | none=>cases u with
  | none=>rfl
  | some _=>exact (show False from r).elim
 | some _=>cases u with
  | none=>exact (show False from r).elim
  | some _=>rfl
theorem RelO.getD {o:Option V}{u:Option Value}{d:V}{d':Value} (r:RelO o u) (rd:RelV d d'):RelV (o.getD d) (u.getD d'):=by
 cases o with
 | none=>cases u with
  | none=>exact rd
  | some _=>exact (show False from r).elim
 | some _=>cases u with
  | none=>exact (show False from r).elim
  | some _=>exact r
theorem KV.val {kvs:List (κ × V)}{vs:List (κ × Value)} (r:KV kvs vs) (k:κ):RelO (valV kvs k) (valueAt vs k):=by
 unfold KV at r
 induction r with
 | nil=>exact True.intro
 | @cons p q ps qs h t ih =>
  obtain ⟨h1,h2⟩:=h
  by_cases e:p.1=k
  ·have e':q.1=k:=h1.symm.trans e
   have b:valueAt (q :: qs) k=some q.2:=by simp [valueAt,fo,e']
   rw [zZ_ e,b];exact h2
  ·have e':¬ q.1=k:=fun z=>e (h1.trans z)
   have b:valueAt (q :: qs) k=valueAt qs k:=by simp [valueAt,fo,e']
   rw [z0_ e,b];exact ih
theorem KV.any {kvs:List (κ × V)}{vs:List (κ × Value)} (r:KV kvs vs) (k:κ):(kvs.any fun kv=>decide (kv.1=k))=vs.any fun kv=>decide (kv.1=k):=by
 unfold KV at r
 induction r with
 | nil=>rfl
 | cons h t ih=>rw [fw,fw,ih,h.1]
theorem KV.repl {kvs:List (κ × V)}{vs:List (κ × Value)} (r:KV kvs vs) (k:κ) {y:V}{u:Value} (ry:RelV y u) :
  KV (kvs.map fun kv=>if kv.1=k then (kv.1,y) else kv) (vs.map fun kv=>if kv.1=k then (kv.1,u) else kv):=by
 unfold KV at r ⊢
 induction r with
 | nil=>exact .nil
 | @cons p q ps qs h t ih =>
  rw [cN,cN];refine .cons ?_ ih;obtain ⟨h1,h2⟩:=h
  by_cases e:p.1=k
  ·rw [if_pos e,if_pos (h1.symm.trans e)];exact ⟨h1,ry⟩
  ·rw [if_neg e,if_neg (fun z=>e (h1.trans z))];exact ⟨h1,h2⟩
theorem KV.put {kvs:List (κ × V)}{vs:List (κ × Value)} (r:KV kvs vs) (k:κ) {y:V}{u:Value} (ry:RelV y u):KV (putK kvs k y) (stored vs k u):=by
 unfold putK stored;rw [r.any k]
 by_cases e:(vs.any fun kv=>decide (kv.1=k))=true
 ·rw [if_pos e,if_pos e];exact r.repl k ry
 ·rw [if_neg e,if_neg e];exact Paired.snoc r ⟨rfl,ry⟩
theorem KV.length {kvs:List (κ × V)}{vs:List (κ × Value)} (r:KV kvs vs):kvs.length=vs.length:=Paired.length r
end
theorem v5_ {P:Program}{w:World}{k:Key}{u:Value} (r:RelV (kV k) u):(qU_ P w).is k u=true:=by
 cases k with
 | inl i=>obtain ⟨t,e⟩:=(show ∃ t,u=Value.int i t from r);subst e;exact qf1_ P w i t
 | inr x=>obtain ⟨t,e⟩:=(show ∃ t,u=Value.str x t from r);subst e;exact qf2_ P w x t
theorem qca_ {P:Program}{w:World}:∀ {ks:List Key}{us:List Value},Vals (ks.map kV) us->ItemsAre (qU_ P w) ks us
 | [],_,r=>by rw [fG] at r;cases r;exact .nil
 | k :: ks,_,r=>by
  rw [cN] at r
  cases r with
  | cons h t=>exact .cons (v5_ h) (qca_ t)
abbrev KT (H:Hp):List (List Key × V)->List (List Key × Addr × Value)->Prop:=Paired fun p q=>p.1=q.1/\H q.2.1=some (.tup (p.1.map kV))/\RelV p.2 q.2.2
theorem KT.val {H:Hp}{kvs:List (List Key × V)}{xs:List (List Key × Addr × Value)} (r:KT H kvs xs) (k:List Key):RelO (valV kvs k) ((atKey xs k).map (·.2)):=by
 induction r with
 | nil=>exact True.intro
 | @cons p q ps qs h t ih =>
  obtain ⟨h1,_,h2⟩:=h
  by_cases e:p.1=k
  ·have e':q.1=k:=h1.symm.trans e
   have b:atKey (q :: qs) k=some q.2:=by simp [atKey,fo,e']
   rw [zZ_ e,b];exact h2
  ·have e':¬ q.1=k:=fun z=>e (h1.trans z)
   have b:atKey (q :: qs) k=atKey qs k:=by simp [atKey,fo,e']
   rw [z0_ e,b];exact ih
theorem KT.repl {H:Hp}{kvs:List (List Key × V)}{xs:List (List Key × Addr × Value)} (r:KT H kvs xs) (k:List Key) {y:V}{u:Value} (ry:RelV y u) :
  KT H (kvs.map fun kv=>if kv.1=k then (kv.1,y) else kv) (xs.map (putAt k u)):=by
 induction r with
 | nil=>exact .nil
 | @cons p q ps qs h t ih =>
  rw [cN,cN];refine .cons ?_ ih;obtain ⟨h1,h2,h3⟩:=h;unfold putAt
  by_cases e:p.1=k
  ·rw [if_pos e,if_pos (h1.symm.trans e)];exact ⟨h1,h2,ry⟩
  ·rw [if_neg e,if_neg (fun z=>e (h1.trans z))];exact ⟨h1,h2,h3⟩
theorem KT.put {H:Hp}{kvs:List (List Key × V)}{xs:List (List Key × Addr × Value)} (r:KT H kvs xs) (k:List Key) {b:Addr}{y:V}{u:Value} (hb:H b=some (.tup (k.map kV))) (ry:RelV y u) :
  KT H (putK kvs k y) (storedH xs k b u):=by
 have e:(kvs.any fun kv=>decide (kv.1=k))=(atKey xs k).isSome:=by
  rw [uC_,(r.val k).isSome_eq,Option.isSome_map]
 unfold putK storedH;rw [e]
 by_cases q:(atKey xs k).isSome=true
 ·rw [if_pos q,if_pos q];exact r.repl k ry
 ·rw [if_neg q,if_neg q];exact Paired.snoc r ⟨rfl,hb,ry⟩
theorem KT.keeps {H H':Hp}{kvs:List (List Key × V)}{xs:List (List Key × Addr × Value)} (r:KT H kvs xs) (ht:∀ b ys,H b=some (.tup ys)->H' b=some (.tup ys)):KT H' kvs xs :=
 Paired.mapP r fun _ _ z=>⟨z.1,ht _ _ z.2.1,z.2.2⟩
section
variable {P:Program}{w:World}{H:Hp}{h:Heap}{a:Addr}
theorem qn0_ {u:HO} (ok:HOk P w H h) (e:Rd H a u):ObjOk P w H h a u:=e.ok ok
theorem yG_ {kvs:List (Key × V)} (ok:HOk P w H h) (e:Rd H a (.dK kvs)):kvs.length<=sizeLine/\(a == sysModules)=false/\∃ vs,KV kvs vs/\h.DictOf (qU_ P w) a vs :=
 show ObjOk P w H h a (.dK kvs) from qn0_ ok e
theorem qi2_ {kvs:List (Key × V)} (ok:HOk P w H h) (e:H a=some (.dK kvs)):kvs.length<=sizeLine/\(a == sysModules)=false/\∃ vs,KV kvs vs/\h.DictOf (qU_ P w) a vs:=yG_ ok (.inl e)
theorem zL_ {ks:List Key} (ok:HOk P w H h) (e:H a=some (.tup (ks.map kV))):(tupleKind (qU_ P w)).is h ks a:=by
 obtain ⟨_,d,r,o,h1,h2,n,h3⟩:=(show ObjOk P w H h a (.tup (ks.map kV)) from ok a _ e);exact ⟨o,d.toArray,n,h1,h2,h3,by simpa using qca_ r⟩
theorem z1_ {kvs:List (List Key × V)} (ok:HOk P w H h) (e:Rd H a (.dT kvs)):kvs.length<=sizeLine/\(a == sysModules)=false ∧
  ∃ xs,KT H kvs xs/\h.DictOfH (tupleKind (qU_ P w)) a xs:=by
 obtain ⟨z,y,xs,r,o,es,ep,h1,h2,h3,h4,h5⟩:=(show ObjOk P w H h a (.dT kvs) from qn0_ ok e);refine ⟨z,y,xs,r,o,es,ep,h1,h2,h3,h4,fun x hx=>?_,h5⟩
 have all:∀ {l:List (List Key × V)}{m:List (List Key × Addr × Value)},KT H l m->∀ x∈m,(tupleKind (qU_ P w)).is h x.1 x.2.1:=by
  intro l m q
  induction q with
  | nil=>intro x hx;exact nomatch hx
  | @cons p q ps qs hq t ih =>
   intro x hx;rcases bL.mp hx with e | hx
   ·subst e
    exact zL_ ok (by rw [<- hq.1];exact hq.2.1)
   ·exact ih x hx
 exact all r x hx
theorem qq0_ {kvs:List (List Key × V)} (ok:HOk P w H h) (e:H a=some (.dT kvs)):kvs.length<=sizeLine/\(a == sysModules)=false ∧
  ∃ xs,KT H kvs xs/\h.DictOfH (tupleKind (qU_ P w)) a xs:=z1_ ok (.inl e)
end
def DGet (H:Hp) (a:Addr) (y:V) (r:Option V):Prop :=
 (∃ kvs k,Rd H a (.dK kvs)/\y=kV k/\r=valV kvs k)\/∃ kvs k b,Rd H a (.dT kvs)/\y=.ref b/\H b=some (.tup (k.map kV))/\r=valV kvs k
def DPut (H:Hp) (a:Addr) (y v:V) (H':Hp):Prop :=
 (∃ kvs k,H a=some (.dK kvs)/\y=kV k/\kvs.length < sizeLine/\H'=upd H a (.dK (putK kvs k v))) ∨
 ∃ kvs k b,H a=some (.dT kvs)/\y=.ref b/\H b=some (.tup (k.map kV))/\kvs.length < sizeLine/\H'=upd H a (.dT (putK kvs k v))
theorem DGet.k {H:Hp}{a:Addr}{kvs:List (Key × V)}{k:Key} (e:H a=some (.dK kvs)):DGet H a (kV k) (valV kvs k):=.inl ⟨kvs,k,.inl e,rfl,rfl⟩
theorem DPut.k {H:Hp}{a:Addr}{kvs:List (Key × V)}{k:Key}{v:V} (e:H a=some (.dK kvs)) (hl:kvs.length < sizeLine):DPut H a (kV k) v (upd H a (.dK (putK kvs k v))):=.inl ⟨kvs,k,e,rfl,hl,rfl⟩
section
variable {X:Cx}{pins:List (Addr × Obj)}{σ:St}{H:Hp}{s:Shared}{a:Addr}{y v:V}{u r:Value}{o:Option V}{A:Around}{E:Value->Shared->Prop}
theorem Inv.big (I:Inv X pins σ H s):sysModules < s.heap.objs.size:=by
 have h:mainGlobals < s.heap.objs.size:=(I.mod.glob.keeps I.bk).lt;exact fi (by decide) h
theorem qko_ {Q:Value->Shared->Prop} (hu:A.units+1 < cLine) (I:Inv X pins σ H s) (g:DGet H a y (some v)) (ry:RelV y u) (h:∀ w' s',Inv X pins σ H s'->RelV v w'->Q w' s') :
  wpAny (model X.prog X.w) A (getItem (.ref a) u) Q E s:=by
 rcases g with ⟨C,k,e,ey,l⟩ | ⟨C,k,b,e,ey,eb,l⟩
 ·subst ey
  obtain ⟨z,hd,vs,d,dd⟩:=yG_ I.hok e;obtain ⟨w',hw,r⟩:=RelO.some_of (v:=v) (o:=valueAt vs k) (by rw [l];exact d.val k)
  exact wpAny_getItem_of (v5_ ry) dd.mapOf hw (h w' _ (I.tok _) r)
 ·subst ey
  cases (show u=Value.ref b from ry);obtain ⟨z,hd,xs,d,dd⟩:=z1_ I.hok e;obtain ⟨w',hw,r⟩:=RelO.some_of (v:=v) (o:=(atKey xs k).map (·.2)) (by rw [l];exact d.val k)
  obtain ⟨p,hp,B⟩:=Option.map_eq_some_iff.mp hw;refine wpAny_getItem_heap (tupleKind_room_in1 hu) (zL_ I.hok eb) dd hp ?_;rw [B];exact h w' _ (I.tok _) r
theorem d_in {Q:Value->Shared->Prop} (hu:A.units+1 < cLine) (I:Inv X pins σ H s) (g:DGet H a y o) (ry:RelV y u) (h:∀ s',Inv X pins σ H s'->Q (.bool o.isSome) s') :
  wpAny (model X.prog X.w) A (compareOp .In u (.ref a)) Q E s:=by
 rcases g with ⟨r,k,e,ey,l⟩ | ⟨r,k,b,e,ey,eb,l⟩
 ·subst ey
  obtain ⟨z,hd,vs,d,dd⟩:=yG_ I.hok e;refine wpAny_in_of (v5_ ry) hd dd.mapOf ?_;rw [<- (d.val k).isSome_eq,← l];exact h _ (I.tok _)
 ·subst ey
  cases (show u=Value.ref b from ry);obtain ⟨z,hd,xs,d,dd⟩:=z1_ I.hok e;refine wpAny_in_heap (tupleKind_room_in1 hu) (zL_ I.hok eb) hd dd ?_
  have q:=(d.val k).isSome_eq;rw [Option.isSome_map] at q;rw [<- q,← l];exact h _ (I.tok _)
theorem qow_ {Q:Value->Shared->Prop} (hu:A.units+1 < cLine) (I:Inv X pins σ H s) (g:DGet H a y o) (ry:RelV y u) (h:∀ s',Inv X pins σ H s'->Q (.bool (!o.isSome)) s') :
  wpAny (model X.prog X.w) A (compareOp .NotIn u (.ref a)) Q E s:=by
 rcases g with ⟨r,k,e,ey,l⟩ | ⟨r,k,b,e,ey,eb,l⟩
 ·subst ey
  obtain ⟨z,hd,vs,d,dd⟩:=yG_ I.hok e;refine wpAny_notIn_of (v5_ ry) hd dd.mapOf ?_;rw [<- (d.val k).isSome_eq,← l];exact h _ (I.tok _)
 ·subst ey
  cases (show u=Value.ref b from ry);obtain ⟨z,hd,xs,d,dd⟩:=z1_ I.hok e;refine wpAny_notIn_heap (tupleKind_room_in1 hu) (zL_ I.hok eb) hd dd ?_
  have q:=(d.val k).isSome_eq;rw [Option.isSome_map] at q;rw [<- q,← l];exact h _ (I.tok _)
theorem qhc_ {h':Heap}{t':Nat}{ob:HO} (I:Inv X pins σ H s) (mu:Mut (H a)) (hs:Heap.SameBut a s.heap h') (he:∃ q,h'.get? a=some q) (new:ObjOk X.prog X.w (upd H a ob) h' a ob) :
  Inv X pins σ (upd H a ob) { s with heap:=h',toks:=t' } :=
 I.write (x:=a) (e:=a) mu (.inl rfl) (fun b q hb z=>(hs.2 b hb).trans z) he new
theorem qkp_ {P:Program}{w:World}{H':Hp}{h':Heap}{kvs:List (Key × V)}{vs:List (Key × Value)} (z:kvs.length<=sizeLine) (hd:(a == sysModules)=false) (rel:KV kvs vs) (dd:h'.DictOf (qU_ P w) a vs) :
  ObjOk P w H' h' a (.dK kvs):=⟨z,hd,vs,rel,dd⟩
theorem qkq_ {H':Hp}{Q:Unit->Shared->Prop} (hu:A.units+1 < cLine) (I:Inv X pins σ H s) (g:DPut H a y v H') (ry:RelV y u) (rv:RelV v r) (h:∀ s',Inv X pins σ H' s'->Q () s') :
  wpAny (model X.prog X.w) A (setItem (.ref a) u r) Q E s:=by
 rcases g with ⟨B,k,e,ey,l,eH⟩ | ⟨B,k,b,e,ey,eb,l,eH⟩
 ·subst ey eH
  obtain ⟨z,hd,vs,d,dd⟩:=qi2_ I.hok e
  have hz:vs.length<=sizeLine:=by rw [<- d.length];exact z
  have hl:(putK B k v).length<=sizeLine:=by have:=ul_ B k v;omega
  refine wpAny_setItem_pairs (hsz:=hz) (v5_ ry) dd fun h' C hs=>h _ ?_
  have he:∃ q,h'.get? a=some q:=let ⟨q,_,_,hq,_⟩:=C;⟨q,hq⟩;exact qhc_ I (by rw [e];exact True.intro) hs he (qkp_ hl hd (d.put k rv) C)
 ·subst ey eH
  cases (show u=Value.ref b from ry);obtain ⟨z,hd,xs,d,dd⟩:=qq0_ I.hok e
  have hz:xs.length<=sizeLine:=by rw [<- Paired.length d];exact z
  have hl:(putK B k v).length<=sizeLine:=by have:=ul_ B k v;omega
  refine wpAny_setItem_heap (hsz:=hz) (tupleKind_room_in1 hu) (zL_ I.hok eb) dd fun h' C hs=>h _ ?_;obtain ⟨q,es,ep,hq,h2,h3,h4,_,h5⟩:=C;refine qhc_ I (by rw [e];exact True.intro) hs ⟨q,hq⟩ ⟨hl,hd,_,(d.put k eb rv).keeps fun c ys ec=>?_,q,es,ep,hq,h2,h3,h4,h5⟩
  rw [qd_ (qY_ ec e (fun z=>nomatch z))];exact ec
end
section
variable {X:Cx}{pins:List (Addr × Obj)}{σ:St}{H:Hp}{s:Shared}{a:Addr}{kvs:List (Key × V)}{k:Key}{u:Value}{A:Around}{E:Value->Shared->Prop}
end
def NoSl (i:Expr):Prop:=∀ ov iv,subscripted i false ov iv=operate [ov,iv] (getItem ov iv)
theorem qox_ {prog:Program}{w:World}{A:Around}{E:Value->Shared->Prop}{s:Shared}{env:Env}{value slice:Expr}{pos:Pos}{T id:String}{Q:Value->Shared->Prop}
  (hl:typeLookup (.type T) "__getitem__" = pure (some (.builtin id))) (hs:NoSl slice)
  (h:wpAny (model prog w) A (eval value env) (fun o s₁=>wpAny (model prog w) A (eval slice env) (fun i s₂=>s₂.TypeIs o T/\wpAny (model prog w) A (getItem o i) Q E s₂) E s₁) E s) :
  wpAny (model prog w) A (eval (.Subscript value slice pos) env) Q E s:=by
 refine Subscript_ (d7 h (fun o s₁ h₁=>d7 h₁ (fun i s₂ h₂=>?_) fun _ _ x=>x) fun _ _ x=>x);obtain ⟨hT,h₂⟩:=h₂;unfold subscriptTail;refine bH ?_;rw [getitemInPython_of_ne hT.not_modules];refine bH (wpAny_specialOf hT hl ?_)
 have fin:wpAny (model prog w) A (subscripted slice false o i) (fun r s₃=>wpAny (model prog w) A (letTemporaryGo value o r >>= fun _=>pure r) Q E s₃) E s₂:=by
  rw [hs o i];exact wpAny_operating (d7 h₂ (fun r s₃ h₃=>bH (wpAny_letTemporaryGo (c7 h₃))) fun _ _ x=>x)
 first
  | exact c7 (bH fin)
  | exact bH (c7 (bH fin))
  | exact bH fin
theorem qge_ {X:Cx}{pins:List (Addr × Obj)}{σ:St}{H:Hp}{s:Shared}{a:Addr}{y:V}{o:Option V} (I:Inv X pins σ H s) (g:DGet H a y o):s.TypeIs (.ref a) "dict":=by
 rcases g with ⟨d,k,e,_,_⟩ | ⟨d,k,b,e,_,_,_⟩
 ·obtain ⟨_,_,vs,_,dd⟩:=yG_ I.hok e
  exact dd.typeIs
 ·obtain ⟨_,_,xs,_,dd⟩:=z1_ I.hok e
  exact dd.typeIs
inductive qhd_ (Q:VK) (x y:V) (H2:Hp):Prop
 | mk:∀ a v,x=.ref a->DGet H2 a y (some v)->Q v H2->qhd_ Q x y H2
def qq1_ (td ty:TE):TE:=fun σ H Q=>td σ H fun x H1=>ty σ H1 fun y H2=>qhd_ Q x y H2
inductive qkr_ (Q:VK) (y x:V) (H2:Hp):Prop
 | mk:∀ a o,x=.ref a->DGet H2 a y o->Q (.bl o.isSome) H2->qkr_ Q y x H2
def tDIn (ty td:TE):TE:=fun σ H Q=>ty σ H fun y H1=>td σ H1 fun x H2=>qkr_ Q y x H2
inductive qcb_ (Q:VK) (y x:V) (H2:Hp):Prop
 | mk:∀ a o,x=.ref a->DGet H2 a y o->Q (.bl (!o.isSome)) H2->qcb_ Q y x H2
def qoy_ (ty td:TE):TE:=fun σ H Q=>ty σ H fun y H1=>td σ H1 fun x H2=>qcb_ Q y x H2
inductive qhe_ (D:Ends) (σ:St) (v x y:V) (H3:Hp):Prop
 | mk:∀ a H4,x=.ref a->DPut H3 a y v H4->D.nx σ H4->qhe_ D σ v x y H3
def qq2_ (td ty tv:TE):TS:=fun D σ H=>tv σ H fun v H1=>td σ H1 fun x H2=>ty σ H2 fun y H3=>qhe_ D σ v x y H3
section
variable {X:Cx}{o i e value:Expr}{pos pos' tpos:Pos}{td ty tv:TE}
theorem qa7_ (hu:X.A.units+1 < cLine) (ho:PE X o td) (hi:PE X i ty) (hs:NoSl i):PE X (.Subscript o i pos) (qq1_ td ty):=by
 intro d s σ H Q I h;refine qox_ PySem.F.slot_dict_getitem.lookup hs (thn (ho d s σ H _ I h) fun u s1 ⟨x,H1,I1,rx,q1⟩=>thn (hi d s1 σ H1 _ I1 q1) fun iv s2 ⟨y,H2,I2,ry,a,v,ex,g,q2⟩=>?_);subst ex;obtain rfl:u=Value.ref a:=rx;exact ⟨qge_ I2 g,qko_ hu I2 g ry fun w' s3 I3 l=>⟨v,H2,I3,l,q2⟩⟩
theorem qem_ (hu:X.A.units+1 < cLine) (hi:PE X i ty) (ho:PE X o td):PC X .In i o (tDIn ty td):=by
 intro d s σ H Q I h;refine thn (hi d s σ H _ I h) fun iv s1 ⟨y,H1,I1,ry,q1⟩=>thn (ho d s1 σ H1 _ I1 q1) fun u s2 ⟨x,H2,I2,rx,a,ov,ex,g,q2⟩=>?_;subst ex;obtain rfl:u=Value.ref a:=rx;exact d_in hu I2 g ry fun s3 I3=>⟨.bl ov.isSome,H2,I3,rfl,q2⟩
theorem qcc_ (hu:X.A.units+1 < cLine) (hi:PE X i ty) (ho:PE X o td):PC X .NotIn i o (qoy_ ty td):=by
 intro d s σ H Q I h;refine thn (hi d s σ H _ I h) fun iv s1 ⟨y,H1,I1,ry,q1⟩=>thn (ho d s1 σ H1 _ I1 q1) fun u s2 ⟨x,H2,I2,rx,a,ov,ex,g,q2⟩=>?_;subst ex;obtain rfl:u=Value.ref a:=rx;exact qow_ hu I2 g ry fun s3 I3=>⟨.bl (!ov.isSome),H2,I3,rfl,q2⟩
theorem v6_ (hu:X.A.units+1 < cLine) (ho:PE X o td) (hi:PE X i ty) (hv:PE X value tv) (hs:swapsWith value (some (.Subscript o i pos')) pos.line X.env=pure false) :
  PS X (.Assign [.Subscript o i pos'] value pos) (qq2_ td ty tv):=by
 intro d s σ H D I h;refine wpAny_Assign_Subscript (thn (hv d s σ H _ I h) fun r s1 ⟨v,H1,I1,rv,q1⟩=>thn (ho d s1 σ H1 _ I1 q1) fun u s2 ⟨x,H2,I2,rx,q2⟩=>thn (hi d s2 σ H2 _ I2 q2) fun iv s3 ⟨y,H3,I3,ry,a,H4,ex,g,q3⟩=>?_) hs;subst ex;obtain rfl:u=Value.ref a:=rx;exact qkq_ hu I3 g ry rv fun s4 I4=>⟨σ,H4,I4,q3⟩
end
theorem qmw_ {P:Program}{w:World}{H:Hp} (h:Heap) (hb:sysModules < h.objs.size):ObjOk P w H (h.push { cls:=.type "dict",data:=.dict #[] }) h.objs.size (.dK []) :=
 ⟨cn _,cP.mpr (cJ (bP hb)),[],.nil,Heap.DictOf.new h⟩
def qp7_:TE:=fun _ H Q=>∀ p,H p=none->Q (.ref p) (upd H p (.dK []))
section
variable {X:Cx}{pos:Pos}
theorem uD_:PE X (.Dict [] [] pos) qp7_:=fun pins s σ H Q I h =>
 wpAny_Dict_empty ⟨.ref s.heap.objs.size,_,I.laid (a:=s.heap.objs.size) (o:=.dK []) (t':=s.toks) (fun _ _ q=>bD _ q) (bF _) (qmw_ s.heap I.big),rfl,h _ (I.hok.fresh (bF _))⟩
end
structure M2 (X:Cx) (o:Expr) (m:Str) (apos:Pos) (e f:Expr) (cpos:Pos):Prop where
 base:attributeBase o m X.env (eval o X.env)=eval o X.env
 few:((backTo cpos (starEach [e,f] X.env)).all (fun x=>!x.1) && (backToKw cpos (keywordEach [] X.env)).all (fun x=>x.1.isSome)
  && decide (([e,f]:List Expr).length+([]:List Keyword).length+(if ([]:List Keyword).isEmpty then 0 else 1) < 30))=true
 line:(apos.endLine == cpos.line)=true
 trees:backTo cpos (starEach [e,f] X.env)=[(false,eval e X.env),(false,eval f X.env)]
def IsD (H:Hp) (a:Addr):Prop:=(∃ kvs,Rd H a (.dK kvs))\/∃ kvs,Rd H a (.dT kvs)
theorem qp8_ {X:Cx}{pins:List (Addr × Obj)}{σ:St}{H:Hp}{s:Shared}{a:Addr} (I:Inv X pins σ H s) (d:IsD H a) :
  s.TypeIs (.ref a) "dict" ∧ (∀ b,Value.ref a=.ref b → ∃ ob,s.heap.get? b=some ob∧ob.dict=none)∧(a == sysModules)=false:=by
 rcases d with ⟨g,e⟩ | ⟨g,e⟩
 ·obtain ⟨_,hd,vs,_,dd⟩:=yG_ I.hok e
  refine ⟨dd.typeIs,fun b q=>?_,hd⟩
  cases q;obtain ⟨ob,_,_,h1,h2,_⟩:=dd;exact ⟨ob,h1,h2.2.1⟩
 ·obtain ⟨_,hd,xs,_,dd⟩:=z1_ I.hok e
  refine ⟨dd.typeIs,fun b q=>?_,hd⟩
  cases q;obtain ⟨ob,_,_,h1,h2,_⟩:=dd;exact ⟨ob,h1,h2.2.1⟩
section
variable {X:Cx}{pins:List (Addr × Obj)}{σ:St}{H:Hp}{s:Shared}{a:Addr}{y d:V}{u r:Value}{o:Option V}{A:Around}{E:Value->Shared->Prop}
theorem qp9_ {Q:Value->Shared->Prop} (hu:A.units+1 < cLine) (I:Inv X pins σ H s) (g:DGet H a y o) (ry:RelV y u) (rd:RelV d r) (h:∀ w' s',Inv X pins σ H s'->RelV (o.getD d) w'->Q w' s') :
  wpAny (model X.prog X.w) A (call (.builtin "dict.get") [.ref a,u,r]) Q E s:=by
 rcases g with ⟨C,k,e,ey,l⟩ | ⟨C,k,b,e,ey,eb,l⟩
 ·subst ey
  obtain ⟨z,hd,vs,B,dd⟩:=yG_ I.hok e;refine call_meetsIn PySem.F.slot_dict_get dd.typeIs PySem.F.entry_dict_get (PySem.F.args_dict_get_3 _ _ _) (meets_dict_get_default (qU_ X.prog X.w) a (v5_ ry) hd r) ⟨_,dd.mapOf,h _ _ (I.tok _) ?_⟩;rw [l];exact (B.val k).getD rd
 ·subst ey
  cases (show u=Value.ref b from ry);obtain ⟨z,hd,xs,B,dd⟩:=z1_ I.hok e;refine call_meetsIn PySem.F.slot_dict_get dd.typeIs PySem.F.entry_dict_get (PySem.F.args_dict_get_3 _ _ _) (meetsH_dict_get_default (tupleKind (qU_ X.prog X.w)) a b hd r) ⟨tupleKind_room_in1 hu,k,xs,zL_ I.hok eb,dd,h _ _ (I.tok _) ?_⟩;rw [l];exact (B.val k).getD rd
end
inductive qen_ (ty tx:TE) (σ:St) (Q:VK) (x:V) (H1:Hp):Prop
 | mk:∀ a,x=.ref a->IsD H1 a->(ty σ H1 fun y H2=>tx σ H2 fun z H3=>∃ o,DGet H3 a y o/\Q (o.getD z) H3)->qen_ ty tx σ Q x H1
def qqa_ (td ty tx:TE):TE:=fun σ H Q=>td σ H fun x H1=>qen_ ty tx σ Q x H1
section
variable {X:Cx}{o e f:Expr}{apos cpos:Pos}{td ty tx:TE}
theorem qmx_ (hu:X.A.units+1 < cLine) (ho:PE X o td) (he:PE X e ty) (hf:PE X f tx) (m:M2 X o "get" apos e f cpos):PE X (.Call (.Attribute o "get" apos) [e,f] [] cpos) (qqa_ td ty tx):=by
 intro l s σ H Q I h;refine wpAny_Call_method m.base m.few m.line PySem.F.plainAttrs_dict PySem.F.slot_dict_get PySem.F.type_dict_get (thn (ho l s σ H _ I h) fun u s1 ⟨x,H1,I1,rx,a,ex,d,q1⟩=>?_);subst ex;obtain rfl:u=Value.ref a:=rx;obtain ⟨t1,t2,_⟩:=qp8_ I1 d;refine ⟨t1,t2,?_⟩;rw [m.trees]
 refine Calls.callWith_builtin rfl (Calls.evalArgs_plain (Calls.spliced_cons (thn (he l s1 σ H1 _ I1 q1) fun iv s2 ⟨y,H2,I2,ry,q2⟩ =>
  Calls.spliced_cons (thn (hf l s2 σ H2 _ I2 q2) fun fv s3 ⟨z,H3,I3,rz,ov,g,q3⟩=>Calls.spliced_nil ?_))))
 exact qp9_ hu I3 g ry rz fun w' s4 I4 r=>⟨_,H3,I4,r,q3⟩
end
section
variable {X:Cx}{pins:List (Addr × Obj)}{σ:St}{H:Hp}{s:Shared}{a:Addr}{kvs:List (Key × V)}{A:Around}{E:Value->Shared->Prop}
theorem qmy_ {Q:Value→Shared→Prop} (I:Inv X pins σ H s) (e:Rd H a (.dK kvs)) (h:∀ p s',H p=none→Inv X pins σ (upd H p (.dK kvs)) s'→Q (.ref p) s'):wpAny (model X.prog X.w) A (call (.type "dict") [.ref a]) Q E s:=by
 obtain ⟨z,hd,vs,d,dd⟩:=yG_ I.hok e;refine kt_call_dict hd dd (by rw [<- d.length];exact z) fun h' g hs=>?_
 refine h _ _ (I.hok.fresh (bF _)) (I.laid (a:=s.heap.objs.size) (o:=.dK kvs) (t':=s.toks) (fun b q hq=>?_) (bF _) (qkp_ z (cP.mpr (cJ (bP I.big))) d g));exact (hs.2 b (bP (bJ hq))).trans (bD _ hq)
end
section
variable {X:Cx}{pins:List (Addr × Obj)}{σ:St}{H:Hp}{s:Shared}{a:Addr}{y:V}{u:Value}{A:Around}{E:Value->Shared->Prop}
end
section
variable {X:Cx}
end
section
variable {κ:Type} [DecidableEq κ]
end
section
variable {X:Cx}{pins:List (Addr × Obj)}{σ:St}{H:Hp}{s:Shared}
end
section
variable {X:Cx}{CX:CXT}{k:Nat}{f Pk:Addr}{fd:FuncData}{ps:List Str}{sp:Sp}{dvs:List V}{ds:List Value}{E:XK}{c m:Str}{p pos apos:Pos}{e:Expr}{es:List Expr}{t:TA}
end
end L2
namespace GF
end GF
namespace L2
open PySem PySem.Spec PyProof.Rows
theorem qeo_ {M:Model}{A:Around}{E:Value→Shared→Prop}{s:Shared}{v:Value}{Q:Unit→Shared→Prop} (q:Q () s):wpAny M A (checkBuiltinCall "sorted" { pos:=[v] }) Q E s:=by
 have e1:splitId "sorted" = none:=by decide +kernel
 have h:=args_sorted1 v;unfold argsOk at h;unfold checkBuiltinCall;rw [e1]
 have fin:wpAny M A (match Manifest.signature? "sorted" with
   | some sig=>Bind.checkArgs "sorted" sig { pos:=[v] }
   | x=>pure ()) Q E s:=by
  cases hs:Manifest.signature? "sorted" with
  | none=>exact c7 q
  | some sig =>
   rw [hs] at h
   have h:Bind.checkArgs "sorted" sig { pos:=[v] } = pure ():=h
   show wpAny M A (Bind.checkArgs "sorted" sig { pos:=[v] }) Q E s
   rw [h];exact c7 q
 cases builtinKind "sorted" with
 | none=>exact fin
 | some k=>exact fin
theorem qks_ {prog:Program}{w:World}{A:Around}{E:Value→Shared→Prop}{s:Shared}{a:Addr}{vs:List Value}{ns:List Int}{n:Nat}{Q:Value→Shared→Prop} (h:s.heap.get? a=some (seqObj "list" vs.toArray n)) (hi:IntsAre vs ns) (hl:vs.length < 64)
  (q:∀ (out:Array Value) (ns':List Int),IntsAre out.toList ns'→ns'.Perm ns→List.Pairwise (fun x y=>x≤y) ns'→Q .none { s with heap:=sortedHeap s.heap a vs out }):wpAny (model prog w) A (call (.builtin "list.sort") [.ref a]) Q E s:=by
 refine wpAny_call (codeAny_call_builtin PySem.F.slot_list_sort.plain PySem.F.entry_list_sort ?_);refine PySem.F.slot_list_sort.check _ _ _ _ _ _ _ _ ⟨_,h,rfl⟩ (PySem.F.args_list_sort_1 _) ?_;exact list_sort_tree h hi hl fun out ns' h1 h2 h3=>q out ns' h1 h2 h3
theorem qcd_ {vs:List (Key × Value)}{ns:List Int}{acc:List Value} (hk:vs.map (·.1)=ns.map Sum.inl) (hl:acc.length=vs.length) (h:∀ (j:Nat) v,acc[j]?=some v->∃ k x,vs[j]?=some (k,x)/\y2_ k v=true):IntsAre acc ns:=by
 induction acc generalizing vs ns with
 | nil =>
  cases vs with
  | nil =>
   cases ns with
   | nil=>exact .nil
   | cons n ns=>cases hk
  | cons p vs=>cases hl
 | cons v acc ih =>
  cases vs with
  | nil=>cases hl
  | cons p vs =>
   cases ns with
   | nil=>cases hk
   | cons n ns =>
    obtain ⟨k,x,e,hv⟩:=h 0 v rfl
    have e:p=(k,x):=bM e;subst e
    have d:=(List.cons.inj hk).1
    have d:k=Sum.inl n:=d;subst d
    have hv:Value.isInt n v=true:=hv
    obtain ⟨t,rfl⟩:∃ t,v=Value.int n t:=by
     unfold Value.isInt at hv
     split at hv
     ·rename_i i t hq
      exact ⟨t,by rw [eq_of_beq hv]⟩
     ·cases hv
    exact .cons n t (ih (List.cons.inj hk).2 (Nat.succ.inj hl) fun j u hj=>h (j+1) u hj)
theorem qhf_ {kvs:List (Key × V)}{vs:List (Key × Value)} (r:KV kvs vs):vs.map (·.1)=kvs.map (·.1):=by
 unfold KV at r
 induction r with
 | nil=>rfl
 | cons h _ ih=>rw [cN,cN,ih,h.1]
theorem qep_ {prog:Program}{w:World}{A:Around}{E:Value->Shared->Prop}{s:Shared}{d:Addr}{kvs:List (Key × Value)}{ep:Nat}{Q:List Value->Shared->Prop} (hh:A.handled=none) (hsys:(d == sysModules)=false) (hd:Heap.DictAt (qU_ prog w) s.heap d kvs ep) (hn:kvs.length<=sizeLine)
  (q:∀ (h':Heap) (tk:Nat) (acc:Array Value),(∀ b o,s.heap.get? b=some o->h'.get? b=some o)->s.heap.objs.size < h'.objs.size->ItemsOf (fun i v=>∃ k x,kvs[i]?=some (k,x)/\y2_ k v=true) acc kvs.length->Q acc.toList { s with heap:=h',toks:=tk }) :
  wpAny (model prog w) A (collect (.ref d)) Q E s:=by
 unfold collect;refine bH (wpAny_runValue (codeAny_builtin PySem.F.entry_proto_collect ?_));unfold Builtin.«proto.collect»;refine bH (wpAny_newList ?_ (by show 0<=sizeLine;decide))
 refine c7 ⟨Code.quiet_builtin { pos:=[.ref s.heap.objs.size,.ref d] } (by decide +kernel),?_⟩
 refine codeAny_builtin PySem.F.entry_list_iadd ?_;unfold Builtin.«list.__iadd__»;refine bH ?_;unfold slotArgs;refine c7 ?_
 have g:d < s.heap.objs.size:=by
  obtain ⟨o,es,g1,_⟩:=id hd;exact bJ g1
 rw [Around.under_plainId (by decide +kernel)]
 have h:(s.heap.push { cls:=.type "list",data:=.seq #[] }).get? s.heap.objs.size=some { cls:=.type "list",data:=.seq #[] }:=bZ _ rfl
 obtain ⟨o,es,g1,g2,g3,g4,g5,g6⟩:=id hd
 refine PySem.W.kdl_extend (A:=A) (R:=fun r s'=>match r with
   | Except.ok (Flow.ret v)=>wpAny (model prog w) A (match v with
      | Value.ref a=>do
       let __do_lift ← load a
       match __do_lift.data with
        | Data.seq xs epoch=>pure xs.toList
        | x=>unsupported "internal:collect"
      | x=>unsupported "internal:collect") Q E s'
   | Except.ok a=>False
   | Except.error e=>E e s') (s:={ s with heap:=s.heap.push { cls:=.type "list",data:=.seq #[] } }) (PySem.W.kdl_dict (knd:=qU_ prog w) (kvs:=kvs) (ep:=ep) hsys) hh ⟨o,es,bD _ g1,g2,g3,g4,g5,g6⟩ s.heap.objs.size (eC g) (eC g) (.ref s.heap.objs.size) 0 h (fun h' tk acc c kp hS it=>?_) hn
 dsimp only;refine bH (wpAny_load hS ?_);dsimp only;refine c7 (q h' tk acc (fun b o e=>kp b o (bP (bJ e)) (bD _ e)) (bJ hS) it)
section
variable {X:Cx}
inductive zM_ (xs:List V) (H:Hp) (Q:VK):Prop
 | mk:∀ (p:Addr) (kvs:List (Key × V)) (ns:List Int),xs=[.ref p]->H p=some (.dK kvs)->kvs.map (·.1)=ns.map Sum.inl->ns.length < 64->(∀ l ns',H l=none->ns'.Perm ns->List.Pairwise (fun x y=>x<=y) ns'->Q (.ref l) (upd H l (.lst (ns'.map V.int))))->zM_ xs H Q
theorem jX_ (hc:X.calm=true):jr_ X (.builtin "sorted") (zM_):=by
 intro L s σ H xs us Q I r h;obtain ⟨p,D,ns,rfl,hp,hk,hl,q⟩:=h;obtain ⟨u,rfl,rx⟩:=jy_ r
 cases rx;obtain ⟨z,C,vs,g,o,es,ep,g1,g2,g3,g4,g5,g6⟩:=yG_ I.hok (.inl hp)
 have O:D.length=ns.length:=by
  have:=congrArg List.length hk;rw [b9,b9] at this;exact this
 have P:=g.length
 have E:vs.map (·.1)=ns.map Sum.inl:=by
  rw [<- hk];exact qhf_ g
 refine wpAny_call (codeAny_call_builtin (by decide +kernel) entry_sorted (qeo_ ?_))
 unfold Builtin.sorted;refine bH ?_
 show wpAny _ X.A.in1 (pure ()) _ _ s
 refine c7 ?_;refine bH (qep_ (show X.A.in1.handled=none from I.ok.hd hc) C ⟨_,_,g1,g2,g3,g4,g5,g6⟩ (by omega) fun h' tk d kp l it=>?_)
 have G:IntsAre d.toList ns:=qcd_ E (by rw [dH];exact it.1) fun j v hj=>it.2 j v (by simpa using hj)
 have B:d.toList.length < 64:=by rw [dH,it.1];omega
 refine bH (wpAny_newList ?_ (bG (du B) (by decide)))
 have ha:(h'.push { cls:=.type "list",data:=.seq d.toList.toArray }).get? h'.objs.size=some (seqObj "list" d.toList.toArray 0):=bZ _ rfl
 refine bH (dt (qks_ (A:=X.A.in1) (a:=h'.objs.size) (n:=0) ha G B fun out J h1 h2 h3=>?_));refine c7 ?_;obtain ⟨e,he⟩:=sortedHeap_at (vs:=d.toList) (out:=out) ha
 have hv:=zX_ h1;refine ⟨.ref h'.objs.size,_,I.laid (t':=tk) (fun b o' z=>?_) (du l) (show ObjOk X.prog X.w _ _ _ (.lst (J.map V.int)) from ⟨?_,out.toList,e,hv,?_⟩),rfl,q _ _ (I.hok.fresh (du l)) h2 h3⟩
 ·have z':=kp b o' z
  have hb:=bJ z';rw [sortedHeap_old (bP hb) (by rw [Heap.size_push];exact cA hb)]
  exact bD _ z'
 ·rw [b9,h2.length_eq]
  exact bG (du hl) (by decide)
 ·exact he
end
structure GT (K:PySem.W.Frag) (mg:Str->Option Value) (x:Str) (st:Stmt) (f:Addr) (ps:List Str) (c t:Addr):Prop where
 m:mg x=some (.ref f)
 F:FunT K x x st f (fd K f) c t
 b:Binds K (fd K f) ps []
 k:PySem.W.keepIn K (.ref f)=true
 nl:K.lookup t=none
structure MT (K:PySem.W.Frag) (C:Addr) (x q:Str) (st:Stmt) (f:Addr) (ps:List Str) (c t:Addr):Prop where
 me:Meth K C x f
 F:FunT K x q st f (fd K f) c t
 b:Binds K (fd K f) ps []
 k:PySem.W.keepIn K (.ref f)=true
 nl:K.lookup t=none
section
variable {K:PySem.W.Frag}{h:Heap}{mg:Str->Option Value}{x q:Str}{st:Stmt}{f C c t:Addr}{ps:List Str}{oc:Value}{od an cod:Option Addr}{osl csl:Array (Option Value)}{cvs:Array Value}{kV doc pm ct:Value}
theorem gt_mk (X:K.In h) (G:h.Ns mainGlobals mg) (a:PySem.W.nsIn K mainGlobals x=some (some (.ref f))) (l:K.lookup f=some ⟨oc,od,.func (PySem.W.fnOf x x (q5_ st) (qM_ st) (qe_ st) .none kV doc pm an (.ref c) ct),osl⟩) (hc:PySem.W.codeIn K (.ref c) x=true) (_:K.lookup c=some ⟨.type "code",cod,.fields cvs,csl⟩) (_:cvs[11]?=some (.ref t)) (hd:PySem.W.codeHdIn K c t=true) (nl:K.lookup t=none) (k:PySem.W.keepIn K (.ref f)=true) (hb:BndP x x st ps):GT K mg x st f ps c t:=by
 have F:FunT K x x st f (fd K f) c t:=by rw [qdp_ l];exact qhb_ l hc k hd
 exact ⟨PySem.W.mg_of X G a,F,F.fun.binds hb,k,nl⟩
theorem mt_mk (a:PySem.W.findIn K (.ref C) x=some (some (.ref f))) (i:PySem.W.isFn K (.ref f)=true) (l:K.lookup f=some ⟨oc,od,.func (PySem.W.fnOf x q (q5_ st) (qM_ st) (qe_ st) .none kV doc pm an (.ref c) ct),osl⟩) (hc:PySem.W.codeIn K (.ref c) q=true) (_:K.lookup c=some ⟨.type "code",cod,.fields cvs,csl⟩) (_:cvs[11]?=some (.ref t)) (hd:PySem.W.codeHdIn K c t=true) (nl:K.lookup t=none) (k:PySem.W.keepIn K (.ref f)=true) (hb:BndP x q st ps):MT K C x q st f ps c t:=by
 have F:FunT K x q st f (fd K f) c t:=by rw [qdp_ l];exact qhb_ l hc k hd
 exact ⟨⟨a,i,k⟩,F,F.fun.binds hb,k,nl⟩
end
section
variable {P:Program}{w:World}{K:PySem.W.Frag}{mg:Str->Option Value}{base:Heap}
theorem FunT.okA {x qual:Str}{st:Stmt}{f c t:Addr}{fd:FuncData}{N ps:List Str}{k:Nat}{sp:Sp} (F:FunT K x qual st f fd c t) (S:qk_ N ps (qe_ st))
  (hbody:∀ (A:Around) (outer:List Env) (s:Shared) (H:Hp) (vs:List V) (Q:VK) (E:XK),Room k (A.deeper (envOfC qual (qe_ st) s.heap.objs.size f (.ref c)))->sp vs H Q E →
   ∃ t,PSs (cxOf CX0 P w K mg base N qual (qe_ st) f (.ref c) A outer s H E).nox (qM_ st) t/\t { nx:=fun _ H'=>Q .non H',rt:=Q } (start N vs) H)
  (len:∀ vs H Q E,sp vs H Q E->vs.length=ps.length:=by intro vs H Q E h;first | (cases h;subst_vars;rfl) | ((repeat (obtain ⟨_,h⟩:=h));subst_vars;rfl)):FnOk P w K mg base CX0 (k+1) f fd ps sp:=F.ok S len hbody
end
end L2
namespace L2
open PySem PySem.Spec PySem.W PyProof.Rows
section
variable {P:Program}{w:World}{K:PySem.W.Frag}{mg:Str->Option Value}{base:Heap}{A:Around}{outer:List Env}{s:Shared}{H:Hp}{l I S:Addr}{xs:List V}{f:Value}{kf:Nat->Int}
def KeyE (outer:List Env) (P:Program) (w:World) (H:Hp) (s:Shared) (k:Int):Value->Shared->Prop:=fun u s'=>∃ (H':Hp) (t:Tok),u=.int k t/\s'.os=s.os/\AllBare s'.gens/\Un (frs outer) [] H H' s.heap s'.heap/\HOk P w H' s'.heap/\Same H H'
structure MinAt (P:Program) (w:World) (outer:List Env) (s:Shared) (H:Hp) (l I S:Addr) (j:Nat) (best:Array Value) (s':Shared) (H':Hp):Prop where
 os:s'.os=s.os
 bare:AllBare s'.gens
 un:Un (frs outer) [] H H' s.heap s'.heap
 hok:HOk P w H' s'.heap
 same:Same H H'
 hS:∃ c,s'.heap.get? S=some (seqObj "list" best c)
 nS:H' S=none
 hI:s'.heap.IsListIter I l j
 nI:H' I=none
def Least (kf:Nat->Int) (n i:Nat):Prop:=∀ j,j < n->kf i<=kf j/\(j < i->kf i < kf j)
theorem Least.more {n i:Nat} (h:Least kf n i) (hi:i < n):Least kf (n+1) (if kf n < kf i then n else i):=fun j hj=>by
 by_cases z:kf n < kf i
 ·rw [if_pos z]
  by_cases e:j=n
  ·subst e;exact ⟨fg _,fun y=>absurd y (cI _)⟩
  ·have:=h j (by omega)
   exact ⟨by omega,fun _=>by omega⟩
 ·rw [if_neg z]
  by_cases e:j=n
  ·subst e;exact ⟨by omega,fun y=>by omega⟩
  ·exact h j (by omega)
variable {j:Nat}{best:Array Value}{s':Shared}{H':Hp}
structure MinG (P:Program) (w:World) (K:PySem.W.Frag) (mg:Str->Option Value) (base:Heap) (A:Around) (outer:List Env) (s:Shared) (H:Hp) (l I S:Addr) (xs:List V) (f:Value) (kf:Nat->Int):Prop where
 hh:A.handled=none
 e0:Env0 P w K mg base A outer s H
 hl:H l=some (.lst xs)
 nI:s.heap.objs.size<=I
 nS:s.heap.objs.size<=S
 IS:I≠S
 hf:∀ (s':Shared) (H':Hp) (i:Nat) (x:V) (v:Value),xs[i]?=some x->Same H H'->Env0 P w K mg base A.in1 outer s' H'->Un (frs outer) [] H H' s.heap s'.heap->RelV x v->wpAny (model P w) A.in1 (call f [v]) (KeyE outer P w H' s' (kf i)) (fun _ _=>False) s'
theorem MinG.lI (g:MinG P w K mg base A outer s H l I S xs f kf):l≠I:=fun e=>by
 have:=g.e0.hok.fresh g.nI;rw [<- e,g.hl] at this;cases this
theorem MinAt.moved (m:MinAt P w outer s H l I S j best s' H') (nI:s.heap.objs.size<=I) (IS:I≠S) {h':Heap}{tk j':Nat} (k:∀ b o,b∉[I]->s'.heap.get? b=some o->h'.get? b=some o) (hI:h'.IsListIter I l j'):MinAt P w outer s H l I S j' best { s' with heap:=h',toks:=tk } H':=by
 have k':∀ b o,b≠I->s'.heap.get? b=some o->h'.get? b=some o:=fun b o hb e=>k b o (by simpa using hb) e
 obtain ⟨c,hS⟩:=m.hS;exact ⟨m.os,m.bare,m.un.turn nI k',m.hok.turn m.nI k',m.same,⟨c,k' S _ IS.symm hS⟩,m.nS,hI,m.nI⟩
theorem MinAt.put (m:MinAt P w outer s H l I S j best s' H') (nS:s.heap.objs.size<=S) (IS:I≠S) (bs:Array Value):MinAt P w outer s H l I S j bs { s' with heap:=s'.heap.update S (Obj.mapSeq fun _=>bs) } H':=by
 obtain ⟨c,hS⟩:=m.hS
 have s1:=dR s'.heap S (Obj.mapSeq fun _=>bs)
 have k':∀ b o,b≠S->s'.heap.get? b=some o->(s'.heap.update S (Obj.mapSeq fun _=>bs)).get? b=some o:=fun b o hb e=>(s1.2 b hb).trans e;obtain ⟨o,h1,h2⟩:=m.hI;exact ⟨m.os,m.bare,m.un.turn nS k',m.hok.turn m.nS k',m.same,⟨_,get?_update_seq hS fun _=>bs⟩,m.nS,⟨o,k' I _ IS h1,h2⟩,m.nI⟩
theorem uE_ (g:MinG P w K mg base A outer s H l I S xs f kf) {s':Shared}{H':Hp}{j:Nat}{best:Array Value}{E:Value->Shared->Prop}{Q:Option Value->Shared->Prop} (m:MinAt P w outer s H l I S j best s' H') (hj:j<=xs.length)
  (no:j=xs.length->∀ (h':Heap) (tk:Nat),(∀ b o,b∉[I]->s'.heap.get? b=some o->h'.get? b=some o)->Q none { s' with heap:=h',toks:=tk })
  (yes:∀ x v s'',xs[j]?=some x->RelV x v->MinAt P w outer s H l I S (j+1) best s'' H'->Q (some v) s''):wpAny (model P w) A.in1 (pyNext (.ref I)) Q E s':=by
 obtain ⟨_,d,n,rv,C⟩:=m.hok l _ (m.same _ _ g.hl)
 have r:=rv.length
 have W:=Walks.list (prog:=P) (w:=w) (A:=A.in1) g.hh I l g.lI d.toArray
 have h:s'.heap.IsList l d.toArray:=⟨_,C,rfl,n,rfl⟩
 by_cases e:j < xs.length
 ·refine W.item j s' _ _ (by rw [bX];omega) ⟨m.hI,h⟩ fun v h' tk hP B hk=>?_
  have hv:d[j]?=some v:=by simpa using hP
  obtain ⟨u,e1,e2⟩:=rv.get (b8 e);rw [hv] at e1
  cases e1;exact yes _ v _ (b8 e) e2 (m.moved g.nI g.IS hk B.1)
 ·have e':j=xs.length:=by omega
  refine W.done s' _ _ ⟨?_,h⟩ fun h' tk hk=>no e' h' tk hk;rw [bX,← r,← e'];exact m.hI
theorem MinAt.size (m:MinAt P w outer s H l I S j best s' H') (nS:s.heap.objs.size<=S):s.heap.objs.size<=s'.heap.objs.size:=by
 obtain ⟨c,hS⟩:=m.hS;exact bG nS (du (bJ hS))
theorem qhg_ (g:MinG P w K mg base A outer s H l I S xs f kf) {s':Shared}{H':Hp}{j i:Nat}{best:Array Value}{x:V}{v:Value}{Q:Value->Shared->Prop}{E:Value->Shared->Prop} (m:MinAt P w outer s H l I S j best s' H') (hx:xs[i]?=some x) (rx:RelV x v)
  (q:∀ t s'' H'',MinAt P w outer s H l I S j best s'' H''->Q (.int (kf i) t) s''):wpAny (model P w) A.in1 (call f [v]) Q E s':=by
 refine d7 (g.hf s' H' i x v hx m.same (g.e0.after rfl m.un m.hok m.bare (m.size g.nS)) m.un rx) (fun u s'' h=>?_) fun _ _ h=>h.elim;obtain ⟨H'',t,rfl,os,bare,un,hok,sm⟩:=h;obtain ⟨c,hS⟩:=m.hS;obtain ⟨o,h1,h2⟩:=m.hI
 have nf:∀ b,s.heap.objs.size<=b->b∉frs outer:=fun b hb z=>absurd (g.e0.lt z) (Nat.not_lt.mpr hb)
 have d:∀ b:Addr,b∉([]:List Addr):=fun b=>ca;exact q t s'' H'' ⟨os.trans m.os,bare,m.un.trans un,hok,m.same.trans sm,⟨c,un.keep S _ hS m.nS (nf S g.nS) (d S)⟩,un.free S _ hS m.nS (d S),⟨o,un.keep I _ h1 m.nI (nf I g.nI) (d I),h2⟩,un.free I _ h1 m.nI (d I)⟩
end
section
variable {P:Program}{w:World}{K:PySem.W.Frag}{mg:Str->Option Value}{base:Heap}{A:Around}{outer:List Env}{s:Shared}{H:Hp}{l I S:Addr}{xs:List V}{f:Value}{kf:Nat->Int}{R:Result->Shared->Prop}
theorem qmz_ (g:MinG P w K mg base A outer s H l I S xs f kf)
  (hR:∀ (i:Nat) (x:V) (v:Value) (s':Shared) (H':Hp),xs[i]?=some x->RelV x v->Least kf xs.length i->s'.os=s.os->AllBare s'.gens->Un (frs outer) [] H H' s.heap s'.heap->HOk P w H' s'.heap->Same H H'->R (.ok (.ret v)) s') (hfn:(∃ q,f=.ref q)\/∃ b,f=.builtin b) :
  ∀ (r j i:Nat) (s':Shared) (H':Hp) (x:V) (v:Value) (t:Tok),xs.length - j=r->j<=xs.length->i < j->MinAt P w outer s H l I S j #[v,.int (kf i) t] s' H'->xs[i]?=some x->RelV x v->Least kf j i →
   codeAny (model P w) A (.builtin "min.loop" ⟨[.ref I,f,.ref S],[]⟩) R s':=by
 have nm:(toString "min" ++ toString ".loop" : String) = "min.loop":=by decide
 intro r
 induction r with
 | zero =>
  intro j i s' H' x v t hr hj B m hx rx hb;obtain ⟨c,hS⟩:=m.hS;refine codeAny_builtin PySem.F.entry_min_loop ?_;rw [Around.under_plainId dw _]
  show wpAny (model P w) A.in1 (seqItems? (.ref S) >>= _) _ _ s'
  refine bH (wpAny_seqItems hS rfl ?_)
  show wpAny (model P w) A.in1 (tryCatch (pyNext (.ref I)) _ >>= _) _ _ s'
  refine bH (wpAny_tryCatch (uE_ g m hj (fun e h' tk hk=>?_) fun y u D hy=>?_))
  ·have k':∀ b o,b≠I->s'.heap.get? b=some o->h'.get? b=some o:=fun b o hb e=>hk b o (by simpa using hb) e
   have s1:=dR h' S (Obj.mapSeq fun _=>(#[]:Array Value))
   have k2:∀ b o,b≠S->h'.get? b=some o->(h'.update S (Obj.mapSeq fun _=>(#[]:Array Value))).get? b=some o:=fun b o hb e=>(s1.2 b hb).trans e
   show wpAny (model P w) A.in1 (updateSeq S (fun _=>#[]) >>= _) _ _ _
   refine bH (wpAny_updateSeq (k' S _ g.IS.symm hS) rfl (bH (wpAny_letGo (c7 ?_))));exact hR i x v _ H' hx rx (e ▸ hb) m.os m.bare ((m.un.turn g.nI k').turn g.nS k2) ((m.hok.turn m.nI k').turn m.nS k2) m.same
  ·have:=(bK.mp hy).1
   omega
 | succ r ih =>
  intro j i s' H' x v t hr hj B m hx rx hb;obtain ⟨c,hS⟩:=m.hS;refine codeAny_builtin PySem.F.entry_min_loop ?_;rw [Around.under_plainId dw _]
  show wpAny (model P w) A.in1 (seqItems? (.ref S) >>= _) _ _ s'
  refine bH (wpAny_seqItems hS rfl ?_)
  show wpAny (model P w) A.in1 (tryCatch (pyNext (.ref I)) _ >>= _) _ _ s'
  refine bH (wpAny_tryCatch (uE_ g m hj (fun e=>by omega) fun y u s1 hy ry m1=>?_))
  rcases hfn with ⟨q,rfl⟩ | ⟨b,rfl⟩
  all_goals
   show wpAny (model P w) A.in1 (tryCatch (holding [u] (call _ [u])) _ >>= _) _ _ s1
   refine bH (wpAny_tryCatch (dt (qhg_ g m1 hy ry fun t2 s2 H2 m2=>?_)))
   show wpAny (model P w) A.in1 (tryCatch (holding [u,.int (kf j) t2] (richCompare .Lt (.int (kf j) t2) (.int (kf i) t) >>= _)) _ >>= _) _ _ s2
   refine bH (wpAny_tryCatch (dt (bH (CmpOf.ints_lt (prog:=P) (w:=w) (A:=A.in1) (P:=fun i v=>∃ t,v=.int (kf i) t) kf (fun i v h=>h) j i _ _ _ _ _ ⟨t2,rfl⟩ ⟨t,rfl⟩ ?_))));refine bH (dt (dG (bH (wpAny_letGo (c7 ?_)))))
   have d:=hb.more B;obtain ⟨c2,C⟩:=m2.hS
   by_cases lt:kf j < kf i
   ·simp only [lt,decide_true,if_true]
    refine bH (wpAny_updateSeq C rfl (bH (wpAny_letGo ?_)));rw [nm];rw [if_pos lt] at d;exact c7 ⟨plainId_quiet dw _,ih (j+1) j _ H2 y u t2 (by omega) (by omega) (cm j) (m2.put g.nS g.IS _) hy ry d⟩
   ·simp only [lt,decide_false,fh,if_false]
    refine bH (wpAny_letGo ?_);rw [nm];rw [if_neg lt] at d;exact c7 ⟨plainId_quiet dw _,ih (j+1) i _ H2 x v t (by omega) (by omega) (by omega) m2 hx rx d⟩
theorem qhh_ {Q:Value->Shared->Prop}{E:Value->Shared->Prop} (hh:A.handled=none) (e0:Env0 P w K mg base A outer s H) (hl:H l=some (.lst xs)) (ne:0 < xs.length) (hfn:(∃ q,f=.ref q)\/∃ b,f=.builtin b)
  (hf:∀ (s':Shared) (H':Hp) (i:Nat) (x:V) (v:Value),xs[i]?=some x->Same H H'->Env0 P w K mg base A.in1 outer s' H'->Un (frs outer) [] H H' s.heap s'.heap->RelV x v->wpAny (model P w) A.in1 (call f [v]) (KeyE outer P w H' s' (kf i)) (fun _ _=>False) s')
  (hQ:∀ (i:Nat) (x:V) (v:Value) (s':Shared) (H':Hp),xs[i]?=some x->RelV x v->Least kf xs.length i->s'.os=s.os->AllBare s'.gens->Un (frs outer) [] H H' s.heap s'.heap->HOk P w H' s'.heap->Same H H'->Q v s') :
  wpAny (model P w) A (call (.builtin "min") [.ref l] [(Str.ofString "key",f)]) Q E s:=by
 have nm:(toString "min" ++ toString ".loop" : String) = "min.loop":=by decide
 obtain ⟨_,h,n,rv,C⟩:=e0.hok l _ hl
 have B:s.heap.IsList l h.toArray:=⟨_,C,rfl,n,rfl⟩
 have ha:argsOk "min" ⟨[.ref l],[(Str.ofString "key",f)]⟩:=kmk_min_key _ _
 refine kmk_tree PySem.F.kind_min PySem.F.plain_min PySem.F.entry_min ha ?_
 show wpAny (model P w) A.in1 (Builtin.Builtins.bindParams "min" ["key", "default"] 0 ⟨[],[(Str.ofString "key",f)]⟩ >>= _) _ _ s
 refine bH (wpAny_of_eq (show Builtin.Builtins.bindParams "min" ["key", "default"] 0 ⟨[],[(Str.ofString "key",f)]⟩=pure [some f,none] from rfl) (bH (c7 (bH (eE B ?_)))))
 refine bH (wpAny_newList ?_ (cn _));rw [nm]
 have hS:(s.heap.push { cls:=.type "list_iterator",data:=.fields #[.ref l,.int 0 0] }).objs.size=s.heap.objs.size+1:=size_push' ..
 have kp:∀ b o,s.heap.get? b=some o→((s.heap.push { cls:=.type "list_iterator",data:=.fields #[.ref l,.int 0 0] }).push (seqObj "list" #[] 0)).get? b=some o:=fun b o e=>bD _ (bD _ e)
 have g:MinG P w K mg base A outer s H l s.heap.objs.size (s.heap.push { cls:=.type "list_iterator",data:=.fields #[.ref l,.int 0 0] }).objs.size xs f kf:=⟨hh,e0,hl,bF _,by rw [hS];exact eF _,by rw [hS];exact bP (cm _),hf⟩
 have m0:MinAt P w outer s H l s.heap.objs.size (s.heap.push { cls:=.type "list_iterator",data:=.fields #[.ref l,.int 0 0] }).objs.size 0 #[] { s with heap:=(s.heap.push { cls:=.type "list_iterator",data:=.fields #[.ref l,.int 0 0] }).push (seqObj "list" #[] 0) } H:=⟨rfl,e0.bare,Un.kept kp,e0.hok.kept kp,Same.refl _,⟨0,bZ _ rfl⟩,e0.hok.fresh g.nS,⟨_,bD _ (bZ _ rfl),rfl,rfl⟩,e0.hok.fresh (bF _)⟩
 refine c7 ⟨plainId_quiet dw _,?_⟩
 show codeAny (model P w) A _ _ { s with heap:=(s.heap.push { cls:=.type "list_iterator",data:=.fields #[.ref l,.int 0 0] }).push (seqObj "list" #[] 0) }
 generalize (s.heap.push { cls:=.type "list_iterator",data:=.fields #[.ref l,.int 0 0] }).objs.size=S at g m0
 generalize ({ s with heap:=(s.heap.push { cls:=.type "list_iterator",data:=.fields #[.ref l,.int 0 0] }).push (seqObj "list" #[] 0) }:Shared)=s0 at m0
 obtain ⟨c,D⟩:=m0.hS;refine codeAny_builtin PySem.F.entry_min_loop ?_;rw [Around.under_plainId dw _]
 show wpAny (model P w) A.in1 (seqItems? (.ref S) >>= _) _ _ s0
 refine bH (wpAny_seqItems D rfl ?_)
 show wpAny (model P w) A.in1 (tryCatch (pyNext (.ref s.heap.objs.size)) _ >>= _) _ _ s0
 refine bH (wpAny_tryCatch (uE_ g m0 (cn _) (fun e=>by omega) fun y u s1 hy ry m1=>?_))
 have lp:=qmz_ g (R:=fun r s'=>match r with | .ok (.ret v)=>Q v s' | .ok _=>False | .error e=>E e s') (fun i x v s' H' h1 h2 h3 h4 h5 h6 h7 h8=>hQ i x v s' H' h1 h2 h3 h4 h5 h6 h7 h8) hfn
 have l0:Least kf 1 0:=fun j' G=>by
  obtain rfl:j'=0:=by omega
  exact ⟨fg _,fun z=>absurd z (cI _)⟩
 rcases hfn with ⟨q,rfl⟩ | ⟨b,rfl⟩
 all_goals
  show wpAny (model P w) A.in1 (tryCatch (holding [u] (call _ [u])) _ >>= _) _ _ s1
  refine bH (wpAny_tryCatch (dt (qhg_ g m1 hy ry fun t2 s2 H2 m2=>?_)));obtain ⟨c2,d⟩:=m2.hS
  show wpAny (model P w) A.in1 (updateSeq S (fun _=>#[u,.int (kf 0) t2]) >>= _) _ _ s2
  refine bH (wpAny_updateSeq d rfl ?_);rw [nm];exact c7 ⟨plainId_quiet dw _,lp _ 1 0 _ H2 y u t2 rfl ne (cm 0) (m2.put g.nS g.IS _) hy ry l0⟩
end
section
variable {X:Cx}
inductive zG_ (K:PySem.W.Frag) (xs:List V) (H:Hp) (Q:VK):Prop
 | mk:∀ (p:Addr) (bs:List Bool),xs=[.ref p]->SqL K H p (bs.map V.bl)->(Q (.bl (bs.any fun b=>b)) H)->zG_ K xs H Q
theorem qce_ (hc:X.calm=true):jr_ X (.builtin "any") (zG_ X.K):=by
 intro l s σ H xs us Q I r h;obtain ⟨p,bs,rfl,hq,q⟩:=h;obtain ⟨u,rfl,rx⟩:=jy_ r
 cases rx;obtain ⟨d,rv,⟨o,nn,e1,e2,e3,e4⟩,hz⟩:=I.list hq
 have g:p≠s.heap.objs.size:=bP (bJ e1);refine call_any_walk (eE ⟨o,e1,e2,nn,e4⟩ ?_);refine ⟨_,_,_,_,_,_,fun i=>bs.getD i false,rfl,Walks.list (A:=X.A.in1) (show X.A.in1.handled=none from I.ok.hd hc) s.heap.objs.size p g d.toArray,⟨⟨_,bZ _ rfl,rfl,rfl⟩,⟨o,bD _ e1,e2,nn,e4⟩⟩,fun i v s' Q' E' hv q'=>?_,fun h' tk kp=>?_⟩
 ·rw [qg4_ rv hv]
  exact dG q'
 ·have hl:d.toArray.size=bs.length:=by
   have:=rv.length;rw [b9] at this
   simp [this]
  rw [hl,qb7_ (fun b:Bool=>b) false bs];exact ⟨.bl _,H,I.kept (t':=tk) fun b o e=>kp b o (fun z=>by rw [bS.mp z] at e;exact absurd (bJ e) (cI _)) (bD _ e),rfl,q⟩
theorem qi3_ {K:PySem.W.Frag} (hK:X.K=K) (hc:X.calm=true):jr_ X (.builtin "any") (zG_ K):=hK ▸ qce_ hc
theorem qm0_ {K:PySem.W.Frag}{tg l:Expr}{tl:TE} (hK:X.K=K) (hl:PE X l tl):PI X tg l (qnv_ K tl):=hK ▸ qB_ hl
end
section
variable {X:Cx}
inductive qae_ (K:PySem.W.Frag) (x y:V) (H:Hp) (Q:VK):Prop
 | mk:∀ a b xs,x=.ref a->y=.ref b->SqL K H a xs->SqL K H b []->Q (.bl xs.isEmpty) H->qae_ K x y H Q
theorem qm1_ (hu:X.A.units+64 < cLine):OpR X (compareOp .Eq) (qae_ X.K):=by
 intro g s σ H x y v u Q I rx ry h;obtain ⟨a,b,xs,rfl,rfl,h1,h2,q⟩:=h
 cases rx
 cases ry
 have d:X.A.units < cLine:=by omega
 obtain ⟨C,rv,p,_⟩:=I.list h1;obtain ⟨B,r,p2,_⟩:=I.list h2
 cases r with
 | nil =>
  have l:=rv.length
  have fin:∀ z,z=xs.isEmpty->EP X g σ Q (.bool z) s:=fun z e=>⟨.bl z,H,I,rfl,by rw [e];exact q⟩
  cases xs with
  | nil =>
   cases rv with
   | nil=>exact SeqAt.RcAt.lists (A:=X.A) (e:=fun _=>true) p.isList p2.isList rfl d (fun j h1=>absurd h1 (cX j)) _ _ _ _ (fin _ rfl)
  | cons x xs =>
   exact SeqAt.RcAt.lists_lengths p.isList p2.isList (by simp only [bX,bne_iff_ne,ne_eq,List.length_nil];rw [<- l,cM];omega) d _ _ _ _ (fin _ rfl)
end
section
variable {X:Cx}{pins:List (Addr × Obj)}{σ:St}{H:Hp}{s:Shared}
inductive qa8_ (Q:VK) (x:V) (H1:Hp):Prop
 | mk:∀ (l:Addr) (as:List Addr) (n:Nat->Nat),x=.ref l->H1 l=some (.lst (as.map V.ref))->0 < as.length->((∀ i p,as[i]?=some p->∃ ys,H1 p=some (.lst ys)/\ys.length=n i))->(∀ i p H',as[i]?=some p->Least (fun i=>((n i:Nat):Int)) as.length i->Same H1 H'->Q (.ref p) H')->qa8_ Q x H1
def qoz_ (te:TE):TE:=fun σ H Q=>te σ H fun x H1=>qa8_ Q x H1
theorem zr_ {as:List Addr}{i:Nat}{x:V} (h:(as.map V.ref)[i]?=some x):∃ p,as[i]?=some p/\x=.ref p:=by
 rw [bE] at h
 cases e:as[i]? with
 | none=>rw [e] at h;cases h
 | some p=>rw [e] at h;cases h;exact ⟨p,rfl,rfl⟩
theorem qkt_ {e:Expr}{te:TE}{p0 lp kp pos:Pos} (hc:X.calm=true) (hg:Gl X "min") (hm:X.mg "min" = none) (hg2:Gl X "len") (hm2:X.mg "len" = none) (he:PE X e te)
  (hs:starEach [e] X.env=(false,eval e X.env) :: starEach [] X.env:=by rfl) (hs2:backTo pos (starEach [e] X.env)=(false,eval e X.env) :: backTo pos (starEach [] X.env):=by rfl) (hs3:(backTo pos (starEach [e] X.env)).any (·.1)=false:=by rfl) :
  PE X (.Call (.Name "min" p0) [e] [⟨some "key",.Name "len" lp,kp⟩] pos) (qoz_ te):=by
 intro d s σ H Q I h;refine dJ (jK_ I hg hm boot_min ?_ (by decide) (by decide))
 refine callWith_kw ?_ hs2 hs3 rfl rfl
 refine thn ((qa_ he qb_ hs) pos d s σ H (fun vs H1=>match vs with
  | [x]=>qa8_ Q x H1
  | _=>False) I h) ?_
 rintro us s1 ⟨vs,H1,I1,rv,q1⟩
 match vs,rv,q1 with
 | [x],rv,q1 =>
  obtain ⟨u,rfl,rx⟩:=jy_ rv;obtain ⟨l,as,n,rfl,hl,ne,hn,q⟩:=q1;obtain rfl:u=Value.ref l:=rx;refine kws_cons (jK_ I1 hg2 hm2 ci (kws_nil ?_) (by decide) (by decide))
  refine d7 (qhh_ (K:=X.K) (mg:=X.mg) (base:=X.base) (outer:=X.stack) (H:=H1) (kf:=fun i=>((n i:Nat):Int)) (Q:=fun u s'=>CE X.stack X.prog X.w H1 s1 Q u s') (I1.ok.hd hc) I1.env0 hl (by rw [b9];exact ne) (.inr ⟨_,rfl⟩) (fun s3 H3 i x v hx sm e0 un B=>?_) (fun i x v s' H' hx rx hb os bare un hok sm=>?_)) (fun u s' ce=>I1.after ce) fun _ _ z=>z
  ·obtain ⟨p,hp,rfl⟩:=zr_ hx
   obtain ⟨ys,h1,h2⟩:=hn i p hp;obtain rfl:v=Value.ref p:=B;obtain ⟨hz,r,m,ri,ho⟩:=e0.hok p _ (sm _ _ h1)
   have g:=ri.length
   have C:=vq_;refine Calls.call_len_list (items:=r.toArray) ⟨_,ho,rfl,m,rfl⟩ (by simp only [bX] <;> omega) ⟨H3,s3.toks+1,?_,rfl,e0.bare,Un.refl,e0.hok,Same.refl _⟩
   rw [bX,← g,h2]
  ·rw [b9] at hb
   obtain ⟨p,hp,rfl⟩:=zr_ hx;exact ⟨_,H',os,bare,un,hok,rx,q i p H' hp hb sm⟩
inductive qi4_ (tb:TE) (Q:VK) (x:V) (H2:Hp):Prop
 | mk:∀ (l:Addr) (xs:List V) (kf:Nat->Int),x=.ref l->H2 l=some (.lst xs)->0 < xs.length->((∀ i y H',xs[i]?=some y->Same H2 H'->tb [some y] H' fun v H''=>v=.int (kf i)/\Same H' H''))->(∀ i y H',xs[i]?=some y->Least kf xs.length i->Same H2 H'->Q y H')->qi4_ tb Q x H2
def qq3_ (P:Addr) (lpos:Pos) (q:Str) (mk:Value->Value->Value->Value->FuncData) (te tb:TE):TE:=fun σ H Q=>te σ H fun x H1=>tFn P lpos q mk σ H1 fun _ H2=>qi4_ tb Q x H2
theorem qo0_ {c P:Addr}{p:Str}{k:Nat}{e:Expr}{te tb:TE}{params:Arguments}{body:Expr}{scope:Scope}{lpos kp p0 pos:Pos} (T:TabK X c P) (hcl:closureFor scope X.env=pure []) (hc:X.calm=true) (hr:Room (k+3) X.A) (hg:Gl X "min") (hm:X.mg "min" = none) (he:PE X e te)
  (S:yv_ [p] [p] scope) (hfr:∀ q∈scope.names,q.2≠.free)
  (hb:∀ (pm cdv ctv u:Value),bindArgs (PySem.W.kla_fn (Str.ofString "<lambda>") (X.env.qual++Str.ofString "<lambda>") params body scope [] pm cdv ctv) ⟨[u],[]⟩=pure [(p,u)])
  (hbody:∀ (A:Around) (outer:List Env) (s:Shared) (H:Hp) (fa c':Addr),Room k (A.deeper (envC (X.env.qual++Str.ofString "<lambda>") scope s.heap.objs.size fa (.ref c') []))→PE (cxC X.prog X.w X.K X.mg X.base [p] (envC (X.env.qual++Str.ofString "<lambda>") scope s.heap.objs.size fa (.ref c') []) A outer s H) body tb)
  (h1:defaultsOf params X.env=([],[]):=by rfl) (hs:starEach [e] X.env=(false,eval e X.env) :: starEach [] X.env:=by rfl) (hs2:backTo pos (starEach [e] X.env)=(false,eval e X.env) :: backTo pos (starEach [] X.env):=by rfl) (hs3:(backTo pos (starEach [e] X.env)).any (·.1)=false:=by rfl) :
  PE X (.Call (.Name "min" p0) [e] [⟨some "key",.Lambda params body scope lpos,kp⟩] pos) (qq3_ P lpos (X.env.qual++Str.ofString "<lambda>") (fun _ pm cdv ctv=>PySem.W.kla_fn (Str.ofString "<lambda>") (X.env.qual++Str.ofString "<lambda>") params body scope [] pm cdv ctv) te tb):=by
 intro g s σ H Q I h;refine dJ (jK_ I hg hm boot_min ?_ (by decide) (by decide))
 refine callWith_kw ?_ hs2 hs3 rfl rfl
 refine thn ((qa_ he qb_ hs) pos g s σ H (fun vs H1=>match vs with
  | [x]=>tFn P lpos (X.env.qual++Str.ofString "<lambda>") (fun _ pm cdv ctv=>PySem.W.kla_fn (Str.ofString "<lambda>") (X.env.qual++Str.ofString "<lambda>") params body scope [] pm cdv ctv) σ H1 (fun _ H2=>qi4_ tb Q x H2)
  | _=>False) I h) ?_
 rintro us s1 ⟨vs,H1,I1,rv,q1⟩
 match vs,rv,q1 with
 | [x],rv,q1 =>
  obtain ⟨u,rfl,rx⟩:=jy_ rv;refine kws_cons (PySem.W.kla_eval h1 (thn (qeg_ T hcl I1 (qek_ q1)) fun f s2 ⟨vf,H2,I2,rf,q2,fa,c',_,pm,ctv,C,G,D⟩=>kws_nil ?_));subst C;obtain rfl:f=Value.ref fa:=rf;obtain ⟨l,xs,kf,rfl,hl,ne,B,q⟩:=q2;obtain rfl:u=Value.ref l:=rx;refine d7 (qhh_ (K:=X.K) (mg:=X.mg) (base:=X.base) (outer:=X.stack) (H:=H2) (kf:=kf) (Q:=fun u s'=>CE X.stack X.prog X.w H2 s2 Q u s') (I2.ok.hd hc) I2.env0 hl ne (.inl ⟨_,rfl⟩) (fun s3 H3 i x v hx sm e0 un J=>?_) (fun i x v s' H' hx rx hb os bare un hok sm=>⟨_,H',os,bare,un,hok,rx,q i x H' hx hb sm⟩)) (fun u s' ce=>I2.after ce) fun _ _ z=>z;refine wpAny_call (fA (qej_ (N:=[p]) (ps:=[p]) (cv:=[]) (vs:=[x]) (us:=[v]) (σ0:=[some x]) (E:=E0) (Q:=fun v d=>v=.int (kf i)/\Same H3 d) S (k:=k+1) hr.in1 e0 (.cons J .nil) (sm _ _ G) (sm _ _ D) (hb _ _ _ _) ⟨fun x z c e1=>(by cases e1),fun x hx=>absurd rfl (hfr (x,.free) (cQ hx)),fun x c e=>(by cases e)⟩ ⟨rfl,fun i x v e1 e2=>?_⟩ (hbody _ _ _ _ _ _ (((hr.in1).deeper _).mono (eF k))) (B i x H3 hx sm)) fun r s' hq=>?_)
  ·match i,e1,e2 with
   | 0,e1,e2=>exact .inl ⟨e1,by cases e2;rfl⟩
  ·cases r with
   | error _=>exact False.elim hq
   | ok fl =>
    cases fl with
    | next=>exact False.elim hq
    | brk=>exact False.elim hq
    | cont=>exact False.elim hq
    | ret u =>
     obtain ⟨v,d,os,bare,un,hok,rv,rfl,sm⟩:=hq;obtain ⟨t,rfl⟩:=rv;exact ⟨d,t,rfl,os,bare,un,hok,sm⟩
end
def v7_ (kb:List (Key × V)):List (Key × V)->Bool
 | []=>true
 | p :: r=>match valV kb p.1 with
  | none=>false
  | some u=>eqV p.2 u && v7_ kb r
def eqKV (ka kb:List (Key × V)):Bool:=ka.length == kb.length && v7_ kb ka
def zs_ (ka:List (Key × V)):Bool:=ka.all fun p=>j4_ p.2
theorem qku_ {kb:List (Key × V)} (h:zs_ kb=true) {k:Key}{u:V} (e:valV kb k=some u):j4_ u=true:=by
 unfold valV at e;obtain ⟨p,hp,rfl⟩:=Option.map_eq_some_iff.mp e;exact c5.mp h p (List.mem_of_find?_eq_some hp)
theorem qm2_ {A:Around}{s:Shared}{kb:List (Key × V)}{vb:List (Key × Value)} (hb:zs_ kb=true) (rb:KV kb vb):∀ {ka:List (Key × V)}{va:List (Key × Value)},zs_ ka=true->KV ka va->PySem.W.KeqHits A s vb va (v7_ kb ka):=by
 intro ka
 induction ka with
 | nil =>
  intro va _ r
  cases va with
  | nil=>exact .nil
  | cons q va=>cases r
 | cons p ka ih =>
  intro va hf r
  cases va with
  | nil=>cases r
  | cons q va =>
   obtain ⟨k,v⟩:=q
   cases r with
   | cons h1 h2 =>
    obtain ⟨e,rv⟩:=h1;unfold zs_ at hf;rw [fu,cC] at hf
    have e:p.1=k:=e;subst e
    have d:=rb.val p.1;unfold v7_
    cases hv:valV kb p.1 with
    | none =>
     rw [hv] at d
     cases hw:valueAt vb p.1 with
     | none=>exact .miss hw
     | some w=>rw [hw] at d;cases d
    | some u =>
     rw [hv] at d
     cases hw:valueAt vb p.1 with
     | none=>rw [hw] at d;cases d
     | some w =>
      rw [hw] at d;exact .hit hw (qdz_ rv d hf.1 (qku_ hb hv)) (ih hf.2 h2)
section
variable {X:Cx}
inductive rDk (b:Bool) (x y:V) (H:Hp) (Q:VK):Prop
 | mk:∀ a a' ka kb,x=.ref a->y=.ref a'->H a=some (.dK ka)->H a'=some (.dK kb)->zs_ ka=true->zs_ kb=true->Q (.bl (b ^^ eqKV ka kb)) H->rDk b x y H Q
theorem qqb_ (hu:X.A.units+64 < cLine):OpR X (compareOp .NotEq) (rDk true):=by
 intro d s σ H x y v u Q I rx ry h;obtain ⟨a,a',ka,kb,rfl,rfl,ha,hb,fa,fb,q⟩:=h
 cases rx
 cases ry;obtain ⟨z1,d1,va,ra,D1⟩:=qi2_ I.hok ha;obtain ⟨z2,d2,vb,rb,D2⟩:=qi2_ I.hok hb;refine PySem.W.keq_ne d1 d2 D1 D2 (by omega) (fun _=>qm2_ fb rb fa ra) ⟨.bl (!eqKV ka kb),H,I,?_,by rw [Bool.true_xor] at q;exact q⟩
 unfold eqKV;rw [ra.length,rb.length];exact rfl
inductive vy_ (xs:List V) (H:Hp) (Q:VK):Prop
 | mk:∀ a kvs,xs=[V.ref a]->H a=some (.dK kvs)->(∀ p,H p=none->Q (.ref p) (upd H p (.dK kvs)))->vy_ xs H Q
theorem qi5_:jr_ X (.type "dict") (vy_):=by
 intro d s σ H xs us Q I r h;obtain ⟨a,g,rfl,ha,q⟩:=h;obtain ⟨u,rfl,ru⟩:=jy_ r
 cases ru;exact qmy_ I (.inl ha) fun p s' n I'=>⟨.ref p,_,I',rfl,q p n⟩
end
theorem qkv_ {prog:Program}{w:World}{A:Around}{E:Value->Shared->Prop}{s:Shared}{d:Addr}{kvs:List (Key × Value)}{ep:Nat}{Q:Value->Shared->Prop} (hh:A.handled=none) (hsys:(d == sysModules)=false) (hd:Heap.DictAt (qU_ prog w) s.heap d kvs ep) (hn:kvs.length<=sizeLine)
  (q:∀ (h':Heap) (tk:Nat) (acc:Array Value) (c:Nat),(∀ b o,s.heap.get? b=some o→h'.get? b=some o)→h'.get? s.heap.objs.size=some { cls:=.type "list",data:=.seq acc c } → ItemsOf (fun i v=>∃ k x,kvs[i]?=some (k,x)∧y2_ k v=true) acc kvs.length→Q (.ref s.heap.objs.size) { s with heap:=h',toks:=tk }) :
  wpAny (model prog w) A (call (.type "list") [.ref d]) Q E s:=by
 refine callType_codes (Q₁:=fun v s1=>v=.ref s.heap.objs.size∧s1 = { s with heap:=s.heap.push { cls:=.type "list",data:=.seq #[] } }) F.called_list (F.typeCall_list_1 _) F.entry_list_init (code_list_new (.ref d) ⟨rfl,rfl⟩) fun obj s1 h1=>?_
 obtain ⟨h1,h2⟩:=h1;subst h1;subst h2
 have hS:(s.heap.push { cls:=.type "list",data:=.seq #[] }).get? s.heap.objs.size=some { cls:=.type "list",data:=.seq #[] }:=bZ _ rfl
 refine ⟨⟨_,hS,rfl⟩,F.args_list_init_2 _ _,?_⟩
 have g:d < s.heap.objs.size:=by
  obtain ⟨o,es,g1,_⟩:=id hd;exact bJ g1
 obtain ⟨o,es,g1,g2,g3,g4,g5,g6⟩:=id hd;unfold Builtin.«list.__init__»;refine bH (bH (wpAny_seqItems hS rfl (c7 ?_)));refine bH (wpAny_updateSeq hS rfl ?_ (by decide) (by decide))
 have l:=Heap.get?_update_self (Obj.mapSeq fun _=>#[]) hS rfl
 have h:∀ b o,b≠s.heap.objs.size→(s.heap.push { cls:=.type "list",data:=.seq #[] }).get? b=some o→((s.heap.push { cls:=.type "list",data:=.seq #[] }).update s.heap.objs.size (Obj.mapSeq fun _=>#[])).get? b=some o:=fun b o hb e=>(Heap.get?_update_other _ _ (cJ hb)).trans e
 refine bH (wpAny_letGo ?_);refine PySem.W.kdl_extend (A:=A.in1) (PySem.W.kdl_dict (knd:=qU_ prog w) (kvs:=kvs) (ep:=ep) hsys) hh ⟨o,es,h _ _ (bP g) (bD _ g1),g2,g3,g4,g5,g6⟩ s.heap.objs.size (eC g) (eC g) .none _ l (fun h' tk acc c kp r it=>?_) hn;exact ⟨rfl,q h' tk acc c (fun b o e=>kp b o (bP (bJ e)) (h b o (bP (bJ e)) (bD _ e))) r it⟩
section
variable {X:Cx}
inductive vz_ (xs:List V) (H:Hp) (Q:VK):Prop
 | mk:∀ (p:Addr) (kvs:List (Key × V)) (ns:List Int),xs=[.ref p]->H p=some (.dK kvs)->kvs.map (·.1)=ns.map Sum.inl->(∀ l,H l=none->Q (.ref l) (upd H l (.lst (ns.map V.int))))->vz_ xs H Q
theorem qi6_ (hc:X.calm=true):jr_ X (.type "list") (vz_):=by
 intro E s σ H xs us Q I r h;obtain ⟨p,B,ns,rfl,hp,hk,q⟩:=h;obtain ⟨u,rfl,rx⟩:=jy_ r
 cases rx;obtain ⟨z,l,vs,d,o,es,ep,g1,g2,g3,g4,g5,g6⟩:=yG_ I.hok (.inl hp)
 have G:B.length=ns.length:=by
  have:=congrArg List.length hk;rw [b9,b9] at this;exact this
 have J:=d.length
 have C:vs.map (·.1)=ns.map Sum.inl:=by
  rw [<- hk];exact qhf_ d
 refine qkv_ (I.ok.hd hc) l ⟨_,_,g1,g2,g3,g4,g5,g6⟩ (by omega) fun h' tk g c kp hS it=>?_
 have D:IntsAre g.toList ns:=qcd_ C (by rw [dH];exact it.1) fun j v hj=>it.2 j v (by simpa using hj)
 refine ⟨.ref s.heap.objs.size,_,I.laid (t':=tk) kp (bF _) (show ObjOk X.prog X.w _ h' _ (.lst (ns.map V.int)) from ⟨?_,g.toList,c,zX_ D,hS⟩),rfl,q _ (I.hok.fresh (bF _))⟩;rw [b9];omega
end
end L2
namespace My
open PySem L2 PyProof.Rows
def top (i : Nat) : Stmt := PySem.Challenge.pw_spareplank_k46_whole_least_price_of_a_wr.main.body.getD i (.Pass ⟨0,0,0,0⟩)
abbrev vA_:Stmt:=qC_ (top 43) 0
abbrev jY_:Stmt:=qC_ (top 43) 1
abbrev zN_:Stmt:=qC_ (top 43) 2
abbrev ve_:Stmt:=qC_ (top 43) 3
abbrev vB_:Stmt:=qC_ (top 43) 4
abbrev vf_:Stmt:=qC_ (top 43) 5
abbrev qkw_:Stmt:=top 25
abbrev vg_:Stmt:=top 26
abbrev vC_:Stmt:=top 27
abbrev vD_:Stmt:=top 28
abbrev qcf_:Stmt:=top 29
abbrev qcg_:Stmt:=top 30
abbrev qch_:Stmt:=top 31
abbrev um_:Stmt:=top 32
abbrev vh_:Stmt:=qC_ (top 23) 0
abbrev zf_:Stmt:=qC_ (top 23) 2
abbrev zt_:Stmt:=qC_ (top 23) 3
abbrev zu_:Stmt:=qC_ (top 23) 5
abbrev zv_:Stmt:=qC_ (top 23) 6
abbrev zw_:Stmt:=top 36
abbrev zx_:Stmt:=top 37
abbrev vi_:Stmt:=top 38
abbrev un_:Stmt:=qC_ (top 39) 0
abbrev uo_:Stmt:=qC_ (top 39) 5
abbrev yX_:Stmt:=qC_ (top 39) 12
abbrev vE_:Stmt:=qC_ (top 39) 6
abbrev zg_:Stmt:=qC_ (top 39) 8
abbrev zy_:Stmt:=qC_ (top 39) 7
abbrev zh_:Stmt:=qC_ (top 39) 1
abbrev zO_:Stmt:=qC_ (top 39) 2
abbrev up_:Stmt:=top 2
abbrev vj_:Stmt:=qC_ (top 3) 0
abbrev vF_:Stmt:=qC_ (top 3) 1
abbrev vk_:Stmt:=qC_ (top 3) 2
abbrev yp_:Stmt:=qC_ (top 3) 3
abbrev zP_:Stmt:=qC_ (top 3) 4
abbrev zQ_:Stmt:=qC_ (top 3) 5
abbrev yY_:Stmt:=qC_ (top 3) 7
abbrev zR_:Stmt:=qC_ (top 3) 9
abbrev zz_:Stmt:=qC_ (top 3) 10
abbrev yZ_:Stmt:=qC_ (top 3) 11
abbrev zi_:Stmt:=qC_ (top 3) 6
abbrev zS_:Stmt:=qC_ (top 3) 8
abbrev qci_:Stmt:=top 5
abbrev zA_:Stmt:=top 6
abbrev qcj_:Stmt:=top 7
abbrev uq_:Stmt:=top 8
abbrev qaf_:Stmt:=top 9
abbrev vl_:Stmt:=top 10
abbrev zB_:Stmt:=top 11
abbrev qeq_:Stmt:=top 12
abbrev vG_:Stmt:=top 13
abbrev qkx_:Stmt:=top 45
abbrev qky_:Stmt:=top 46
abbrev qhi_:Stmt:=top 47
abbrev qer_:Stmt:=top 48
abbrev qkz_:Stmt:=top 49
abbrev qk0_:Stmt:=top 50
abbrev qhj_:Stmt:=top 51
abbrev qhk_:Stmt:=top 52
abbrev qhl_:Stmt:=top 53
abbrev qk1_:Stmt:=top 54
abbrev qk2_:Stmt:=top 55
abbrev qa9_:Stmt:=top 56
abbrev qhm_:Stmt:=top 57
abbrev qhn_:Stmt:=top 58
abbrev qn1_:Stmt:=top 59
abbrev qho_:Stmt:=top 60
abbrev qn2_:Stmt:=top 61
theorem sc_Field_init:qk_ ["self", "rule", "after"] ["self", "rule"] (qe_ vA_):=scM
theorem sc_Field_doublings_of_one:qk_ ["self", "symbol", "after"] ["self"] (qe_ jY_):=scM
theorem sc_Field_double:qk_ ["self", "one", "twice"] ["self", "one"] (qe_ zN_):=scM
theorem sc_Field_times:qk_ ["self", "one", "other", "product", "doubled", "digits"] ["self", "one", "other"] (qe_ ve_):=scM
theorem qdh_:qk_ ["self", "one"] ["self", "one"] (qe_ vB_):=scM
theorem sc_Field_power:qk_ ["self", "one", "many", "product", "square", "digits"] ["self", "one", "many"] (qe_ vf_):=scM
theorem sc_unit:qk_ ["many", "at", "some"] ["many", "at"] (qe_ qkw_):=scM
theorem qba_:qk_ ["field", "factor", "line"] ["field", "factor", "line"] (qe_ vg_):=scM
theorem qdi_:qk_ ["one", "other"] ["one", "other"] (qe_ vC_):=scM
theorem sc_first_with:qk_ ["lines", "start", "place", "at"] ["lines", "start", "place"] (qe_ vD_):=scM
theorem sc_swapped:qk_ ["lines", "one", "other", "some"] ["lines", "one", "other"] (qe_ qcf_):=scM
theorem sc_cleared:qk_ ["field", "lines", "at", "place", "head", "some", "number", "line"] ["field", "lines", "at", "place"] (qe_ qcg_):=scM
theorem sc_told_of:qk_ ["field", "lines", "known", "place", "some", "heads", "other", "found", "by"] ["field", "lines", "known", "place"] (qe_ qch_):=scM
theorem sc_free_make:qk_ ["lines", "heads", "many", "place", "make", "head", "line"] ["lines", "heads", "many", "place"] (qe_ um_):=scM
theorem sc_Blocks_init:qk_ ["self", "field", "many", "step"] ["self", "field", "many"] (qe_ vh_):=scM
theorem sc_Blocks_symbols:qk_ ["self", "block", "base", "some", "rest", "at"] ["self", "block"] (qe_ zf_):=scM
theorem sc_Blocks_joined:qk_ ["self", "some", "base", "block", "symbol"] ["self", "some"] (qe_ zt_):=scM
theorem uF_:qk_ ["self", "factor", "block"] ["self", "factor", "block"] (qe_ zu_):=scM
theorem sc_Blocks_summed:qk_ ["self", "factors", "some", "total", "factor", "block"] ["self", "factors", "some"] (qe_ zv_):=scM
theorem sc_check_lengths:qk_ ["weights", "data", "some"] ["weights"] (qe_ zw_):=scM
theorem sc_check_weights:qk_ ["field", "weights", "some", "weight", "role"] ["field", "weights"] (qe_ zx_):=scM
theorem sc_equation_of:qk_ ["weights", "total", "line", "other"] ["weights", "total"] (qe_ vi_):=scM
theorem qes_:qk_ ["self", "blocks", "weights"] ["self", "blocks", "weights"] (qe_ un_):=scM
theorem qet_:qk_ ["self", "known", "role"] ["self", "known", "role"] (qe_ uo_):=scM
theorem vH_:qk_ ["self", "role"] ["self", "role"] (qe_ yX_):=scM
theorem qdj_:qk_ ["self", "known", "role"] ["self", "known", "role"] (qe_ vE_):=scM
theorem sc_Code_summed_by:qk_ ["self", "by", "row", "line", "factor", "equation", "told"] ["self", "by", "row"] (qe_ zg_):=scM
theorem sc_Code_reckoned:qk_ ["self", "row", "role", "told"] ["self", "row", "role"] (qe_ zy_):=scM
theorem v8_:qk_ ["self"] ["self"] (qe_ zh_):=scM
theorem qag_:qk_ ["self", "total", "role"] ["self", "total", "role"] (qe_ zO_):=scM
theorem sc_fixes_all:qk_ ["code", "known", "some", "role"] ["code", "known", "some"] (qe_ up_):=scM
theorem qbb_:qk_ ["self", "code", "ask", "costs"] ["self", "code", "ask", "costs"] (qe_ vj_):=scM
theorem qdk_:qk_ ["self", "role"] ["self", "role"] (qe_ vF_):=scM
theorem qbc_:qk_ ["self", "role"] ["self", "role"] (qe_ vk_):=scM
theorem sc_Asking_take_along:qk_ ["self", "some", "role"] ["self", "some"] (qe_ yp_):=scM
theorem qah_:qk_ ["self"] ["self"] (qe_ zP_):=scM
theorem qai_:qk_ ["self", "some"] ["self", "some"] (qe_ zQ_):=scM
theorem vI_:qk_ ["self", "some"] ["self", "some"] (qe_ yY_):=scM
theorem sc_Asking_order:qk_ ["self", "free"] ["self"] (qe_ zR_):=scM
theorem sc_Asking_detour:qk_ ["self", "some", "order", "known", "way", "role"] ["self", "some"] (qe_ zz_):=scM
theorem vJ_:qk_ ["self", "role"] ["self", "role"] (qe_ yZ_):=scM
theorem sc_Asking_unfixed:qk_ ["self", "some", "known"] ["self", "some"] (qe_ zi_):=scM
theorem sc_Asking_price:qk_ ["self", "some", "left"] ["self", "some"] (qe_ zS_):=scM
theorem qi7_:qk_ ["code", "totals", "role"] ["code", "totals", "role"] (qe_ qci_):=scM
theorem sc_sums_to_write:qk_ ["asking", "news", "code", "totals"] ["asking", "news"] (qe_ zA_):=scM
theorem qi8_:qk_ ["code", "totals", "news"] ["code", "totals", "news"] (qe_ qcj_):=scM
theorem qeu_:qk_ ["code", "totals", "news"] ["code", "totals", "news"] (qe_ uq_):=scM
theorem sc_next_way:qk_ ["asking", "rest", "change", "ways", "some", "price", "detours", "shorter"] ["asking", "rest", "change"] (qe_ qaf_):=scM
theorem sc_sum_by_rest:qk_ ["asking", "news", "total", "code", "line", "roles", "some"] ["asking", "news", "total"] (qe_ vl_):=scM
theorem sc_sum_by_change:qk_ ["asking", "news", "total", "code", "line", "roles", "some"] ["asking", "news", "total"] (qe_ zB_):=scM
theorem sc_to_lay:qk_ ["asking", "news", "totals", "by_rest", "laid", "role", "total"] ["asking", "news", "totals", "by_rest"] (qe_ qeq_):=scM
theorem sc_new_blocks:qk_ ["asking", "news", "code", "totals", "rest", "change", "way", "laid", "known"] ["asking", "news"] (qe_ vG_):=scM
theorem sc_cell:qk_ ["_law_script", "_law_k", "_law_number"] ["_law_script", "_law_k"] (qe_ qkx_):=scM
theorem qo1_:qk_ ["_law_cell_here"] ["_law_cell_here"] (qe_ qky_):=scM
theorem sc_times:qk_ ["_law_one", "_law_other", "_law_rule_here", "_law_found"] ["_law_one", "_law_other", "_law_rule_here"] (qe_ qhi_):=scM
theorem sc_scaled:qk_ ["_law_factor", "_law_block", "_law_rule_here", "_law_size", "_law_found", "_law_place"] ["_law_factor", "_law_block", "_law_rule_here"] (qe_ qer_):=scM
theorem sc_make:qk_ ["_law_some_here", "_law_weights", "_law_rule_here", "_law_made", "_law_line", "_law_total_here", "_law_factor", "_law_block"] ["_law_some_here", "_law_weights", "_law_rule_here"] (qe_ qkz_):=scM
theorem sc_some:qk_ ["_law_script", "_law_start", "_law_many", "_law_limit", "_law_some_here", "_law_k", "_law_number"] ["_law_script", "_law_start", "_law_many", "_law_limit"] (qe_ qk0_):=scM
theorem sc_plain:qk_ ["_law_data", "_law_sums", "_law_weights"] ["_law_data", "_law_sums"] (qe_ qhj_):=scM
theorem sc_sizes:qk_ ["_law_cell_here", "_law_sums"] ["_law_cell_here"] (qe_ qhk_):=scM
theorem sc_costs:qk_ ["_law_cell_here", "_law_roles", "_law_left", "_law_costs_here", "_law_k"] ["_law_cell_here", "_law_roles"] (qe_ qhl_):=scM
theorem sc_lost:qk_ ["_law_cell_here", "_law_roles", "_law_sums", "_law_costs_here", "_law_left", "_law_one", "_law_two", "_law_role"] ["_law_cell_here", "_law_roles", "_law_sums", "_law_costs_here"] (qe_ qk1_):=scM
theorem sc_news:qk_ ["_law_script", "_law_start", "_law_mask", "_law_data", "_law_limit", "_law_left", "_law_some_here", "_law_news_here", "_law_role"] ["_law_script", "_law_start", "_law_mask", "_law_data", "_law_limit"] (qe_ qk2_):=scM
theorem sc_asker:qk_ ["_law_row", "_law_seen", "_law_ask"] ["_law_row", "_law_seen"] (qe_ qa9_):=scM
theorem sc_total:qk_ ["_law_costs_here", "_law_roles", "_law_total_here", "_law_role"] ["_law_costs_here", "_law_roles"] (qe_ qhm_):=scM
theorem sc_least:qk_ ["_law_costs_here", "_law_news_here", "_law_data", "_law_totals", "_law_least_here", "_law_rest", "_law_change", "_law_total_here"] ["_law_costs_here", "_law_news_here", "_law_data"] (qe_ qhn_):=scM
theorem sc_due:qk_ ["_law_make_here", "_law_news_here", "_law_costs_here", "_law_weights", "_law_rule_here", "_law_data", "_law_some_here", "_law_due_here", "_law_role", "_law_block"] ["_law_make_here", "_law_news_here", "_law_costs_here", "_law_weights", "_law_rule_here"] (qe_ qn1_):=scM
theorem sc_scene:qk_ ["_law_code", "_law_make_here", "_law_costs_here", "_law_news_here", "_law_rule_here", "_law_data", "_law_seen", "_law_asking", "_law_paid", "_law_role"] ["_law_code", "_law_make_here", "_law_costs_here", "_law_news_here", "_law_rule_here"] (qe_ qho_):=scM
theorem sc_law:qk_ ["_law_script", "_law_data", "_law_sums", "_law_rule_here", "_law_limit", "_law_weights", "_law_make_here", "_law_code", "_law_roles", "_law_at", "_law_costs_here", "_law_news_here"] ["_law_script"] (qe_ qn2_):=scM
set_option genInjectivity false in
structure Adr where
 (C_Field C_Blocks C_Code C_Asking f0 f1 f2 f3 f4 f5 f6 f7 f8 f9 f10 f11 f12 f13 f14 f15 f16 f17 f18 f19 f20 f21 f22 f23 f24 f25 f26 f27 f28 f29 f30 f31 f32 f33 f34 f35 f36 f37 f38 f39 f40 f41 f42 f43 f44 f45 f46 f47 f48 f49 f50 f51 f52 f53 f54 f55 f56 f57 f58 f59 f60 f61 f62 f63 f64 f65 f66 f67 f68 c38 t38 c47 t47 c63 t63:Addr)
 (t_LEAST_RULE t_GREATEST_RULE t_MOST_SYMBOLS t_MOST_ROLES t_MOST_SUMS:Tok)
structure Txt (K:W.Frag) (mg:Str->Option Value) (a:Adr):Prop where
 m_Field:mg "Field" = some (.ref a.C_Field)
 cl_Field:Cls K a.C_Field
 no_Field_rule:NoAttr K a.C_Field "rule"
 no_Field_width:NoAttr K a.C_Field "width"
 no_Field_last:NoAttr K a.C_Field "last"
 mk_Field:Mk K a.C_Field a.f0
 m_Blocks:mg "Blocks" = some (.ref a.C_Blocks)
 cl_Blocks:Cls K a.C_Blocks
 no_Blocks_field:NoAttr K a.C_Blocks "field"
 no_Blocks_many:NoAttr K a.C_Blocks "many"
 no_Blocks_limit:NoAttr K a.C_Blocks "limit"
 mk_Blocks:Mk K a.C_Blocks a.f14
 m_Code:mg "Code" = some (.ref a.C_Code)
 cl_Code:Cls K a.C_Code
 no_Code_blocks:NoAttr K a.C_Code "blocks"
 no_Code_sums:NoAttr K a.C_Code "sums"
 no_Code_data:NoAttr K a.C_Code "data"
 no_Code_roles:NoAttr K a.C_Code "roles"
 no_Code_lines:NoAttr K a.C_Code "lines"
 mk_Code:Mk K a.C_Code a.f22
 m_Asking:mg "Asking" = some (.ref a.C_Asking)
 cl_Asking:Cls K a.C_Asking
 no_Asking_code:NoAttr K a.C_Asking "code"
 no_Asking_ask:NoAttr K a.C_Asking "ask"
 no_Asking_costs:NoAttr K a.C_Asking "costs"
 no_Asking_row:NoAttr K a.C_Asking "row"
 no_Asking_asked:NoAttr K a.C_Asking "asked"
 mk_Asking:Mk K a.C_Asking a.f31
 x0:MD K a.C_Field "__init__" "Field.__init__" vA_ a.f0 ["self", "rule"]
 x1:MD K a.C_Field "doublings_of_one" "Field.doublings_of_one" jY_ a.f1 ["self"]
 x2:MD K a.C_Field "double" "Field.double" zN_ a.f2 ["self", "one"]
 x3:MD K a.C_Field "times" "Field.times" ve_ a.f3 ["self", "one", "other"]
 x4:MD K a.C_Field "back" "Field.back" vB_ a.f4 ["self", "one"]
 x5:MD K a.C_Field "power" "Field.power" vf_ a.f5 ["self", "one", "many"]
 x6:GD K mg "unit" qkw_ a.f6 ["many", "at"]
 x7:GD K mg "scaled_line" vg_ a.f7 ["field", "factor", "line"]
 x8:GD K mg "sum_of_two" vC_ a.f8 ["one", "other"]
 x9:GD K mg "first_with" vD_ a.f9 ["lines", "start", "place"]
 x10:GD K mg "swapped" qcf_ a.f10 ["lines", "one", "other"]
 x11:GD K mg "cleared" qcg_ a.f11 ["field", "lines", "at", "place"]
 x12:GD K mg "told_of" qch_ a.f12 ["field", "lines", "known", "place"]
 x13:GD K mg "free_make" um_ a.f13 ["lines", "heads", "many", "place"]
 x14:MD K a.C_Blocks "__init__" "Blocks.__init__" vh_ a.f14 ["self", "field", "many"]
 x15:MD K a.C_Blocks "symbols" "Blocks.symbols" zf_ a.f15 ["self", "block"]
 x16:MD K a.C_Blocks "joined" "Blocks.joined" zt_ a.f16 ["self", "some"]
 x17:MD K a.C_Blocks "scaled" "Blocks.scaled" zu_ a.f17 ["self", "factor", "block"]
 x18:MD K a.C_Blocks "summed" "Blocks.summed" zv_ a.f18 ["self", "factors", "some"]
 x19:GD K mg "check_lengths" zw_ a.f19 ["weights"]
 x20:GD K mg "check_weights" zx_ a.f20 ["field", "weights"]
 x21:GD K mg "equation_of" vi_ a.f21 ["weights", "total"]
 x22:MD K a.C_Code "__init__" "Code.__init__" un_ a.f22 ["self", "blocks", "weights"]
 x23:MD K a.C_Code "told" "Code.told" uo_ a.f23 ["self", "known", "role"]
 x24:MD K a.C_Code "check_role" "Code.check_role" yX_ a.f24 ["self", "role"]
 x25:MD K a.C_Code "fixes" "Code.fixes" vE_ a.f25 ["self", "known", "role"]
 x26:MD K a.C_Code "summed_by" "Code.summed_by" zg_ a.f26 ["self", "by", "row"]
 x27:MD K a.C_Code "reckoned" "Code.reckoned" zy_ a.f27 ["self", "row", "role"]
 x28:MD K a.C_Code "equations" "Code.equations" zh_ a.f28 ["self"]
 x29:MD K a.C_Code "touches" "Code.touches" zO_ a.f29 ["self", "total", "role"]
 x30:GD K mg "fixes_all" up_ a.f30 ["code", "known", "some"]
 x31:MD K a.C_Asking "__init__" "Asking.__init__" vj_ a.f31 ["self", "code", "ask", "costs"]
 x32:MD K a.C_Asking "may" "Asking.may" vF_ a.f32 ["self", "role"]
 x33:MD K a.C_Asking "take" "Asking.take" vk_ a.f33 ["self", "role"]
 x34:MD K a.C_Asking "take_along" "Asking.take_along" yp_ a.f34 ["self", "some"]
 x35:MD K a.C_Asking "known" "Asking.known" zP_ a.f35 ["self"]
 x36:MD K a.C_Asking "fixes" "Asking.fixes" zQ_ a.f36 ["self", "some"]
 x37:MD K a.C_Asking "cost_sum" "Asking.cost_sum" yY_ a.f37 ["self", "some"]
 x38:MT K a.C_Asking "order" "Asking.order" zR_ a.f38 ["self"] a.c38 a.t38
 x39:MD K a.C_Asking "detour" "Asking.detour" zz_ a.f39 ["self", "some"]
 x40:MD K a.C_Asking "block_of" "Asking.block_of" yZ_ a.f40 ["self", "role"]
 x41:MD K a.C_Asking "unfixed" "Asking.unfixed" zi_ a.f41 ["self", "some"]
 x42:MD K a.C_Asking "price" "Asking.price" zS_ a.f42 ["self", "some"]
 x43:GD K mg "touched" qci_ a.f43 ["code", "totals", "role"]
 x44:GD K mg "sums_to_write" zA_ a.f44 ["asking", "news"]
 x45:GD K mg "rest_of" qcj_ a.f45 ["code", "totals", "news"]
 x46:GD K mg "change_of" uq_ a.f46 ["code", "totals", "news"]
 x47:GT K mg "next_way" qaf_ a.f47 ["asking", "rest", "change"] a.c47 a.t47
 x48:GD K mg "sum_by_rest" vl_ a.f48 ["asking", "news", "total"]
 x49:GD K mg "sum_by_change" zB_ a.f49 ["asking", "news", "total"]
 x50:GD K mg "to_lay" qeq_ a.f50 ["asking", "news", "totals", "by_rest"]
 x51:GD K mg "new_blocks" vG_ a.f51 ["asking", "news"]
 x52:GD K mg "_law_cell" qkx_ a.f52 ["_law_script", "_law_k"]
 x53:GD K mg "_law_rule" qky_ a.f53 ["_law_cell_here"]
 x54:GD K mg "_law_times" qhi_ a.f54 ["_law_one", "_law_other", "_law_rule_here"]
 x55:GD K mg "_law_scaled" qer_ a.f55 ["_law_factor", "_law_block", "_law_rule_here"]
 x56:GD K mg "_law_make" qkz_ a.f56 ["_law_some_here", "_law_weights", "_law_rule_here"]
 x57:GD K mg "_law_some" qk0_ a.f57 ["_law_script", "_law_start", "_law_many", "_law_limit"]
 x58:GD K mg "_law_plain" qhj_ a.f58 ["_law_data", "_law_sums"]
 x59:GD K mg "_law_sizes" qhk_ a.f59 ["_law_cell_here"]
 x60:GD K mg "_law_costs" qhl_ a.f60 ["_law_cell_here", "_law_roles"]
 x61:GD K mg "_law_lost" qk1_ a.f61 ["_law_cell_here", "_law_roles", "_law_sums", "_law_costs_here"]
 x62:GD K mg "_law_news" qk2_ a.f62 ["_law_script", "_law_start", "_law_mask", "_law_data", "_law_limit"]
 x63:GT K mg "_law_asker" qa9_ a.f63 ["_law_row", "_law_seen"] a.c63 a.t63
 x64:GD K mg "_law_total" qhm_ a.f64 ["_law_costs_here", "_law_roles"]
 x65:GD K mg "_law_least" qhn_ a.f65 ["_law_costs_here", "_law_news_here", "_law_data"]
 x66:GD K mg "_law_due" qn1_ a.f66 ["_law_make_here", "_law_news_here", "_law_costs_here", "_law_weights", "_law_rule_here"]
 x67:GD K mg "_law_scene" qho_ a.f67 ["_law_code", "_law_make_here", "_law_costs_here", "_law_news_here", "_law_rule_here"]
 x68:GD K mg "law" qn2_ a.f68 ["_law_script"]
 n_zip:mg "zip" = none
 n_range:mg "range" = none
 n_len:mg "len" = none
 n_list:mg "list" = none
 n_enumerate:mg "enumerate" = none
 n_reversed:mg "reversed" = none
 n_any:mg "any" = none
 n_sum:mg "sum" = none
 n_sorted:mg "sorted" = none
 n_all:mg "all" = none
 n_min:mg "min" = none
 n_dict:mg "dict" = none
 n_max:mg "max" = none
 v_LEAST_RULE:mg "LEAST_RULE" = some (.int 16 a.t_LEAST_RULE)
 v_GREATEST_RULE:mg "GREATEST_RULE" = some (.int 511 a.t_GREATEST_RULE)
 v_MOST_SYMBOLS:mg "MOST_SYMBOLS" = some (.int 16 a.t_MOST_SYMBOLS)
 v_MOST_ROLES:mg "MOST_ROLES" = some (.int 8 a.t_MOST_ROLES)
 v_MOST_SUMS:mg "MOST_SUMS" = some (.int 2 a.t_MOST_SUMS)
structure Tb (base:Heap) (mg:Str->Option Value) (a:Adr):Prop where
 b_Asking_order:base.BuiltinsAt mg a.t38
 n_Asking_order:mainGlobals≠a.t38
 b_next_way:base.BuiltinsAt mg a.t47
 n_next_way:mainGlobals≠a.t47
 b_asker:base.BuiltinsAt mg a.t63
 n_asker:mainGlobals≠a.t63
 d_Asking_order_next_way:a.t38≠a.t47
 d_Asking_order_asker:a.t38≠a.t63
 d_next_way_asker:a.t47≠a.t63
variable {P:Program}{wo:World}{K:PySem.W.Frag}{mg:Str->Option Value}{base:Heap}{a:Adr}
def ff (r w:Nat):List (Str × V):=[("rule",.int r),("width",.int w),("last",.int ((2 ^ w - 1:Nat):Int))]
theorem qo2_ (r w:Nat):(ff r w).lookup ("rule" : Str)=some (.int r):=rfl
theorem yw_ (r w:Nat):(ff r w).lookup ("last" : Str)=some (.int ((2 ^ w - 1:Nat):Int)):=rfl
def FieldAt (C:Addr) (H:Hp) (p:Addr) (r w:Nat):Prop:=∃ dx,H p=some (.ins C dx (ff r w))
theorem FieldAt.same {C:Addr}{H H':Hp}{p:Addr}{r w:Nat} (h:FieldAt C H p r w) (s:Same H H'):FieldAt C H' p r w:=let ⟨dx,e⟩:=h;⟨dx,s _ _ e⟩
inductive z2_ (a:Adr) (vs:List V) (H:Hp) (Q:VK) (E_3:XK):Prop
 | mk:∀ (p:Addr) (r w x:Nat),vs=[.ref p,.int x]->FieldAt a.C_Field H p r w->x < 2 ^ w->Q (.int (GF.dbl r w x:Nat)) H->z2_ a vs H Q E_3
theorem zC_ (T:Txt K mg a):FnO P wo K mg base 1 a.f2 ["self", "one"] (z2_ a):=by
 refine T.x2.F.okA (k:=0) sc_Field_double (fun d A outer s H vs Q E hr h=>?_)
 ·obtain ⟨p,r,w,x,rfl,⟨dx,hF⟩,hx,k⟩:=h
  refine xx ?_;intro X_;refine xc (qi_ (i:=2) sc_Field_double.nd rfl (Or.inl rfl) (qm_ ya_ qf_ (pv 1))) ?_;intro u_;refine xq ?_;refine xi (qn_ j3_ (pv 2) (qt_ (pv 0) rfl) (qp_ _)) ?_;refine xl (qo_ (qm_ yk_ (pv 2) (qt_ (pv 0) rfl))) ?_;intro u_;refine ⟨_,qw_,?_⟩;intro u_;refine xl (qo_ (pv 2)) ?_;intro u_;refine ⟨_,rfl,_,_,rfl,rfl,.inl ⟨by decide,by decide⟩,?_⟩
  refine ⟨_,rfl,_,rfl,p,_,_,_,_,rfl,hF,T.cl_Field,T.no_Field_last,yw_ r w,_,_,rfl,rfl,_,rfl,?_⟩
  have hp:0 < 2 ^ w:=d5 w;refine ite2 (fun h=>?_) (fun h=>?_)
  ·have h':=bC h
   refine ⟨_,rfl,_,rfl,p,_,_,_,_,rfl,hF,T.cl_Field,T.no_Field_rule,qo2_ r w,_,_,rfl,rfl,?_⟩
   have e:Builtin.bitXor (2 * (x:Int)) (r:Int)=((GF.dbl r w x:Nat):Int):=by
    have e0:(2 * (x:Int))=((2 * x:Nat):Int):=by omega
    rw [e0,jj_];unfold GF.dbl;rw [if_pos (by omega)]
   show Q (.int (Builtin.bitXor (2 * (x:Int)) (r:Int))) H
   rw [e];exact k
  ·have h':¬ (((2 ^ w - 1:Nat):Int) < 2 * (x:Int)):=fun z=>h (bN z)
   refine ⟨_,rfl,?_⟩
   have e:(2 * (x:Int))=((GF.dbl r w x:Nat):Int):=by
    unfold GF.dbl;rw [if_neg (by omega)]
    omega
   show Q (.int (2 * (x:Int))) H
   rw [e];exact k
inductive qhp_ (a:Adr) (vs:List V) (H:Hp) (Q:VK) (E_3:XK):Prop
 | mk:∀ (p:Addr) (r w x y:Nat),vs=[.ref p,.int x,.int y]->FieldAt a.C_Field H p r w->GF.Rule r w->x < 2 ^ w->Q (.int (GF.tm r w x y:Nat)) H->qhp_ a vs H Q E_3
theorem j6_ (T:Txt K mg a):FnO P wo K mg base 2 a.f3 ["self", "one", "other"] (qhp_ a):=by
 have l:FnO P wo K mg base 1 a.f2 ["self", "one"] (z2_ a):=zC_ T
 refine T.x3.F.okA (k:=1) sc_Field_times (fun I A outer s H vs Q E hr h=>?_)
 ·obtain ⟨p,r,w,x,y,rfl,hF,R,hx,k⟩:=h
  refine xx ?_;intro X_;refine xc (qi_ (i:=3) sc_Field_times.nd rfl (Or.inl rfl) qf_) ?_;intro u_;refine xc (qi_ (i:=4) sc_Field_times.nd rfl (Or.inl rfl) (pv 1)) ?_;intro u_;refine xc (qi_ (i:=5) sc_Field_times.nd rfl (Or.inl rfl) (pv 2)) ?_;intro u_;refine xq ?_;refine xw PassesOwn.never (qn_ j3_ (pv 5) qf_ (qp_ _)) ?_;refine xq ?_;refine xi (qn_ jx_ (qm_ qW_ (pv 5) qf_) qf_ (qp_ _)) ?_;refine xl (qi_ (i:=3) sc_Field_times.nd rfl (Or.inl rfl) (qm_ yk_ (pv 3) (pv 4))) ?_;intro u_;refine ⟨_,qw_,?_⟩;intro u_;refine xc (qi_ (i:=4) sc_Field_times.nd rfl (Or.inl rfl) (qx_ (pv 0) T.cl_Field T.x2.me l hr.u T.x2.b .nil qj_ (qa_ (pv 4) qb_))) ?_;intro u_;refine xl (qi_ (i:=5) sc_Field_times.nd rfl (Or.inl rfl) (qm_ jN_ (pv 5) qf_)) ?_;intro u_;intro u_;refine xl (qo_ (pv 3)) ?_;intro u_;refine ⟨_,rfl,_,rfl,?_⟩
  refine ⟨fun m σ H'=>∃ f d g:Nat,g=m/\σ=[some (.ref p),some (.int x),some (.int y),some (.int f),some (.int d),some (.int g)]/\H'=H/\d < 2 ^ w/\f ^^^ GF.tm r w d g=GF.tm r w x y,
   ⟨_,0,x,y,rfl,rfl,rfl,hx,cS _⟩,?_⟩
  rintro m σ H' ⟨f,d,g,rfl,rfl,rfl,hd,B⟩;refine ⟨_,rfl,_,_,rfl,rfl,_,rfl,?_⟩;refine ite2 (fun h=>⟨_,fun _ _ z=>z,?_⟩) (fun h=>?_)
  ·have hg:0 < g:=by
    have:=bC h;omega
   have hm:((g:Int) % 2)=((g % 2:Nat):Int):=by omega
   have G:((g:Int) / 2)=((g / 2:Nat):Int):=by omega
   have step:=GF.tm_step (r:=r) (w:=w) d g;refine ⟨_,rfl,_,_,rfl,rfl,p0 (by decide),rfl,_,rfl,?_⟩
   refine ite2 (fun h1=>?_) (fun h1=>?_)
   ·have C:g % 2=1:=by
     have:=V.int.inj (bC h1);omega
    refine ⟨_,rfl,_,rfl,_,_,rfl,rfl,?_⟩;obtain ⟨dx,D⟩:=id hF;refine ⟨_,rfl,p,dx,_,rfl,D,rfl,_,rfl,p,r,w,d,rfl,hF,hd,?_⟩;refine ⟨_,rfl,_,_,rfl,rfl,⟨by decide,by decide⟩,?_⟩
    refine ⟨g / 2,fq hg (by decide),f ^^^ d,GF.dbl r w d,g / 2,rfl,?_,rfl,GF.dbl_lt R hd,?_⟩
    ·show [some (V.ref p),some (V.int x),some (V.int y),some (V.int (Builtin.bitXor f d)),some (V.int (GF.dbl r w d:Nat)),some (V.int ((g:Int) / 2))]=_
     rw [jj_,G]
    ·rw [<- B,step,if_pos C,dj]
   ·have C:¬ g % 2=1:=by
     intro z
     apply h1
     apply bN
     show V.int ((g:Int) % 2)=V.int 1
     congr 1
     omega
    obtain ⟨dx,D⟩:=id hF;refine ⟨_,rfl,p,dx,_,rfl,D,rfl,_,rfl,p,r,w,d,rfl,hF,hd,?_⟩;refine ⟨_,rfl,_,_,rfl,rfl,⟨by decide,by decide⟩,?_⟩
    refine ⟨g / 2,fq hg (by decide),f,GF.dbl r w d,g / 2,rfl,?_,rfl,GF.dbl_lt R hd,?_⟩
    ·show [some (V.ref p),some (V.int x),some (V.int y),some (V.int f),some (V.int (GF.dbl r w d:Nat)),some (V.int ((g:Int) / 2))]=_
     rw [G]
    ·rw [<- B,step,if_neg C,cS]
  ·have hg:g=0:=by
    have:¬ ((0:Int) < g):=fun z=>h (bN z);omega
   subst hg;rw [GF.tm_zero,cT] at B;refine ⟨_,rfl,?_⟩
   show Q (.int (f:Nat)) H'
   rw [B];exact k
inductive zH_ (a:Adr) (vs:List V) (H:Hp) (Q:VK) (E_3:XK):Prop
 | mk:∀ (p:Addr) (r w:Nat),vs=[.ref p]->FieldAt a.C_Field H p r w->GF.Good r w->Q (.int ((2 ^ w - 1:Nat):Int)) H->zH_ a vs H Q E_3
theorem y3_ (T:Txt K mg a):FnO P wo K mg base 2 a.f1 ["self"] (zH_ a):=by
 have d:FnO P wo K mg base 1 a.f2 ["self", "one"] (z2_ a):=zC_ T
 refine T.x1.F.okA (k:=1) sc_Field_doublings_of_one (fun D A outer s H vs Q E hr h=>?_)
 ·obtain ⟨p,r,w,rfl,hF,R,k⟩:=h
  obtain ⟨dx,g⟩:=id hF;refine xx ?_;intro X_;refine xc (qi_ (i:=1) sc_Field_doublings_of_one.nd rfl (Or.inl rfl) (qx_ (pv 0) T.cl_Field T.x2.me d hr.u T.x2.b .nil qj_ (qa_ qf_ qb_))) ?_;intro u_;refine xc (qi_ (i:=2) sc_Field_doublings_of_one.nd rfl (Or.inl rfl) qf_) ?_;intro u_;refine xq ?_;refine xw PassesOwn.never (qn_ zq_ (pv 1) qf_ (qp_ _)) ?_;refine xc (qi_ (i:=1) sc_Field_doublings_of_one.nd rfl (Or.inl rfl) (qx_ (pv 0) T.cl_Field T.x2.me d hr.u T.x2.b .nil qj_ (qa_ (pv 1) qb_))) ?_;intro u_;refine xl (qpw_ (i:=2) sc_Field_doublings_of_one.nd rfl (Or.inl rfl) qf_ qpx_) ?_;intro u_;intro u_;refine xl (qo_ (pv 2)) ?_;intro u_;refine ⟨_,rfl,p,dx,_,rfl,g,rfl,p,r,w,1,rfl,hF,GF.one_lt R.w1,?_⟩;refine ⟨fun m σ H'=>∃ n:Nat,m=2 ^ w - 1 - n/\σ=[some (.ref p),some (.int (GF.it r w n:Nat)),some (.int n)]/\H'=H/\1<=n/\n<=2 ^ w - 1,⟨_,1,rfl,rfl,rfl,bF _,R.last1⟩,?_⟩;rintro m σ H' ⟨n,rfl,rfl,rfl,h1,hn⟩;refine ⟨_,rfl,rfl,_,rfl,?_⟩;refine ite2 (fun h=>⟨_,fun _ _ z=>z,?_⟩) (fun h=>?_)
  ·have l:GF.it r w n≠1:=by
    intro z;rw [z] at h;exact absurd h (by decide)
   have C:n < 2 ^ w - 1:=Nat.lt_of_le_of_ne hn fun z=>l (by rw [z];exact R.back)
   refine ⟨_,rfl,p,dx,_,rfl,g,rfl,_,rfl,p,r,w,_,rfl,hF,GF.it_lt R.rule R.w1 n,?_⟩;refine ⟨_,rfl,_,_,rfl,rfl,?_⟩;exact ⟨2 ^ w - 1 - (n+1),by omega,n+1,rfl,rfl,rfl,by omega,by omega⟩
  ·have he:GF.it r w n=1:=by
    refine Classical.byContradiction fun z=>h ?_
    have:¬ (V.int (GF.it r w n:Nat)=V.int 1):=fun q=>z (by have:=V.int.inj q;omega)
    show (!decide (V.int (GF.it r w n:Nat)=V.int 1))=true
    rw [bY this];rfl
   have B:n=2 ^ w - 1:=by
    refine Classical.byContradiction fun z=>R.first n h1 (by omega) he
   subst B;exact ⟨_,rfl,k⟩
inductive ur_ (a:Adr) (vs:List V) (H:Hp) (Q:VK) (E_3:XK):Prop
 | mk:∀ (p dx:Addr) (r w:Nat),vs=[.ref p,.int r]->H p=some (.ins a.C_Field dx [])->GF.Good r w->Q .non (upd H p (.ins a.C_Field dx (ff r w)))->ur_ a vs H Q E_3
theorem qdl_ (T:Txt K mg a):FnO P wo K mg base 3 a.f0 ["self", "rule"] (ur_ a):=by
 have d:FnO P wo K mg base 2 a.f1 ["self"] (zH_ a):=y3_ T
 refine T.x0.F.okA (k:=2) sc_Field_init (fun C A outer s H vs Q E hr h=>?_)
 ·obtain ⟨p,dx,r,w,rfl,hp,R,k⟩:=h
  refine xx ?_;intro X_;refine xq ?_;refine xi (PW.pt (jR_ (qn_ yl_ (pv 1) (zJ_ (v:=.int 16) rfl T.v_LEAST_RULE ⟨_,rfl⟩) (qp_ _)) (jR_ (qn_ j3_ (pv 1) (zJ_ (v:=.int 511) rfl T.v_GREATEST_RULE ⟨_,rfl⟩) (qp_ _)) (jL_ (qn_ jx_ (qm_ qW_ (pv 1) qf_) qf_ (qp_ _)))))) ?_;refine xl q3_ ?_;intro u_;refine ⟨_,qw_,?_⟩;intro u_;refine xc (jd_ (pv 0) (pv 1) rfl) ?_;intro u_;refine xc (jd_ (pv 0) (qm_ yj_ (vt_ dU dm dn yQ_ (pv 1)) qf_) rfl) ?_;intro u_;refine xc (jd_ (pv 0) (qm_ yj_ (qm_ uV_ qf_ (qt_ (pv 0) rfl)) qf_) rfl) ?_;intro u_;refine xc (qi_ (i:=2) sc_Field_init.nd rfl (Or.inl rfl) (jV_ (pv 0) T.cl_Field T.x1.me d hr.u T.x1.b .nil qj_)) ?_;intro u_;refine x1 ?_;refine xi (qn_ zq_ (pv 2) (qt_ (pv 0) rfl) (qp_ _)) ?_;refine xl q3_ ?_;intro u_;refine ⟨_,qw_,?_⟩;intro u_
  have B:=R.lo16
  have g:=R.hi511
  have l:=R.odd;refine ⟨_,rfl,_,_,rfl,rfl,_,rfl,?_⟩;refine ite2 (fun h=>absurd (bC h) (by omega)) (fun _=>?_)
  refine ⟨_,rfl,_,_,rfl,rfl,_,rfl,?_⟩;refine ite2 (fun h=>absurd (bC h) (by omega)) (fun _=>?_)
  refine ⟨_,rfl,_,_,rfl,rfl,p0 (by decide),rfl,_,rfl,?_⟩
  refine ite2 (fun h=>absurd (V.int.inj (bC h)) (by omega)) (fun _=>?_)
  refine ⟨_,rfl,_,rfl,p,a.C_Field,dx,_,rfl,hp,T.cl_Field,T.no_Field_rule,(by decide),?_⟩
  refine ⟨_,rfl,rfl,_,rfl,rfl,_,_,rfl,rfl,_,rfl,p,a.C_Field,dx,_,rfl,qc_,T.cl_Field,T.no_Field_width,(by show (1:Nat) < 1000;decide),?_⟩
  have ew:((Builtin.Int.intBits (r:Int):Nat):Int) - 1=(w:Int):=by
   rw [jO_ R.rule.lo R.rule.hi];omega
  dsimp only;rw [ew,q8_];refine ⟨_,rfl,p,_,_,_,_,rfl,qc_,T.cl_Field,T.no_Field_width,rfl,_,_,rfl,rfl,⟨by omega,by have:=R.w8;omega,by decide⟩,_,_,rfl,rfl,?_⟩
  refine ⟨_,rfl,p,a.C_Field,dx,_,rfl,qc_,T.cl_Field,T.no_Field_last,(by show (2:Nat) < 1000;decide),?_⟩
  have el:(1:Int) * 2 ^ ((w:Int)).toNat - 1=((2 ^ w - 1:Nat):Int):=by
   have:((w:Int)).toNat=w:=by omega
   rw [this,Int.one_mul]
   have h1:0 < 2 ^ w:=d5 w
   have h2:((2 ^ w:Nat):Int)=(2:Int) ^ w:=by simp
   omega
  dsimp only;rw [el,q8_]
  have hF:FieldAt a.C_Field (upd H p (.ins a.C_Field dx (ff r w))) p r w:=⟨dx,qc_⟩
  have ef:putF "last" (.int ((2 ^ w - 1:Nat):Int)) (putF "width" (.int (w:Int)) (putF "rule" (.int (r:Int)) []))=ff r w:=rfl
  rw [ef];refine ⟨_,rfl,p,dx,_,rfl,qc_,rfl,p,r,w,rfl,hF,R,?_⟩;refine ⟨_,rfl,_,rfl,p,_,_,_,_,rfl,qc_,T.cl_Field,T.no_Field_last,yw_ r w,rfl,_,rfl,?_⟩;refine ite2 (fun h=>?_) (fun _=>k);exact absurd h (by simp)
theorem Same.new {H:Hp}{p:Addr}{o:HO} (h:H p=none):Same H (upd H p o):=fun b u e=>by rw [qd_ (qh_ e h)];exact e
theorem qo3_ (x k:Nat):(x:Int) * 2 ^ ((k:Int)).toNat=((x * 2 ^ k:Nat):Int):=by
 have:((k:Int)).toNat=k:=by omega
 rw [this]
 simp
theorem uG_ (w:Nat):(1:Int) * 2 ^ ((w:Int)).toNat=((2 ^ w:Nat):Int):=by
 have:=qo3_ 1 w;rw [Nat.one_mul] at this;exact this
def cell (ns:List Int) (k:Nat):Int:=ns.getD k 0
inductive qhq_ (K:PySem.W.Frag) (vs:List V) (H:Hp) (Q:VK) (E_3:XK):Prop
 | mk:∀ (s:Addr) (ns:List Int) (k:Nat),vs=[.ref s,.int k]->SqL K H s (ns.map V.int)->k<=99->ns.length<=63->(∀ c:Int,Q (.int c) H)->qhq_ K vs H Q E_3
theorem y8_ (T:Txt K mg a):FnO P wo K mg base 1 a.f52 ["_law_script", "_law_k"] (qhq_ K):=by
 refine T.x52.F.okA (k:=0) sc_cell (fun g A outer s H vs Q E hr h=>?_)
 ·obtain ⟨p,ns,k,rfl,hS,d,hn,q⟩:=h
  refine xx ?_;intro X_;refine xq ?_;refine xi (qn_ yl_ (pv 1) (qs_ qr_ rfl T.n_len ci (qa_ (pv 0) qb_)) (qp_ _)) ?_;refine xl (qo_ (qy_ qz_ (pv 0) (pv 1) (fun _ _=>rfl))) ?_;intro u_;refine ⟨_,qw_,?_⟩;intro u_;refine xc (qi_ (i:=2) sc_cell.nd rfl (Or.inl rfl) (qm_ qE_ (qm_ ya_ qf_ (pv 1)) qf_)) ?_;intro u_;refine xq ?_;refine xi (qn_ j3_ (qs_ qr_ rfl T.n_len ci (qa_ (pv 0) qb_)) qf_ (qp_ _)) ?_;refine xl (qi_ (i:=2) sc_cell.nd rfl (Or.inl rfl) (qm_ qE_ (pv 2) (qm_ ya_ (qm_ qW_ (qy_ qz_ (pv 0) (qm_ qW_ (qm_ ya_ qf_ (pv 1)) (qs_ qr_ rfl T.n_len ci (qa_ (pv 0) qb_))) (fun _ _=>rfl)) qf_) (qm_ qE_ (pv 1) qf_)))) ?_;intro u_;refine ⟨_,qw_,?_⟩;intro u_;refine xl (qo_ (qm_ qW_ (qm_ ya_ (pv 2) (pv 2)) qf_)) ?_;intro u_
  have el:(ns.map V.int).length=ns.length:=b9 ..;refine ⟨_,rfl,_,rfl,p,_,rfl,.inl hS,_,_,rfl,rfl,_,rfl,?_⟩;refine ite2 (fun h=>?_) (fun h=>?_)
  ·have hk:k < ns.length:=by
    have:=bC h;rw [b9] at this;omega
   have e:(ns.map V.int)[k]?=some (V.int (ns.getD k 0)):=by
    rw [bE,b7,b8 hk];rfl
   exact ⟨_,rfl,_,rfl,p,_,_,_,rfl,rfl,hS,qv_ e,q _⟩
  ·refine ⟨_,rfl,_,_,rfl,rfl,.inl ⟨by decide,by decide⟩,_,_,rfl,rfl,?_⟩
   refine ⟨_,rfl,p,_,rfl,.inl hS,_,_,rfl,rfl,_,rfl,?_⟩;refine ite2 (fun h0=>?_) (fun h0=>?_)
   ·have hp:0 < ns.length:=by
     have:=bC h0;rw [b9] at this;omega
    obtain ⟨i,hi,ei⟩:∃ i:Nat,i < ns.length/\(7 * (k:Int)) % (((ns.map V.int).length:Nat):Int)=(i:Int):=by
     rw [el];exact ⟨(7 * k) % ns.length,Nat.mod_lt _ hp,by rw [Int.natCast_emod,ft];rfl⟩
    have e:(ns.map V.int)[i]?=some (V.int (ns.getD i 0)):=by
     rw [bE,b7,b8 hi];rfl
    have y1:ns.getD i 0 % 1000003 < 1000003:=by omega
    have y0:0<=ns.getD i 0 % 1000003:=by omega
    have b1:ns.getD i 0 % 1000003 * ((k:Int)+3)<=ns.getD i 0 % 1000003 * 102:=Int.mul_le_mul_of_nonneg_left (by omega) y0
    have b0:0<=ns.getD i 0 % 1000003 * ((k:Int)+3):=Int.mul_nonneg y0 (by omega)
    refine ⟨_,rfl,_,rfl,_,rfl,_,_,rfl,rfl,.inl ⟨by decide,by decide⟩,_,rfl,p,_,rfl,.inl hS,_,_,rfl,rfl,(by rw [el];omega),p,_,_,_,rfl,rfl,hS,(by rw [ei];exact qv_ e),_,_,rfl,rfl,(by show (0:Int) < 1000003;decide),_,rfl,_,_,rfl,rfl,_,_,rfl,rfl,.inl ⟨by omega,by omega⟩,_,_,rfl,rfl,?_⟩
    exact ⟨_,rfl,_,rfl,_,_,rfl,rfl,.inl ⟨by omega,by omega⟩,_,_,rfl,rfl,(by show (0:Int) < 1000003;decide),q _⟩
   ·exact ⟨_,rfl,_,rfl,_,_,rfl,rfl,.inl ⟨by omega,by omega⟩,_,_,rfl,rfl,(by show (0:Int) < 1000003;decide),q _⟩
def R81:List Nat:=[19,25,37,41,67,97,131,193,285,369]
theorem qqc_:∀ i,i < 10->∃ j,j < 48/\GF.rules.getD j 19=R81.getD i 0:=by decide
theorem qm3_ (i:Nat) (h:i < 10):GF.Full (R81.getD i 0) (R81.getD i 0).log2:=by
 obtain ⟨j,hj,e⟩:=qqc_ i h
 have:=GF.ruleOf_full (j:Int)
 have e2:GF.ruleOf (j:Int)=R81.getD i 0:=by
  unfold GF.ruleOf;rw [<- e]
  congr 1
  omega
 rw [e2] at this;exact this
inductive qev_ (vs:List V) (H:Hp) (Q:VK) (E_3:XK):Prop
 | mk:∀ c:Int,vs=[.int c]->(∀ (r:Nat) H',GF.Full r r.log2->Same H H'->Q (.int r) H')->qev_ vs H Q E_3
theorem qo4_ (T:Txt K mg a):FnO P wo K mg base 1 a.f53 ["_law_cell_here"] qev_:=by
 refine T.x53.F.okA (k:=0) qo1_ (fun g A outer s H vs Q E hr h=>?_)
 ·obtain ⟨c,rfl,q⟩:=h
  refine xx ?_;intro X_;refine ⟨_,(@vW_ _ _ _ (qo_ (@qy_ _ _ _ _ _ _ _ qz_ (@q7_ _ _ _ _ (@qg2_ _ _ [19,25,37,41,67,97,131,193,285,369] (by kernel_rfl))) (qm_ qW_ (pv 0) qf_) (fun _ _=>rfl)))),?_⟩
  refine ⟨(by decide),fun p1 n1=>?_⟩
  obtain ⟨d,hd,e⟩:∃ d:Nat,d < 10/\c % 10=(d:Int):=⟨(c % 10).toNat,by omega,by omega⟩
  have e1:(R81.map fun n:Nat=>V.int n)[d]?=some (V.int ((R81.getD d 0:Nat):Int)):=by
   rw [bE,b7,b8 (show d < R81.length from hd)];rfl
  refine ⟨_,rfl,_,_,rfl,rfl,(by show (0:Int) < 10;decide),p1,(R81.map fun n:Nat=>V.int n),c % 10,_,rfl,rfl,SqL.of qc_,(by rw [e];exact qv_ e1),?_⟩
  exact q _ _ (qm3_ d hd) (Same.new n1)
theorem qo5_ {r w d:Nat} (h:((2 ^ w:Nat):Int)<=(d:Int) * 2):Builtin.bitXor ((d:Int) * 2) (r:Int)=((GF.dbl r w d:Nat):Int):=by
 have e0:(d:Int) * 2=((2 * d:Nat):Int):=by omega
 try dsimp only
 rw [e0,jj_];unfold GF.dbl;rw [if_pos (by omega)]
theorem qo6_ {r w d:Nat} (h:¬ ((2 ^ w:Nat):Int)<=(d:Int) * 2):(d:Int) * 2=((GF.dbl r w d:Nat):Int):=by
 unfold GF.dbl;rw [if_neg (by omega)]
 omega
def rowV (row:List Nat):List V:=row.map fun (n:Nat)=>V.int (n:Int)
theorem qew_ {row:List Nat}{i:Nat} (h:i < row.length):(rowV row)[i]?=some (.int (row[i]:Nat)):=by
 unfold rowV;rw [bE,b8 h];rfl
theorem qg_ (row:List Nat):(rowV row).length=row.length:=b9 _
theorem qN_ {row:List Nat}{i:Nat}{v:V} (h:(rowV row)[i]?=some v):∃ x,row[i]?=some x/\v=.int (x:Nat):=by
 unfold rowV at h;rw [bE] at h
 cases q:row[i]? with
 | none=>rw [q] at h;cases h
 | some x=>rw [q] at h;exact ⟨x,rfl,(bM h).symm⟩
theorem jE_ (row:List Nat) (x:Nat):rowV row++[.int (x:Nat)]=rowV (row++[x]):=by unfold rowV;rw [cK];rfl
theorem qex_ (row:List Nat) (f:Nat->Nat) (g:V->V) (h:∀ n:Nat,g (.int (n:Int))=.int ((f n:Nat):Int)):(rowV row).map g=rowV (row.map f):=by
 unfold rowV;rw [cq,cq]
 apply d9
 intro n _;exact h n
theorem uH_ {row:List Nat}{v:V} (h:v∈rowV row):∃ x∈row,v=.int (x:Nat):=by
 unfold rowV at h;obtain ⟨x,hx,e⟩:=cG.mp h;exact ⟨x,hx,e.symm⟩
theorem modN (c:Int) {n:Nat} (h:0 < n):∃ y:Nat,y < n/\c % (n:Int)=(y:Int):=by
 have hp:(0:Int) < (n:Int):=by omega
 have h1:=fj c hp
 have h2:=fF c (Int.ne_of_gt hp);exact ⟨(c % (n:Int)).toNat,by omega,by omega⟩
theorem qk3_ {a:Adr}{H H1:Hp}{x dx:Addr}{r w:Nat} (s1:Same H H1) (nx:H1 x=none) (ndx:H1 dx=none):Same H (upd (upd (upd H1 dx (.own x)) x (.ins a.C_Field dx [])) x (.ins a.C_Field dx (ff r w))):=by
 rw [q8_];refine s1.trans fun b o e=>?_;rw [qd_ (qh_ e nx),qd_ (qh_ e ndx)];exact e
theorem qk4_ {u v:V} (h:u=v):¬ (!decide (u=v))=true:=by rw [bN h];decide
theorem yx_ {n j:Nat} (h:j < n):ixN n (j:Int)=some j:=by
 unfold ixN;rw [if_pos (by omega),if_pos (by omega),cx]
theorem qk5_ {row:List Nat}{k:Nat} (h:k<=row.length):cutV (rowV row) (some (k:Int)) none=rowV (row.drop k):=by
 unfold cutV;rw [HT.sIx_none,HT.sIx_nat,qg_,fE h];unfold rowV;rw [<- List.map_drop,← List.map_take]
 congr 1
 apply List.take_of_length_le
 rw [List.length_drop];exact bF _
def bf (fp:Addr) (w n:Nat):List (Str × V):=[("field",.ref fp),("many",.int n),("limit",.int (((2 ^ w) ^ n:Nat):Int))]
theorem yy_ (fp:Addr) (w n:Nat):(bf fp w n).lookup ("field" : Str)=some (.ref fp):=rfl
theorem qo7_ (fp:Addr) (w n:Nat):(bf fp w n).lookup ("many" : Str)=some (.int n):=rfl
structure BlocksAt (a:Adr) (H:Hp) (p fp:Addr) (r w n:Nat):Prop where
 ins:∃ dx,H p=some (.ins a.C_Blocks dx (bf fp w n))
 fld:FieldAt a.C_Field H fp r w
theorem BlocksAt.same {a:Adr}{H H':Hp}{p fp:Addr}{r w n:Nat} (h:BlocksAt a H p fp r w n) (s:Same H H'):BlocksAt a H' p fp r w n:=let ⟨dx,e⟩:=h.ins;⟨⟨dx,s _ _ e⟩,h.fld.same s⟩
theorem qi9_ {a:Adr}{H H1:Hp}{x dx fp:Addr}{w n:Nat} (s1:Same H H1) (nx:H1 x=none) (ndx:H1 dx=none):Same H (upd (upd (upd H1 dx (.own x)) x (.ins a.C_Blocks dx [])) x (.ins a.C_Blocks dx (bf fp w n))):=by
 rw [q8_];refine s1.trans fun b o e=>?_;rw [qd_ (qh_ e nx),qd_ (qh_ e ndx)];exact e
inductive vK_ (a:Adr) (vs:List V) (H:Hp) (Q:VK) (E_3:XK):Prop
 | mk:∀ (p dx fp:Addr) (r w n:Nat),vs=[.ref p,.ref fp,.int n]->H p=some (.ins a.C_Blocks dx [])->FieldAt a.C_Field H fp r w->p≠fp->GF.Good r w->1<=n->n<=16->Q .non (upd H p (.ins a.C_Blocks dx (bf fp w n)))->vK_ a vs H Q E_3
theorem qbd_ (T:Txt K mg a):FnO P wo K mg base 1 a.f14 ["self", "field", "many"] (vK_ a):=by
 refine T.x14.F.okA (k:=0) sc_Blocks_init (fun D A outer s H vs Q E hr h=>?_)
 ·obtain ⟨p,dx,fp,r,w,n,rfl,hp,hF,d,R,h1,B,q⟩:=h
  have C:=R.top16
  have l:=R.top256;refine xx ?_;intro X_;refine xq ?_;refine xi (PW.pt (jR_ (qn_ yl_ (pv 2) qf_ (qp_ _)) (jL_ (qn_ j3_ (pv 2) (zJ_ (v:=.int 16) rfl T.v_MOST_SYMBOLS ⟨_,rfl⟩) (qp_ _))))) ?_;refine xl q3_ ?_;intro u_;refine ⟨_,qw_,?_⟩;intro u_;refine xc (jd_ (pv 0) (pv 1) rfl) ?_;intro u_;refine xc (jd_ (pv 0) (pv 2) rfl) ?_;intro u_;refine xc (jd_ (pv 0) qf_ rfl) ?_;intro u_;refine x1 ?_;refine xf PassesOwn.never rfl (qL_ rfl T.n_range (qa_ (pv 2) qb_)) (ql_ (i:=3) sc_Blocks_init.nd rfl (Or.inl rfl)) ?_;refine xl (jd_ (pv 0) (qm_ ya_ (qt_ (pv 0) rfl) (qm_ qE_ (qt_ (pv 1) rfl) qf_)) rfl) ?_;intro u_;intro u_;refine ⟨_,rfl,_,_,rfl,rfl,_,rfl,?_⟩;refine ite2 (fun h=>absurd (bC h) (by omega)) (fun _=>?_)
  refine ⟨_,rfl,_,_,rfl,rfl,_,rfl,?_⟩;refine ite2 (fun h=>absurd (bC h) (by omega)) (fun _=>?_)
  refine ⟨_,rfl,_,rfl,p,a.C_Blocks,dx,_,rfl,hp,T.cl_Blocks,T.no_Blocks_field,(by decide),?_⟩
  refine ⟨_,rfl,_,rfl,p,a.C_Blocks,dx,_,rfl,qc_,T.cl_Blocks,T.no_Blocks_many,(by show (1:Nat) < 1000;decide),?_⟩
  refine ⟨_,rfl,p,a.C_Blocks,dx,_,rfl,qc_,T.cl_Blocks,T.no_Blocks_limit,(by show (2:Nat) < 1000;decide),?_⟩
  dsimp only;rw [q8_,q8_]
  have ef:∀ v:V,putF "limit" v (putF "many" (.int (n:Int)) (putF "field" (.ref fp) []))=[(("field" : Str),.ref fp),(("many" : Str),.int (n:Int)),(("limit" : Str),v)]:=fun v=>rfl
  rw [ef]
  refine ⟨_,rfl,_,rfl,by omega,by omega,let I_:Nat→L2.St→Hp→Prop:=fun i σ H'=>L2.E1 fun (v:Option V)=>L2.A2 (σ=[some (.ref p),some (.ref fp),some (.int n),v]) (H'=upd H p (.ins a.C_Blocks dx [(("field" : Str),.ref fp),(("many" : Str),.int (n:Int)),(("limit" : Str),.int (((2 ^ w) ^ i:Nat):Int))]));jq_ (lo:=0) (n:=n) I_ ⟨none,rfl,rfl⟩ ?_ ?_⟩
  ·rintro i σ H' hi ⟨v,rfl,rfl⟩
   obtain ⟨dF,g⟩:=hF
   have el:(((2 ^ w - 1:Nat):Int)+1)=((2 ^ w:Nat):Int):=by omega
   refine ⟨_,rfl,p,_,_,_,_,rfl,qc_,T.cl_Blocks,T.no_Blocks_limit,rfl,_,rfl,fp,_,_,_,_,rfl,(by rw [qd_ d.symm];exact g),T.cl_Field,T.no_Field_last,yw_ r w,_,_,rfl,rfl,_,_,rfl,rfl,.inr ⟨by omega,by omega⟩,?_⟩
   refine ⟨_,rfl,p,a.C_Blocks,dx,_,rfl,qc_,T.cl_Blocks,T.no_Blocks_limit,(by show (3:Nat) < 1000;decide),?_⟩
   refine ⟨_,rfl,?_⟩;rw [q8_]
   have e2:(((2 ^ w) ^ i:Nat):Int) * (((2 ^ w - 1:Nat):Int)+1)=(((2 ^ w) ^ (i+1):Nat):Int):=by
    rw [el,dl,ft]
   rw [<- e2];rfl
  ·rintro σ H' ⟨v,rfl,rfl⟩
   exact q
inductive qck_ (a:Adr) (vs:List V) (H:Hp) (Q:VK) (E_3:XK):Prop
 | mk:∀ (p fp:Addr) (r w n b:Nat),vs=[.ref p,.int b]->BlocksAt a H p fp r w n->GF.Good r w->n<=16->(∀ D H',H D=none->Same H H'->H' D=some (.lst (rowV (GF.syms w n b)))->Q (.ref D) H')->qck_ a vs H Q E_3
theorem v9_ (T:Txt K mg a):FnO P wo K mg base 1 a.f15 ["self", "block"] (qck_ a):=by
 refine T.x15.F.okA (k:=0) sc_Blocks_symbols (fun I A outer s H vs Q E hr h=>?_)
 ·obtain ⟨p,fp,r,w,n,b,rfl,hB,R,C,q⟩:=h
  have G:=R.top16
  have B:=R.top256;obtain ⟨dB,g⟩:=hB.ins;obtain ⟨dF,l⟩:=hB.fld
  have el:(((2 ^ w - 1:Nat):Int)+1)=((2 ^ w:Nat):Int):=by omega
  refine xx ?_;intro X_;refine xc (qi_ (i:=2) sc_Blocks_symbols.nd rfl (Or.inl rfl) (qm_ qE_ (qt_ (qt_ (pv 0) rfl) rfl) qf_)) ?_;intro u_;refine xc (qi_ (i:=3) sc_Blocks_symbols.nd rfl (Or.inl rfl) (q7_ qb_)) ?_;intro u_;refine xc (qi_ (i:=4) sc_Blocks_symbols.nd rfl (Or.inl rfl) (pv 1)) ?_;intro u_;refine xq ?_;refine xf PassesOwn.never rfl (qL_ rfl T.n_range (qa_ (qt_ (pv 0) rfl) qb_)) (ql_ (i:=5) sc_Blocks_symbols.nd rfl (Or.inl rfl)) ?_;refine xc (qV_ (jF_ cB cD cE qQ_ (pv 3) (qa_ (qm_ qW_ (pv 4) (pv 2)) qb_))) ?_;intro u_;refine xl (qi_ (i:=4) sc_Blocks_symbols.nd rfl (Or.inl rfl) (qm_ jN_ (pv 4) (pv 2))) ?_;intro u_;intro u_;refine xl (qo_ (pv 3)) ?_;intro u_;refine ⟨_,rfl,p,_,_,_,_,rfl,g,T.cl_Blocks,T.no_Blocks_field,yy_ fp w n,fp,_,_,_,_,rfl,l,T.cl_Field,T.no_Field_last,yw_ r w,_,_,rfl,rfl,?_⟩;dsimp only;rw [el];refine ⟨by decide,fun D nD=>?_⟩
  have s1:=Same.new (o:=.lst []) nD;refine ⟨_,rfl,?_⟩
  refine ⟨_,rfl,p,_,_,_,_,rfl,s1 _ _ g,T.cl_Blocks,T.no_Blocks_many,qo7_ fp w n,_,rfl,by omega,by omega,let I_:Nat->L2.St->Hp->Prop:=fun i σ H'=>L2.E3 fun (v:Option V) (row:List Nat) (c:Nat)=>L2.A5 (σ=[some (.ref p),some (.int b),some (.int ((2 ^ w:Nat):Int)),some (.ref D),some (.int c),v]) (Same H H') (H' D=some (.lst (rowV row))) (row.length=i) (row++GF.syms w (n - i) c=GF.syms w n b);jq_ (lo:=0) (n:=n) I_
   ⟨none,[],b,rfl,s1,qc_,rfl,rfl⟩ ?_ ?_⟩
  ·rintro i σ H' hi ⟨v,row,c,rfl,sm,hD,hl,d⟩
   have hp:(0:Int) < ((2 ^ w:Nat):Int):=by omega
   have em:((c:Int) % ((2 ^ w:Nat):Int))=((c % 2 ^ w:Nat):Int):=(Int.natCast_emod _ _).symm
   have ed:((c:Int) / ((2 ^ w:Nat):Int))=((c / 2 ^ w:Nat):Int):=(Int.natCast_ediv _ _).symm;refine ⟨_,rfl,.inl ⟨rfl,_,SqL.of hD⟩,_,rfl,_,rfl,_,_,rfl,rfl,p0 hp,D,_,_,rfl,rfl,hD,qj4_ (by rw [qg_];omega),?_⟩
   refine ⟨_,rfl,_,rfl,_,_,rfl,rfl,⟨hp,by omega⟩,?_⟩
   dsimp only;rw [em,ed,jE_];refine ⟨_,row++[c % 2 ^ w],c / 2 ^ w,rfl,fun b' o e=>by rw [qd_ (qh_ e nD)];exact sm b' o e,qc_,by rw [cg,hl];rfl,?_⟩
   rw [<- d]
   have e1:n - i=(n - (i+1))+1:=by omega
   rw [e1,GF.syms,eI];rfl
  ·rintro σ H' ⟨v,row,c,rfl,sm,hD,hl,d⟩
   rw [fB,GF.syms,dA] at d;rw [d] at hD;exact ⟨_,rfl,q D H' nD sm hD⟩
inductive qey_ (K:PySem.W.Frag) (a:Adr) (vs:List V) (H:Hp) (Q:VK) (E_3:XK):Prop
 | mk:∀ (p fp l:Addr) (r w n:Nat) (row:List Nat),vs=[.ref p,.ref l]->BlocksAt a H p fp r w n->GF.Good r w->SqL K H l (rowV row)->Q (.int ((GF.join w row:Nat):Int)) H->qey_ K a vs H Q E_3
theorem uI_ (T:Txt K mg a):FnO P wo K mg base 1 a.f16 ["self", "some"] (qey_ K a):=by
 refine T.x16.F.okA (k:=0) sc_Blocks_joined (fun G A outer s H vs Q E hr h=>?_)
 ·obtain ⟨p,fp,l,r,w,n,row,rfl,hB,R,hL,q⟩:=h
  have D:=R.top16
  have C:=R.top256;obtain ⟨dB,g⟩:=hB.ins;obtain ⟨dF,B⟩:=hB.fld
  have el:(((2 ^ w - 1:Nat):Int)+1)=((2 ^ w:Nat):Int):=by omega
  refine xx ?_;intro X_;refine xc (qi_ (i:=2) sc_Blocks_joined.nd rfl (Or.inl rfl) (qm_ qE_ (qt_ (qt_ (pv 0) rfl) rfl) qf_)) ?_;intro u_;refine xc (qi_ (i:=3) sc_Blocks_joined.nd rfl (Or.inl rfl) qf_) ?_;intro u_;refine xq ?_;refine xf PassesOwn.never rfl (qp2_ rfl T.n_reversed (qa_ (pv 1) qb_)) (ql_ (i:=4) sc_Blocks_joined.nd rfl (Or.inl rfl)) ?_;refine xl (qi_ (i:=3) sc_Blocks_joined.nd rfl (Or.inl rfl) (qm_ qE_ (qm_ ya_ (pv 3) (pv 2)) (pv 4))) ?_;intro u_;intro u_;refine xl (qo_ (pv 3)) ?_;intro u_;refine ⟨_,rfl,p,_,_,_,_,rfl,g,T.cl_Blocks,T.no_Blocks_field,yy_ fp w n,fp,_,_,_,_,rfl,B,T.cl_Field,T.no_Field_last,yw_ r w,_,_,rfl,rfl,?_⟩;dsimp only;rw [el];refine ⟨_,rfl,l,_,rfl,hL,let I_:Nat->L2.St->Hp->Prop:=fun i σ H'=>L2.E1 fun (v:Option V)=>L2.A2 (σ=[some (.ref p),some (.ref l),some (.int ((2 ^ w:Nat):Int)),some (.int ((GF.join w (row.drop (row.length - i)):Nat):Int)),v]) (H'=H);qom_ (K:=K) (a:=l) (xs:=rowV row) I_ ⟨none,?_,rfl⟩ ?_ ?_ ?_⟩
  ·rw [Nat.sub_zero,List.drop_length]
   rfl
  ·rintro i σ H' _ ⟨v,_,rfl⟩
   exact hL
  ·rintro i v σ H' hi hx ⟨v0,rfl,rfl⟩
   rw [qg_] at hi hx;obtain ⟨y,hy,rfl⟩:=qN_ hx;refine ⟨_,rfl,_,rfl,_,_,rfl,rfl,.inr ⟨by omega,by omega⟩,_,rfl,_,_,rfl,rfl,some (.int (y:Nat)),?_,rfl⟩
   have ed:row.drop (row.length - (i+1))=y :: row.drop (row.length - i):=by
    have e1:row.length - (i+1)=row.length - 1 - i:=by omega
    have e2:row.length - i=row.length - 1 - i+1:=by omega
    rw [e1,e2]
    have d:row.length - 1 - i < row.length:=by omega
    rw [List.drop_eq_getElem_cons d]
    congr 1
    rw [b8 d] at hy;exact bM hy
   rw [ed,GF.join,Int.natCast_add,ft];rfl
  ·rintro σ H' ⟨v,rfl,rfl⟩
   rw [qg_,fB,List.drop_zero];exact ⟨_,rfl,q⟩
inductive qez_ (a:Adr) (vs:List V) (H:Hp) (Q:VK) (E_3:XK):Prop
 | mk:∀ (p fp:Addr) (r w n f b:Nat),vs=[.ref p,.int f,.int b]->BlocksAt a H p fp r w n->GF.Good r w->n<=16->f < 2 ^ w->(∀ H',Same H H'->Q (.int ((GF.join w ((GF.syms w n b).map (GF.tm r w f)):Nat):Int)) H')->qez_ a vs H Q E_3
theorem uJ_ (T:Txt K mg a):FnO P wo K mg base 3 a.f17 ["self", "factor", "block"] (qez_ a):=by
 refine T.x17.F.okA (k:=2) uF_ (fun G A outer s H vs Q E hr h=>?_)
 ·obtain ⟨p,fp,r,w,n,f,b,rfl,hB,R,g,hf,q⟩:=h
  obtain ⟨dB,d⟩:=hB.ins;obtain ⟨dF,C⟩:=hB.fld;refine xx ?_;intro X_
  refine xl (qo_ (qx_ (pv 0) T.cl_Blocks T.x16.me (uI_ T) hr.u T.x16.b .nil qj_ (qa_ (qJ_ (CompOk.of (cap:=[1,0]) (own:=["symbol"]) (by kernel_rfl)) rfl (qB_ (qx_ (pv 0) T.cl_Blocks T.x15.me (v9_ T) hr.u T.x15.b .nil qj_ (qa_ (pv 2) qb_))) (fun _ _ _ _ _=>(ql_ (i:=2) (bC (by kernel_rfl)) rfl (Or.inl rfl))) (fun _ _ _ _ _=>qI_) (fun _ _ _ _ _=>by exact (qx_ (by exact (yt_ (K:=K) rfl (pv 1) rfl)) T.cl_Field T.x3.me (j6_ T) hr.u T.x3.b .nil qj_ (qa_ (pv 0) (qa_ (pv 2) qb_))))) qb_))) ?_
  intro u_;refine ⟨_,rfl,p,dB,_,rfl,d,rfl,_,rfl,p,dB,_,rfl,d,rfl,_,rfl,p,fp,r,w,n,b,rfl,hB,R,g,fun l H1 nl s1 hl=>?_⟩;refine ⟨l,rfl,⟨_,SqL.of hl⟩,fun D nD=>?_⟩;refine u8_ (xs:=rowV (GF.syms w n b)) (f:=fun v=>match v with | .int i=>.int ((GF.tm r w f i.toNat:Nat):Int) | v=>v) (cs:=[some (.int f),some (.ref p)]) (SqL.of hl) nD rfl (bG (by rw [qg_,GF.syms_length];exact g) (by decide)) (fun x H2 R2 hx s2 hR=>?_) (fun H2 s2 hD=>?_)
  ·obtain ⟨y,hy,rfl⟩:=uH_ hx
   have B:=s2 _ _ (s1 _ _ C);refine ⟨_,rfl,p,_,_,_,_,rfl,s2 _ _ (s1 _ _ d),T.cl_Blocks,T.no_Blocks_field,yy_ fp w n,fp,dF,_,rfl,B,rfl,_,rfl,_,rfl,fp,r,w,f,y,rfl,⟨dF,B⟩,R.rule,hf,hR _ (Same.refl _)⟩
  ·rw [qex_ (f:=GF.tm r w f) (h:=fun n=>rfl)] at hD
   exact ⟨p,fp,D,r,w,n,_,rfl,hB.same (s1.trans s2),R,SqL.of hD,q _ (s1.trans s2)⟩
inductive qe0_ (K:PySem.W.Frag) (a:Adr) (vs:List V) (H:Hp) (Q:VK) (E_3:XK):Prop
 | mk:∀ (p fp lf lb:Addr) (r w n:Nat) (fs bs:List Nat),vs=[.ref p,.ref lf,.ref lb]->BlocksAt a H p fp r w n->GF.Good r w->n<=16->SqL K H lf (rowV fs)->SqL K H lb (rowV bs)->fs.length=bs.length->((∀ f∈fs,f < 2 ^ w))->(∀ H',Same H H'->Q (.int ((GF.sumB r w n (fs.zip bs):Nat):Int)) H')->qe0_ K a vs H Q E_3
theorem qm4_ {fs bs:List Nat}{i f b:Nat} (hf:fs[i]?=some f) (hb:bs[i]?=some b):(fs.zip bs).take (i+1)=(fs.zip bs).take i++[(f,b)]:=by
 rw [eK]
 have:(fs.zip bs)[i]?=some (f,b):=by
  rw [List.zip,List.getElem?_zipWith,hf,hb]
 rw [this];rfl
theorem yh_ (T:Txt K mg a):FnO P wo K mg base 4 a.f18 ["self", "factors", "some"] (qe0_ K a):=by
 refine T.x18.F.okA (k:=3) sc_Blocks_summed (fun I A outer s H vs Q E hr h=>?_)
 ·obtain ⟨p,fp,lf,lb,r,w,n,fs,bs,rfl,hB,R,G,hf,hb,l,B,q⟩:=h
  refine xx ?_;intro X_;refine xc (qi_ (i:=3) sc_Blocks_summed.nd rfl (Or.inl rfl) qf_) ?_;intro u_;refine xq ?_;refine xf PassesOwn.never rfl (vv_ rfl T.n_zip (qa_ (pv 1) (qa_ (pv 2) qb_))) (yL_ rfl (qH_ (ql_ (i:=4) sc_Blocks_summed.nd rfl (Or.inl rfl)) (qH_ (ql_ (i:=5) sc_Blocks_summed.nd rfl (Or.inl rfl)) jM_))) ?_;refine xl (qi_ (i:=3) sc_Blocks_summed.nd rfl (Or.inl rfl) (qm_ yk_ (pv 3) (qx_ (pv 0) T.cl_Blocks T.x17.me (uJ_ T) hr.u T.x17.b .nil qj_ (qa_ (pv 4) (qa_ (pv 5) qb_))))) ?_;intro u_;intro u_;refine xl (qo_ (pv 3)) ?_;intro u_;refine ⟨_,rfl,_,rfl,lf,lb,_,_,rfl,hf,hb,let I_:Nat->L2.St->Hp->Prop:=fun i σ H'=>L2.E2 fun (v4 v5:Option V)=>L2.A2 (σ=[some (.ref p),some (.ref lf),some (.ref lb),some (.int ((GF.sumB r w n ((fs.zip bs).take i):Nat):Int)),v4,v5]) (Same H H');qa3_ (K:=K) (l1:=lf) (l2:=lb) (xs:=rowV fs) (ys:=rowV bs) I_ ⟨none,none,rfl,Same.refl _⟩ ?_ (by rw [qg_,qg_];exact l) ?_ ?_⟩
  ·rintro i σ H' _ ⟨v4,v5,_,sm⟩
   exact ⟨sm.seq hf,sm.seq hb⟩
  ·rintro i u v T' σ H' hi hu hv hT ⟨v4,v5,rfl,sm⟩
   obtain ⟨f,g,rfl⟩:=qN_ hu;obtain ⟨b,C,rfl⟩:=qN_ hv
   have s1:=sm.trans (Same.new (o:=.tup [V.int (f:Nat),V.int (b:Nat)]) hT)
   have d:=hB.same s1;obtain ⟨dB,D⟩:=d.ins;refine ⟨T',_,rfl,SqT.of qc_,rfl,_,_,rfl,_,_,rfl,rfl,?_⟩;refine ⟨_,rfl,_,rfl,p,dB,_,rfl,D,rfl,_,rfl,_,rfl,p,fp,r,w,n,f,b,rfl,d,R,G,B f (bO g),fun H2 s2=>?_⟩;refine ⟨_,_,rfl,rfl,some (.int (f:Nat)),some (.int (b:Nat)),?_,s1.trans s2⟩;rw [qm4_ g C,GF.sumB_snoc]
   show [_,_,_,some (V.int (Builtin.bitXor _ _)),_,_]=_
   rw [jj_]
  ·rintro σ H' ⟨v4,v5,rfl,sm⟩
   have e:(fs.zip bs).take (rowV fs).length=fs.zip bs:=by
    rw [qg_]
    apply List.take_of_length_le
    rw [List.length_zip];omega
   rw [e];exact ⟨_,rfl,q H' sm⟩
structure TabAt (H:Hp) (ps:List Addr) (M:Nat) (row:Nat->List Nat):Prop where
 len:ps.length=M
 on:∀ (i:Nat) p,ps[i]?=some p->H p=some (.lst (rowV (row i)))
theorem TabAt.same {H H':Hp}{ps:List Addr}{M:Nat}{row:Nat->List Nat} (h:TabAt H ps M row) (s:Same H H'):TabAt H' ps M row:=⟨h.len,fun i p e=>s _ _ (h.on i p e)⟩
theorem TabAt.get {H:Hp}{ps:List Addr}{M:Nat}{row:Nat->List Nat} (h:TabAt H ps M row) {i:Nat} (hi:i < M):∃ p,ps[i]?=some p/\H p=some (.lst (rowV (row i))):=by
 have hl:i < ps.length:=by rw [h.len];exact hi
 exact ⟨ps[i],b8 hl,h.on i _ (b8 hl)⟩
theorem qO_ {ps:List Addr}{i:Nat}{p:Addr} (h:ps[i]?=some p):(ps.map V.ref)[i]?=some (.ref p):=by rw [bE,h];rfl
theorem je_ {row:List Nat}{i:Nat} (h:i < row.length):(rowV row)[i]?=some (.int ((row.getD i 0:Nat):Int)):=by
 rw [qew_ h,b7,b8 h];rfl
def yn_ (m at':Nat):List Nat:=(List.replicate m 0).set at' 1
theorem qbe_ (n c:Nat):(List.replicate n [V.int (c:Int)]).flatten=rowV (List.replicate n c):=by
 induction n with
 | zero=>rfl
 | succ n ih=>rw [dy,eG,ih,dy];rfl
theorem qe1_ (row:List Nat) (i x:Nat):(rowV row).set i (.int (x:Nat))=rowV (row.set i x):=by
 unfold rowV;rw [fH]
def rowT (W:Nat) (T:Nat->Nat->Nat) (i:Nat):List Nat:=(List.range W).map (T i)
theorem qu_ (W:Nat) (T:Nat->Nat->Nat) (i:Nat):(rowT W T i).length=W:=by unfold rowT;rw [b9,bI]
theorem qZ_ {W:Nat}{T:Nat->Nat->Nat}{i k:Nat} (h:k < W):(rowT W T i).getD k 0=T i k:=by
 unfold rowT;rw [b7,bE,cb h];rfl
theorem y4_ {W:Nat}{T U:Nat->Nat->Nat}{i j:Nat} (h:∀ k,k < W->T i k=U j k):rowT W T i=rowT W U j:=d9 fun k hk=>h k (bQ.mp hk)
theorem y9_ {W:Nat}{T:Nat->Nat->Nat}{i n:Nat} (h:∀ k,k < W->T i k < n):∀ x∈rowT W T i,x < n:=fun x hx=>by
 obtain ⟨k,hk,rfl⟩:=cG.mp hx;exact h k (bQ.mp hk)
theorem TabAt.congr {H:Hp}{ps:List Addr}{M:Nat}{row row':Nat->List Nat} (h:TabAt H ps M row) (e:∀ i,i < M->row i=row' i):TabAt H ps M row' :=
 ⟨h.len,fun i p hi=>by
  have:i < M:=by
   rw [<- h.len];exact (bK.mp hi).1
  rw [<- e i this]
  exact h.on i p hi⟩
theorem TabAt.snoc {H H':Hp}{ps:List Addr}{n:Nat}{row:Nat->List Nat}{p:Addr} (h:TabAt H ps n row) (s:∀ q∈ps,H' q=H q) (hp:H' p=some (.lst (rowV (row n)))):TabAt H' (ps++[p]) (n+1) row:=by
 refine ⟨by rw [cg,h.len];rfl,fun i q e=>?_⟩
 rw [List.getElem?_append] at e
 split at e
 ·rw [s q (bO e)]
  exact h.on i q e
 ·rename_i hge
  cases ht:i - ps.length with
  | zero =>
   rw [ht] at e
   have:p=q:=by simpa using e
   subst this
   have:i=n:=by have:=h.len;omega
   rw [this];exact hp
  | succ m=>rw [ht] at e;simp at e
def knV (ks:List Bool):List V:=ks.map V.bl
theorem vL_ (m i:Nat):(yn_ m i).length=m:=by unfold yn_;rw [cZ,cV]
theorem yH_ (x y:List Nat):rowV x++rowV y=rowV (x++y):=by unfold rowV;rw [cK]
theorem qk6_ {W:Nat}{f:Nat->List Nat}{i:Nat} (h:(f i).length=W):rowT W (fun i k=>(f i).getD k 0) i=f i:=by
 unfold rowT
 apply eW
 ·rw [b9,bI,h]
 ·intro k k1 k2
  simp [k2]
theorem qja_ {N M i k:Nat}{l:Nat->Nat->Nat} (hk:k < N):(rowT N l i++yn_ M i).getD k 0=l i k:=by
 rw [b7,cW (by rw [qu_];exact hk),← b7,qZ_ hk]
theorem qgf_ {N M i j:Nat}{l:Nat->Nat->Nat} (hj:j < M):(rowT N l i++yn_ M i).getD (N+j) 0=if j=i then 1 else 0:=by
 rw [b7,de (by rw [qu_];omega),qu_,fe]
 unfold yn_;rw [List.getElem?_set]
 by_cases z:i=j
 ·rw [if_pos z,if_pos (by rw [cV];omega),if_pos z.symm]
  rfl
 ·rw [if_neg z,if_neg (fun e=>z e.symm),eS,if_pos hj]
  rfl
theorem TabAt.upd {H:Hp}{ps:List Addr}{M:Nat}{row:Nat->List Nat}{d:Addr}{o:HO} (h:TabAt H ps M row) (n:d∉ps):TabAt (upd H d o) ps M row :=
 ⟨h.len,fun i p e=>by
  have np:p≠d:=fun z=>n (by rw [<- z];exact bO e)
  rw [qd_ np]
  exact h.on i p e⟩
theorem qgg_ {n:Nat}:(!decide (V.int (n:Int)=V.non))=true:=by
 rw [bY (fun z=>by cases z)]
 rfl
inductive qk7_ (vs:List V) (H:Hp) (Q:VK) (E_3:XK):Prop
 | mk:∀ (m i:Nat),vs=[.int m,.int i]->i < m->m<=30->(∀ D H',H D=none->Same H H'->H' D=some (.lst (rowV (yn_ m i)))->Q (.ref D) H')->qk7_ vs H Q E_3
theorem qhr_ (T:Txt K mg a):FnO P wo K mg base 1 a.f6 ["many", "at"] qk7_:=by
 refine T.x6.F.okA (k:=0) sc_unit (fun g A outer s H vs Q E hr h=>?_)
 ·obtain ⟨m,i,rfl,hi,hm,q⟩:=h
  refine xx ?_;intro X_;refine xc (qi_ (i:=2) sc_unit.nd rfl (Or.inl rfl) (qm_ uZ_ (q7_ (qa_ qf_ qb_)) (pv 0))) ?_;intro u_;refine xc (yM_ qf_ (zb_ (pv 2) (pv 1) yg_)) ?_;intro u_;refine xl (qo_ (pv 2)) ?_;intro u_;refine ⟨(by decide),fun p1 n1=>⟨_,rfl,p1,_,_,rfl,rfl,qc_,by omega,by omega,?_,fun p2 n2=>?_⟩⟩
  ·rw [cx]
   show 1 * m<=sizeLine
   exact bG (by omega:1 * m<=30) (by decide)
  have eR:(List.replicate ((m:Int)).toNat [V.int 0]).flatten=rowV (List.replicate m 0):=by rw [cx];exact qbe_ m 0
  rw [eR];refine ⟨_,rfl,_,rfl,p2,_,_,i,rfl,rfl,qc_,yx_ (by rw [qg_,cV];exact hi),?_⟩
  have d:=(Same.new (o:=.lst [V.int 0]) n1);refine ⟨_,rfl,q p2 _ (d.free n2) ?_ ?_⟩
  ·rw [q8_]
   exact d.trans (Same.new n2)
  ·rw [qc_]
   exact congrArg (fun l=>some (HO.lst l)) (qe1_ _ _ 1)
inductive qhs_ (a:Adr) (vs:List V) (H:Hp) (Q:VK) (E_3:XK):Prop
 | mk:∀ (p:Addr) (r w x n:Nat),vs=[.ref p,.int x,.int n]->FieldAt a.C_Field H p r w->GF.Good r w->x < 2 ^ w->Q (.int (GF.pw r w x n:Nat)) H->qhs_ a vs H Q E_3
theorem qbf_ (T:Txt K mg a):FnO P wo K mg base 3 a.f5 ["self", "one", "many"] (qhs_ a):=by
 refine T.x5.F.okA (k:=2) sc_Field_power (fun J A outer s H vs Q E hr h=>?_)
 ·obtain ⟨p,r,w,x,n,rfl,hF,g,hx,q⟩:=h
  obtain ⟨dx,B⟩:=id hF
  have I:=g.top16;refine xx ?_;intro X_;refine xc (qi_ (i:=3) sc_Field_power.nd rfl (Or.inl rfl) qf_) ?_;intro u_;refine xc (qi_ (i:=4) sc_Field_power.nd rfl (Or.inl rfl) (pv 1)) ?_;intro u_;refine xc (qi_ (i:=5) sc_Field_power.nd rfl (Or.inl rfl) (pv 2)) ?_;intro u_;refine xq ?_;refine xw PassesOwn.never (qn_ j3_ (pv 5) qf_ (qp_ _)) ?_;refine xq ?_;refine xi (qn_ jx_ (qm_ qW_ (pv 5) qf_) qf_ (qp_ _)) ?_;refine xl (qi_ (i:=3) sc_Field_power.nd rfl (Or.inl rfl) (qx_ (pv 0) T.cl_Field T.x3.me (j6_ T) hr.u T.x3.b .nil qj_ (qa_ (pv 3) (qa_ (pv 4) qb_)))) ?_;intro u_;refine ⟨_,qw_,?_⟩;intro u_;refine xc (qi_ (i:=4) sc_Field_power.nd rfl (Or.inl rfl) (qx_ (pv 0) T.cl_Field T.x3.me (j6_ T) hr.u T.x3.b .nil qj_ (qa_ (pv 4) (qa_ (pv 4) qb_)))) ?_;intro u_;refine xl (qi_ (i:=5) sc_Field_power.nd rfl (Or.inl rfl) (qm_ jN_ (pv 5) qf_)) ?_;intro u_;intro u_;refine xl (qo_ (pv 3)) ?_;intro u_;refine ⟨_,rfl,_,rfl,⟨fun m σ H'=>∃ (y s d:Nat),d=m/\σ=[some (.ref p),some (.int x),some (.int n),some (.int (y:Nat)),some (.int (s:Nat)),some (.int (d:Nat))]/\H'=H/\y < 2 ^ w/\s < 2 ^ w/\GF.tm r w y (GF.pw r w s d)=GF.pw r w x n,⟨_,1,x,n,rfl,rfl,rfl,by omega,hx,GF.one_tm g.rule g.w1 (GF.pw_lt g hx n)⟩,?_⟩⟩
  rintro m σ H' ⟨y,s,d,rfl,rfl,rfl,hy,hs,l⟩;refine ⟨_,rfl,_,_,rfl,rfl,_,rfl,?_⟩;refine ite2 (fun h=>⟨_,fun _ _ z=>z,?_⟩) (fun h=>?_)
  ·have hd:0 < d:=by
    have:=bC h;omega
   have C:((d:Int) / 2)=((d / 2:Nat):Int):=by omega
   have D:=GF.tm_lt g.rule (b:=s) hs;refine ⟨_,rfl,_,_,rfl,rfl,p0 (by decide),rfl,_,rfl,?_⟩
   refine ite2 (fun h1=>?_) (fun h1=>?_)
   ·have G:d % 2=1:=by
     have:=V.int.inj (bC h1);omega
    refine ⟨_,rfl,p,dx,_,rfl,B,rfl,_,rfl,_,rfl,p,r,w,y,s,rfl,hF,g.rule,hy,?_⟩;refine ⟨_,rfl,p,dx,_,rfl,B,rfl,_,rfl,_,rfl,p,r,w,s,s,rfl,hF,g.rule,hs,?_⟩;refine ⟨_,rfl,_,_,rfl,rfl,⟨by decide,by decide⟩,?_⟩
    try dsimp only
    rw [C];refine ⟨d / 2,fq hd (by decide),GF.tm r w y s,GF.tm r w s s,d / 2,rfl,rfl,rfl,GF.tm_lt g.rule hy,D,?_⟩
    have e:d=1+2 * (d / 2):=by omega
    rw [<- l,GF.pw_half g hs]
    conv=>rhs;rw [e]
    rw [GF.pw_add g hs,GF.pw_one s g hs,GF.tm_assoc g.rule g.w1 hy hs]
   ·have G:¬ d % 2=1:=by
     intro z
     apply h1
     apply bN
     show V.int ((d:Int) % 2)=V.int 1
     congr 1
     omega
    refine ⟨_,rfl,p,dx,_,rfl,B,rfl,_,rfl,_,rfl,p,r,w,s,s,rfl,hF,g.rule,hs,?_⟩;refine ⟨_,rfl,_,_,rfl,rfl,⟨by decide,by decide⟩,?_⟩
    try dsimp only
    rw [C];refine ⟨d / 2,fq hd (by decide),y,GF.tm r w s s,d / 2,rfl,rfl,rfl,hy,D,?_⟩
    have e:d=2 * (d / 2):=by omega
    rw [<- l,GF.pw_half g hs]
    conv=>rhs;rw [e]
  ·have hd:d=0:=by
    have:¬ ((0:Int) < (d:Int)):=fun z=>h (bN z);omega
   subst hd
   have e:GF.pw r w s 0=1:=rfl;rw [e,GF.tm_one] at l;refine ⟨_,rfl,?_⟩
   show Q (.int (y:Nat)) H'
   rw [l];exact q
inductive qk8_ (a:Adr) (vs:List V) (H:Hp) (Q:VK) (E_3:XK):Prop
 | mk:∀ (p:Addr) (r w x:Nat),vs=[.ref p,.int x]->FieldAt a.C_Field H p r w->GF.Good r w->0 < x->x < 2 ^ w->Q (.int (GF.pw r w x (2 ^ w - 1 - 1):Nat)) H->qk8_ a vs H Q E_3
theorem qdm_ (T:Txt K mg a):FnO P wo K mg base 4 a.f4 ["self", "one"] (qk8_ a):=by
 refine T.x4.F.okA (k:=3) qdh_ (fun B A outer s H vs Q E hr h=>?_)
 ·obtain ⟨p,r,w,x,rfl,hF,g,h0,hx,q⟩:=h
  obtain ⟨dx,d⟩:=id hF
  have l:=g.top16;refine xx ?_;intro X_;refine xq ?_;refine xi (qn_ jx_ (pv 1) qf_ (qp_ _)) ?_;refine xl q3_ ?_;intro u_;refine ⟨_,qw_,?_⟩;intro u_;refine xl (qo_ (qx_ (pv 0) T.cl_Field T.x5.me (qbf_ T) hr.u T.x5.b .nil qj_ (qa_ (pv 1) (qa_ (qm_ yj_ (qt_ (pv 0) rfl) qf_) qb_)))) ?_;intro u_;refine ⟨_,rfl,rfl,_,rfl,?_⟩;refine ite2 (fun h=>absurd (V.int.inj (bC h)) (by omega)) (fun _=>?_)
  have e:(((2 ^ w - 1:Nat):Int) - 1)=((2 ^ w - 1 - 1:Nat):Int):=by omega
  refine ⟨_,rfl,p,dx,_,rfl,d,rfl,_,rfl,_,rfl,p,_,_,_,_,rfl,d,T.cl_Field,T.no_Field_last,yw_ r w,_,_,rfl,rfl,?_⟩;try dsimp only
  rw [e];exact ⟨p,r,w,x,_,rfl,hF,g,hx,q⟩
inductive vM_ (K:PySem.W.Frag) (a:Adr) (vs:List V) (H:Hp) (Q:VK) (E_3:XK):Prop
 | mk:∀ (p l:Addr) (r w c:Nat) (row:List Nat),vs=[.ref p,.int c,.ref l]->FieldAt a.C_Field H p r w->GF.Good r w->H l=some (.lst (rowV row))->((∀ x∈row,x < 2 ^ w))->row.length<=100->(∀ D H',H D=none->Same H H'->H' D=some (.lst (rowV (row.map fun s=>GF.tm r w s c)))->Q (.ref D) H')->vM_ K a vs H Q E_3
theorem yz_ (T:Txt K mg a):FnO P wo K mg base 3 a.f7 ["field", "factor", "line"] (vM_ K a):=by
 refine T.x7.F.okA (k:=2) qba_ (fun G A outer s H vs Q E hr h=>?_)
 ·obtain ⟨p,l,r,w,c,row,rfl,hF,g,hl,B,d,q⟩:=h
  obtain ⟨dx,C⟩:=id hF;refine xx ?_;intro X_
  refine xl (qo_ (qJ_ (CompOk.of (cap:=[1,0]) (own:=["symbol"]) (by kernel_rfl)) rfl (qB_ (pv 2)) (fun _ _ _ _ _=>(ql_ (i:=2) (bC (by kernel_rfl)) rfl (Or.inl rfl))) (fun _ _ _ _ _=>qI_) (fun _ _ _ _ _=>by exact (qx_ (pv 1) T.cl_Field T.x3.me (j6_ T) hr.u T.x3.b .nil qj_ (qa_ (pv 2) (qa_ (pv 0) qb_)))))) ?_
  intro u_;refine ⟨_,rfl,l,rfl,⟨_,SqL.of hl⟩,fun D nD=>?_⟩;refine u8_ (xs:=rowV row) (f:=fun v=>match v with | .int i=>.int ((GF.tm r w i.toNat c:Nat):Int) | v=>v) (cs:=[some (.int c),some (.ref p)]) (SqL.of hl) nD rfl (bG (by rw [qg_];exact d) (by decide)) (fun x H2 R2 hx s2 hR=>?_) (fun H2 s2 hD=>?_)
  ·obtain ⟨y,hy,rfl⟩:=uH_ hx
   exact ⟨_,rfl,p,dx,_,rfl,s2 _ _ C,rfl,_,rfl,_,rfl,p,r,w,y,c,rfl,hF.same s2,g.rule,B y hy,hR _ (Same.refl _)⟩
  ·rw [qex_ (f:=fun s=>GF.tm r w s c) (h:=fun n=>rfl)] at hD
   exact q D H2 nD s2 hD
inductive qe2_ (K:PySem.W.Frag) (vs:List V) (H:Hp) (Q:VK) (E_3:XK):Prop
 | mk:∀ (l1 l2:Addr) (x y:List Nat),vs=[.ref l1,.ref l2]->H l1=some (.lst (rowV x))->H l2=some (.lst (rowV y))->x.length=y.length->x.length<=100->(∀ D H',H D=none->Same H H'->H' D=some (.lst (rowV (List.zipWith (fun s t=>s ^^^ t) x y)))->Q (.ref D) H')->qe2_ K vs H Q E_3
theorem vm_ (T:Txt K mg a):FnO P wo K mg base 1 a.f8 ["one", "other"] (qe2_ K):=by
 refine T.x8.F.okA (k:=0) qdi_ (fun g A outer s H vs Q E hr h=>?_)
 ·obtain ⟨l1,l2,x,y,rfl,h1,h2,hl,d,q⟩:=h
  refine xx ?_;intro X_
  refine xl (qo_ (qJ_ (CompOk.of (cap:=[]) (own:=["symbol", "another"]) (by kernel_rfl)) rfl (vv_ rfl T.n_zip (qa_ (pv 0) (qa_ (pv 1) qb_))) (fun _ _ _ _ _=>(qa5_ (n:=2) (K:=K) rfl rfl (qH_ (ql_ (i:=0) (bC (by kernel_rfl)) rfl (Or.inl rfl)) (qH_ (ql_ (i:=1) (bC (by kernel_rfl)) rfl (Or.inl rfl)) jM_)))) (fun _ _ _ _ _=>qI_) (fun _ _ _ _ _=>by exact (qm_ yk_ (pv 0) (pv 1))))) ?_
  intro u_;refine ⟨_,rfl,_,rfl,l1,l2,_,_,rfl,SqL.of h1,SqL.of h2,fun D nD=>?_⟩;refine qkd_ (xs:=rowV x) (ys:=rowV y) (f:=fun i=>.int ((x.getD i 0 ^^^ y.getD i 0:Nat):Int)) (cs:=[]) (SqL.of h1) (SqL.of h2) (by rw [qg_,qg_,hl]) nD rfl (bG (by rw [qg_];exact d) (by decide)) (fun i u v H2 R2 hu hv s2 hR=>?_) (fun H2 s2 hD=>q D H2 nD s2 ?_)
  ·obtain ⟨su,eu,rfl⟩:=qN_ hu
   obtain ⟨sv,ev,rfl⟩:=qN_ hv;refine ⟨_,rfl,_,rfl,_,_,rfl,rfl,?_⟩;try dsimp only
   rw [jj_]
   have e1:x.getD i 0=su:=by rw [b7,eu];rfl
   have e2:y.getD i 0=sv:=by rw [b7,ev];rfl
   rw [e1,e2] at hR;exact hR _ (Same.refl _)
  ·rw [hD]
   congr 2
   rw [qg_]
   apply eW
   ·rw [b9,bI,qg_,List.length_zipWith,hl,Nat.min_self]
   ·intro i i1 i2
    rw [b9,bI] at i1
    have j2:i < y.length:=by omega
    simp [rowV,i1,j2]
inductive qht_ (K:PySem.W.Frag) (vs:List V) (H:Hp) (Q:VK) (E_3:XK):Prop
 | mk:∀ (l:Addr) (st pl M:Nat) (ps:List Addr) (row:Nat->List Nat),vs=[.ref l,.int st,.int pl]->H l=some (.lst (ps.map V.ref))->TabAt H ps M row->((∀ i,i < M->pl < (row i).length))->st<=M->M<=8->((∀ f,st<=f->f < M->(row f).getD pl 0≠0->Q (.int (f:Nat)) H))->(((∀ i,st<=i->i < M->(row i).getD pl 0=0)->Q .non H))->qht_ K vs H Q E_3
theorem vn_ (T:Txt K mg a):FnO P wo K mg base 1 a.f9 ["lines", "start", "place"] (qht_ K):=by
 refine T.x9.F.okA (k:=0) sc_first_with (fun C A outer s H vs Q E hr h=>?_)
 ·obtain ⟨l,st,pl,M,ps,row,rfl,hl,ht,hp,hs,hm,q1,q2⟩:=h
  refine xx ?_;intro X_;refine xq ?_;refine xf PassesOwn.never rfl (qbo_ rfl T.n_range (qa_ (pv 1) (qa_ (qs_ qr_ rfl T.n_len ci (qa_ (pv 0) qb_)) qb_))) (ql_ (i:=3) sc_first_with.nd rfl (Or.inl rfl)) ?_;refine x1 ?_;refine xi (qn_ zq_ (qy_ qz_ (qy_ qz_ (pv 0) (pv 3) (fun _ _=>rfl)) (pv 2) (fun _ _=>rfl)) qf_ (qp_ _)) ?_;refine xl (qo_ (pv 3)) ?_;intro u_;refine ⟨_,qw_,?_⟩;intro u_;intro u_;refine xl (qo_ qG_) ?_;intro u_
  have g:((ps.map V.ref).length:Int)=(M:Nat):=by rw [b9,ht.len]
  refine ⟨_,rfl,_,rfl,l,_,rfl,.inl (SqL.of hl),_,_,rfl,⟨by omega,by omega,by omega,by omega⟩,?_⟩
  have en:(((ps.map V.ref).length:Int) - (st:Nat)).toNat=M - st:=by rw [g];omega
  rw [en];refine let I_:Nat->L2.St->Hp->Prop:=fun i σ H'=>L2.A3 ((∃ v:Option V,σ=[some (.ref l),some (.int st),some (.int pl),v])) (H'=H) (∀ k,st<=k->k < st+i->(row k).getD pl 0=0);jq_ (lo:=(st:Nat)) (n:=M - st) I_ ⟨⟨none,rfl⟩,rfl,fun k h1 h2=>by omega⟩ ?_ ?_
  ·rintro i σ H' hi ⟨⟨v,rfl⟩,rfl,d⟩
   have ek:((st:Nat):Int)+(i:Nat)=((st+i:Nat):Int):=by omega
   obtain ⟨p,ep,r⟩:=ht.get (i:=st+i) (by omega)
   have B:=hp (st+i) (by omega)
   rw [ek];refine ⟨_,rfl,_,rfl,l,_,_,_,rfl,rfl,SqL.of hl,qv_ (qO_ ep),_,rfl,p,_,_,_,rfl,rfl,SqL.of r,qv_ (je_ B),rfl,_,rfl,?_⟩;refine ite2 (fun h=>?_) (fun h=>?_)
   ·refine ⟨_,rfl,?_⟩
    refine q1 (st+i) (by omega) (by omega) fun z=>?_
    rw [z] at h
    revert h
    decide
   ·refine ⟨⟨_,rfl⟩,rfl,fun k h1 h2=>?_⟩
    by_cases e:k=st+i
    ·rw [e]
     apply Decidable.byContradiction
     intro z
     apply h
     rw [bY]
     ·rfl
     ·intro y
      have:=V.int.inj y;omega
    ·exact d k h1 (by omega)
  ·rintro σ H' ⟨⟨v,rfl⟩,rfl,d⟩
   exact q2 fun i h1 h2=>d i h1 (by omega)
inductive qcl_ (K:PySem.W.Frag) (vs:List V) (H:Hp) (Q:VK) (E_3:XK):Prop
 | mk:∀ (l:Addr) (h f M:Nat) (ps:List Addr) (row:Nat->List Nat),vs=[.ref l,.int h,.int f]->H l=some (.lst (ps.map V.ref))->TabAt H ps M row->h < M->f < M->M<=8->(∀ D H' ps',H D=none->Same H H'->H' D=some (.lst (ps'.map V.ref))->TabAt H' ps' M (fun i=>if i=h then row f else if i=f then row h else row i)->(∀ p∈ps',p∈ps)->Q (.ref D) H')->qcl_ K vs H Q E_3
theorem qjb_ (T:Txt K mg a):FnO P wo K mg base 1 a.f10 ["lines", "one", "other"] (qcl_ K):=by
 refine T.x10.F.okA (k:=0) sc_swapped (fun G A outer s H vs Q E hr h=>?_)
 ·obtain ⟨l,h,f,M,ps,row,rfl,hl,ht,hh,hf,hm,q⟩:=h
  refine xx ?_;intro X_;refine xc (qi_ (i:=3) sc_swapped.nd rfl (Or.inl rfl) (jB_ jz_ rfl T.n_list (by decide +kernel) (qa_ (pv 0) qb_))) ?_
  intro u_;refine xc (yM_ (qy_ qz_ (pv 0) (pv 2) (fun _ _=>rfl)) (zb_ (pv 3) (pv 1) yg_)) ?_;intro u_;refine xc (yM_ (qy_ qz_ (pv 0) (pv 1) (fun _ _=>rfl)) (zb_ (pv 3) (pv 2) yg_)) ?_;intro u_;refine xl (qo_ (pv 3)) ?_;intro u_;obtain ⟨p1,e1,B⟩:=ht.get hf;obtain ⟨p2,e2,C⟩:=ht.get hh;refine ⟨_,rfl,l,_,rfl,.inl (SqL.of hl),fun D nD=>?_⟩
  have d:h < (ps.map V.ref).length:=by rw [b9,ht.len];exact hh
  have g:f < (ps.map V.ref).length:=by rw [b9,ht.len];exact hf
  have lD:l≠D:=qh_ hl nD;refine ⟨_,rfl,_,rfl,l,_,_,_,rfl,rfl,SqL.of (by rw [qd_ lD];exact hl),qv_ (qO_ e1),?_⟩
  refine ⟨_,rfl,_,rfl,D,_,_,h,rfl,rfl,qc_,yx_ d,?_⟩;refine ⟨_,rfl,_,rfl,l,_,_,_,rfl,rfl,SqL.of (by rw [q8_,qd_ lD];exact hl),qv_ (qO_ e2),?_⟩
  refine ⟨_,rfl,_,rfl,D,_,_,f,rfl,rfl,qc_,yx_ (by rw [cZ];exact g),?_⟩
  rw [q8_,q8_]
  have r:(((ps.map V.ref).set h (.ref p1)).set f (.ref p2))=(((ps.set h p1).set f p2).map V.ref):=by rw [fH,fH]
  rw [r];refine ⟨_,rfl,q D _ _ nD (Same.new nD) qc_ ⟨by rw [cZ,cZ,ht.len],fun i p ei=>?_⟩ (fun p hp=>?_)⟩
  rotate_left
  ·rcases List.mem_or_eq_of_mem_set hp with z | z
   ·rcases List.mem_or_eq_of_mem_set z with z | z
    ·exact z
    ·rw [z]
     exact bO e1
   ·rw [z]
    exact bO e2
  have on:=fun i p e=>(Same.new (o:=.lst (((ps.set h p1).set f p2).map V.ref)) nD) _ _ (ht.on i p e);rw [List.getElem?_set,List.getElem?_set] at ei
  by_cases zf:f=i
  ·rw [if_pos zf,if_pos (by rw [cZ,ht.len];exact hf)] at ei
   subst zf
   have:=bM ei;subst this
   by_cases zh:f=h
   ·rw [if_pos zh]
    subst zh;exact on f p2 e2
   ·rw [if_neg zh,if_pos rfl]
    exact on h p2 e2
  ·rw [if_neg zf] at ei
   by_cases zh:h=i
   ·rw [if_pos zh,if_pos (by rw [ht.len];exact hh)] at ei
    subst zh
    have:=bM ei;subst this;rw [if_pos rfl];exact on f p1 e1
   ·rw [if_neg zh] at ei
    rw [if_neg (fun z=>zh z.symm),if_neg (fun z=>zf z.symm)];exact on i p ei
inductive qcm_ (K:PySem.W.Frag) (a:Adr) (vs:List V) (H:Hp) (Q:VK) (E_3:XK):Prop
 | mk:∀ (fp l:Addr) (r w h pl M W:Nat) (ps:List Addr) (T:Nat->Nat->Nat),vs=[.ref fp,.ref l,.int h,.int pl]->FieldAt a.C_Field H fp r w->GF.Good r w->H l=some (.lst (ps.map V.ref))->TabAt H ps M (rowT W T)->((∀ i k,i < M->k < W->T i k < 2 ^ w))->W<=30->pl < W->h < M->M<=8->T h pl≠0->(∀ D H' ps',H D=none->Same H H'->H' D=some (.lst (ps'.map V.ref))->TabAt H' ps' M (rowT W (GF.clearT r w T h pl (GF.pw r w (T h pl) (2 ^ w - 1 - 1))))->(∀ p∈ps',p∈ps\/H p=none)->Q (.ref D) H')->qcm_ K a vs H Q E_3
theorem qaj_ (T:Txt K mg a):FnO P wo K mg base 5 a.f11 ["field", "lines", "at", "place"] (qcm_ K a):=by
 refine T.x11.F.okA (k:=4) sc_cleared (fun al A outer s H vs Q E hr h=>?_)
 ·obtain ⟨fp,l,r,w,h,pl,M,W,ps,t,rfl,hF,g,hl,ht,L,hW,G,hh,hm,h0,q⟩:=h
  obtain ⟨dx,ah⟩:=id hF;refine xx ?_;intro X_;refine xc (qi_ (i:=4) sc_cleared.nd rfl (Or.inl rfl) (qq_ (yz_ T) hr.u rfl T.x7.m T.x7.k T.x7.b .nil qj_ (qa_ (pv 0) (qa_ (qx_ (pv 0) T.cl_Field T.x4.me (qdm_ T) hr.u T.x4.b .nil qj_ (qa_ (qy_ qz_ (qy_ qz_ (pv 1) (pv 2) (fun _ _=>rfl)) (pv 3) (fun _ _=>rfl)) qb_)) (qa_ (qy_ qz_ (pv 1) (pv 2) (fun _ _=>rfl)) qb_))))) ?_;intro u_;refine xc (qi_ (i:=5) sc_cleared.nd rfl (Or.inl rfl) (q7_ qb_)) ?_;intro u_;refine xq ?_;refine xf PassesOwn.never rfl (v4_ rfl T.n_enumerate (qa_ (pv 1) qb_)) (yL_ rfl (qH_ (ql_ (i:=6) sc_cleared.nd rfl (Or.inl rfl)) (qH_ (ql_ (i:=7) sc_cleared.nd rfl (Or.inl rfl)) jM_))) ?_;refine x1 ?_;refine xi (qn_ jx_ (pv 6) (pv 2) (qp_ _)) ?_;refine xl (qV_ (jF_ cB cD cE qQ_ (pv 5) (qa_ (pv 4) qb_))) ?_;intro u_;refine x1 ?_;refine xi (qn_ jx_ (qy_ qz_ (pv 7) (pv 3) (fun _ _=>rfl)) qf_ (qp_ _)) ?_;refine xl (qV_ (jF_ cB cD cE qQ_ (pv 5) (qa_ (pv 7) qb_))) ?_;intro u_;refine xl (qV_ (jF_ cB cD cE qQ_ (pv 5) (qa_ (qq_ (vm_ T) hr.u rfl T.x8.m T.x8.k T.x8.b .nil qj_ (qa_ (pv 7) (qa_ (qq_ (yz_ T) hr.u rfl T.x7.m T.x7.k T.x7.b .nil qj_ (qa_ (pv 0) (qa_ (qy_ qz_ (pv 7) (pv 3) (fun _ _=>rfl)) (qa_ (pv 4) qb_)))) qb_))) qb_))) ?_;intro u_;intro u_;intro u_;intro u_;refine xl (qo_ (pv 5)) ?_;intro u_;obtain ⟨ph,eh,Z⟩:=ht.get hh
  have ac:t h pl < 2 ^ w:=L h pl hh G
  have eg:(rowT W t h).getD pl 0=t h pl:=qZ_ G
  have gt:=qv_ (je_ (row:=rowT W t h) (i:=pl) (by rw [qu_];exact G))
  rw [eg] at gt;refine ⟨_,rfl,_,rfl,fp,dx,_,rfl,ah,rfl,_,rfl,_,rfl,l,_,_,_,rfl,rfl,SqL.of hl,qv_ (qO_ eh),_,rfl,ph,_,_,_,rfl,rfl,SqL.of Z,gt,?_⟩;refine ⟨fp,r,w,t h pl,rfl,hF,g,by omega,ac,?_⟩
  generalize hc:GF.pw r w (t h pl) (2 ^ w - 1 - 1)=c at q;refine ⟨_,rfl,_,rfl,l,_,_,_,rfl,rfl,SqL.of hl,qv_ (qO_ eh),?_⟩;refine ⟨fp,ph,r,w,c,rowT W t h,rfl,hF,g,Z,y9_ fun k hk=>L h k hh hk,by rw [qu_];omega,fun hd H1 ae s1 Y=>?_⟩
  refine ⟨by decide,fun D nD=>⟨_,rfl,l,_,rfl,SqL.of ((Same.new nD) _ _ (s1 _ _ hl)),?_⟩⟩
  have U:(ps.map V.ref).length=M:=by rw [b9,ht.len]
  refine let I_:Nat->L2.St->Hp->Prop:=fun i σ H'=>L2.E3 fun (v u:Option V) (d:List Addr)=>L2.A6 (σ=[some (.ref fp),some (.ref l),some (.int h),some (.int pl),some (.ref hd),some (.ref D),v,u]) (Same H1 H') (H' D=some (.lst (d.map V.ref))) (TabAt H' d i (rowT W (GF.clearT r w t h pl c))) (D∉d) (∀ p∈d,p∈ps\/H p=none);qed_ I_
   ⟨none,none,[],rfl,Same.new nD,qc_,⟨rfl,fun i p e=>by simp at e⟩,by simp,by simp⟩ ?_ ?_ ?_
  ·rintro i σ H' hi ⟨v,u,d,rfl,s2,_⟩
   exact SqL.of (s2 _ _ (s1 _ _ hl))
  ·rintro i u Tt σ H' hi hu nT ⟨v,u',d,rfl,s2,hD,C,O,X⟩
   rw [U] at hi;obtain ⟨p,ep,hp⟩:=ht.get hi
   have eu:u=.ref p:=by
    rw [qO_ ep] at hu;exact (bM hu).symm
   subst eu;refine ⟨Tt,_,rfl,SqT.of qc_,rfl,_,_,rfl,_,_,rfl,rfl,?_⟩
   have s3:Same H' (upd H' Tt (.tup [.int (i:Nat),.ref p])):=Same.new nT
   have ad:∀ q∈d,H' q=upd H' Tt (.tup [.int (i:Nat),.ref p]) q:=fun q hq=>by
    rw [qd_];intro z;obtain ⟨j,hj⟩:=List.getElem?_of_mem hq;rw [z] at hj;rw [C.on j _ hj] at nT
    cases nT
   generalize (upd H' Tt (.tup [.int (i:Nat),.ref p]))=H2 at s3 ad
   have aa:H2 hd=some (.lst (rowV ((rowT W t h).map fun s=>GF.tm r w s c))):=s3 _ _ (s2 _ _ Y)
   have J:H2 p=some (.lst (rowV (rowT W t i))):=s3 _ _ (s2 _ _ (s1 _ _ hp))
   have B:H2 D=some (.lst (d.map V.ref)):=s3 _ _ hD
   have S:Same H1 H2:=s2.trans s3
   have ak:t i pl < 2 ^ w:=L i pl hi G
   have i8:d.length < 8:=by rw [C.len];omega
   have fin:∀ p' H3,Same H2 H3->p'≠D->(p'∈ps\/H p'=none)->H3 p'=some (.lst (rowV (rowT W (GF.clearT r w t h pl c) i)))->I_ (i+1) [some (V.ref fp),some (.ref l),some (.int h),some (.int pl),some (.ref hd),some (.ref D),some (.int (i:Nat)),some (.ref p)] (upd H3 D (.lst (d.map V.ref++[.ref p']))):=fun p' H3 s4 nz ab aj=>by
    refine ⟨_,_,d++[p'],rfl,(S.trans s4).up nD,?_,C.snoc (fun q hq=>?_) ?_,?_,fun q hq=>(bU.mp hq).elim (X q) fun z=>by rw [bS.mp z];exact ab⟩
    ·rw [qc_,cK]
     rfl
    ·have nq:q≠D:=fun z=>O (by rw [<- z];exact hq)
     rw [qd_ nq];obtain ⟨j,hj⟩:=List.getElem?_of_mem hq
     have e1:=C.on j _ hj;rw [e1,s4 _ _ (s3 _ _ e1)]
    ·rw [qd_ nz]
     exact aj
    ·intro z
     rcases bU.mp z with z | z
     ·exact O z
     ·exact nz (bS.mp z).symm
   have I:(d.map V.ref).length < sizeLine:=fi (by rw [b9];exact i8) (by decide)
   refine ⟨_,rfl,_,rfl,rfl,_,rfl,?_⟩;refine ite2 (fun z=>?_) (fun z=>?_)
   ·have z':i=h:=by
     have:=V.int.inj (bC z);omega
    refine ⟨_,rfl,.inl ⟨rfl,_,SqL.of B⟩,_,rfl,D,_,_,rfl,rfl,B,I,?_⟩;refine fin hd H2 (Same.refl _) (qh_ Y nD) (.inr ae) ?_;rw [aa,z']
    congr 3
    unfold rowT;rw [cq];exact d9 fun k _=>by unfold GF.clearT;rw [if_pos rfl];rfl
   ·have z':i≠h:=fun e=>z (bN (by rw [e]))
    have gi:=qv_ (je_ (row:=rowT W t i) (i:=pl) (by rw [qu_];exact G))
    rw [qZ_ G] at gi;refine ⟨_,rfl,_,rfl,p,_,_,_,rfl,rfl,SqL.of J,gi,rfl,_,rfl,?_⟩;refine ite2 (fun y=>?_) (fun y=>?_)
    ·have y':t i pl=0:=by
      have:=V.int.inj (bC y);omega
     refine ⟨_,rfl,.inl ⟨rfl,_,SqL.of B⟩,_,rfl,D,_,_,rfl,rfl,B,I,?_⟩;refine fin p H2 (Same.refl _) (qh_ (s1 _ _ hp) nD) (.inl (bO ep)) ?_;rw [J]
     congr 3
     refine y4_ fun k _=>?_;unfold GF.clearT;rw [if_neg z',y',GF.tm_zero,cT]
    ·refine ⟨_,rfl,.inl ⟨rfl,_,SqL.of B⟩,_,rfl,_,rfl,_,rfl,_,rfl,p,_,_,_,rfl,rfl,SqL.of J,gi,_,rfl,?_⟩
     refine ⟨fp,hd,r,w,t i pl,_,rfl,hF.same (s1.trans S),g,aa,?_,?_,fun d3 H3 n3 s4 h3=>?_⟩
     ·intro x hx
      obtain ⟨k,hk,rfl⟩:=cG.mp hx;exact GF.tm_lt g.rule (y9_ (fun k hk=>L h k hh hk) k hk)
     ·rw [b9,qu_]
      omega
     ·refine ⟨p,d3,_,_,rfl,s4 _ _ J,h3,?_,?_,fun d4 H4 n4 s5 h4=>?_⟩
      ·rw [b9,b9,qu_,qu_]
      ·rw [qu_]
       omega
      ·have ai:=s5 _ _ (s4 _ _ B)
       refine ⟨D,_,_,rfl,rfl,ai,I,?_⟩;refine fin d4 H4 (s4.trans s5) (fun e=>?_) (.inr ((s1.trans (S.trans s4)).free n4)) ?_
       ·rw [e,s4 _ _ B] at n4
        cases n4
       ·rw [h4]
        congr 3
        unfold rowT;rw [cq,cq]
        apply eW
        ·simp
        ·intro k k1 k2
         simp [GF.clearT,z']
  ·rintro σ H' ⟨v,u,d,rfl,s2,hD,C,O,X⟩
   rw [U] at C;exact ⟨_,rfl,q D H' d (s1.free nD) (s1.trans s2) hD C X⟩
inductive qak_ (K:PySem.W.Frag) (vs:List V) (H:Hp) (Q:VK) (E_3:XK):Prop
 | mk:∀ (l hl:Addr) (m pl M W:Nat) (ps:List Addr) (hs:List Nat) (T:Nat->Nat->Nat),vs=[.ref l,.ref hl,.int m,.int pl]->H l=some (.lst (ps.map V.ref))->TabAt H ps M (rowT W T)->H hl=some (.lst (rowV hs))->hs.length<=M->pl < m->m<=30->m<=W->M<=8->((∀ p∈hs,p < m))->(∀ D H',H D=none->Same H H'->H' D=some (.lst (rowV ((List.range m).map (GF.makeX T hs pl hs.length))))->Q (.ref D) H')->qak_ K vs H Q E_3
theorem qe3_ (T:Txt K mg a):FnO P wo K mg base 2 a.f13 ["lines", "heads", "many", "place"] (qak_ K):=by
 refine T.x13.F.okA (k:=1) sc_free_make (fun L A outer s H vs Q E hr h=>?_)
 ·obtain ⟨l,hl,m,pl,M,W,ps,hs,t,rfl,h1,ht,h2,B,G,hm,O,J,I,q⟩:=h
  refine xx ?_;intro X_;refine xc (qi_ (i:=4) sc_free_make.nd rfl (Or.inl rfl) (qq_ (qhr_ T) hr.u rfl T.x6.m T.x6.k T.x6.b .nil qj_ (qa_ (pv 2) (qa_ (pv 3) qb_)))) ?_;intro u_;refine xq ?_;refine xf PassesOwn.never rfl (vv_ rfl T.n_zip (qa_ (pv 1) (qa_ (pv 0) qb_))) (yL_ rfl (qH_ (ql_ (i:=5) sc_free_make.nd rfl (Or.inl rfl)) (qH_ (ql_ (i:=6) sc_free_make.nd rfl (Or.inl rfl)) jM_))) ?_;refine xl (yM_ (qy_ qz_ (pv 6) (pv 3) (fun _ _=>rfl)) (zb_ (pv 4) (pv 5) yg_)) ?_;intro u_;intro u_;refine xl (qo_ (pv 4)) ?_;intro u_;refine ⟨_,rfl,_,rfl,m,pl,rfl,G,hm,fun D H1 nD s1 hD=>?_⟩;refine ⟨_,rfl,_,rfl,hl,l,_,_,rfl,SqL.of (s1 _ _ h2),SqL.of (s1 _ _ h1),?_⟩
  have g:(rowV hs).length=hs.length:=qg_ hs
  refine let I_:Nat->L2.St->Hp->Prop:=fun i σ H'=>L2.E2 fun (v u:Option V)=>L2.A3 (σ=[some (.ref l),some (.ref hl),some (.int m),some (.int pl),some (.ref D),v,u]) (Same H H') (H' D=some (.lst (rowV ((List.range m).map (GF.makeX t hs pl i)))));qmh_ (xs:=rowV hs) I_
   ⟨none,none,rfl,s1,?_⟩ ?_ ?_ ?_ ?_
  ·rw [hD]
   congr 3
   unfold yn_
   apply eW
   ·simp
   ·intro k k1 k2
    rw [List.getElem_set]
    simp [GF.makeX]
    by_cases z:pl=k
    ·rw [if_pos z,if_pos z.symm]
    ·rw [if_neg z,if_neg (fun e=>z e.symm)]
  ·rintro i σ H' hi ⟨v,u,rfl,s2,d⟩
   exact ⟨SqL.of (s2 _ _ h2),SqL.of (s2 _ _ h1)⟩
  ·rw [g,b9,ht.len]
   exact B
  ·rintro i x y Tt σ H' hi hx hy nT ⟨v,u,rfl,s2,d⟩
   rw [g] at hi;refine ⟨Tt,_,rfl,SqT.of qc_,rfl,_,_,rfl,_,_,rfl,rfl,?_⟩;obtain ⟨xh,r,rfl⟩:=qN_ hx;obtain ⟨p,ep,hp⟩:=ht.get (i:=i) (by omega)
   have ey:y=.ref p:=by
    rw [qO_ ep] at hy;exact (bM hy).symm
   subst ey
   have s3:Same H' (upd H' Tt (.tup [.int (xh:Nat),.ref p])):=Same.new nT;generalize (upd H' Tt (.tup [.int (xh:Nat),.ref p]))=H2 at s3
   have gi:=qv_ (je_ (row:=rowT W t i) (i:=pl) (by rw [qu_];omega))
   rw [qZ_ (by omega)] at gi
   have C:xh < m:=I xh (bO r);refine ⟨_,rfl,_,rfl,p,_,_,_,rfl,rfl,SqL.of (s3 _ _ (s2 _ _ hp)),gi,?_⟩;refine ⟨_,rfl,_,rfl,D,_,_,xh,rfl,rfl,s3 _ _ d,yx_ (by rw [qg_,b9,bI];exact C),?_⟩
   refine ⟨_,_,rfl,(s2.trans s3).up nD,?_⟩;rw [qc_,qe1_]
   congr 3
   have eh:hs.getD i 0=xh:=by rw [b7,r];rfl
   apply eW
   ·simp
   ·intro k k1 k2
    rw [List.getElem_set]
    simp [GF.makeX,r]
    by_cases z:xh=k
    ·rw [if_pos z,if_pos z.symm]
    ·rw [if_neg z,if_neg (fun e=>z e.symm)]
  ·rintro σ H' ⟨v,u,rfl,s2,d⟩
   rw [g] at d;exact ⟨_,rfl,q D H' nD s2 d⟩
structure Reck (r w N M:Nat) (l:Nat->Nat->Nat) (ks:List Bool) (pl:Nat) (by':List Nat):Prop where
 len:by'.length=M
 lt:∀ x∈by',x < 2 ^ w
 ok:∀ k,k < N->ks[k]?=some false->GF.dot r w M (fun j=>l j k) (fun j=>by'.getD j 0)=if k=pl then 1 else 0
structure Free (r w N M:Nat) (l:Nat->Nat->Nat) (ks:List Bool) (pl:Nat) (mk:List Nat):Prop where
 len:mk.length=N
 lt:∀ x∈mk,x < 2 ^ w
 one:mk.getD pl 0=1
 zero:∀ k,k < N->ks[k]?=some true->mk.getD k 0=0
 ok:∀ j,j < M->GF.dot r w N (l j) (fun k=>mk.getD k 0)=0
def qk9_ (H:Hp) (D:Addr) (r w N M:Nat) (l:Nat→Nat→Nat) (ks:List Bool) (pl:Nat):Prop:=(∃ e by',H D=some (.tup [.str "reckoned",.ref e])∧H e=some (.lst (rowV by'))∧Reck r w N M l ks pl by') ∨ (∃ e mk,H D=some (.tup [.str "free",.ref e])∧H e=some (.lst (rowV mk))∧Free r w N M l ks pl mk)
inductive qla_ (K:PySem.W.Frag) (a:Adr) (vs:List V) (H:Hp) (Q:VK) (E_3:XK):Prop
 | mk:∀ (fp L kn:Addr) (r w N M pl:Nat) (pL:List Addr) (l:Nat->Nat->Nat) (ks:List Bool),vs=[.ref fp,.ref L,.ref kn,.int pl]->FieldAt a.C_Field H fp r w->GF.Full r w->H L=some (.lst (pL.map V.ref))->TabAt H pL M (rowT N l)->((∀ i k,i < M->k < N->l i k < 2 ^ w))->H kn=some (.lst (knV ks))->ks.length=N->N<=12->M<=8->pl < N->ks[pl]?=some false->((∀ D H',Same H H'->H D=none->qk9_ H' D r w N M l ks pl->(∀ t e,H' D=some (.tup [t,.ref e])->H e=none)->Q (.ref D) H'))->qla_ K a vs H Q E_3
theorem qjc_ (T:Txt K mg a):FnO P wo K mg base 6 a.f12 ["field", "lines", "known", "place"] (qla_ K a):=by
 refine T.x12.F.okA (k:=5) sc_told_of (fun aP A outer s H vs Q E hr h=>?_)
 ·obtain ⟨fp,L,kn,r,w,N,M,pl,pL,l,ks,rfl,hF,g,hL,ht,ak,aN,ar,hN,hM,X,ax,q⟩:=h
  have q1:=fun D e aJ H' s n ne h1 h2 h3=>q D H' s n (.inl ⟨e,aJ,h1,h2,h3⟩) (fun t e' h=>by rw [h1] at h;cases h;exact ne)
  have q2:=fun D e mk H' s n ne h1 h2 h3=>q D H' s n (.inr ⟨e,mk,h1,h2,h3⟩) (fun t e' h=>by rw [h1] at h;cases h;exact ne)
  refine xx ?_;intro X_;refine xq ?_;refine xi (PW.pt (jR_ (qn_ yl_ (pv 3) qf_ (qp_ _)) (jR_ (qn_ uW_ (pv 3) (qs_ qr_ rfl T.n_len ci (qa_ (pv 2) qb_)) (qp_ _)) (jL_ (q6_ (qy_ qz_ (pv 2) (pv 3) (fun _ _=>rfl))))))) ?_;refine xl q3_ ?_;intro u_;refine ⟨_,qw_,?_⟩;intro u_
  refine xc (jp_ (i:=4) sc_told_of.nd rfl (Or.inl rfl) (CompOk.of (cap:=[1]) (own:=["at", "line"]) (by kernel_rfl)) rfl (v4_ rfl T.n_enumerate (qa_ (pv 1) qb_)) (fun _ _ _ _ _=>(qa5_ (n:=2) (K:=K) rfl rfl (qH_ (ql_ (i:=1) (bC (by kernel_rfl)) rfl (Or.inl rfl)) (qH_ (ql_ (i:=2) (bC (by kernel_rfl)) rfl (Or.inl rfl)) jM_)))) (fun _ _ _ _ _=>qI_) (fun _ _ _ _ _=>by exact (qm_ qd1_ (pv 2) (qq_ (qhr_ T) hr.u rfl T.x6.m T.x6.k T.x6.b .nil qj_ (qa_ (qs_ (qde_ (K:=K) rfl) rfl T.n_len ci (qa_ (pv 0) qb_)) (qa_ (pv 1) qb_)))))) ?_
  intro u_;refine xc (qi_ (i:=5) sc_told_of.nd rfl (Or.inl rfl) (q7_ qb_)) ?_;intro u_;refine xq ?_;refine xf PassesOwn.never rfl (qL_ rfl T.n_range (qa_ (qs_ qr_ rfl T.n_len ci (qa_ (pv 2) qb_)) qb_)) (ql_ (i:=6) sc_told_of.nd rfl (Or.inl rfl)) ?_;refine xq ?_;refine xi (PW.pt (jR_ (q6_ (qy_ qz_ (pv 2) (pv 6) (fun _ _=>rfl))) (jL_ (qn_ jx_ (pv 6) (pv 3) (qp_ _))))) ?_;refine xl qf3_ ?_;intro u_;refine ⟨_,qw_,?_⟩;intro u_;refine xc (qi_ (i:=7) sc_told_of.nd rfl (Or.inl rfl) (qq_ (vn_ T) hr.u rfl T.x9.m T.x9.k T.x9.b .nil qj_ (qa_ (pv 4) (qa_ (qs_ qr_ rfl T.n_len ci (qa_ (pv 5) qb_)) (qa_ (pv 6) qb_))))) ?_;intro u_;refine x1 ?_;refine xi (qn_ jg_ (pv 7) qG_ (qp_ _)) ?_;refine xc (qi_ (i:=4) sc_told_of.nd rfl (Or.inl rfl) (qq_ (qaj_ T) hr.u rfl T.x11.m T.x11.k T.x11.b .nil qj_ (qa_ (pv 0) (qa_ (qq_ (qjb_ T) hr.u rfl T.x10.m T.x10.k T.x10.b .nil qj_ (qa_ (pv 4) (qa_ (qs_ qr_ rfl T.n_len ci (qa_ (pv 5) qb_)) (qa_ (pv 7) qb_)))) (qa_ (qs_ qr_ rfl T.n_len ci (qa_ (pv 5) qb_)) (qa_ (pv 6) qb_)))))) ?_;intro u_;refine xl (qV_ (jF_ cB cD cE qQ_ (pv 5) (qa_ (pv 6) qb_))) ?_;intro u_;refine ⟨_,qw_,?_⟩;intro u_;intro u_;refine xc (qi_ (i:=7) sc_told_of.nd rfl (Or.inl rfl) (qq_ (vn_ T) hr.u rfl T.x9.m T.x9.k T.x9.b .nil qj_ (qa_ (pv 4) (qa_ (qs_ qr_ rfl T.n_len ci (qa_ (pv 5) qb_)) (qa_ (pv 3) qb_))))) ?_;intro u_;refine xq ?_;refine xi (qn_ vp_ (pv 7) qG_ (qp_ _)) ?_;refine xl (qo_ (yO_ (qa_ uR_ (qa_ (qq_ (qe3_ T) hr.u rfl T.x13.m T.x13.k T.x13.b .nil qj_ (qa_ (pv 4) (qa_ (pv 5) (qa_ (qs_ qr_ rfl T.n_len ci (qa_ (pv 2) qb_)) (qa_ (pv 3) qb_))))) qb_)))) ?_
  intro u_;refine ⟨_,qw_,?_⟩;intro u_;refine xc (qi_ (i:=8) sc_told_of.nd rfl (Or.inl rfl) (zV_ v2_ (qy_ qz_ (qq_ (qaj_ T) hr.u rfl T.x11.m T.x11.k T.x11.b .nil qj_ (qa_ (pv 0) (qa_ (pv 4) (qa_ (pv 7) (qa_ (pv 3) qb_))))) (pv 7) (fun _ _=>rfl)) (v1_ (qs_ qr_ rfl T.n_len ci (qa_ (pv 2) qb_))) v0_)) ?_;intro u_;refine xl (qo_ (yO_ (qa_ uR_ (qa_ (pv 8) qb_)))) ?_;intro u_
  have hS:SqL K H kn (knV ks):=SqL.of aN
  have I:(knV ks).length=N:=by unfold knV;rw [b9,ar]
  have al:∀ {k:Nat}{b:Bool},ks[k]?=some b->(knV ks)[k]?=some (.bl b):=fun {k b} e=>by unfold knV;rw [bE,e];rfl
  have Z:(pL.map V.ref).length=M:=by rw [b9,ht.len]
  refine ⟨_,rfl,_,_,rfl,rfl,_,rfl,?_⟩;refine ite2 (fun z=>?_) (fun _=>?_)
  ·have:=bC z
   omega
  refine ⟨_,rfl,_,rfl,kn,_,rfl,.inl hS,_,_,rfl,rfl,_,rfl,?_⟩;refine ite2 (fun z=>?_) (fun _=>?_)
  ·have:=bC z
   rw [I] at this;omega
  refine ⟨_,rfl,_,rfl,kn,_,_,_,rfl,rfl,hS,qv_ (al ax),_,rfl,?_⟩;refine ite2 (fun z=>absurd z (by decide)) (fun _=>?_)
  refine ⟨_,rfl,L,_,rfl,SqL.of hL,fun D nD=>?_⟩;refine qiw_ (xs:=pL.map V.ref) (row:=fun i=>rowV (rowT N l i++yn_ M i)) (cs:=[some (.ref L)]) (SqL.of hL) nD rfl (bG (by rw [Z];exact hM) (by decide:8<=sizeLine)) (fun i u H2 R2 hu s2 hR=>?_) (fun ps H1 s1 hD O aO aR=>?_)
  ·have hi:i < M:=by
    rw [<- Z];exact (bK.mp hu).1
   obtain ⟨p,ep,hp⟩:=ht.get hi
   have eu:u=.ref p:=by
    rw [qO_ ep] at hu;exact (bM hu).symm
   subst eu;refine ⟨_,rfl,_,rfl,L,_,rfl,.inl (s2.seq (SqL.of hL)),_,rfl,?_⟩;try dsimp only
   rw [Z];refine ⟨M,i,rfl,hi,by omega,fun D3 H3 n3 s3 h3=>?_⟩
   refine ⟨p,D3,_,_,rfl,rfl,s3 _ _ (s2 _ _ hp),h3,?_,fun D4 n4=>?_⟩
   ·rw [qg_,qg_,qu_,vL_]
    exact bG (by omega:N+M<=30) (by decide)
   ·refine hR D4 _ (s3.free n4) (s3.trans (Same.new n4)) ?_
    rw [qc_,yH_]
  ·have aq:TabAt H1 ps M (rowT (N+M) fun i k=>(rowT N l i++yn_ M i).getD k 0):=by
    refine ⟨by rw [O.len,Z],fun i p e=>?_⟩
    rw [O.on i p e,qk6_ (by rw [cg,qu_,vL_])]
   have tb:=GF.Tab.start g ak (T:=fun i k=>(rowT N l i++yn_ M i).getD k 0) (fun i k _ hk=>qja_ hk) (fun i j hi hj=>qgf_ hj);generalize (fun i k=>(rowT N l i++yn_ M i).getD k 0)=t0 at aq tb
   have aM:=s1.seq hS;refine ⟨by decide,fun Hd nH=>⟨_,rfl,kn,_,rfl,.inl ((Same.new nH).seq aM),_,rfl,by rw [I];omega,by rw [I];omega,?_⟩⟩
   have en:(((knV ks).length:Nat):Int).toNat=N:=by rw [I];omega
   rw [en]
   refine let I_:Nat->L2.St->Hp->Prop:=fun o σ H'=>L2.E6 fun (v6 v7:Option V) (S:Addr) (ps:List Addr) (hs:List Nat) (t:Nat->Nat->Nat)=>L2.A10 (σ=[some (.ref fp),some (.ref L),some (.ref kn),some (.int pl),some (.ref S),some (.ref Hd),v6,v7,none]) (Same H H') (H' S=some (.lst (ps.map V.ref))) (TabAt H' ps M (rowT (N+M) t)) (GF.Tab r w N M l t) (GF.Piv N M t hs (fun k=>k < o/\ks[k]?=some false/\k≠pl)) (H' Hd=some (.lst (rowV hs))) (S≠Hd) (Hd∉ps) ((∀ p∈hs,ks[p]?=some false/\p≠pl));jq_ (lo:=0) (n:=N) I_
    ⟨none,none,D,ps,[],t0,rfl,(s1.trans (Same.new nH)),by rw [qd_ (qh_ hD nH)];exact hD,aq.same (Same.new nH),tb,GF.Piv.start.weaken (fun k z=>absurd z.1 (cX k)),qc_,qh_ hD nH,O.ne nH,by simp⟩ ?_ ?_
   ·rintro o σ H' ho ⟨v6,v7,S,ps,hs,t,rfl,s2,B,d,tb,pv,hH,aa,U,G⟩
    have ek:(0:Int)+(o:Nat)=((o:Nat):Int):=by omega
    rw [ek];obtain ⟨b,eb⟩:∃ b,ks[o]?=some b:=⟨_,b8 (by rw [ar];exact ho)⟩
    refine ⟨_,rfl,_,rfl,kn,_,_,_,rfl,rfl,s2.seq hS,qv_ (al eb),b,rfl,?_⟩;refine ite2 (fun z=>iteT ?_) (fun z=>?_)
    ·exact ⟨_,_,S,ps,hs,t,rfl,s2,B,d,tb,pv.weaken (fun k y=>⟨by
      have nk:k≠o:=fun e=>by
       rw [e,eb,z] at y;exact absurd (bM y.2.1) (by decide)
      omega,y.2⟩),hH,aa,U,G⟩
    ·have aD:ks[o]?=some false:=by
      rw [eb]
      cases b
      ·rfl
      ·exact absurd rfl z
     refine ⟨_,rfl,_,rfl,rfl,_,rfl,?_⟩;refine ite2 (fun z=>?_) (fun z=>?_)
     ·exact ⟨_,_,S,ps,hs,t,rfl,s2,B,d,tb,pv.weaken (fun k y=>⟨by
       have nk:k≠o:=fun e=>y.2.2 (by
        have:=V.int.inj (bC z)
        omega)
       omega,y.2⟩),hH,aa,U,G⟩
     ·have aG:o≠pl:=fun e=>z (bN (by rw [e]))
      refine ⟨_,rfl,_,rfl,Hd,_,rfl,.inl (SqL.of hH),_,rfl,?_⟩;try dsimp only
      rw [qg_];refine ⟨S,hs.length,o,M,ps,rowT (N+M) t,rfl,B,d,fun i _=>by rw [qu_];omega,pv.hl,hM,fun f h1 h2 h3=>?_,fun h0=>?_⟩
      ·rw [qZ_ (by omega)] at h3
       refine ⟨_,rfl,rfl,_,rfl,?_⟩;refine ite2 (fun _=>?_) (fun z=>absurd qgg_ z);refine ⟨_,rfl,_,rfl,_,rfl,Hd,_,rfl,.inl (SqL.of hH),_,rfl,?_⟩;try dsimp only
       rw [qg_];refine ⟨S,hs.length,f,M,ps,rowT (N+M) t,rfl,B,d,by omega,h2,hM,fun D5 H5 aw n5 s5 aH aF aA=>?_⟩
       refine ⟨_,rfl,Hd,_,rfl,.inl (SqL.of (s5 _ _ hH)),_,rfl,?_⟩;try dsimp only
       rw [qg_]
       have ap:=tb.swap (h:=hs.length) (f:=f) (by omega) h2
       have eT:GF.swapT t hs.length f hs.length o=t f o:=by unfold GF.swapT;rw [if_pos rfl]
       have aB:TabAt H5 aw M (rowT (N+M) (GF.swapT t hs.length f)):=aF.congr fun i _=>by
        unfold GF.swapT
        by_cases z1:i=hs.length
        ·rw [if_pos z1]
         exact y4_ fun k _=>by rw [if_pos z1]
        ·rw [if_neg z1]
         by_cases z2:i=f
         ·rw [if_pos z2]
          exact y4_ fun k _=>by rw [if_neg z1,if_pos z2]
         ·rw [if_neg z2]
          exact y4_ fun k _=>by rw [if_neg z1,if_neg z2]
       refine ⟨fp,D5,r,w,hs.length,o,M,N+M,aw,GF.swapT t hs.length f,rfl,hF.same (s2.trans s5),g.toGood,aH,aB,ap.lt,by omega,by omega,by omega,hM,by rw [eT];exact h3,fun D6 H6 ah n6 s6 aj J ad=>?_⟩
       rw [eT] at J
       have t3:t f o < 2 ^ w:=tb.lt f o h2 (by omega)
       have hc:=GF.pw_lt g.toGood t3 (2 ^ w - 1 - 1)
       have C:=GF.pw_back g (Nat.pos_of_ne_zero h3) t3
       have aK:GF.pw r w (t f o) (2 ^ w - 1 - 1)≠0:=fun z=>by
        rw [z,GF.tm_zero] at C;exact absurd C (by decide)
       have ay:=ap.clear g ak (h:=hs.length) (p:=o) (by omega) ho hc aK
       have an:=pv.step g tb (p:=o) ho h1 h2 hc C;generalize GF.clearT r w (GF.swapT t hs.length f) hs.length o (GF.pw r w (t f o) (2 ^ w - 1 - 1))=t6 at J ay an
       have ai:=s5 _ _ hH
       have ao:=s6 _ _ ai
       have ac:Hd∉ah:=fun z=>(ad Hd z).elim (fun y=>U (aA Hd y)) fun y=>by rw [ai] at y;cases y
       have au:D6≠Hd:=fun z=>by rw [z,ai] at n6;cases n6
       refine ⟨_,rfl,.inl ⟨rfl,_,SqL.of ao⟩,_,rfl,Hd,_,_,rfl,rfl,ao,?_,?_⟩
       ·rw [qg_]
        exact fi (by omega:hs.length < 8) (by decide)
       ·refine ⟨_,_,D6,ah,hs++[o],t6,rfl,(s2.trans (s5.trans s6)).up (s1.free nH),?_,J.upd ac,ay,an.weaken (fun k y=>?_),?_,au,ac,fun p hp=>?_⟩
        ·rw [qd_ au]
         exact aj
        ·by_cases z:k=o
         ·exact .inr z
         ·exact .inl ⟨by omega,y.2⟩
        ·rw [qc_,jE_]
        ·rcases bU.mp hp with y | y
         ·exact G p y
         ·rw [bS.mp y]
          exact ⟨aD,aG⟩
      ·refine ⟨_,rfl,rfl,_,rfl,?_⟩
       refine ite2 (fun z=>absurd z (by decide)) (fun _=>?_)
       refine ⟨_,_,S,ps,hs,t,rfl,s2,B,d,tb,(pv.skip (p:=o) fun i h1 h2=>?_).weaken (fun k y=>?_),hH,aa,U,G⟩
       ·rw [<- h0 i h1 h2,qZ_ (by omega)]
       ·by_cases z:k=o
        ·exact .inr z
        ·exact .inl ⟨by omega,y.2⟩
   ·rintro σ H' ⟨v6,v7,S,ps,hs,t,rfl,s2,B,d,tb,pv,hH,aa,U,G⟩
    refine ⟨_,rfl,_,rfl,Hd,_,rfl,.inl (SqL.of hH),_,rfl,?_⟩;try dsimp only
    rw [qg_]
    have as:=s2.seq hS
    have am:∀ p∈hs,p < N:=fun p hp=>by
     obtain ⟨j,hj⟩:=List.getElem?_of_mem hp;exact pv.lt j p hj
    refine ⟨S,hs.length,pl,M,ps,rowT (N+M) t,rfl,B,d,fun i _=>by rw [qu_];omega,pv.hl,hM,fun f h1 h2 h3=>?_,fun h0=>?_⟩
    ·rw [qZ_ (by omega)] at h3
     refine ⟨_,rfl,rfl,_,rfl,?_⟩;refine ite2 (fun z=>absurd (bC z) (fun y=>by cases y)) (fun _=>?_)
     refine ⟨_,rfl,_,rfl,_,rfl,_,rfl,?_⟩;refine ⟨fp,S,r,w,f,pl,M,N+M,ps,t,rfl,hF.same s2,g.toGood,B,d,tb.lt,by omega,by omega,h2,hM,h3,fun D6 H6 ah n6 s6 aj J ad=>?_⟩
     have t3:t f pl < 2 ^ w:=tb.lt f pl h2 (by omega)
     have C:=GF.pw_back g (Nat.pos_of_ne_zero h3) t3;generalize aQ:GF.pw r w (t f pl) (2 ^ w - 1 - 1)=c at J C;obtain ⟨p6,e6,aE⟩:=J.get h2;refine ⟨_,rfl,D6,_,_,_,rfl,rfl,SqL.of aj,qv_ (qO_ e6),_,rfl,kn,_,rfl,.inl (s6.seq as),_,rfl,p6,_,rfl,SqL.of aE,fun D7 n7=>?_⟩;rw [I,qk5_ (by rw [qu_];omega)]
     have az:=s2.trans (s6.trans (Same.new (o:=.lst (rowV ((rowT (N+M) (GF.clearT r w t f pl c) f).drop N))) n7));refine ⟨_,rfl,(show 2<=sizeLine by decide),fun D8 n8=>?_⟩
     have ab:=az.free n8;refine q1 D8 D7 ((rowT (N+M) (GF.clearT r w t f pl c) f).drop N) _ (az.trans (Same.new n8)) ab ((s2.trans s6).free n7) qc_ (by rw [qd_ (qh_ qc_ n8)];exact qc_) ?_
     have aI:∀ j,j < M->((rowT (N+M) (GF.clearT r w t f pl c) f).drop N).getD j 0=GF.tm r w (t f (N+j)) c:=fun j hj=>by
      rw [b7,List.getElem?_drop,← b7,qZ_ (by omega)]
      unfold GF.clearT;rw [if_pos rfl]
     have rk:=GF.reckoned_ok g tb ak pv h1 h2 X C;refine ⟨by rw [List.length_drop,qu_];omega,fun x hx=>?_,fun k hk e=>?_⟩
     ·have aC:=List.mem_of_mem_drop hx
      obtain ⟨k,hk,rfl⟩:=cG.mp aC
      have aL:=bQ.mp hk;unfold GF.clearT;rw [if_pos rfl];exact GF.tm_lt g.rule (tb.lt f k h2 aL)
     ·rw [GF.dot_congr M (b:=fun j=>l j k) (y:=fun j=>GF.tm r w (t f (N+j)) c) fun j hj=>⟨rfl,aI j hj⟩]
      by_cases z:k=pl
      ·rw [if_pos z,z]
       exact rk.1
      ·rw [if_neg z]
       exact rk.2 k hk ⟨hk,e,z⟩
    ·refine ⟨_,rfl,rfl,_,rfl,?_⟩
     refine ite2 (fun _=>?_) (fun z=>absurd rfl z);refine ⟨_,rfl,_,rfl,_,rfl,kn,_,rfl,.inl as,_,rfl,?_⟩;try dsimp only
     rw [I];refine ⟨S,Hd,N,pl,M,N+M,ps,hs,t,rfl,B,d,hH,pv.hl,X,by omega,by omega,hM,am,fun D7 H7 n7 s7 h7=>?_⟩
     refine ⟨(show 2<=sizeLine by decide),fun D8 n8=>?_⟩
     have ab:=(s2.trans s7).free n8
     have ae:∀ s,s < hs.length->hs.getD s 0∈hs:=fun s Y=>bO (GF.getD_at Y)
     have av:∀ s,s < hs.length->hs.getD s 0≠pl:=fun s Y=>(G _ (ae s Y)).2
     have hz:∀ i,hs.length<=i->i < M->t i pl=0:=fun i h1 h2=>by
      rw [<- h0 i h1 h2,qZ_ (by omega)]
     have fr:=GF.free_ok g tb pv X av hz
     have gx:∀ k,k < N->((List.range N).map (GF.makeX t hs pl hs.length)).getD k 0=GF.makeX t hs pl hs.length k:=fun k hk=>by
      rw [b7,bE,cb hk];rfl
     refine q2 D8 D7 ((List.range N).map (GF.makeX t hs pl hs.length)) _ ((s2.trans s7).trans (Same.new n8)) ab (s2.free n7) qc_ (by rw [qd_ (qh_ h7 n8)];exact h7) ⟨by rw [b9,bI],fun x hx=>?_,?_,fun k hk e=>?_,fun j hj=>?_⟩
     ·obtain ⟨k,hk,rfl⟩:=cG.mp hx
      exact GF.makeX_lt g tb pv X k _ (bF _)
     ·rw [gx pl X]
      exact GF.makeX_place _ (bF _) av
     ·rw [gx k hk]
      refine GF.makeX_none (fun z=>?_) _ (bF _) fun s Y z=>?_
      ·rw [z,ax] at e
       exact absurd (bM e) (by decide)
      ·have:=(G _ (ae s Y)).1
       rw [z,e] at this;exact absurd (bM this) (by decide)
     ·exact (GF.dot_congr N fun k hk=>⟨rfl,gx k hk⟩).trans (fr j hj)
theorem za_ {n i:Nat}{row:List Nat} (h:∀ x∈row,x < n) (hi:i < row.length):row.getD i 0 < n:=by
 rw [b7,b8 hi];exact h _ (cR hi)
inductive qcn_ (vs:List V) (H:Hp) (Q:VK) (E_3:XK):Prop
 | mk:∀ (L:Addr) (ps:List Addr) (M N:Nat) (l:Nat->Nat->Nat),vs=[.ref L]->H L=some (.lst (ps.map V.ref))->TabAt H ps M (rowT N l)->1<=M->M<=2->1<=N->N+M<=8->Q .non H->qcn_ vs H Q E_3
theorem uK_ (T:Txt K mg a):FnO P wo K mg base 1 a.f19 ["weights"] qcn_:=by
 refine T.x19.F.okA (k:=0) sc_check_lengths (fun r A outer s H vs Q E hr h=>?_)
 ·obtain ⟨L,ps,M,N,l,rfl,hL,ht,h1,h2,h3,h4,q⟩:=h
  have el:(ps.map V.ref).length=M:=by rw [b9,ht.len]
  have er:∀ i,(rowV (rowT N l i)).length=N:=fun i=>by rw [qg_,qu_]
  obtain ⟨d,e0,g⟩:=ht.get (i:=0) (by omega)
  refine xx ?_;intro X_;refine xq ?_;refine xi (PW.pt (jR_ (qn_ yl_ (qs_ qr_ rfl T.n_len ci (qa_ (pv 0) qb_)) qf_ (qp_ _)) (jL_ (qn_ j3_ (qs_ qr_ rfl T.n_len ci (qa_ (pv 0) qb_)) (zJ_ (v:=.int 2) rfl T.v_MOST_SUMS ⟨_,rfl⟩) (qp_ _))))) ?_;refine xl q3_ ?_;intro u_;refine ⟨_,qw_,?_⟩;intro u_;refine xc (qi_ (i:=1) sc_check_lengths.nd rfl (Or.inl rfl) (qs_ qr_ rfl T.n_len ci (qa_ (qy_ qz_ (pv 0) qf_ (fun _ _=>rfl)) qb_))) ?_;intro u_;refine xq ?_;refine xi (PW.pt (jR_ (qn_ yl_ (pv 1) qf_ (qp_ _)) (jL_ (qn_ j3_ (qm_ qE_ (pv 1) (qs_ qr_ rfl T.n_len ci (qa_ (pv 0) qb_))) (zJ_ (v:=.int 8) rfl T.v_MOST_ROLES ⟨_,rfl⟩) (qp_ _))))) ?_;refine xl q3_ ?_;intro u_;refine ⟨_,qw_,?_⟩;intro u_;refine x1 ?_;refine xf PassesOwn.never rfl (qB_ (pv 0)) (ql_ (i:=2) sc_check_lengths.nd rfl (Or.inl rfl)) ?_;refine x1 ?_;refine xi (qn_ zq_ (qs_ qr_ rfl T.n_len ci (qa_ (pv 2) qb_)) (pv 1) (qp_ _)) ?_;refine xl q3_ ?_;intro u_;refine ⟨_,qw_,?_⟩;intro u_;intro u_;refine ⟨_,rfl,L,_,rfl,.inl (SqL.of hL),_,_,rfl,rfl,_,rfl,?_⟩;refine ite2 (fun y=>absurd (bC y) (by rw [el];omega)) (fun _=>?_)
  refine ⟨_,rfl,L,_,rfl,.inl (SqL.of hL),_,_,rfl,rfl,_,rfl,?_⟩;refine ite2 (fun y=>absurd (bC y) (by rw [el];omega)) (fun _=>?_)
  refine ⟨_,rfl,L,_,_,_,rfl,rfl,SqL.of hL,qv_ (j:=0) (qO_ e0),d,_,rfl,.inl (SqL.of g),?_⟩;try dsimp only
  rw [er 0];refine ⟨_,rfl,_,_,rfl,rfl,_,rfl,?_⟩;refine ite2 (fun y=>absurd (bC y) (by omega)) (fun _=>?_)
  refine ⟨_,rfl,_,rfl,L,_,rfl,.inl (SqL.of hL),_,_,rfl,rfl,_,_,rfl,rfl,_,rfl,?_⟩;refine ite2 (fun y=>absurd (bC y) (by rw [el];omega)) (fun _=>?_)
  refine ⟨_,rfl,L,rfl,⟨_,SqL.of hL⟩,let I_:Nat->L2.St->Hp->Prop:=fun i σ H'=>L2.A2 ((∃ v2:Option V,σ=[some (.ref L),some (.int (N:Nat)),v2])) (H'=H);ji_ (K:=K) (a:=L) (xs:=ps.map V.ref) I_ ⟨⟨none,rfl⟩,rfl⟩ ?_ ?_ ?_⟩
  ·rintro i σ H' _ ⟨_,rfl⟩
   exact SqL.of hL
  ·rintro i v σ H' hv ⟨⟨v2,rfl⟩,rfl⟩
   have hi:i < M:=by rw [<- el];exact (bK.mp hv).1
   obtain ⟨p,ep,hp⟩:=ht.get hi;rw [qO_ ep] at hv
   cases bM hv;refine ⟨_,rfl,p,_,rfl,.inl (SqL.of hp),_,rfl,rfl,_,rfl,?_⟩;refine ite2 (fun y=>absurd y (qk4_ (by rw [er]))) (fun _=>⟨⟨_,rfl⟩,rfl⟩)
  ·rintro σ H' ⟨⟨v2,rfl⟩,rfl⟩
   exact q
inductive qco_ (a:Adr) (vs:List V) (H:Hp) (Q:VK) (E_3:XK):Prop
 | mk:∀ (fp L:Addr) (r w:Nat) (ps:List Addr) (M N:Nat) (l:Nat->Nat->Nat),vs=[.ref fp,.ref L]->FieldAt a.C_Field H fp r w->GF.Good r w->H L=some (.lst (ps.map V.ref))->TabAt H ps M (rowT N l)->((∀ i k,i < M->k < N->l i k < 2 ^ w))->1<=M->M<=2->1<=N->N<=8->((∀ i,i < M->∃ k,k < N/\l i k≠0))->((∀ k,k < N->∃ i,i < M/\l i k≠0))->(∀ H',Same H H'->Q .non H')->qco_ a vs H Q E_3
theorem qhu_ {row:List Nat}{k:Nat} (hk:k < row.length) (h:row.getD k 0≠0):((row.map fun n:Nat=>(n:Int)).any fun i=>i != 0)=true:=by
 rw [eZ];refine ⟨((row.getD k 0:Nat):Int),cG.mpr ⟨row.getD k 0,?_,rfl⟩,?_⟩
 ·rw [b7,b8 hk]
  exact cR hk
 ·simp only [bne_iff_ne,ne_eq]
  omega
theorem qlb_ (row:List Nat):rowV row=(row.map fun n:Nat=>(n:Int)).map V.int:=by
 unfold rowV;rw [cq];rfl
theorem uL_ (T:Txt K mg a):FnO P wo K mg base 1 a.f20 ["field", "weights"] (qco_ a):=by
 refine T.x20.F.okA (k:=0) sc_check_weights (fun U A outer s H vs Q E hr h=>?_)
 ·obtain ⟨fp,L,r,w,ps,M,N,l,rfl,hF,g,hL,ht,O,h1,h2,h3,h4,B,C,q⟩:=h
  obtain ⟨dF,I⟩:=id hF
  have S:=g.top16
  have el:(ps.map V.ref).length=M:=by rw [b9,ht.len]
  have er:∀ i,(rowV (rowT N l i)).length=N:=fun i=>by rw [qg_,qu_]
  obtain ⟨G,e0,J⟩:=ht.get (i:=0) (by omega)
  refine xx ?_;intro X_;refine xq ?_;refine xf PassesOwn.never rfl (qB_ (pv 1)) (ql_ (i:=2) sc_check_weights.nd rfl (Or.inl rfl)) ?_;refine xq ?_;refine xf PassesOwn.never rfl (qB_ (pv 2)) (ql_ (i:=3) sc_check_weights.nd rfl (Or.inl rfl)) ?_;refine x1 ?_;refine xi (PW.pt (jR_ (qn_ yl_ (pv 3) qf_ (qp_ _)) (jL_ (qn_ j3_ (pv 3) (qt_ (pv 0) rfl) (qp_ _))))) ?_;refine xl q3_ ?_;intro u_;refine ⟨_,qw_,?_⟩;intro u_;intro u_;refine x1 ?_;refine xi (j9_ (q6_ (qs_ (qb8_ rfl) rfl T.n_any boot_any (qa_ (pv 2) qb_)))) ?_;refine xl q3_ ?_;intro u_;refine ⟨_,qw_,?_⟩;intro u_;intro u_;refine x1 ?_;refine xf PassesOwn.never rfl (qL_ rfl T.n_range (qa_ (qs_ qr_ rfl T.n_len ci (qa_ (qy_ qz_ (pv 1) qf_ (fun _ _=>rfl)) qb_)) qb_)) (ql_ (i:=4) sc_check_weights.nd rfl (Or.inr rfl)) ?_;refine x1 ?_
  refine xi (j9_ (q6_ (qs_ (qb8_ rfl) rfl T.n_any boot_any (qa_ (qJ_ (CompOk.of (cap:=[4]) (own:=["some"]) (by kernel_rfl)) rfl (qB_ (pv 1)) (fun _ _ _ _ _=>(ql_ (i:=1) (bC (by kernel_rfl)) rfl (Or.inl rfl))) (fun _ _ _ _ _=>qI_) (fun _ _ _ _ _=>by exact (qy_ (q9_ (K:=K) rfl) (pv 1) (pv 0) (fun _ _=>rfl)))) qb_)))) ?_
  refine xl q3_ ?_;intro u_;refine ⟨_,qw_,?_⟩;intro u_;intro u_;refine ⟨_,rfl,L,rfl,⟨_,SqL.of hL⟩,let I_:Nat->L2.St->Hp->Prop:=fun i σ H'=>L2.A2 ((∃ v2 v3 v4:Option V,σ=[some (.ref fp),some (.ref L),v2,v3,v4])) (H'=H);ji_ (K:=K) (a:=L) (xs:=ps.map V.ref) I_ ⟨⟨none,none,none,rfl⟩,rfl⟩ ?_ ?_ ?_⟩
  ·rintro i σ H' _ ⟨_,rfl⟩
   exact SqL.of hL
  ·rintro i v σ H' hv ⟨⟨v2,v3,v4,rfl⟩,rfl⟩
   have hi:i < M:=by rw [<- el];exact (bK.mp hv).1
   obtain ⟨p,ep,hp⟩:=ht.get hi;rw [qO_ ep] at hv
   cases bM hv;refine ⟨_,rfl,p,rfl,⟨_,SqL.of hp⟩,let I_:Nat->L2.St->Hp->Prop:=fun j σ d=>L2.A2 ((∃ v3:Option V,σ=[some (.ref fp),some (.ref L),some (.ref p),v3,v4])) (d=H');ji_ (K:=K) (a:=p) (xs:=rowV (rowT N l i)) I_ ⟨⟨_,rfl⟩,rfl⟩ ?_ ?_ ?_⟩
   ·rintro j σ d _ ⟨_,rfl⟩
    exact SqL.of hp
   ·rintro j u σ d hu ⟨⟨v3,rfl⟩,rfl⟩
    obtain ⟨y,ey,rfl⟩:=qN_ hu
    have hy:y < 2 ^ w:=y9_ (fun k hk=>O i k hi hk) y (bO ey);refine ⟨_,rfl,_,_,rfl,rfl,_,rfl,?_⟩;refine ite2 (fun y=>absurd (bC y) (by omega)) (fun _=>?_)
    refine ⟨_,rfl,_,rfl,fp,_,_,_,_,rfl,I,T.cl_Field,T.no_Field_last,yw_ r w,_,_,rfl,rfl,_,rfl,?_⟩;refine ite2 (fun z=>absurd (bC z) (by omega)) (fun _=>⟨⟨_,rfl⟩,rfl⟩)
   ·rintro σ d ⟨⟨v3,rfl⟩,rfl⟩
    obtain ⟨k,hk,hz⟩:=B i hi;refine ⟨_,rfl,p,_,rfl,(by rw [<- qlb_];exact SqL.of hp),_,rfl,?_⟩
    rw [qhu_ (k:=k) (by rw [qu_];exact hk) (by rw [qZ_ hk];exact hz)]
    refine ite2 (fun z=>absurd z (by decide)) (fun _=>⟨⟨_,_,_,rfl⟩,rfl⟩)
  ·rintro σ H' ⟨⟨v2,v3,v4,rfl⟩,rfl⟩
   refine ⟨_,rfl,L,_,_,_,rfl,rfl,SqL.of hL,qv_ (j:=0) (qO_ e0),G,_,rfl,.inl (SqL.of J),_,rfl,by rw [er];omega,by rw [er];omega,?_⟩
   have en:(((rowV (rowT N l 0)).length:Nat):Int).toNat=N:=by rw [er];omega
   rw [en];refine let I_:Nat->L2.St->Hp->Prop:=fun i σ d=>L2.A2 ((∃ v2 v3 v4:Option V,σ=[some (.ref fp),some (.ref L),v2,v3,v4])) (Same H' d);jq_ (lo:=0) (n:=N) I_ ⟨⟨_,_,_,rfl⟩,Same.refl _⟩ ?_ ?_
   ·rintro k σ d hk ⟨⟨v2,v3,v4,rfl⟩,s1⟩
    have ek:(0:Int)+(k:Nat)=((k:Nat):Int):=by omega
    rw [ek];refine ⟨_,rfl,L,rfl,⟨_,SqL.of (s1 _ _ hL)⟩,fun D nD=>?_⟩;refine js_ (xs:=ps.map V.ref) (f:=fun i=>.int ((l i k:Nat):Int)) (cs:=[some (.int (k:Nat))]) (SqL.of (s1 _ _ hL)) nD rfl (by rw [el];exact bG h2 (by decide)) (fun i u H2 R2 hu s2 hR=>?_) (fun H2 s2 hD=>?_)
    ·have hi:i < M:=by rw [<- el];exact (bK.mp hu).1
     obtain ⟨p,ep,hp⟩:=ht.get hi;rw [qO_ ep] at hu
     cases bM hu
     have gi:=qv_ (je_ (row:=rowT N l i) (i:=k) (by rw [qu_];exact hk))
     rw [qZ_ hk] at gi;exact ⟨_,rfl,_,rfl,p,_,_,_,rfl,rfl,SqL.of ((s1.trans s2) _ _ hp),gi,hR _ (Same.refl _)⟩
    ·rw [el] at hD
     have e:((List.range M).map fun i=>V.int ((l i k:Nat):Int))=(((List.range M).map fun i=>l i k).map fun n:Nat=>(n:Int)).map V.int:=by
      rw [cq,cq];rfl
     rw [e] at hD;obtain ⟨i,hi,hz⟩:=C k hk;refine ⟨D,_,rfl,SqL.of hD,_,rfl,?_⟩
     have gd:((List.range M).map fun i=>l i k).getD i 0=l i k:=by
      rw [b7,bE,cb hi];rfl
     rw [qhu_ (k:=i) (by rw [b9,bI];exact hi) (by rw [gd];exact hz)]
     refine ite2 (fun z=>absurd z (by decide)) (fun _=>⟨⟨_,_,_,rfl⟩,s1.trans s2⟩)
   ·rintro σ d ⟨⟨v2,v3,v4,rfl⟩,s1⟩
    exact q _ s1
def eqn (N:Nat) (l:Nat->Nat->Nat) (t k:Nat):Nat:=if k < N then l t k else if k - N=t then 1 else 0
theorem qhv_ (N M:Nat) (l:Nat->Nat->Nat) (t:Nat):rowT (N+M) (eqn N l) t=rowT N l t++(List.range M).map fun j=>if j=t then 1 else 0:=by
 unfold rowT;rw [List.range_add,cK,cq]
 congr 1
 ·exact d9 fun k hk=>by
   unfold eqn;rw [if_pos (bQ.mp hk)]
 ·exact d9 fun k hk=>by
   show eqn N l t (N+k)=_
   unfold eqn;rw [if_neg (by omega),fe]
inductive vN_ (K:PySem.W.Frag) (vs:List V) (H:Hp) (Q:VK) (E_3:XK):Prop
 | mk:∀ (L:Addr) (ps:List Addr) (M N t:Nat) (l:Nat->Nat->Nat),vs=[.ref L,.int t]->H L=some (.lst (ps.map V.ref))->TabAt H ps M (rowT N l)->t < M->N+M<=8->(∀ D H',H D=none->Same H H'->H' D=some (.lst (rowV (rowT (N+M) (eqn N l) t)))->Q (.ref D) H')->vN_ K vs H Q E_3
theorem qbg_ (T:Txt K mg a):FnO P wo K mg base 1 a.f21 ["weights", "total"] (vN_ K):=by
 refine T.x21.F.okA (k:=0) sc_equation_of (fun r A outer s H vs Q E hr h=>?_)
 ·obtain ⟨L,ps,M,N,t,l,rfl,hL,ht,g,h8,q⟩:=h
  have el:(ps.map V.ref).length=M:=by rw [b9,ht.len]
  obtain ⟨p,ep,hp⟩:=ht.get g;refine xx ?_;intro X_;refine xc (qi_ (i:=2) sc_equation_of.nd rfl (Or.inl rfl) (jB_ jz_ rfl T.n_list (by decide +kernel) (qa_ (qy_ qz_ (pv 0) (pv 1) (fun _ _=>rfl)) qb_))) ?_
  intro u_;refine xq ?_;refine xf PassesOwn.never rfl (qL_ rfl T.n_range (qa_ (qs_ qr_ rfl T.n_len ci (qa_ (pv 0) qb_)) qb_)) (ql_ (i:=3) sc_equation_of.nd rfl (Or.inl rfl)) ?_;refine xl (qV_ (jF_ cB cD cE qQ_ (pv 2) (qa_ (uw_ (qn_ jx_ (pv 3) (pv 1) (qp_ _)) qf_ qf_) qb_))) ?_;intro u_;intro u_;refine xl (qo_ (pv 2)) ?_;intro u_;refine ⟨_,rfl,_,rfl,L,_,_,_,rfl,rfl,SqL.of hL,qv_ (qO_ ep),p,_,rfl,.inl (SqL.of hp),fun D nD=>?_⟩
  have sD:=Same.new (o:=.lst (rowV (rowT N l t))) nD
  have hD:(upd H D (.lst (rowV (rowT N l t)))) D=some (.lst (rowV (rowT N l t))):=qc_;generalize (upd H D (.lst (rowV (rowT N l t))))=H1 at sD hD;refine ⟨_,rfl,L,_,rfl,.inl (SqL.of (sD _ _ hL)),_,rfl,by rw [el];omega,by rw [el];omega,?_⟩
  have en:(((ps.map V.ref).length:Nat):Int).toNat=M:=by rw [el];omega
  rw [en];refine let I_:Nat->L2.St->Hp->Prop:=fun j σ H'=>L2.A3 ((∃ v3:Option V,σ=[some (.ref L),some (.int t),some (.ref D),v3])) (Same H H') (H' D=some (.lst (rowV (rowT N l t++(List.range j).map fun j=>if j=t then 1 else 0))));jq_ (lo:=0) (n:=M) I_ ⟨⟨none,rfl⟩,sD,by rw [hD];simp⟩ ?_ ?_
  ·rintro j σ H' hj ⟨⟨v3,rfl⟩,s1,h1⟩
   have ej:(0:Int)+(j:Nat)=((j:Nat):Int):=by omega
   rw [ej]
   have d:(rowV (rowT N l t++(List.range j).map fun j=>if j=t then 1 else 0)).length < sizeLine:=by
    rw [qg_,cg,qu_,b9,bI];exact fi (by omega:N+j < 9) (by decide)
   have er:rowV (rowT N l t++(List.range (j+1)).map fun j=>if j=t then 1 else 0)=rowV (rowT N l t++(List.range j).map fun j=>if j=t then 1 else 0)++[.int ((if j=t then 1 else 0:Nat):Int)]:=by
    rw [di,cK,← eI,← yH_];rfl
   refine ⟨_,rfl,.inl ⟨rfl,_,SqL.of h1⟩,_,rfl,_,rfl,rfl,_,rfl,?_⟩
   by_cases z:j=t
   ·refine ite2 (fun _=>?_) (fun y=>absurd (bN (by rw [z])) y)
    rw [if_pos z] at er;exact ⟨D,_,_,rfl,rfl,h1,d,⟨_,rfl⟩,s1.up nD,by rw [qc_,er];rfl⟩
   ·refine ite2 (fun y=>absurd (V.int.inj (bC y)) (by omega)) (fun _=>?_)
    rw [if_neg z] at er;exact ⟨D,_,_,rfl,rfl,h1,d,⟨_,rfl⟩,s1.up nD,by rw [qc_,er];rfl⟩
  ·rintro σ H' ⟨⟨v3,rfl⟩,s1,h1⟩
   refine ⟨_,rfl,q D H' nD s1 ?_⟩;rw [h1,qhv_]
def cf (bp:Addr) (M N:Nat) (Lp:Addr):List (Str × V):=[("blocks",.ref bp),("sums",.int M),("data",.int N),("roles",.int ((N+M:Nat):Int)),("lines",.ref Lp)]
theorem yR_ (bp:Addr) (M N:Nat) (Lp:Addr):(cf bp M N Lp).lookup ("blocks" : Str)=some (.ref bp):=rfl
theorem zT_ (bp:Addr) (M N:Nat) (Lp:Addr):(cf bp M N Lp).lookup ("sums" : Str)=some (.int M):=rfl
theorem yA_ (bp:Addr) (M N:Nat) (Lp:Addr):(cf bp M N Lp).lookup ("data" : Str)=some (.int N):=rfl
theorem zj_ (bp:Addr) (M N:Nat) (Lp:Addr):(cf bp M N Lp).lookup ("roles" : Str)=some (.int ((N+M:Nat):Int)):=rfl
theorem z3_ (bp:Addr) (M N:Nat) (Lp:Addr):(cf bp M N Lp).lookup ("lines" : Str)=some (.ref Lp):=rfl
structure Wts (w M N:Nat) (l:Nat->Nat->Nat):Prop where
 m1:1<=M
 m2:M<=2
 n1:1<=N
 n8:N+M<=8
 lt:∀ i k,i < M->k < N->l i k < 2 ^ w
 row:∀ i,i < M->∃ k,k < N/\l i k≠0
 col:∀ k,k < N->∃ i,i < M/\l i k≠0
theorem zk_ {w M N:Nat}{l:Nat->Nat->Nat} (W:Wts w M N l) (t16:16<=2 ^ w):∀ i k,i < M->k < N+M->eqn N l i k < 2 ^ w:=fun i k hi hk=>by
 unfold eqn
 split
 ·exact W.lt i k hi (by assumption)
 ·split <;> omega
structure CodeAt (a:Adr) (H:Hp) (c bp fp:Addr) (r w n M N:Nat) (l:Nat->Nat->Nat):Prop where
 ins:∃ dx Lp qs,H c=some (.ins a.C_Code dx (cf bp M N Lp))/\H Lp=some (.lst (qs.map V.ref))/\TabAt H qs M (rowT (N+M) (eqn N l))
 blk:BlocksAt a H bp fp r w n
theorem CodeAt.same {a:Adr}{H H':Hp}{c bp fp:Addr}{r w n M N:Nat}{l:Nat->Nat->Nat} (h:CodeAt a H c bp fp r w n M N l) (s:Same H H'):CodeAt a H' c bp fp r w n M N l :=
 let ⟨dx,Lp,qs,h1,h2,h3⟩:=h.ins
 ⟨⟨dx,Lp,qs,s _ _ h1,s _ _ h2,h3.same s⟩,h.blk.same s⟩
inductive qal_ (a:Adr) (vs:List V) (H:Hp) (Q:VK) (E_3:XK):Prop
 | mk:∀ (c dx bp fp L:Addr) (r w n M N:Nat) (ps:List Addr) (l:Nat->Nat->Nat),vs=[.ref c,.ref bp,.ref L]->H c=some (.ins a.C_Code dx [])->BlocksAt a H bp fp r w n->GF.Good r w->H L=some (.lst (ps.map V.ref))->TabAt H ps M (rowT N l)->Wts w M N l->(∀ H',(∀ b o,b≠c->H b=some o->H' b=some o)->CodeAt a H' c bp fp r w n M N l->Q .non H')->qal_ a vs H Q E_3
theorem qe4_ (T:Txt K mg a):FnO P wo K mg base 2 a.f22 ["self", "blocks", "weights"] (qal_ a):=by
 refine T.x22.F.okA (k:=1) qes_ (fun ae A outer s H vs Q E hr h=>?_)
 ·obtain ⟨c,dx,bp,fp,L,r,w,n,M,N,ps,l,rfl,hc,hB,g,hL,ht,W,q⟩:=h
  obtain ⟨dB,C⟩:=hB.ins
  have el:(ps.map V.ref).length=M:=by rw [b9,ht.len]
  have er:∀ i,(rowV (rowT N l i)).length=N:=fun i=>by rw [qg_,qu_]
  obtain ⟨Y,e0,aa⟩:=ht.get (i:=0) W.m1
  have n8:=W.n8;refine xx ?_;intro X_;refine xc (qV_ (qq_ (uK_ T) hr.u rfl T.x19.m T.x19.k T.x19.b .nil qj_ (qa_ (pv 2) qb_))) ?_;intro u_;refine xc (qV_ (qq_ (uL_ T) hr.u rfl T.x20.m T.x20.k T.x20.b .nil qj_ (qa_ (qt_ (pv 1) rfl) (qa_ (pv 2) qb_)))) ?_;intro u_;refine xc (jd_ (pv 0) (pv 1) rfl) ?_;intro u_;refine xc (jd_ (pv 0) (qs_ qr_ rfl T.n_len ci (qa_ (pv 2) qb_)) rfl) ?_;intro u_;refine xc (jd_ (pv 0) (qs_ qr_ rfl T.n_len ci (qa_ (qy_ qz_ (pv 2) qf_ (fun _ _=>rfl)) qb_)) rfl) ?_;intro u_;refine xc (jd_ (pv 0) (qm_ qE_ (qt_ (pv 0) rfl) (qt_ (pv 0) rfl)) rfl) ?_;intro u_
  refine xl (jd_ (pv 0) (qJ_ (CompOk.of (cap:=[2]) (own:=["total"]) (by kernel_rfl)) rfl (qL_ rfl T.n_range (qa_ (qt_ (pv 0) rfl) qb_)) (fun _ _ _ _ _=>(ql_ (i:=1) (bC (by kernel_rfl)) rfl (Or.inl rfl))) (fun _ _ _ _ _=>qI_) (fun _ _ _ _ _=>by exact (qq_ (qbg_ T) hr.u rfl T.x21.m T.x21.k T.x21.b .nil qj_ (qa_ (pv 0) (qa_ (pv 1) qb_))))) rfl) ?_
  intro u_;refine ⟨_,rfl,L,ps,M,N,l,rfl,hL,ht,W.m1,W.m2,W.n1,W.n8,?_⟩;refine ⟨_,rfl,bp,_,_,_,_,rfl,C,T.cl_Blocks,T.no_Blocks_field,yy_ fp w n,_,rfl,fp,L,r,w,ps,M,N,l,rfl,hB.fld,g,hL,ht,W.lt,W.m1,W.m2,W.n1,by omega,W.row,W.col,fun H1 s1=>?_⟩
  have ab:=s1 _ _ hc
  have S:bp≠c:=fun z=>by
   rw [z,hc] at C
   have:=(HO.ins.inj (bM C)).2.2;unfold bf at this
   cases this
  obtain ⟨dF,I⟩:=hB.fld
  have O:fp≠c:=fun z=>by
   rw [z,hc] at I
   have:=(HO.ins.inj (bM I)).2.2;unfold ff at this
   cases this
  have G:L≠c:=fun z=>by rw [z,hc] at hL;cases hL
  have J:∀ (i:Nat) p,ps[i]?=some p->p≠c:=fun i p e z=>by
   have:=ht.on i p e;rw [z,hc] at this
   cases this
  refine ⟨_,rfl,_,rfl,c,a.C_Code,dx,_,rfl,ab,T.cl_Code,T.no_Code_blocks,(by decide),?_⟩
  refine ⟨_,rfl,L,_,rfl,.inl (SqL.of (by rw [qd_ G];exact s1 _ _ hL)),_,rfl,c,a.C_Code,dx,_,rfl,qc_,T.cl_Code,T.no_Code_sums,(by show (1:Nat) < 1000;decide),?_⟩
  refine ⟨_,rfl,L,_,_,_,rfl,rfl,SqL.of (by rw [qd_ G,qd_ G];exact s1 _ _ hL),qv_ (j:=0) (qO_ e0),Y,_,rfl,.inl (SqL.of (by rw [qd_ (J 0 _ e0),qd_ (J 0 _ e0)];exact s1 _ _ aa)),_,rfl,c,a.C_Code,dx,_,rfl,qc_,T.cl_Code,T.no_Code_data,(by show (2:Nat) < 1000;decide),?_⟩
  refine ⟨_,rfl,c,_,_,_,_,rfl,qc_,T.cl_Code,T.no_Code_data,rfl,_,rfl,c,_,_,_,_,rfl,qc_,T.cl_Code,T.no_Code_sums,rfl,_,_,rfl,rfl,_,rfl,c,a.C_Code,dx,_,rfl,qc_,T.cl_Code,T.no_Code_roles,(by show (3:Nat) < 1000;decide),?_⟩
  dsimp only;rw [q8_,q8_,q8_,el,er]
  have ef:putF "roles" (.int ((N:Int)+(M:Int))) (putF "data" (.int (N:Int)) (putF "sums" (.int (M:Int)) (putF "blocks" (.ref bp) [])))=[(("blocks" : Str),V.ref bp),(("sums" : Str),V.int M),(("data" : Str),V.int N),(("roles" : Str),V.int ((N+M:Nat):Int))]:=by
   rw [Int.natCast_add];rfl
  rw [ef]
  have d:(upd H1 c (.ins a.C_Code dx [(("blocks" : Str),V.ref bp),(("sums" : Str),V.int M),(("data" : Str),V.int N),(("roles" : Str),V.int ((N+M:Nat):Int))])) c=some (.ins a.C_Code dx [(("blocks" : Str),V.ref bp),(("sums" : Str),V.int M),(("data" : Str),V.int N),(("roles" : Str),V.int ((N+M:Nat):Int))]):=qc_
  have k2:∀ b o,b≠c→H b=some o→(upd H1 c (.ins a.C_Code dx [(("blocks" : Str),V.ref bp),(("sums" : Str),V.int M),(("data" : Str),V.int N),(("roles" : Str),V.int ((N+M:Nat):Int))])) b=some o:=fun b o z e=>by rw [qd_ z];exact s1 _ _ e
  generalize (upd H1 c (.ins a.C_Code dx [(("blocks" : Str),V.ref bp),(("sums" : Str),V.int M),(("data" : Str),V.int N),(("roles" : Str),V.int ((N+M:Nat):Int))]))=H2 at d k2
  have ac:=k2 _ _ G hL
  have U:TabAt H2 ps M (rowT N l):=⟨ht.len,fun i p e=>k2 _ _ (J i p e) (ht.on i p e)⟩;refine ⟨_,rfl,c,_,_,_,_,rfl,d,T.cl_Code,T.no_Code_sums,rfl,_,rfl,by omega,by omega,fun D nD=>?_⟩
  rw [cx];refine qit_ (n:=M) (row:=fun i=>rowV (rowT (N+M) (eqn N l) i)) (cs:=[some (.ref L)]) nD rfl (bG (by omega:M<=8) (by decide)) (fun i H3 R3 hi s3 hR=>?_) (fun qs H3 s3 hD B hf ad=>?_)
  ·exact ⟨_,rfl,_,rfl,L,ps,M,N,i,l,rfl,s3 _ _ ac,U.same s3,hi,W.n8,fun D4 H4 n4 s4 h4=>hR D4 H4 n4 s4 h4⟩
  ·have Z:D≠c:=fun z=>by rw [z,d] at nD;cases nD
   have X:∀ (i:Nat) p,qs[i]?=some p->p≠c:=fun i p e z=>by
    have:=hf p (bO e);rw [z,d] at this
    cases this
   refine ⟨_,rfl,c,a.C_Code,dx,_,rfl,s3 _ _ d,T.cl_Code,T.no_Code_lines,(by show (4:Nat) < 1000;decide),?_⟩
   refine q _ (fun b o z e=>?_) ⟨⟨dx,D,qs,qc_,?_,⟨B.len,fun i p e=>?_⟩⟩,⟨⟨dB,?_⟩,⟨dF,?_⟩⟩⟩
   ·rw [qd_ z]
    exact s3 _ _ (k2 b o z e)
   ·rw [qd_ Z]
    exact hD
   ·rw [qd_ (X i p e)]
    exact B.on i p e
   ·rw [qd_ S]
    exact s3 _ _ (k2 _ _ S C)
   ·rw [qd_ O]
    exact s3 _ _ (k2 _ _ O I)
def j7_ (r w n M N:Nat) (l:Nat->Nat->Nat) (bs:List Nat):List Nat:=bs++(List.range M).map fun t=>GF.sumB r w n ((rowT N l t).zip bs)
def isMk (r w n M N:Nat) (l:Nat->Nat->Nat) (bs:List Nat):Bool:=(List.range M).all fun t=>decide (GF.sumB r w n ((rowT (N+M) (eqn N l) t).zip bs)=0)
def valO:Option Nat->V
 | some b=>.int (b:Nat)
 | none=>.non
def rowO (os:List (Option Nat)):List V:=os.map valO
theorem qK_ (os:List (Option Nat)):(rowO os).length=os.length:=by unfold rowO;rw [b9]
theorem qS_ {os:List (Option Nat)}{k:Nat}{o:Option Nat} (h:os[k]?=some o):(rowO os)[k]?=some (valO o):=by
 unfold rowO;rw [bE,h];rfl
inductive us_ (a:Adr) (vs:List V) (H:Hp) (Q:VK) (E_3:XK):Prop
 | mk:∀ (c bp fp:Addr) (r w n M N k:Nat) (l:Nat->Nat->Nat),vs=[.ref c,.int k]->CodeAt a H c bp fp r w n M N l->k < N+M->Q .non H->us_ a vs H Q E_3
theorem yS_ (T:Txt K mg a):FnO P wo K mg base 1 a.f24 ["self", "role"] (us_ a):=by
 refine T.x24.F.okA (k:=0) vH_ (fun d A outer s H vs Q E hr h=>?_)
 ·obtain ⟨c,bp,fp,r,w,n,M,N,k,l,rfl,hC,hk,q⟩:=h
  obtain ⟨dx,Lp,qs,h1,_,_⟩:=hC.ins;refine xx ?_;intro X_;refine x1 ?_;refine xi (PW.pt (jR_ (qn_ yl_ (pv 1) qf_ (qp_ _)) (jL_ (qn_ uW_ (pv 1) (qt_ (pv 0) rfl) (qp_ _))))) ?_;refine xl q3_ ?_;intro u_;refine ⟨_,qw_,?_⟩;intro u_;refine ⟨_,rfl,_,_,rfl,rfl,_,rfl,?_⟩;refine ite2 (fun y=>absurd (bC y) (by omega)) (fun _=>?_)
  refine ⟨_,rfl,_,rfl,c,_,_,_,_,rfl,h1,T.cl_Code,T.no_Code_roles,zj_ bp M N Lp,_,_,rfl,rfl,_,rfl,?_⟩;refine ite2 (fun y=>absurd (bC y) (by omega)) (fun _=>q)
inductive qhw_ (K:PySem.W.Frag) (a:Adr) (vs:List V) (H:Hp) (Q:VK) (E_3:XK):Prop
 | mk:∀ (c bp fp kn:Addr) (r w n M N pl:Nat) (l:Nat->Nat->Nat) (ks:List Bool),vs=[.ref c,.ref kn,.int pl]->CodeAt a H c bp fp r w n M N l->GF.Full r w->Wts w M N l->H kn=some (.lst (knV ks))->ks.length=N+M->pl < N+M->ks[pl]?=some false->(∀ D H',Same H H'->H D=none->qk9_ H' D r w (N+M) M (eqn N l) ks pl->(∀ t e,H' D=some (.tup [t,.ref e])->H e=none)->Q (.ref D) H')->qhw_ K a vs H Q E_3
theorem vO_ (T:Txt K mg a):FnO P wo K mg base 7 a.f23 ["self", "known", "role"] (qhw_ K a):=by
 refine T.x23.F.okA (k:=6) qet_ (fun G A outer s H vs Q E hr h=>?_)
 ·obtain ⟨c,bp,fp,kn,r,w,n,M,N,pl,l,ks,rfl,hC,g,W,D,B,C,d,q⟩:=h
  obtain ⟨dx,Lp,qs,h1,h2,h3⟩:=hC.ins;obtain ⟨dB,hB⟩:=hC.blk.ins
  have n8:=W.n8;refine xx ?_;intro X_;refine xl (qo_ (qq_ (qjc_ T) hr.u rfl T.x12.m T.x12.k T.x12.b .nil qj_ (qa_ (qt_ (qt_ (pv 0) rfl) rfl) (qa_ (qt_ (pv 0) rfl) (qa_ (pv 1) (qa_ (pv 2) qb_)))))) ?_;intro u_;refine ⟨_,rfl,c,_,_,_,_,rfl,h1,T.cl_Code,T.no_Code_blocks,yR_ bp M N Lp,bp,_,_,_,_,rfl,hB,T.cl_Blocks,T.no_Blocks_field,yy_ fp w n,_,rfl,c,_,_,_,_,rfl,h1,T.cl_Code,T.no_Code_lines,z3_ bp M N Lp,_,rfl,_,rfl,?_⟩;exact ⟨fp,Lp,kn,r,w,N+M,M,pl,qs,eqn N l,ks,rfl,hC.blk.fld,g,h2,h3,zk_ W g.toGood.top16,D,B,by omega,by have:=W.m2;omega,C,d,q⟩
def byL (r w M N:Nat) (l:Nat->Nat->Nat) (by':List Nat) (k:Nat):Nat:=GF.dot r w M (fun t=>eqn N l t k) (fun t=>by'.getD t 0)
def tells (r w M N:Nat) (l:Nat->Nat->Nat) (by':List Nat) (os:List (Option Nat)):List (Nat × Nat):=((List.range (N+M)).filter fun k=>(os.getD k none).isSome).map fun k=>(byL r w M N l by' k,(os.getD k none).getD 0)
inductive qam_ (K:PySem.W.Frag) (a:Adr) (vs:List V) (H:Hp) (Q:VK) (E_3:XK):Prop
 | mk:∀ (c bp fp bl rl:Addr) (r w n M N:Nat) (l:Nat->Nat->Nat) (by':List Nat) (os:List (Option Nat)),vs=[.ref c,.ref bl,.ref rl]->CodeAt a H c bp fp r w n M N l->GF.Good r w->n<=16->Wts w M N l->H bl=some (.lst (rowV by'))->by'.length=M->H rl=some (.lst (rowO os))->os.length=N+M->(∀ H',Same H H'->Q (.int ((GF.sumB r w n (tells r w M N l by' os):Nat):Int)) H')->qam_ K a vs H Q E_3
theorem ua_ (T:Txt K mg a):FnO P wo K mg base 5 a.f26 ["self", "by", "row"] (qam_ K a):=by
 refine T.x26.F.okA (k:=4) sc_Code_summed_by (fun ap A outer s H vs Q E hr h=>?_)
 ·obtain ⟨c,bp,fp,bl,rl,r,w,n,M,N,l,d,os,rfl,hC,g,hn,W,Z,ab,ae,ao,q⟩:=h
  obtain ⟨dx,Lp,qs,h1,h2,h3⟩:=hC.ins
  have n8:=W.n8
  have ad:=g.top16
  have el:(qs.map V.ref).length=M:=by rw [b9,h3.len]
  refine xx ?_;intro X_;refine xc (qi_ (i:=3) sc_Code_summed_by.nd rfl (Or.inr rfl) (qm_ uZ_ (q7_ (qa_ qf_ qb_)) (qt_ (pv 0) rfl))) ?_;intro u_;refine xq ?_;refine xf PassesOwn.never rfl (vv_ rfl T.n_zip (qa_ (pv 1) (qa_ (qt_ (pv 0) rfl) qb_))) (yL_ rfl (qH_ (ql_ (i:=4) sc_Code_summed_by.nd rfl (Or.inl rfl)) (qH_ (ql_ (i:=5) sc_Code_summed_by.nd rfl (Or.inl rfl)) jM_))) ?_;refine xl (qi_ (i:=3) sc_Code_summed_by.nd rfl (Or.inr rfl) (qq_ (vm_ T) hr.u rfl T.x8.m T.x8.k T.x8.b .nil qj_ (qa_ (pv 3) (qa_ (qq_ (yz_ T) hr.u rfl T.x7.m T.x7.k T.x7.b .nil qj_ (qa_ (qt_ (qt_ (pv 0) rfl) rfl) (qa_ (pv 4) (qa_ (pv 5) qb_)))) qb_)))) ?_;intro u_;intro u_
  refine xc (jp_ (i:=6) sc_Code_summed_by.nd rfl (Or.inl rfl) (CompOk.of (cap:=[2]) (own:=["role"]) (by kernel_rfl)) rfl (qL_ rfl T.n_range (qa_ (qt_ (pv 0) rfl) qb_)) (fun _ _ _ _ _=>(ql_ (i:=1) (bC (by kernel_rfl)) rfl (Or.inl rfl))) (fun _ _ _ _ _=>(jl_ (qn_ jg_ (qy_ (q9_ (K:=K) rfl) (pv 0) (pv 1) (fun _ _=>rfl)) qG_ (qp_ _)))) (fun _ _ _ _ _=>by exact (pv 1))) ?_
  intro u_
  refine xl (qo_ (qx_ (by exact (qt_ (pv 0) rfl)) T.cl_Blocks T.x18.me (yh_ T) hr.u T.x18.b .nil qj_ (qa_ (qJ_ (CompOk.of (cap:=[3]) (own:=["role"]) (by kernel_rfl)) rfl (qB_ (pv 6)) (fun _ _ _ _ _=>(ql_ (i:=1) (bC (by kernel_rfl)) rfl (Or.inl rfl))) (fun _ _ _ _ _=>qI_) (fun _ _ _ _ _=>by exact (qy_ (q9_ (K:=K) rfl) (pv 0) (pv 1) (fun _ _=>rfl)))) (qa_ (qJ_ (CompOk.of (cap:=[2]) (own:=["role"]) (by kernel_rfl)) rfl (qB_ (pv 6)) (fun _ _ _ _ _=>(ql_ (i:=1) (bC (by kernel_rfl)) rfl (Or.inl rfl))) (fun _ _ _ _ _=>qI_) (fun _ _ _ _ _=>by exact (qy_ (q9_ (K:=K) rfl) (pv 0) (pv 1) (fun _ _=>rfl)))) qb_)))) ?_
  intro u_;refine ⟨(show 1<=sizeLine by decide),fun p1 n1=>⟨_,rfl,c,_,_,_,_,rfl,(Same.new n1) _ _ h1,T.cl_Code,T.no_Code_roles,zj_ bp M N Lp,p1,_,_,rfl,rfl,qc_,by omega,by omega,?_,fun p2 n2=>?_⟩⟩
  ·rw [cx]
   show 1 * (N+M)<=sizeLine
   exact bG (by omega:1 * (N+M)<=30) (by decide)
  have eR:(List.replicate (((N+M:Nat):Int)).toNat [V.int 0]).flatten=rowV ((List.range (N+M)).map fun k=>GF.dot r w 0 (fun t=>eqn N l t k) (fun t=>d.getD t 0)):=by
   rw [cx]
   have:((List.range (N+M)).map fun k=>GF.dot r w 0 (fun t=>eqn N l t k) (fun t=>d.getD t 0))=List.replicate (N+M) 0:=by
    show ((List.range (N+M)).map fun _=>0)=_
    rw [List.map_const',bI]
   rw [this];exact qbe_ (N+M) 0
  rw [eR]
  have s1:=(Same.new (o:=.lst [V.int 0]) n1).trans (Same.new (o:=.lst (rowV ((List.range (N+M)).map fun k=>GF.dot r w 0 (fun t=>eqn N l t k) (fun t=>d.getD t 0)))) n2)
  have ac:(upd (upd H p1 (.lst [V.int 0])) p2 (.lst (rowV ((List.range (N+M)).map fun k=>GF.dot r w 0 (fun t=>eqn N l t k) (fun t=>d.getD t 0))))) p2=some (.lst (rowV ((List.range (N+M)).map fun k=>GF.dot r w 0 (fun t=>eqn N l t k) (fun t=>d.getD t 0)))):=qc_;generalize (upd (upd H p1 (.lst [V.int 0])) p2 (.lst (rowV ((List.range (N+M)).map fun k=>GF.dot r w 0 (fun t=>eqn N l t k) (fun t=>d.getD t 0)))))=H1 at s1 ac;refine ⟨_,rfl,_,rfl,c,_,_,_,_,rfl,s1 _ _ h1,T.cl_Code,T.no_Code_lines,z3_ bp M N Lp,bl,Lp,_,_,rfl,SqL.of (s1 _ _ Z),SqL.of (s1 _ _ h2),let I_:Nat->L2.St->Hp->Prop:=fun i σ H'=>L2.E3 fun (La:Addr) (v4 v5:Option V)=>L2.A3 (σ=[some (.ref c),some (.ref bl),some (.ref rl),some (.ref La),v4,v5,none]) (Same H H') (H' La=some (.lst (rowV ((List.range (N+M)).map fun k=>GF.dot r w i (fun t=>eqn N l t k) (fun t=>d.getD t 0)))));qa3_ (K:=K) (l1:=bl) (l2:=Lp) (xs:=rowV d) (ys:=qs.map V.ref) I_ ⟨p2,none,none,rfl,s1,ac⟩ ?_ (by rw [qg_,ab,el]) ?_ ?_⟩
  ·rintro i σ H' _ ⟨La,v4,v5,_,sm,_⟩
   exact ⟨SqL.of (sm _ _ Z),SqL.of (sm _ _ h2)⟩
  ·rintro i u v T' σ H' hi hu hv hT ⟨La,v4,v5,rfl,sm,I⟩
   obtain ⟨f,ak,rfl⟩:=qN_ hu
   have aa:i < M:=by rw [<- el];exact (bK.mp hv).1
   obtain ⟨p,ep,hp⟩:=h3.get aa;rw [qO_ ep] at hv
   cases bM hv
   have s2:=sm.trans (Same.new (o:=.tup [V.int (f:Nat),V.ref p]) hT)
   have B:=(Same.new (o:=.tup [V.int (f:Nat),V.ref p]) hT) _ _ I;refine ⟨T',_,rfl,SqT.of qc_,rfl,_,_,rfl,_,_,rfl,rfl,?_⟩;generalize (upd H' T' (.tup [V.int (f:Nat),V.ref p]))=H2 at s2 B
   have D:=hC.same s2;obtain ⟨dB,hB⟩:=D.blk.ins;refine ⟨_,rfl,_,rfl,c,_,_,_,_,rfl,s2 _ _ h1,T.cl_Code,T.no_Code_blocks,yR_ bp M N Lp,bp,_,_,_,_,rfl,hB,T.cl_Blocks,T.no_Blocks_field,yy_ fp w n,_,rfl,_,rfl,?_⟩;refine ⟨fp,p,r,w,f,rowT (N+M) (eqn N l) i,rfl,D.blk.fld,g,s2 _ _ hp,y9_ fun k hk=>zk_ W ad i k aa hk,by rw [qu_];omega,fun D3 H3 n3 s3 aj=>?_⟩
   refine ⟨La,D3,_,_,rfl,s3 _ _ B,aj,by rw [b9,bI,b9,qu_],by rw [b9,bI];omega,fun D4 H4 n4 s4 h4=>?_⟩
   refine ⟨D4,_,_,rfl,s2.trans (s3.trans s4),?_⟩;rw [h4];refine congrArg (fun l=>some (HO.lst (rowV l))) ?_
   have ef:d.getD i 0=f:=by rw [b7,ak];rfl
   unfold rowT
   apply cU
   intro k;rw [List.getElem?_zipWith,bE,bE,bE,bE]
   cases (List.range (N+M))[k]? with
   | none=>rfl
   | some x =>
    rw [<- ef];rfl
  ·rintro σ H' ⟨La,v4,v5,rfl,sm,I⟩
   rw [qg_,ab] at I
   have an:=hC.same sm;refine ⟨_,rfl,c,_,_,_,_,rfl,sm _ _ h1,T.cl_Code,T.no_Code_roles,zj_ bp M N Lp,_,rfl,by omega,by omega,fun tl al=>?_⟩
   rw [cx]
   have Y:∀ k,k < N+M->os[k]?=some (os.getD k none):=fun k hk=>by
    rw [b7,b8 (by omega)]
    rfl
   refine jP_ (n:=N+M) (f:=fun k=>.int ((k:Nat):Int)) (b:=fun k=>(os.getD k none).isSome) (cs:=[some (.ref rl)]) al rfl (bG n8 (by decide)) (fun k H2 R2 hk s2 hR=>?_) (fun k H2 R2 hk hb s2 hR=>?_) (fun H2 s2 X=>?_)
   ·refine ⟨_,rfl,_,rfl,rl,_,_,_,rfl,rfl,SqL.of (s2 _ _ (sm _ _ ae)),qv_ (qS_ (Y k hk)),rfl,_,rfl,?_⟩
    have e:(!decide (valO (os.getD k none)=V.non))=(os.getD k none).isSome:=by
     cases os.getD k none with
     | none=>rfl
     | some b=>exact by rw [bY (fun z=>by cases z)];rfl
    rw [e];exact hR _ (Same.refl _)
   ·exact ⟨_,rfl,hR _ (Same.refl _)⟩
   have G:=sm.trans s2
   have D:=hC.same G;obtain ⟨dB,hB⟩:=D.blk.ins
   have B:=s2 _ _ I;generalize J:(List.range (N+M)).filter (fun k=>(os.getD k none).isSome)=tks at X
   have U:∀ k∈tks,k < N+M/\(os.getD k none).isSome=true:=fun k hk=>by
    rw [<- J] at hk
    have:=bV.mp hk;exact ⟨bQ.mp this.1,this.2⟩
   have C:H2 tl=some (.lst (rowV tks)):=by
    rw [X];rfl
   have S:tks.length<=8:=by
    rw [<- J]
    have:=cj (fun k=>(os.getD k none).isSome) (List.range (N+M));rw [bI] at this;omega
   refine ⟨_,rfl,c,_,_,_,_,rfl,G _ _ h1,T.cl_Code,T.no_Code_blocks,yR_ bp M N Lp,bp,dB,_,rfl,hB,rfl,?_⟩;refine ⟨_,rfl,tl,rfl,⟨_,SqL.of C⟩,fun D1 am=>?_⟩;refine js_ (xs:=rowV tks) (f:=fun i=>.int ((byL r w M N l d (tks.getD i 0):Nat):Int)) (cs:=[some (.ref La)]) (SqL.of C) am rfl (by rw [qg_];exact bG S (by decide)) (fun i u H3 R3 hu s3 hR=>?_) (fun H3 s3 L=>?_)
   ·obtain ⟨k,ek,rfl⟩:=qN_ hu
    have hk:=(U k (bO ek)).1
    have eg:tks.getD i 0=k:=by rw [b7,ek];rfl
    rw [eg] at hR
    have gi:=qv_ (je_ (row:=(List.range (N+M)).map fun k=>GF.dot r w M (fun t=>eqn N l t k) (fun t=>d.getD t 0)) (i:=k) (by rw [b9,bI];exact hk))
    rw [b7,bE,cb hk] at gi;exact ⟨_,rfl,_,rfl,La,_,_,_,rfl,rfl,SqL.of (s3 _ _ B),gi,hR _ (Same.refl _)⟩
   refine ⟨_,rfl,tl,rfl,⟨_,SqL.of (s3 _ _ C)⟩,fun D2 ai=>?_⟩;refine js_ (xs:=rowV tks) (f:=fun i=>.int (((os.getD (tks.getD i 0) none).getD 0:Nat):Int)) (cs:=[some (.ref rl)]) (SqL.of (s3 _ _ C)) ai rfl (by rw [qg_];exact bG S (by decide)) (fun i u H4 R4 hu s4 hR=>?_) (fun H4 s4 O=>?_)
   ·obtain ⟨k,ek,rfl⟩:=qN_ hu
    have hk:=U k (bO ek)
    have eg:tks.getD i 0=k:=by rw [b7,ek];rfl
    rw [eg] at hR
    have ev:valO (os.getD k none)=.int (((os.getD k none).getD 0:Nat):Int):=by
     cases hz:os.getD k none with
     | none=>rw [hz] at hk;exact absurd hk.2 (by decide)
     | some b=>rfl
    have gi:=qv_ (qS_ (Y k hk.1));rw [ev] at gi;exact ⟨_,rfl,_,rfl,rl,_,_,_,rfl,rfl,SqL.of (s4 _ _ (s3 _ _ (G _ _ ae))),gi,hR _ (Same.refl _)⟩
   rw [qg_] at L O
   have e1:((List.range tks.length).map fun i=>V.int ((byL r w M N l d (tks.getD i 0):Nat):Int))=rowV (tks.map (byL r w M N l d)):=by
    unfold rowV
    apply cU
    intro i;rw [bE,bE,bE]
    by_cases hi:i < tks.length
    ·rw [cb hi,b8 hi]
     have eg:tks.getD i 0=tks[i]:=by rw [b7,b8 hi];rfl
     dsimp only [Option.map];rw [eg]
    ·rw [bT (by rw [bI];omega),bT (by omega)]
     rfl
   have e2:((List.range tks.length).map fun i=>V.int (((os.getD (tks.getD i 0) none).getD 0:Nat):Int))=rowV (tks.map fun k=>(os.getD k none).getD 0):=by
    unfold rowV
    apply cU
    intro i;rw [bE,bE,bE]
    by_cases hi:i < tks.length
    ·rw [cb hi,b8 hi]
     have eg:tks.getD i 0=tks[i]:=by rw [b7,b8 hi];rfl
     dsimp only [Option.map];rw [eg]
    ·rw [bT (by rw [bI];omega),bT (by omega)]
     rfl
   rw [e1] at L;rw [e2] at O
   have ah:=G.trans (s3.trans s4);refine ⟨bp,fp,D1,D2,r,w,n,tks.map (byL r w M N l d),tks.map (fun k=>(os.getD k none).getD 0),rfl,(hC.same ah).blk,g,hn,SqL.of (s4 _ _ L),SqL.of O,by rw [b9,b9],fun f hf=>?_,fun H5 s5=>?_⟩
   ·obtain ⟨k,hk,rfl⟩:=cG.mp hf
    exact GF.dot_lt g.rule M fun t ht=>zk_ W ad t k ht (U k hk).1
   ·have ez:(tks.map (byL r w M N l d)).zip (tks.map fun k=>(os.getD k none).getD 0)=tells r w M N l d os:=by
     unfold tells;rw [J,List.zip_map',]
    rw [ez];exact q _ (ah.trans s5)
def knO (os:List (Option Nat)):List Bool:=os.map Option.isSome
inductive qan_ (K:PySem.W.Frag) (a:Adr) (vs:List V) (H:Hp) (Q:VK) (E_3:XK):Prop
 | mk:∀ (c bp fp rl:Addr) (r w n M N k:Nat) (l:Nat->Nat->Nat) (os:List (Option Nat)),vs=[.ref c,.ref rl,.int k]->CodeAt a H c bp fp r w n M N l->GF.Full r w->n<=16->Wts w M N l->H rl=some (.lst (rowO os))->os.length=N+M->k < N+M->((∀ b,os.getD k none=some b->Q (.int (b:Nat)) H))->((os.getD k none=none->∀ H',Same H H'->(∀ by',Reck r w (N+M) M (eqn N l) (knO os) k by'->Q (.int ((GF.sumB r w n (tells r w M N l by' os):Nat):Int)) H')/\∀ mk,Free r w (N+M) M (eqn N l) (knO os) k mk->Q .non H'))->qan_ K a vs H Q E_3
theorem uM_ (T:Txt K mg a):FnO P wo K mg base 8 a.f27 ["self", "row", "role"] (qan_ K a):=by
 refine T.x27.F.okA (k:=7) sc_Code_reckoned (fun ad A outer s H vs Q E hr h=>?_)
 ·obtain ⟨c,bp,fp,rl,r,w,n,M,N,k,l,os,rfl,hC,g,hn,W,d,J,hk,q1,q2⟩:=h
  obtain ⟨dx,Lp,qs,h1,h2,h3⟩:=id hC.ins
  have n8:=W.n8
  have B:os[k]?=some (os.getD k none):=by
   rw [b7,b8 (by omega)]
   rfl
  refine xx ?_;intro X_;refine xc (qV_ (qx_ (pv 0) T.cl_Code T.x24.me (yS_ T) hr.u T.x24.b .nil qj_ (qa_ (pv 2) qb_))) ?_;intro u_;refine xq ?_;refine xi (qn_ jg_ (qy_ qz_ (pv 1) (pv 2) (fun _ _=>rfl)) qG_ (qp_ _)) ?_;refine xl (qo_ (qy_ qz_ (pv 1) (pv 2) (fun _ _=>rfl))) ?_;intro u_;refine ⟨_,qw_,?_⟩;intro u_
  refine xc (qi_ (i:=3) sc_Code_reckoned.nd rfl (Or.inl rfl) (qx_ (pv 0) T.cl_Code T.x23.me (vO_ T) hr.u T.x23.b .nil qj_ (qa_ (qJ_ (CompOk.of (cap:=[]) (own:=["block"]) (by kernel_rfl)) rfl (qB_ (pv 1)) (fun _ _ _ _ _=>(ql_ (i:=0) (bC (by kernel_rfl)) rfl (Or.inl rfl))) (fun _ _ _ _ _=>qI_) (fun _ _ _ _ _=>by exact (yq_ jg_ (pv 0) qG_ (qp_ _)))) (qa_ (pv 2) qb_)))) ?_
  intro u_;refine xq ?_;refine xi (qn_ jx_ (qy_ vs_ (pv 3) qf_ (fun _ _=>rfl)) uR_ (qp_ _)) ?_;refine xl (qo_ qG_) ?_;intro u_;refine ⟨_,qw_,?_⟩;intro u_;refine xl (qo_ (qx_ (pv 0) T.cl_Code T.x26.me (ua_ T) hr.u T.x26.b .nil qj_ (qa_ (qy_ vs_ (pv 3) qf_ (fun _ _=>rfl)) (qa_ (pv 1) qb_)))) ?_;intro u_;refine ⟨_,rfl,c,dx,_,rfl,h1,rfl,_,rfl,c,bp,fp,r,w,n,M,N,k,l,rfl,hC,hk,?_⟩;refine ⟨_,rfl,_,rfl,rl,_,_,_,rfl,rfl,SqL.of d,qv_ (qS_ B),rfl,_,rfl,?_⟩
  cases hz:os.getD k none with
  | some b =>
   refine ite2 (fun _=>?_) (fun y=>absurd (by rw [bY (fun z=>by cases z)];rfl) y)
   rw [hz] at B;exact ⟨_,rfl,_,rfl,rl,_,_,_,rfl,rfl,SqL.of d,qv_ (qS_ B),q1 b hz⟩
  | none =>
   refine iteF ?_
   have q2:=q2 hz;refine ⟨_,rfl,c,dx,_,rfl,h1,rfl,_,rfl,rl,rfl,⟨_,SqL.of d⟩,fun kn X=>?_⟩;refine js_ (xs:=rowO os) (f:=fun i=>.bl (os.getD i none).isSome) (cs:=[]) (SqL.of d) X rfl (by rw [qK_];exact bG (by omega:os.length<=8) (by decide)) (fun i u H2 R2 hu s2 hR=>?_) (fun H2 s2 I=>?_)
   ·have hi:i < os.length:=by rw [<- qK_];exact (bK.mp hu).1
    have Z:os[i]?=some (os.getD i none):=by
     rw [b7,b8 hi];rfl
    rw [qS_ Z] at hu
    cases bM hu;refine ⟨_,rfl,rfl,?_⟩
    have e:(!decide (valO (os.getD i none)=V.non))=(os.getD i none).isSome:=by
     cases os.getD i none with
     | none=>rfl
     | some b=>exact by rw [bY (fun z=>by cases z)];rfl
    rw [e];exact hR _ (Same.refl _)
   rw [qK_] at I
   have ek:((List.range os.length).map fun i=>V.bl (os.getD i none).isSome)=knV (knO os):=by
    unfold knV knO
    apply cU
    intro i;rw [bE,bE,bE]
    by_cases hi:i < os.length
    ·rw [cb hi,b8 hi]
     have eg:os.getD i none=os[i]:=by rw [b7,b8 hi];rfl
     dsimp only [Option.map];rw [eg]
    ·rw [bT (by rw [bI];omega),bT (by omega)]
     rfl
   rw [ek] at I
   have S:(knO os).length=N+M:=by unfold knO;rw [b9,J]
   have aa:(knO os)[k]?=some false:=by
    unfold knO;rw [bE,B,hz];rfl
   refine ⟨_,rfl,c,bp,fp,kn,r,w,n,M,N,k,l,knO os,rfl,hC.same s2,g,W,I,S,hk,aa,fun D H3 s3 nD O _=>?_⟩
   have C:=s2.trans s3
   have q3:=fun H' (s':Same H3 H')=>q2 H' (C.trans s');rcases O with ⟨e,L,hD,he,G⟩ | ⟨e,mk,hD,he,G⟩
   ·refine ⟨_,rfl,D,_,_,_,rfl,rfl,SqT.of hD,rfl,rfl,_,rfl,?_⟩
    refine ite2 (fun z=>absurd (V.str.inj (bC z)) (by decide)) (fun _=>?_)
    obtain ⟨Y,ab,ac,U,_,_⟩:=(hC.same C).ins;refine ⟨_,rfl,c,Y,_,rfl,U,rfl,_,rfl,D,_,_,_,rfl,rfl,SqT.of hD,rfl,_,rfl,?_⟩;exact ⟨c,bp,fp,e,rl,r,w,n,M,N,l,L,os,rfl,hC.same C,g.toGood,hn,W,he,G.len,C _ _ d,J,fun H4 s4=>(q3 H4 s4).1 L G⟩
   ·refine ⟨_,rfl,D,_,_,_,rfl,rfl,SqT.of hD,rfl,rfl,_,rfl,?_⟩
    refine ite2 (fun _=>?_) (fun z=>absurd (bN rfl) z);exact (q3 H3 (Same.refl _)).2 mk G
def tot (r w N:Nat) (l:Nat->Nat->Nat) (o k:Nat):Nat:=GF.tm r w (eqn N l 0 k) (eqn N l 1 o) ^^^ GF.tm r w (eqn N l 1 k) (eqn N l 0 o)
def jv_ (R:Nat) (ks:List Bool) (pl:Nat):List Nat:=(List.range R).filter fun k=>!(ks.getD k false) && !decide (k=pl)
def fixB (r w M N:Nat) (l:Nat->Nat->Nat) (ks:List Bool) (pl:Nat):Bool :=
 match jv_ (N+M) ks pl with
 | []=>true
 | o :: os=>if M=1 then false else (o :: os++[pl]).all fun k=>decide ((tot r w N l o k≠0)=(k=pl))
theorem y5_ {R:Nat}{ks:List Bool}{pl k:Nat} (h:k∈jv_ R ks pl):k < R/\ks.getD k false=false/\k≠pl:=by
 unfold jv_ at h
 have:=bV.mp h
 have h2:=this.2;rw [cC,eM,eM] at h2;exact ⟨bQ.mp this.1,h2.1,of_decide_eq_false h2.2⟩
theorem qds_ {ks:List Bool}{k:Nat}{b:Bool} (hk:k < ks.length) (h:ks.getD k false=b):ks[k]?=some b:=by
 rw [b8 hk];rw [b7,b8 hk] at h;exact congrArg some h
theorem qo8_ {r w:Nat} (a x:Nat->Nat):GF.dot r w 2 a x=GF.tm r w (a 0) (x 0) ^^^ GF.tm r w (a 1) (x 1):=by
 show (0 ^^^ _) ^^^ _=_
 rw [cS]
theorem qbh_ {N M:Nat}{l:Nat->Nat->Nat}{w:Nat} (W:Wts w M N l) {k:Nat} (hk:k < N+M):∃ t,t < M/\eqn N l t k≠0:=by
 by_cases hjN:k < N
 ·obtain ⟨t,ht,hz⟩:=W.col k hjN
  refine ⟨t,ht,?_⟩;unfold eqn;rw [if_pos hjN];exact hz
 ·refine ⟨k - N,by omega,?_⟩
  unfold eqn;rw [if_neg hjN,if_pos rfl]
  decide
theorem qe5_ {a b:Nat} (h:a ^^^ b=0):a=b:=by
 have:=congrArg (fun z=>z ^^^ b) h;simp only [dj,dN,cT,cS] at this;exact this
theorem qm5_ {r w N:Nat}{l:Nat->Nat->Nat}{ks:List Bool}{pl:Nat}{by':List Nat} (g:GF.Full r w) (W:Wts w 2 N l) (hks:ks.length=N+2) (hpl:pl < N+2) (hkp:ks.getD pl false=false) (f:Reck r w (N+2) 2 (eqn N l) ks pl by') {o:Nat} (ho:o < N+2) (hko:ks.getD o false=false) (hop:o≠pl) :
  ∀ k,k < N+2->ks.getD k false=false->(tot r w N l o k≠0 ↔ k=pl):=by
 have H:=g.toGood.top16
 have R:=g.toGood.rule
 have w1:=g.toGood.w1
 have s:∀ t k,t < 2->k < N+2->eqn N l t k < 2 ^ w:=zk_ W H
 have b0:by'.getD 0 0 < 2 ^ w:=za_ f.lt (by rw [f.len];decide)
 have b1:by'.getD 1 0 < 2 ^ w:=za_ f.lt (by rw [f.len];decide)
 have hk:∀ k,k < N+2->ks.getD k false=false->GF.tm r w (eqn N l 0 k) (by'.getD 0 0) ^^^ GF.tm r w (eqn N l 1 k) (by'.getD 1 0)=if k=pl then 1 else 0:=fun k h1 h2=>by
  have:=f.ok k h1 (qds_ (by omega) h2)
  rw [qo8_] at this;exact this
 have e0:=hk o ho hko;rw [if_neg hop] at e0
 have e0:=qe5_ e0;generalize by'.getD 0 0=y0 at b0 hk e0
 generalize by'.getD 1 0=y1 at b1 hk e0
 have a0:=s 0 o (by decide) ho
 have a1:=s 1 o (by decide) ho
 have G:∃ m,m < 2 ^ w/\m≠0/\y0=GF.tm r w m (eqn N l 1 o)/\y1=GF.tm r w m (eqn N l 0 o):=by
  have E:¬ (y0=0/\y1=0):=fun z=>by
   have:=hk pl hpl hkp;rw [if_pos rfl,z.1,z.2,GF.tm_zero,GF.tm_zero] at this;exact absurd this (by decide)
  obtain ⟨t,ht,hz⟩:=qbh_ W ho
  have D:∀ {x y z:Nat},x < 2 ^ w->y < 2 ^ w->z < 2 ^ w->z≠0->GF.tm r w x z=GF.tm r w y z->x=y:=fun {x y z} hx hy B z0 e=>by
   rw [GF.tm_comm R w1 hx B,GF.tm_comm R w1 hy B] at e;exact GF.tm_inj g z0 B hx hy e
  by_cases z1:eqn N l 1 o=0
  ·have z0:eqn N l 0 o≠0:=by
    have h2:t=0\/t=1:=by omega
    rcases h2 with rfl | rfl
    ·exact hz
    ·exact absurd z1 hz
   have d:y0=0:=by
    rw [z1,GF.zero_tm] at e0;rcases (GF.tm_eq_zero g a0 b0).mp e0 with z | z
    ·exact absurd z z0
    ·exact z
   have h:=GF.pw_back g (Nat.pos_of_ne_zero z0) a0
   have il:=GF.pw_lt g.toGood a0 (2 ^ w - 1 - 1);generalize GF.pw r w (eqn N l 0 o) (2 ^ w - 1 - 1)=v at h il;refine ⟨GF.tm r w y1 v,GF.tm_lt R b1,fun z=>?_,?_,?_⟩
   ·rcases (GF.tm_eq_zero g b1 il).mp z with z | z
    ·exact E ⟨d,z⟩
    ·rw [z,GF.tm_zero] at h
     exact absurd h (by decide)
   ·rw [z1,GF.tm_zero,d]
   ·rw [GF.tm_assoc R w1 b1 il,GF.tm_comm R w1 il a0,h,GF.tm_one]
  ·have h:=GF.pw_back g (Nat.pos_of_ne_zero z1) a1
   have il:=GF.pw_lt g.toGood a1 (2 ^ w - 1 - 1);generalize GF.pw r w (eqn N l 1 o) (2 ^ w - 1 - 1)=v at h il
   have d:y0=GF.tm r w (GF.tm r w y0 v) (eqn N l 1 o):=by rw [GF.tm_assoc R w1 b0 il,GF.tm_comm R w1 il a1,h,GF.tm_one]
   have C:y1=GF.tm r w (GF.tm r w y0 v) (eqn N l 0 o):=by
    refine D b1 (GF.tm_lt R (GF.tm_lt R b0)) a1 z1 ?_;rw [GF.tm_comm R w1 b1 a1,← e0,GF.tm_assoc R w1 (GF.tm_lt R b0) a0,GF.tm_comm R w1 a0 a1,← GF.tm_assoc R w1 (GF.tm_lt R b0) a1,← d,GF.tm_comm R w1 a0 b0]
   refine ⟨GF.tm r w y0 v,GF.tm_lt R b0,fun z=>?_,d,C⟩;rw [z,GF.zero_tm] at d C;exact E ⟨d,C⟩
 obtain ⟨m,ml,m0,rfl,rfl⟩:=G;intro k h1 h2
 have ek:=hk k h1 h2
 have c0:=s 0 k (by decide) h1
 have c1:=s 1 k (by decide) h1
 have et:GF.tm r w m (tot r w N l o k)=if k=pl then 1 else 0:=by
  rw [<- ek];unfold tot;rw [GF.tm_xor_right,← GF.tm_assoc R w1 ml c0,GF.tm_comm R w1 ml c0,GF.tm_assoc R w1 c0 ml,← GF.tm_assoc R w1 ml c1,GF.tm_comm R w1 ml c1,GF.tm_assoc R w1 c1 ml]
 have tl:tot r w N l o k < 2 ^ w:=dq (GF.tm_lt R c0) (GF.tm_lt R c1)
 constructor
 ·intro z
  by_cases y:k=pl
  ·exact y
  ·rw [if_neg y] at et
   rcases (GF.tm_eq_zero g ml tl).mp et with x | x
   ·exact absurd x m0
   ·exact absurd x z
 ·intro y z
  rw [if_pos y,z,GF.tm_zero] at et;exact absurd et (by decide)
theorem qao_ {r w R pl:Nat}{a x:Nat->Nat} (hpl:pl < R) (h:∀ k,k < R->k≠pl->GF.tm r w (a k) (x k)=0):GF.dot r w R a x=GF.tm r w (a pl) (x pl):=by
 have d:∀ n,n<=R->GF.dot r w n a x=if pl < n then GF.tm r w (a pl) (x pl) else 0:=by
  intro n
  induction n with
  | zero=>intro _;rw [if_neg (cX _)];rfl
  | succ n ih =>
   intro hn;rw [GF.dot,ih (by omega)]
   by_cases z:n=pl
   ·subst z
    rw [if_neg (cI _),if_pos (cm _),cS]
   ·rw [h n (by omega) z,cT]
    by_cases y:pl < n
    ·rw [if_pos y,if_pos (by omega)]
    ·rw [if_neg y,if_neg (by omega)]
 rw [d R (bF _),if_pos hpl]
theorem qcp_ {r w M N:Nat}{l:Nat->Nat->Nat}{ks:List Bool}{pl:Nat}{by':List Nat} (g:GF.Full r w) (W:Wts w M N l) (hks:ks.length=N+M) (hpl:pl < N+M) (hkp:ks.getD pl false=false) (f:Reck r w (N+M) M (eqn N l) ks pl by'):fixB r w M N l ks pl=true:=by
 unfold fixB
 have h:=g.toGood.top16
 split
 ·rfl
 ·rename_i o os he
  have ho:=y5_ (R:=N+M) (ks:=ks) (pl:=pl) (k:=o) (by rw [he];exact cF)
  by_cases hM:M=1
  ·subst hM
   have b0:by'.getD 0 0 < 2 ^ w:=za_ f.lt (by rw [f.len];decide)
   have e1:=f.ok o ho.1 (qds_ (by omega) ho.2.1)
   have e2:=f.ok pl hpl (qds_ (by omega) hkp)
   rw [if_neg ho.2.2] at e1;rw [if_pos rfl] at e2
   have d1:∀ a x:Nat->Nat,GF.dot r w 1 a x=GF.tm r w (a 0) (x 0):=fun a x=>cS _;rw [d1] at e1 e2;obtain ⟨t,ht,hz⟩:=qbh_ W ho.1
   have t0:t=0:=by omega
   subst t0;rcases (GF.tm_eq_zero g (zk_ W h 0 o (by decide) ho.1) b0).mp e1 with z | z
   ·exact absurd z hz
   ·rw [z,GF.tm_zero] at e2
    exact absurd e2 (by decide)
  ·have s:M=2:=by have:=W.m1;have:=W.m2;omega
   subst s;rw [if_neg hM,c5]
   have d:=qm5_ g W hks hpl hkp f ho.1 ho.2.1 ho.2.2;intro k hk
   apply bN
   rcases bU.mp hk with y | y
   ·have:=y5_ (R:=N+2) (ks:=ks) (pl:=pl) (k:=k) (by rw [he];exact y)
    exact propext (d k this.1 this.2.1)
   ·rw [bS.mp y]
    exact propext (d pl hpl hkp)
theorem qcq_ {r w M N:Nat}{l:Nat->Nat->Nat}{ks:List Bool}{pl:Nat}{mk:List Nat} (g:GF.Full r w) (W:Wts w M N l) (hks:ks.length=N+M) (hpl:pl < N+M) (hkp:ks.getD pl false=false) (f:Free r w (N+M) M (eqn N l) ks pl mk):fixB r w M N l ks pl=false:=by
 unfold fixB
 have D:=g.toGood.top16
 have R:=g.toGood.rule
 have w1:=g.toGood.w1
 have B:∀ k,k < N+M->mk.getD k 0 < 2 ^ w:=fun k hk=>za_ f.lt (by rw [f.len];exact hk)
 have none_of:∀ k,k < N+M->k≠pl->k∉jv_ (N+M) ks pl->mk.getD k 0=0:=fun k hk h G=>by
  refine f.zero k hk (qds_ (by omega) ?_)
  cases hb:ks.getD k false with
  | true=>rfl
  | false =>
   refine absurd ?_ G;unfold jv_;refine bV.mpr ⟨bQ.mpr hk,?_⟩;rw [hb,bY h];rfl
 split
 ·rename_i he
  obtain ⟨t,ht,hz⟩:=qbh_ W hpl
  have e:=f.ok t ht;rw [qao_ hpl fun k hk h=>by rw [none_of k hk h (by rw [he];simp),GF.tm_zero],f.one,GF.tm_one] at e
  exact absurd e hz
 ·rename_i o os he
  have ho:=y5_ (R:=N+M) (ks:=ks) (pl:=pl) (k:=o) (by rw [he];exact cF)
  by_cases hM:M=1
  ·rw [if_pos hM]
  ·have E:M=2:=by have:=W.m1;have:=W.m2;omega
   subst E;rw [if_neg hM,List.all_eq_false]
   have d:∀ t k,t < 2->k < N+2->eqn N l t k < 2 ^ w:=zk_ W D;refine Classical.byContradiction fun C=>?_
   have s:∀ k∈(o :: os++[pl]),(tot r w N l o k≠0)=(k=pl):=fun k hk=>Classical.byContradiction fun z=>C ⟨k,hk,fun y=>z (bC y)⟩
   have h0:GF.dot r w (N+2) (tot r w N l o) (fun k=>mk.getD k 0)=0:=by
    show GF.dot r w (N+2) (fun k=>GF.tm r w (eqn N l 0 k) (eqn N l 1 o) ^^^ GF.tm r w (eqn N l 1 k) (eqn N l 0 o)) (fun k=>mk.getD k 0)=0
    rw [GF.dot_add R (N+2) fun k hk=>⟨GF.tm_lt R (d 0 k (by decide) hk),GF.tm_lt R (d 1 k (by decide) hk)⟩]
    rw [GF.dot_scale R w1 (d 1 o (by decide) ho.1) (N+2) fun k hk=>⟨d 0 k (by decide) hk,B k hk⟩,GF.dot_scale R w1 (d 0 o (by decide) ho.1) (N+2) fun k hk=>⟨d 1 k (by decide) hk,B k hk⟩]
    have e0:=f.ok 0 (by decide)
    have e1:=f.ok 1 (by decide)
    rw [e0,e1,GF.zero_tm,GF.zero_tm];rfl
   rw [qao_ hpl fun k hk h=>by
    by_cases hm:k∈jv_ (N+2) ks pl
    ·have:=s k (List.mem_append_left _ (by rw [<- he];exact hm))
     have z:tot r w N l o k=0:=Classical.byContradiction fun y=>h (this.mp y);rw [z,GF.zero_tm]
    ·rw [none_of k hk h hm,GF.tm_zero],f.one,GF.tm_one] at h0
   have:=s pl (cH _ (bS.mpr rfl));exact absurd h0 (this.mpr rfl)
theorem qlc_ {r w n M N:Nat}{l:Nat->Nat->Nat}{X:List Nat} (hX:X.length=N+M):isMk r w n M N l X=true ↔ ∀ t,t < M->GF.xsum (N+M) (fun j=>GF.sc r w n (eqn N l t j) (X.getD j 0))=0:=by
 have e:∀ t,GF.sumB r w n ((rowT (N+M) (eqn N l) t).zip X)=GF.xsum (N+M) (fun j=>GF.sc r w n (eqn N l t j) (X.getD j 0)):=fun t=>by
  have h:=GF.sumB_range (r:=r) (w:=w) (n:=n) (eqn N l t) (fun j=>X.getD j 0) (N+M)
  have hx:=GF.list_range X;rw [hX] at hx;rw [<- hx] at h;exact h
 unfold isMk;rw [c5]
 constructor
 ·intro h t ht
  rw [<- e];exact bC (h t (bQ.mpr ht))
 ·intro h t ht
  apply bN
  rw [e];exact h t (bQ.mp ht)
def jS_ (R:Nat) (os:List (Option Nat)) (X:List Nat):Prop:=∀ j,j < R->∀ b,os.getD j none=some b->X.getD j 0=b
theorem z4_ {os:List (Option Nat)}{j:Nat} (hj:j < os.length) (h:os.getD j none=none):(knO os)[j]?=some false:=by
 unfold knO;rw [bE,b8 hj];rw [b7,b8 hj] at h
 have h:os[j]=none:=h;rw [h];rfl
theorem qm6_ {os:List (Option Nat)}{j b:Nat} (hj:j < os.length) (h:os.getD j none=some b):(knO os)[j]?=some true:=by
 unfold knO;rw [bE,b8 hj];rw [b7,b8 hj] at h
 have h:os[j]=some b:=h;rw [h];rfl
theorem tells_make {r w n M N k:Nat}{l:Nat->Nat->Nat}{os:List (Option Nat)}{X by':List Nat} (g:GF.Good r w) (W:Wts w M N l) (hos:os.length=N+M) (hX:X.length=N+M) (hlt:∀ b∈X,b < (2 ^ w) ^ n) (hk:k < N+M) (hz:os.getD k none=none) (hm:isMk r w n M N l X=true) (ha:jS_ (N+M) os X) (f:Reck r w (N+M) M (eqn N l) (knO os) k by') :
  GF.sumB r w n (tells r w M N l by' os)=X.getD k 0:=by
 have h:=g.top16
 have hm:=(qlc_ hX).mp hm
 have h0:=GF.lines_zero g.rule g.w1 (n:=n) (m:=N+M) (e:=eqn N l) (x:=fun j=>X.getD j 0) (y:=fun t=>by'.getD t 0) M (fun t j ht hj=>zk_ W h t j ht hj) (fun t ht=>za_ f.lt (by rw [f.len];exact ht)) hm
 unfold tells;rw [GF.sumB_filter (fun k=>(os.getD k none).isSome) (byL r w M N l by') (fun k=>(os.getD k none).getD 0)]
 have h1:=GF.xsum_xor (fun j=>if (os.getD j none).isSome=true then GF.sc r w n (byL r w M N l by' j) ((os.getD j none).getD 0) else 0) (fun j=>GF.sc r w n (GF.dot r w M (fun t=>eqn N l t j) (fun t=>by'.getD t 0)) (X.getD j 0)) (N+M)
 rw [h0,cT] at h1;rw [<- h1,GF.xsum_single hk fun j hj d=>?_]
 ·have e:=f.ok k hk (z4_ (by omega) hz)
  rw [if_pos rfl] at e;rw [hz,e,GF.sc_one g.rule g.w1 (za_ hlt (by rw [hX];exact hk))]
  have:(if (none:Option Nat).isSome=true then GF.sc r w n (byL r w M N l by' k) ((none:Option Nat).getD 0) else 0)=0:=if_neg (by decide)
  rw [this];exact cS _
 ·cases hb:os.getD j none with
  | none =>
   have e:=f.ok j hj (z4_ (by omega) hb)
   rw [if_neg d] at e;rw [e,GF.sc_zero,cT];exact if_neg (by decide)
  | some b =>
   have:=ha j hj b hb
   show GF.sc r w n (byL r w M N l by' j) b ^^^ GF.sc r w n (GF.dot r w M (fun t=>eqn N l t j) (fun t=>by'.getD t 0)) (X.getD j 0)=0
   rw [this];exact dN _
def moved (r w n R:Nat) (X mk:List Nat) (c:Nat):List Nat:=(List.range R).map fun j=>X.getD j 0 ^^^ GF.sc r w n (mk.getD j 0) c
def plainL (i k:Nat):Nat:=if i=0 then 1 else k+1
theorem qld_ {w M N:Nat} (t16:16<=2 ^ w) (h1:1<=M) (h2:M<=2) (h3:1<=N) (h8:N+M<=8):Wts w M N plainL where
 m1:=h1
 m2:=h2
 n1:=h3
 n8:=h8
 lt i k hi hk:=by
  unfold plainL
  split <;> omega
 row i hi:=⟨0,h3,by unfold plainL;split <;> decide⟩
 col k hk:=⟨0,h1,by unfold plainL;rw [if_pos rfl];decide⟩
def jo_ (ks:List Bool):Nat:=ks.countP fun b=>!b
theorem uN_ (N k:Nat):eqn N plainL 0 k=if k<=N then 1 else 0:=by
 unfold eqn plainL
 by_cases h:k < N
 ·rw [if_pos h,if_pos rfl,if_pos (by omega)]
 ·rw [if_neg h]
  by_cases y:k=N
  ·rw [if_pos (by omega),if_pos (by omega)]
  ·rw [if_neg (by omega),if_neg (by omega)]
theorem z5_ (N k:Nat):eqn N plainL 1 k=if k < N then k+1 else if k=N+1 then 1 else 0:=by
 unfold eqn plainL
 by_cases h:k < N
 ·rw [if_pos h,if_neg (by decide),if_pos h]
 ·rw [if_neg h,if_neg h]
  by_cases y:k=N+1
  ·rw [if_pos (by omega),if_pos y]
  ·rw [if_neg (by omega),if_neg y]
theorem qq4_ {w N j:Nat} (t16:16<=2 ^ w) (h8:N+2<=8) (hj:j < N+2):(if j < N then j+1 else if j=N+1 then 1 else 0) < 2 ^ w:=by
 split
 ·omega
 ·split <;> omega
theorem qcr_ {r w N o k:Nat} (g:GF.Good r w) (h8:N+2<=8) (ho:o < N+2) (hk:k < N+2) (hne:o≠k):tot r w N plainL o k≠0:=by
 have d:=g.top16
 have R:=g.rule
 have w1:=g.w1
 have l1:∀ j,j < N+2->eqn N plainL 1 j < 2 ^ w:=fun j hj=>by
  rw [z5_]
  split
  ·omega
  ·split <;> omega
 have e:tot r w N plainL o k=(if k<=N then eqn N plainL 1 o else 0) ^^^ (if o<=N then eqn N plainL 1 k else 0):=by
  unfold tot;rw [uN_,uN_]
  congr 1
  ·by_cases y:k<=N
   ·rw [if_pos y,if_pos y,GF.one_tm R w1 (l1 o ho)]
   ·rw [if_neg y,if_neg y,GF.zero_tm]
  ·by_cases y:o<=N
   ·rw [if_pos y,if_pos y,GF.tm_one]
   ·rw [if_neg y,if_neg y,GF.tm_zero]
 rw [e];intro z
 have z:=qe5_ z;rw [z5_,z5_] at z
 by_cases y1:k<=N
 ·by_cases y2:o<=N
  ·rw [if_pos y1,if_pos y2] at z
   by_cases c1:o < N
   ·rw [if_pos c1] at z
    by_cases c2:k < N
    ·rw [if_pos c2] at z;omega
    ·rw [if_neg c2,if_neg (by omega)] at z;omega
   ·rw [if_neg c1,if_neg (by omega)] at z
    by_cases c2:k < N
    ·rw [if_pos c2] at z;omega
    ·omega
  ·rw [if_pos y1,if_neg y2,if_neg (by omega),if_pos (by omega)] at z
   omega
 ·by_cases y2:o<=N
  ·rw [if_neg y1,if_pos y2,if_neg (by omega),if_pos (by omega)] at z
   omega
  ·omega
theorem vP_ (f:Nat->Bool) (pl:Nat):∀ R,(List.range R).countP f=((List.range R).filter fun k=>f k && !decide (k=pl)).length+if pl < R/\f pl=true then 1 else 0
 | 0=>rfl
 | R+1=>by
  have ih:=vP_ f pl R;rw [di,List.countP_append,ee,cg,ih,List.countP_singleton]
  by_cases y:R=pl
  ·subst y
   have e:([R].filter fun k=>f k && !decide (k=R))=[]:=by simp
   rw [e,if_neg (fun z=>absurd z.1 (cI _))]
   cases hf:f R with
   | true=>rw [if_pos rfl,if_pos ⟨cm _,rfl⟩];rfl
   | false=>rw [if_neg (by decide),if_neg (fun z=>by cases z.2)];rfl
  ·have e:([R].filter fun k=>f k && !decide (k=pl)).length=if f R=true then 1 else 0:=by
    cases hf:f R <;> simp [hf,y]
   rw [e]
   have e2:(if pl < R+1/\f pl=true then 1 else 0)=(if pl < R/\f pl=true then 1 else 0:Nat):=by
    by_cases z:f pl=true
    ·by_cases x:pl < R
     ·rw [if_pos ⟨by omega,z⟩,if_pos ⟨x,z⟩]
     ·rw [if_neg (fun q=>by omega),if_neg (fun q=>x q.1)]
    ·rw [if_neg (fun q=>z q.2),if_neg (fun q=>z q.2)]
   rw [e2];omega
theorem yI_ {ks:List Bool}:jo_ ks=(List.range ks.length).countP fun k=>!(ks.getD k false):=by
 have e:ks=(List.range ks.length).map fun k=>ks.getD k false:=by
  apply cU
  intro k;rw [bE]
  by_cases hk:k < ks.length
  ·rw [cb hk,b8 hk,Option.map,b7,b8 hk]
   rfl
  ·rw [bT (by omega),bT (by rw [bI];omega)]
   rfl
 unfold jo_
 conv=>lhs;rw [e]
 rw [List.countP_map];rfl
theorem qgh_ {R pl:Nat}{ks:List Bool} (hks:ks.length=R) (hpl:pl < R) (hkp:ks.getD pl false=false):jo_ ks=(jv_ R ks pl).length+1:=by
 rw [yI_,hks,vP_ _ pl,if_pos ⟨hpl,by rw [hkp];rfl⟩]
 rfl
theorem qcs_ {r w M N pl:Nat}{ks:List Bool} (g:GF.Good r w) (m1:1<=M) (m2:M<=2) (h8:N+M<=8) (hks:ks.length=N+M) (hpl:pl < N+M) (hkp:ks.getD pl false=false):fixB r w M N plainL ks pl=decide (jo_ ks<=M):=by
 have hg:=qgh_ hks hpl hkp
 have d:=fun k (h:k∈jv_ (N+M) ks pl)=>y5_ h
 have l:(jv_ (N+M) ks pl).Nodup:=cL _ d6;unfold fixB;generalize jv_ (N+M) ks pl=os at hg d l
 cases os with
 | nil=>rw [bN (by rw [hg];exact m1)]
 | cons o os =>
  show (if M=1 then false else _)=_
  by_cases hM:M=1
  ·rw [if_pos hM,bY (by rw [hg,cM];omega)]
  ·rw [if_neg hM]
   have B:M=2:=by omega
   subst B
   have ho:=d o cF
   cases os with
   | nil =>
    rw [bN (by rw [hg];exact bF 2)]
    have e1:tot r w N plainL o o=0:=by
     unfold tot
     have l0:eqn N plainL 0 o < 2 ^ w:=by rw [uN_];have:=g.top16;split <;> omega
     have l1:eqn N plainL 1 o < 2 ^ w:=by rw [z5_];exact qq4_ g.top16 h8 ho.1
     rw [GF.tm_comm g.rule g.w1 l0 l1,dN]
    have e2:=qcr_ g h8 ho.1 hpl ho.2.2
    show (List.all [o,pl] _)=true
    rw [fu,fu,List.all_nil,fD,cC];refine ⟨bN ?_,bN ?_⟩
    ·exact propext ⟨fun z=>absurd e1 z,fun z=>absurd z ho.2.2⟩
    ·exact propext ⟨fun _=>rfl,fun _=>e2⟩
   | cons o2 os =>
    rw [bY (by rw [hg,cM,cM];omega)]
    have s:=d o2 (cz _ cF)
    have ne:o≠o2:=fun z=>(dI.mp l).1 (by rw [z];exact cF)
    have e2:=qcr_ g h8 ho.1 s.1 ne
    cases hz:(o :: o2 :: os++[pl]).all (fun k=>decide ((tot r w N plainL o k≠0)=(k=pl))) with
    | false=>rfl
    | true =>
     have:=c5.mp hz o2 (List.mem_append_left _ (cz _ cF))
     have:=bC this;exact absurd (this.mp e2) s.2.2
theorem qq5_ {F:Nat->Prop}{G:Prop} (Pz:Nat->Prop) (h:(∀ z,Pz z->F z)->G) (key:∀ z,Pz z->F z):G:=h key
theorem qo9_ {x w:Nat} (h:x < 2 ^ w):Builtin.Int.intBits (x:Int)<=w:=by
 by_cases z:x=0
 ·subst z
  exact cn _
 ·have h1:2 ^ x.log2<=x:=(Nat.le_log2 z).mp (bF _)
  have h2:x < 2 ^ (x.log2+1):=(Nat.log2_lt z).mp (cm _);rw [jO_ h1 h2];exact (Nat.log2_lt z).mpr h
theorem qct_ {r w d:Nat} (R:GF.Rule r w) (hd:d < 2 ^ w):V.int ((Builtin.Int.intBits ((2:Int) * (d:Int)):Nat):Int)=V.int ((Builtin.Int.intBits (r:Int):Nat):Int) ↔ 2 ^ w<=2 * d:=by
 have e:(2:Int) * (d:Int)=((2 * d:Nat):Int):=by omega
 rw [jO_ R.lo R.hi,e]
 constructor
 ·intro h
  have h:=V.int.inj h
  by_cases z:2 ^ w<=2 * d
  ·exact z
  ·have:=qo9_ (x:=2 * d) (w:=w) (by omega)
   omega
 ·intro h
  rw [jO_ h (by rw [dl];omega)]
inductive qe6_ (vs:List V) (H:Hp) (Q:VK) (E_3:XK):Prop
 | mk:∀ x y r w:Nat,vs=[.int x,.int y,.int r]->GF.Rule r w->w<=8->x < 2 ^ w->Q (.int (GF.tm r w x y:Nat)) H->qe6_ vs H Q E_3
theorem qm7_ (T:Txt K mg a):FnO P wo K mg base 1 a.f54 ["_law_one", "_law_other", "_law_rule_here"] qe6_:=by
 refine T.x54.F.okA (k:=0) sc_times (fun O A outer s H vs Q E hr h=>?_)
 ·obtain ⟨x,y,r,w,rfl,R,I,hx,q⟩:=h
  refine xx ?_;intro X_;refine xc (qi_ (i:=3) sc_times.nd rfl (Or.inl rfl) qf_) ?_;intro u_;refine xq ?_;refine xw PassesOwn.never (qn_ j3_ (pv 1) qf_ (qp_ _)) ?_;refine xq ?_;refine xi (qn_ jx_ (qm_ qW_ (pv 1) qf_) qf_ (qp_ _)) ?_;refine xl (qi_ (i:=3) sc_times.nd rfl (Or.inl rfl) (qm_ yk_ (pv 3) (pv 0))) ?_;intro u_;refine ⟨_,qw_,?_⟩;intro u_;refine xc (qi_ (i:=0) sc_times.nd rfl (Or.inl rfl) (qm_ ya_ qf_ (pv 0))) ?_;intro u_;refine xq ?_;refine xi (qn_ jx_ (vt_ dU dm dn yQ_ (pv 0)) (vt_ dU dm dn yQ_ (pv 2)) (qp_ _)) ?_;refine xl (qi_ (i:=0) sc_times.nd rfl (Or.inl rfl) (qm_ yk_ (pv 0) (pv 2))) ?_;intro u_;refine ⟨_,qw_,?_⟩;intro u_;refine xl (qi_ (i:=1) sc_times.nd rfl (Or.inl rfl) (qm_ jN_ (pv 1) qf_)) ?_;intro u_;intro u_;refine xl (qo_ (pv 3)) ?_;intro u_
  refine ⟨fun m σ H'=>∃ f d g:Nat,g=m/\σ=[some (.int d),some (.int g),some (.int r),some (.int f)]/\H'=H/\d < 2 ^ w/\f ^^^ GF.tm r w d g=GF.tm r w x y,
   ⟨_,0,x,y,rfl,rfl,rfl,hx,cS _⟩,?_⟩
  rintro m σ H' ⟨f,d,g,rfl,rfl,rfl,hd,B⟩
  have L:d < 256:=bR hd (dh (by decide) I)
  refine ⟨_,rfl,_,_,rfl,rfl,_,rfl,?_⟩;refine ite2 (fun h=>⟨_,fun _ _ z=>z,?_⟩) (fun h=>?_)
  ·have hg:0 < g:=by
    have:=bC h;omega
   have D:((g:Int) / 2)=((g / 2:Nat):Int):=by omega
   have step:=GF.tm_step (r:=r) (w:=w) d g;refine ⟨_,rfl,_,_,rfl,rfl,p0 (by decide),rfl,_,rfl,?_⟩
   refine qq5_ (fun f'=>f' ^^^ GF.tm r w (GF.dbl r w d) (g / 2)=GF.tm r w x y) (fun G=>by
    refine ite2 (fun h1=>?_) (fun h1=>?_)
    ·have C:g % 2=1:=by
      have:=V.int.inj (bC h1);omega
     have l:f ^^^ d ^^^ GF.tm r w (GF.dbl r w d) (g / 2)=GF.tm r w x y:=by rw [<- B,step,if_pos C,dj]
     refine ⟨_,rfl,_,rfl,_,_,rfl,rfl,?_⟩;try dsimp only
     rw [jj_];generalize f ^^^ d=f' at l ⊢;exact G f' l
    ·have C:¬ g % 2=1:=fun z=>h1 (bN (by
      show V.int ((g:Int) % 2)=V.int 1
      congr 1
      omega))
     have l:f ^^^ GF.tm r w (GF.dbl r w d) (g / 2)=GF.tm r w x y:=by rw [<- B,step,if_neg C,cS]
     exact G f l) ?_
   intro f' l;refine ⟨_,rfl,_,_,rfl,rfl,.inl ⟨by decide,by decide⟩,?_⟩
   refine ⟨_,rfl,rfl,_,rfl,rfl,_,rfl,rfl,_,rfl,rfl,rfl,_,rfl,?_⟩;try dsimp only
   refine ite2 (fun h2=>?_) (fun h2=>?_)
   ·have J:=(qct_ R hd).mp (bC h2)
    refine ⟨_,rfl,_,rfl,_,_,rfl,rfl,?_⟩;refine ⟨_,rfl,_,_,rfl,rfl,⟨by decide,by decide⟩,?_⟩
    have e2:Builtin.bitXor ((2:Int) * (d:Int)) (r:Int)=((GF.dbl r w d:Nat):Int):=by
     rw [Int.mul_comm];exact qo5_ (by omega)
    try dsimp only
    rw [e2,D];exact ⟨g / 2,fq hg (by decide),f',GF.dbl r w d,g / 2,rfl,rfl,rfl,GF.dbl_lt R hd,l⟩
   ·have J:¬ 2 ^ w<=2 * d:=fun z=>h2 (bN ((qct_ R hd).mpr z))
    refine ⟨_,rfl,_,_,rfl,rfl,⟨by decide,by decide⟩,?_⟩
    have e2:(2:Int) * (d:Int)=((GF.dbl r w d:Nat):Int):=by
     rw [Int.mul_comm];exact qo6_ (r:=r) (by omega)
    try dsimp only
    rw [e2,D];exact ⟨g / 2,fq hg (by decide),f',GF.dbl r w d,g / 2,rfl,rfl,rfl,GF.dbl_lt R hd,l⟩
  ·have hg:g=0:=by
    have:¬ ((0:Int) < g):=fun z=>h (bN z);omega
   subst hg;rw [GF.tm_zero,cT] at B;refine ⟨_,rfl,?_⟩
   show Q (.int (f:Nat)) H'
   rw [B];exact q
theorem qhx_ (r w f b i:Nat):GF.sc r w (i+1) f b=GF.sc r w i f b+GF.tm r w f (b / (2 ^ w) ^ i % 2 ^ w) * (2 ^ w) ^ i:=by
 unfold GF.sc;rw [GF.syms_range,GF.syms_range,di,cK,cK,cN,fG,cN,fG,GF.join_snoc,b9,b9,bI]
theorem qhy_ {r w f b i:Nat} (h:b / (2 ^ w) ^ i=0):∀ j,GF.sc r w (i+j) f b=GF.sc r w i f b
 | 0=>rfl
 | j+1=>by
  have e:b / (2 ^ w) ^ (i+j)=0:=by
   rw [Nat.pow_add,← Nat.div_div_eq_div_mul,h,Nat.zero_div]
  rw [<- Nat.add_assoc,qhx_,e,Nat.zero_mod,GF.tm_zero,Nat.zero_mul,Nat.add_zero];exact qhy_ h j
inductive qcu_ (vs:List V) (H:Hp) (Q:VK) (E_3:XK):Prop
 | mk:∀ f b r w n:Nat,vs=[.int f,.int b,.int r]->GF.Good r w->f < 2 ^ w->b < (2 ^ w) ^ n->Q (.int (GF.sc r w n f b:Nat)) H->qcu_ vs H Q E_3
theorem qle_ (T:Txt K mg a):FnO P wo K mg base 2 a.f55 ["_law_factor", "_law_block", "_law_rule_here"] qcu_:=by
 refine T.x55.F.okA (k:=1) sc_scaled (fun D A outer s H vs Q E hr h=>?_)
 ·obtain ⟨f,b,r,w,n,rfl,R,hf,hb,q⟩:=h
  have g:=R.w8
  have B:=R.top256
  have C:=R.top16;refine xx ?_;intro X_;refine xc (qi_ (i:=3) sc_scaled.nd rfl (Or.inl rfl) (qm_ uV_ qf_ (qm_ yj_ (vt_ dU dm dn yQ_ (pv 2)) qf_))) ?_;intro u_;refine xc (qi_ (i:=4) sc_scaled.nd rfl (Or.inl rfl) qf_) ?_;intro u_;refine xc (qi_ (i:=5) sc_scaled.nd rfl (Or.inl rfl) qf_) ?_;intro u_;refine xq ?_;refine xw PassesOwn.never (qn_ j3_ (pv 1) qf_ (qp_ _)) ?_;refine xc (qi_ (i:=4) sc_scaled.nd rfl (Or.inl rfl) (qm_ qE_ (pv 4) (qm_ ya_ (qq_ (qm7_ T) hr.u rfl T.x54.m T.x54.k T.x54.b .nil qj_ (qa_ (pv 0) (qa_ (qm_ qW_ (pv 1) (pv 3)) (qa_ (pv 2) qb_)))) (pv 5)))) ?_;intro u_;refine xc (qi_ (i:=1) sc_scaled.nd rfl (Or.inl rfl) (qm_ jN_ (pv 1) (pv 3))) ?_;intro u_;refine xl (qi_ (i:=5) sc_scaled.nd rfl (Or.inl rfl) (qm_ ya_ (pv 5) (pv 3))) ?_;intro u_;intro u_;refine xl (qo_ (pv 4)) ?_;intro u_
  have ew:((Builtin.Int.intBits (r:Int):Nat):Int) - 1=(w:Int):=by
   rw [jO_ R.rule.lo R.rule.hi];omega
  refine ⟨_,rfl,rfl,_,rfl,rfl,_,_,rfl,rfl,?_⟩;try dsimp only
  rw [ew];refine ⟨_,_,rfl,rfl,⟨by omega,by omega,by decide⟩,?_⟩
  try dsimp only
  rw [uG_]
  refine ⟨fun m σ H'=>∃ i:Nat,i<=n/\m=n - i/\σ=[some (.int f),some (.int ((b / (2 ^ w) ^ i:Nat):Int)),some (.int r),some (.int ((2 ^ w:Nat):Int)),some (.int ((GF.sc r w i f b:Nat):Int)),some (.int (((2 ^ w) ^ i:Nat):Int))]/\H'=H,
   ⟨_,0,cn _,rfl,by rw [Nat.pow_zero,Nat.div_one];rfl,rfl⟩,?_⟩
  rintro m σ H' ⟨i,hi,rfl,rfl,rfl⟩;refine ⟨_,rfl,_,_,rfl,rfl,_,rfl,?_⟩;refine ite2 (fun h=>⟨_,fun _ _ z=>z,?_⟩) (fun h=>?_)
  ·have d:0 < b / (2 ^ w) ^ i:=by
    have:=bC h;omega
   have l:i < n:=by
    by_cases z:i < n
    ·exact z
    ·obtain rfl:i=n:=by omega
     rw [Nat.div_eq_of_lt hb] at d;omega
   have e1:((b / (2 ^ w) ^ i:Nat):Int) % ((2 ^ w:Nat):Int)=((b / (2 ^ w) ^ i % 2 ^ w:Nat):Int):=by rw [Int.natCast_emod]
   have e2:((b / (2 ^ w) ^ i:Nat):Int) / ((2 ^ w:Nat):Int)=((b / (2 ^ w) ^ (i+1):Nat):Int):=by rw [dl,← Nat.div_div_eq_div_mul];exact (Int.natCast_ediv _ _).symm
   have tl:=GF.tm_lt R.rule hf (b:=b / (2 ^ w) ^ i % 2 ^ w);refine ⟨_,rfl,_,rfl,_,rfl,_,rfl,_,_,rfl,rfl,(by omega),?_⟩
   try dsimp only
   rw [e1];refine ⟨_,rfl,f,_,r,w,rfl,R.rule,g,hf,_,rfl,_,_,rfl,rfl,.inl ⟨by omega,by omega⟩,_,_,rfl,rfl,?_⟩
   refine ⟨_,rfl,_,rfl,_,_,rfl,rfl,⟨by omega,by omega⟩,?_⟩
   refine ⟨_,rfl,_,rfl,_,_,rfl,rfl,.inr ⟨by omega,by omega⟩,?_⟩
   try dsimp only
   rw [e2];refine ⟨n - (i+1),by omega,i+1,l,rfl,?_,rfl⟩
   rw [qhx_,dl,Int.natCast_add,ft,ft];rfl
  ·have hz:b / (2 ^ w) ^ i=0:=by
    exact Nat.eq_zero_of_not_pos fun z=>h (bN (Int.ofNat_lt.mpr z))
   have:=qhy_ (r:=r) (f:=f) hz (n - i);rw [Nat.add_sub_cancel' hi] at this;refine ⟨_,rfl,?_⟩;rw [<- this];exact q
def qq6_ (i j:Int):Prop:=i.natAbs < 2 ^ 1024/\j.natAbs < 2 ^ 1024
theorem qhz_ {X:Cx}:OpR X (binaryOp .Mult) (rI qq6_ fun i j=>.int (i * j)):=opI fun i j _ _ _ _ _ hc q=>mul_int q (IntMulOk.of_le (intBits_le_iff.mpr hc.1) (intBits_le_iff.mpr hc.2) (by decide))
theorem qdn_ {α β:Type}{xs:List α}{ys:List β}{j:Nat}{x:α}{y:β} (hx:xs[j]?=some x) (hy:ys[j]?=some y):(xs.zip ys).take (j+1)=(xs.zip ys).take j++[(x,y)]:=by
 have h:(xs.zip ys)[j]?=some (x,y):=List.getElem?_zip_eq_some (z:=(x,y)).mpr ⟨hx,hy⟩;rw [eK,h];rfl
inductive qh0_ (K:PySem.W.Frag) (vs:List V) (H:Hp) (Q:VK) (E_3:XK):Prop
 | mk:∀ (sl wl:Addr) (ps:List Addr) (r w n M N:Nat) (l:Nat->Nat->Nat) (xs:List Nat),vs=[.ref sl,.ref wl,.int r]->GF.Good r w->H sl=some (.lst (rowV xs))->xs.length=N->N<=8->M<=2->((∀ x∈xs,x < (2 ^ w) ^ n))->H wl=some (.lst (ps.map V.ref))->TabAt H ps M (rowT N l)->((∀ i k,i < M->k < N->l i k < 2 ^ w))->(∀ D H',Same H H'->H D=none->H' D=some (.lst (rowV (j7_ r w n M N l xs)))->Q (.ref D) H')->qh0_ K vs H Q E_3
theorem qh1_ (T:Txt K mg a):FnO P wo K mg base 3 a.f56 ["_law_some_here", "_law_weights", "_law_rule_here"] (qh0_ K):=by
 refine T.x56.F.okA (k:=2) sc_make (fun O A outer s H vs Q E hr h=>?_)
 ·obtain ⟨sl,wl,ps,r,w,n,M,N,l,xs,rfl,R,d,hN,L,J,G,g,ht,hl,q⟩:=h
  refine xx ?_;intro X_;refine xc (qi_ (i:=3) sc_make.nd rfl (Or.inl rfl) (jB_ jz_ rfl T.n_list (by decide +kernel) (qa_ (pv 0) qb_))) ?_
  intro u_;refine xq ?_;refine xf PassesOwn.never rfl (qB_ (pv 1)) (ql_ (i:=4) sc_make.nd rfl (Or.inl rfl)) ?_;refine xc (qi_ (i:=5) sc_make.nd rfl (Or.inl rfl) qf_) ?_;intro u_;refine xq ?_;refine xf PassesOwn.never rfl (vv_ rfl T.n_zip (qa_ (pv 4) (qa_ (pv 0) qb_))) (yL_ rfl (qH_ (ql_ (i:=6) sc_make.nd rfl (Or.inl rfl)) (qH_ (ql_ (i:=7) sc_make.nd rfl (Or.inl rfl)) jM_))) ?_;refine xl (qi_ (i:=5) sc_make.nd rfl (Or.inl rfl) (qm_ yk_ (pv 5) (qq_ (qle_ T) hr.u rfl T.x55.m T.x55.k T.x55.b .nil qj_ (qa_ (pv 6) (qa_ (pv 7) (qa_ (pv 2) qb_)))))) ?_;intro u_;intro u_;refine xl (qV_ (jF_ cB cD cE qQ_ (pv 3) (qa_ (pv 5) qb_))) ?_;intro u_;intro u_;refine xl (qo_ (pv 3)) ?_;intro u_
  have el:(ps.map V.ref).length=M:=by rw [b9,ht.len]
  refine ⟨_,rfl,sl,_,rfl,.inl (SqL.of d),fun D nD=>?_⟩
  have sD:=Same.new (o:=.lst (rowV xs)) nD
  have hD:(upd H D (.lst (rowV xs))) D=some (.lst (rowV xs)):=qc_;generalize (upd H D (.lst (rowV xs)))=H1 at sD hD;refine ⟨_,rfl,wl,rfl,⟨_,SqL.of (sD _ _ g)⟩,?_⟩;refine let I_:Nat->L2.St->Hp->Prop:=fun i σ H'=>L2.A3 ((∃ v4 v5 v6 v7:Option V,σ=[some (.ref sl),some (.ref wl),some (.int r),some (.ref D),v4,v5,v6,v7])) (Same H H') (H' D=some (.lst (rowV (xs++(List.range i).map fun t=>GF.sumB r w n ((rowT N l t).zip xs)))));ji_ (xs:=ps.map V.ref) I_ ⟨⟨none,none,none,none,rfl⟩,sD,by rw [hD];simp⟩ ?_ ?_ ?_
  ·rintro i σ H' _ ⟨_,sm,_⟩
   exact SqL.of (sm _ _ g)
  ·rintro i x σ H' hx ⟨⟨v4,v5,v6,v7,rfl⟩,sm,h1⟩
   have hi:i < M:=by rw [<- el];exact (bK.mp hx).1
   obtain ⟨p,ep,hp⟩:=ht.get hi;rw [qO_ ep] at hx
   cases bM hx;refine ⟨_,rfl,_,rfl,p,sl,_,_,rfl,SqL.of (sm _ _ hp),SqL.of (sm _ _ d),let I_:Nat->L2.St->Hp->Prop:=fun j σ H'=>L2.A3 ((∃ v6 v7:Option V,σ=[some (.ref sl),some (.ref wl),some (.int r),some (.ref D),some (.ref p),some (.int ((GF.sumB r w n (((rowT N l i).zip xs).take j):Nat):Int)),v6,v7])) (Same H H') (H' D=some (.lst (rowV (xs++(List.range i).map fun t=>GF.sumB r w n ((rowT N l t).zip xs)))));qa3_ (K:=K) (l1:=p) (l2:=sl) (xs:=rowV (rowT N l i)) (ys:=rowV xs) I_ ⟨⟨_,_,rfl⟩,sm,h1⟩ ?_ (by rw [qg_,qg_,qu_,hN]) ?_ ?_⟩
   ·rintro j σ H2 _ ⟨_,s2,_⟩
    exact ⟨SqL.of (s2 _ _ hp),SqL.of (s2 _ _ d)⟩
   ·rintro j u v T' σ H2 hj hu hv hT ⟨⟨v6,v7,rfl⟩,s2,h2⟩
    obtain ⟨f,hf,rfl⟩:=qN_ hu;obtain ⟨b,hb,rfl⟩:=qN_ hv
    have s3:=s2.trans (Same.new (o:=.tup [V.int (f:Nat),V.int (b:Nat)]) hT)
    have h3:=(Same.new (o:=.tup [V.int (f:Nat),V.int (b:Nat)]) hT) _ _ h2;refine ⟨T',_,rfl,SqT.of qc_,rfl,_,_,rfl,_,_,rfl,rfl,?_⟩;generalize (upd H2 T' (.tup [V.int (f:Nat),V.int (b:Nat)]))=H3 at s3 h3
    have I:f < 2 ^ w:=by
     have B:j < N:=by
      have:=(bK.mp hf).1;rw [qu_] at this;exact this
     unfold rowT at hf;rw [bE,cb B] at hf
     cases hf;exact hl i j hi B
    refine ⟨_,rfl,_,rfl,_,rfl,_,rfl,f,b,r,w,n,rfl,R,I,G b (bO hb),_,_,rfl,rfl,?_⟩;try dsimp only
    rw [jj_];refine ⟨⟨some (.int (f:Nat)),some (.int (b:Nat)),?_⟩,s3,h3⟩;rw [qdn_ hf hb,GF.sumB_snoc];rfl
   ·rintro σ H2 ⟨⟨v6,v7,rfl⟩,s2,h2⟩
    have C:(rowV (xs++(List.range i).map fun t=>GF.sumB r w n ((rowT N l t).zip xs))).length < sizeLine:=by
     rw [qg_,cg,b9,bI];exact fi (by omega:xs.length+i < 11) (by decide)
    refine ⟨_,rfl,.inl ⟨rfl,_,SqL.of h2⟩,_,rfl,D,_,_,rfl,rfl,h2,C,⟨_,_,_,_,rfl⟩,s2.up nD,?_⟩
    have ez:((rowT N l i).zip xs).take (rowV (rowT N l i)).length=(rowT N l i).zip xs:=List.take_of_length_le (by rw [qg_,List.length_zip];omega)
    rw [qc_,ez,di,cK,← eI,jE_];rfl
  ·rintro σ H' ⟨⟨v4,v5,v6,v7,rfl⟩,sm,h1⟩
   rw [el] at h1;exact ⟨_,rfl,q D H' sm nD h1⟩
inductive qh2_ (K:PySem.W.Frag) (vs:List V) (H:Hp) (Q:VK) (E_3:XK):Prop
 | mk:∀ (s:Addr) (ns:List Int) (st N L:Nat),vs=[.ref s,.int st,.int N,.int L]->SqL K H s (ns.map V.int)->ns.length<=63->st+N<=99->N<=8->0 < L->L<=2 ^ 128->(∀ D H' xs,Same H H'->H D=none->H' D=some (.lst (rowV xs))->xs.length=N->(∀ x∈xs,x < L)->Q (.ref D) H')->qh2_ K vs H Q E_3
theorem qh3_ (T:Txt K mg a):FnO P wo K mg base 2 a.f57 ["_law_script", "_law_start", "_law_many", "_law_limit"] (qh2_ K):=by
 refine T.x57.F.okA (k:=1) sc_some (fun J A outer s H vs Q E hr h=>?_)
 ·obtain ⟨sa,ns,st,N,L,rfl,hS,hn,G,I,g,hL,q⟩:=h
  refine xx ?_;intro X_;refine xc (qi_ (i:=4) sc_some.nd rfl (Or.inl rfl) (q7_ qb_)) ?_;intro u_;refine xq ?_;refine xf PassesOwn.never rfl (qL_ rfl T.n_range (qa_ (pv 2) qb_)) (ql_ (i:=5) sc_some.nd rfl (Or.inl rfl)) ?_;refine xc (qi_ (i:=6) sc_some.nd rfl (Or.inl rfl) (qm_ qW_ (qq_ (y8_ T) hr.u rfl T.x52.m T.x52.k T.x52.b .nil qj_ (qa_ (pv 0) (qa_ (qm_ qE_ (pv 1) (pv 5)) qb_))) (pv 3))) ?_;intro u_;refine xl (qV_ (jF_ cB cD cE qQ_ (pv 4) (qa_ (qm_ qW_ (qm_ qhz_ (pv 6) (qm_ qE_ (qm_ qE_ (qm_ qpz_ qf_ qf_) qf_) (qm_ qhz_ qf_ (pv 5)))) (pv 3)) qb_))) ?_;intro u_;intro u_;refine xl (qo_ (pv 4)) ?_;intro u_;refine ⟨cn _,fun D nD=>?_⟩
  have sD:=Same.new (o:=.lst []) nD
  have hD:(upd H D (.lst [])) D=some (.lst []):=qc_;generalize (upd H D (.lst []))=H1 at sD hD
  have l:(0:Int) < (L:Int):=by omega
  refine ⟨_,rfl,_,rfl,by omega,by omega,?_⟩
  rw [cx];refine let I_:Nat->L2.St->Hp->Prop:=fun i σ H'=>L2.A3 ((∃ v5 v6:Option V,σ=[some (.ref sa),some (.int st),some (.int N),some (.int L),some (.ref D),v5,v6])) (Same H H') (L2.E1 fun (xs:List Nat)=>L2.A3 (H' D=some (.lst (rowV xs))) (xs.length=i) (∀ x∈xs,x < L));jq_ (lo:=0) (n:=N) I_ ⟨⟨none,none,rfl⟩,sD,[],hD,rfl,fun x hx=>absurd hx ca⟩ ?_ ?_
  ·rintro i σ H' hi ⟨⟨v5,v6,rfl⟩,sm,xs,h1,d,hx⟩
   have ei:(0:Int)+(i:Nat)=((i:Nat):Int):=by omega
   rw [ei];refine ⟨_,rfl,_,rfl,_,rfl,_,_,rfl,rfl,?_⟩;try dsimp only
   rw [show (st:Int)+(i:Int)=((st+i:Nat):Int) by omega]
   refine ⟨sa,ns,st+i,rfl,sm.seq hS,by omega,hn,fun c=>?_⟩
   obtain ⟨y,hy,ey⟩:=modN c g;refine ⟨_,rfl,_,_,rfl,rfl,p0 l,?_⟩;try dsimp only
   rw [ey]
   have big:∀ z:Nat,z<=2 ^ 128->(z:Int).natAbs < 2 ^ 1024:=fun z h=>by
    rw [Int.natAbs_natCast];exact cY h (by decide +kernel)
   have C:i < 8:=by omega
   refine ⟨_,rfl,.inl ⟨rfl,_,SqL.of h1⟩,_,rfl,_,_,rfl,rfl,⟨by decide,by decide,by decide⟩,_,_,rfl,rfl,_,rfl,_,_,rfl,rfl,⟨by decide +kernel,big i (bG (du C) (by decide))⟩,_,_,rfl,rfl,_,_,rfl,rfl,⟨big y (by omega),?_⟩,?_⟩
   ·have e:(10:Int) ^ (39:Int).toNat+7+2 * (i:Int)=((10 ^ 39+7+2 * i:Nat):Int):=by
     rw [Int.natCast_add,ft];rfl
    rw [e,Int.natAbs_natCast];exact cY (show 10 ^ 39+7+2 * i<=10 ^ 39+7+2 * 8 by omega) (by decide +kernel)
   obtain ⟨z,hz,ez⟩:=modN ((y:Int) * ((10:Int) ^ (39:Int).toNat+7+2 * (i:Int))) g;refine ⟨_,rfl,_,_,rfl,rfl,p0 l,?_⟩;try dsimp only
   rw [ez]
   have r:(rowV xs).length < sizeLine:=by
    rw [qg_];exact fi (by omega:xs.length < 9) (by decide)
   refine ⟨D,_,_,rfl,rfl,h1,r,⟨_,_,rfl⟩,sm.up nD,xs++[z],by rw [qc_,← jE_],by rw [cg,d];rfl,fun x B=>?_⟩
   rcases bU.mp B with y | y
   ·exact hx x y
   ·rw [bS.mp y];exact hz
  ·rintro σ H' ⟨⟨v5,v6,rfl⟩,sm,xs,h1,d,hx⟩
   exact ⟨_,rfl,q D H' xs sm nD h1 d hx⟩
inductive qe7_ (vs:List V) (H:Hp) (Q:VK) (E_3:XK):Prop
 | mk:∀ c:Int,vs=[.int c]->(∀ (t:Addr) (H':Hp) (N M:Nat),1<=M->M<=2->1<=N->N+M<=8->H t=none->Same H H'->H' t=some (.tup [.int (N:Nat),.int (M:Nat)])->Q (.ref t) H')->qe7_ vs H Q E_3
theorem qm8_ (T:Txt K mg a):FnO P wo K mg base 1 a.f59 ["_law_cell_here"] qe7_:=by
 refine T.x59.F.okA (k:=0) sc_sizes (fun B A outer s H vs Q E hr h=>?_)
 ·obtain ⟨c,rfl,q⟩:=h
  refine xx ?_;intro X_;refine xc (qi_ (i:=1) sc_sizes.nd rfl (Or.inl rfl) (qm_ qE_ qf_ (qm_ qW_ (pv 0) qf_))) ?_;intro u_;refine xl (qo_ (yO_ (qa_ (qm_ qE_ qf_ (qm_ qW_ (qm_ jN_ (pv 0) qf_) (qm_ yj_ qf_ (pv 1)))) (qa_ (pv 1) qb_)))) ?_;intro u_;obtain ⟨m0,r,d⟩:=modN c (n:=2) (by decide)
  have d:c % 2=(m0:Int):=d;refine ⟨_,rfl,_,_,rfl,rfl,p0 (by decide),_,_,rfl,rfl,?_⟩
  try dsimp only
  rw [d,show (1:Int)+(m0:Int)=((1+m0:Nat):Int) by omega]
  obtain ⟨n0,l,g⟩:=modN (c / 2) (n:=8 - (1+m0)) (by omega)
  have e8:(8:Int) - ((1+m0:Nat):Int)=((8 - (1+m0):Nat):Int):=by omega
  refine ⟨_,rfl,_,_,rfl,rfl,⟨by decide,by decide⟩,_,rfl,_,_,rfl,rfl,_,_,rfl,rfl,(by rw [e8];omega),_,_,rfl,rfl,_,rfl,(by show 2<=sizeLine;decide),fun t nt=>?_⟩
  refine q t _ (1+n0) (1+m0) (by omega) (by omega) (by omega) (by omega) nt (Same.new nt) ?_
  rw [qc_];try dsimp only
  rw [e8,g];rfl
inductive qe8_ (vs:List V) (H:Hp) (Q:VK) (E_3:XK):Prop
 | mk:∀ (c:Int) (R:Nat),vs=[.int c,.int R]->R<=8->(∀ D H' (cs:List Nat),Same H H'->H D=none->H' D=some (.lst (rowV cs))->cs.length=R->(∀ x∈cs,1<=x/\x<=9)->Q (.ref D) H')->qe8_ vs H Q E_3
theorem qm9_ (T:Txt K mg a):FnO P wo K mg base 1 a.f60 ["_law_cell_here", "_law_roles"] qe8_:=by
 refine T.x60.F.okA (k:=0) sc_costs (fun B A outer s H vs Q E hr h=>?_)
 ·obtain ⟨c,R,rfl,hR,q⟩:=h
  refine xx ?_;intro X_;refine xc (qi_ (i:=2) sc_costs.nd rfl (Or.inl rfl) (qm_ qW_ (pv 0) qf_)) ?_;intro u_;refine xc (qi_ (i:=3) sc_costs.nd rfl (Or.inl rfl) (q7_ qb_)) ?_;intro u_;refine xq ?_;refine xf PassesOwn.never rfl (qL_ rfl T.n_range (qa_ (pv 1) qb_)) (ql_ (i:=4) sc_costs.nd rfl (Or.inl rfl)) ?_;refine xc (qV_ (jF_ cB cD cE qQ_ (pv 3) (qa_ (qm_ qE_ qf_ (qm_ qW_ (pv 2) qf_)) qb_))) ?_;intro u_;refine xl (qi_ (i:=2) sc_costs.nd rfl (Or.inl rfl) (qm_ jN_ (pv 2) qf_)) ?_;intro u_;intro u_;refine xl (qo_ (pv 3)) ?_;intro u_;obtain ⟨z0,_,l⟩:=modN c (n:=43046721) (by decide)
  refine ⟨_,rfl,_,_,rfl,rfl,p0 (by decide),?_⟩
  try dsimp only
  rw [show c % 43046721=(z0:Int) from l];refine ⟨cn _,fun D nD=>?_⟩
  have sD:=Same.new (o:=.lst []) nD
  have hD:(upd H D (.lst [])) D=some (.lst []):=qc_;generalize (upd H D (.lst []))=H1 at sD hD;refine ⟨_,rfl,_,rfl,by omega,by omega,?_⟩
  rw [cx];refine let I_:Nat->L2.St->Hp->Prop:=fun i σ H'=>L2.A3 ((∃ (v4:Option V) (z:Nat),σ=[some (.int c),some (.int R),some (.int z),some (.ref D),v4])) (Same H H') (L2.E1 fun (cs:List Nat)=>L2.A3 (H' D=some (.lst (rowV cs))) (cs.length=i) (∀ x∈cs,1<=x/\x<=9));jq_ (lo:=0) (n:=R) I_ ⟨⟨none,z0,rfl⟩,sD,[],hD,rfl,fun x hx=>absurd hx ca⟩ ?_ ?_
  ·rintro i σ H' hi ⟨⟨v4,z,rfl⟩,sm,cs,h1,d,hx⟩
   have g:(rowV cs).length < sizeLine:=by
    rw [qg_];exact fi (by omega:cs.length < 9) (by decide)
   refine ⟨_,rfl,.inl ⟨rfl,_,SqL.of h1⟩,_,rfl,_,_,rfl,rfl,p0 (by decide),_,_,rfl,rfl,D,_,_,rfl,rfl,h1,g,?_⟩
   refine ⟨_,rfl,_,_,rfl,rfl,⟨by decide,by decide⟩,?_⟩
   try dsimp only
   rw [show (z:Int) / 9=((z / 9:Nat):Int) by omega,show (1:Int)+(z:Int) % 9=((1+z % 9:Nat):Int) by omega]
   refine ⟨⟨_,_,rfl⟩,sm.up nD,cs++[1+z % 9],by rw [qc_,← jE_],by rw [cg,d];rfl,fun x r=>?_⟩
   rcases bU.mp r with y | y
   ·exact hx x y
   ·rw [bS.mp y];omega
  ·rintro σ H' ⟨⟨v4,z,rfl⟩,sm,cs,h1,d,hx⟩
   exact ⟨_,rfl,q D H' cs sm nD h1 d hx⟩
def fx (r w M N:Nat) (l:Nat->Nat->Nat) (ks:List Bool) (k:Nat):Bool:=ks.getD k false || fixB r w M N l ks k
theorem qqd_ {ks:List Bool}{k:Nat} (h:k < ks.length):ks[k]?=some (ks.getD k false):=by
 rw [b7,b8 h];rfl
inductive qh4_ (K:PySem.W.Frag) (a:Adr) (vs:List V) (H:Hp) (Q:VK) (E_3:XK):Prop
 | mk:∀ (c bp fp kn:Addr) (r w n M N k:Nat) (l:Nat->Nat->Nat) (ks:List Bool),vs=[.ref c,.ref kn,.int k]->CodeAt a H c bp fp r w n M N l->GF.Full r w->Wts w M N l->H kn=some (.lst (knV ks))->ks.length=N+M->k < N+M->(∀ H',Same H H'->Q (.bl (fx r w M N l ks k)) H')->qh4_ K a vs H Q E_3
theorem vo_ (T:Txt K mg a):FnO P wo K mg base 8 a.f25 ["self", "known", "role"] (qh4_ K a):=by
 refine T.x25.F.okA (k:=7) qdj_ (fun L A outer s H vs Q E hr h=>?_)
 ·obtain ⟨c,bp,fp,kn,r,w,n,M,N,k,l,ks,rfl,hC,g,W,C,d,hk,q⟩:=h
  obtain ⟨dx,Lp,qs,h1,h2,h3⟩:=id hC.ins;refine xx ?_;intro X_;refine xc (qV_ (qx_ (pv 0) T.cl_Code T.x24.me (yS_ T) hr.u T.x24.b .nil qj_ (qa_ (pv 2) qb_))) ?_;intro u_;refine xl (qo_ (qnt_ (qy_ qz_ (pv 1) (pv 2) (fun _ _=>rfl)) (qdt_ (yq_ jx_ (qy_ vs_ (qx_ (pv 0) T.cl_Code T.x23.me (vO_ T) hr.u T.x23.b .nil qj_ (qa_ (pv 1) (qa_ (pv 2) qb_))) qf_ (fun _ _=>rfl)) uR_ (qp_ _))))) ?_;intro u_;refine ⟨_,rfl,c,dx,_,rfl,h1,rfl,_,rfl,c,bp,fp,r,w,n,M,N,k,l,rfl,hC,hk,?_⟩
  have hb:=qqd_ (ks:=ks) (k:=k) (by omega)
  have I:(knV ks)[k]?=some (.bl (ks.getD k false)):=by unfold knV;rw [bE,hb];rfl
  refine ⟨_,rfl,_,rfl,kn,_,_,_,rfl,rfl,SqL.of C,qv_ I,_,rfl,?_⟩;unfold fx at q
  cases hz:ks.getD k false with
  | true =>
   rw [hz] at q;refine ite2 (fun _=>?_) (fun z=>absurd rfl z);exact q H (Same.refl _)
  | false =>
   rw [hz] at q hb;refine ite2 (fun z=>absurd z (by decide)) (fun _=>?_)
   refine ⟨_,rfl,c,dx,_,rfl,h1,rfl,_,rfl,_,rfl,c,bp,fp,kn,r,w,n,M,N,k,l,ks,rfl,hC,g,W,C,d,hk,hb,fun D H1 s1 nD G fr=>?_⟩;rcases G with ⟨e,J,hD,he,B⟩ | ⟨e,mk,hD,he,B⟩
   ·refine ⟨D,_,_,_,rfl,rfl,SqT.of hD,rfl,rfl,?_⟩
    try dsimp only
    rw [bN rfl]
    have:=q H1 s1;rw [qcp_ g W d hk hz B] at this;exact this
   ·refine ⟨D,_,_,_,rfl,rfl,SqT.of hD,rfl,rfl,?_⟩
    try dsimp only
    rw [bY (fun z=>absurd (V.str.inj z) (by decide))]
    have:=q H1 s1;rw [qcq_ g W d hk hz B] at this;exact this
inductive qap_ (K:PySem.W.Frag) (a:Adr) (vs:List V) (H:Hp) (Q:VK) (E_3:XK):Prop
 | mk:∀ (c bp fp kn so:Addr) (r w n M N:Nat) (l:Nat->Nat->Nat) (ks:List Bool) (rs:List Nat),vs=[.ref c,.ref kn,.ref so]->CodeAt a H c bp fp r w n M N l->GF.Full r w->Wts w M N l->H kn=some (.lst (knV ks))->ks.length=N+M->SqL K H so (rowV rs)->((∀ k∈rs,k < N+M))->(∀ H',Same H H'->Q (.bl (rs.all (fx r w M N l ks))) H')->qap_ K a vs H Q E_3
theorem zl_ (T:Txt K mg a):FnO P wo K mg base 9 a.f30 ["code", "known", "some"] (qap_ K a):=by
 refine T.x30.F.okA (k:=8) sc_fixes_all (fun J A outer s H vs Q E hr h=>?_)
 ·obtain ⟨c,bp,fp,kn,so,r,w,n,M,N,l,ks,rs,rfl,hC,g,W,G,D,B,I,q⟩:=h
  refine xx ?_;intro X_;refine xq ?_;refine xf PassesOwn.never rfl (qB_ (pv 2)) (ql_ (i:=3) sc_fixes_all.nd rfl (Or.inl rfl)) ?_;refine x1 ?_;refine xi (j9_ (q6_ (qx_ (pv 0) T.cl_Code T.x25.me (vo_ T) hr.u T.x25.b .nil qj_ (qa_ (pv 1) (qa_ (pv 3) qb_))))) ?_;refine xl (qo_ zp_) ?_;intro u_;refine ⟨_,qw_,?_⟩;intro u_;intro u_;refine xl (qo_ zp_) ?_;intro u_;refine ⟨_,rfl,so,rfl,⟨_,B⟩,?_⟩;refine let I_:Nat->L2.St->Hp->Prop:=fun i σ H'=>L2.A3 ((∃ v3:Option V,σ=[some (.ref c),some (.ref kn),some (.ref so),v3])) (Same H H') ((rs.take i).all (fx r w M N l ks)=true);ji_ (xs:=rowV rs) I_ ⟨⟨none,rfl⟩,Same.refl _,rfl⟩ ?_ ?_ ?_
  ·rintro i σ H' _ ⟨_,sm,_⟩
   exact sm.seq B
  ·rintro i x σ H' hx ⟨⟨v3,rfl⟩,sm,d⟩
   obtain ⟨k,ek,rfl⟩:=qN_ hx
   have hk:=I k (bO ek)
   have C:=hC.same sm;obtain ⟨dx,Lp,qs,h1,_,_⟩:=id C.ins;refine ⟨_,rfl,c,dx,_,rfl,h1,rfl,_,rfl,_,rfl,c,bp,fp,kn,r,w,n,M,N,k,l,ks,rfl,C,g,W,sm _ _ G,D,hk,fun H2 s2=>?_⟩;refine ⟨_,rfl,?_⟩
   cases hz:fx r w M N l ks k with
   | true =>
    refine ite2 (fun z=>absurd z (by decide)) (fun _=>⟨⟨_,rfl⟩,sm.trans s2,?_⟩)
    rw [eK,ek,List.all_append,d]
    show (true && ([k].all (fx r w M N l ks)))=true
    rw [fu,hz];rfl
   | false =>
    refine ite2 (fun _=>?_) (fun z=>absurd rfl z)
    have:rs.all (fx r w M N l ks)=false:=by
     rw [Bool.eq_false_iff];intro z
     have:=c5.mp z k (bO ek);rw [hz] at this
     cases this
    rw [this] at q;exact q H2 (sm.trans s2)
  ·rintro σ H' ⟨⟨v3,rfl⟩,sm,d⟩
   rw [qg_,fc] at d;rw [d] at q;exact q H' sm
def af (c f cl rl sl:Addr):List (Str × V):=[("code",.ref c),("ask",.ref f),("costs",.ref cl),("row",.ref rl),("asked",.ref sl)]
theorem jQ_ (c f cl rl sl:Addr):(af c f cl rl sl).lookup ("code" : Str)=some (.ref c):=rfl
theorem qqe_ (c f cl rl sl:Addr):(af c f cl rl sl).lookup ("ask" : Str)=some (.ref f):=rfl
theorem zm_ (c f cl rl sl:Addr):(af c f cl rl sl).lookup ("costs" : Str)=some (.ref cl):=rfl
theorem vQ_ (c f cl rl sl:Addr):(af c f cl rl sl).lookup ("row" : Str)=some (.ref rl):=rfl
theorem qe9_ (c f cl rl sl:Addr):(af c f cl rl sl).lookup ("asked" : Str)=some (.ref sl):=rfl
inductive qcv_ (K:PySem.W.Frag) (a:Adr) (vs:List V) (H:Hp) (Q:VK) (E_3:XK):Prop
 | mk:∀ (x dx c bp fp f cl0:Addr) (r w n M N:Nat) (l:Nat->Nat->Nat) (cs:List (Option Nat)),vs=[.ref x,.ref c,.ref f,.ref cl0]->H x=some (.ins a.C_Asking dx [])->CodeAt a H c bp fp r w n M N l->Wts w M N l->SqL K H cl0 (rowO cs)->cs.length<=8->(∀ H' cl rl sl,(∀ b o,b≠x->H b=some o->H' b=some o)->H' x=some (.ins a.C_Asking dx (af c f cl rl sl))->H cl=none->H rl=none->H sl=none->cl≠rl->cl≠sl->rl≠sl->H' cl=some (.lst (rowO cs))->H' rl=some (.lst (rowO (List.replicate (N+M) none)))->H' sl=some (.lst (rowV []))->Q .non H')->qcv_ K a vs H Q E_3
theorem qbi_ (T:Txt K mg a):FnO P wo K mg base 1 a.f31 ["self", "code", "ask", "costs"] (qcv_ K a):=by
 refine T.x31.F.okA (k:=0) qbb_ (fun aj A outer s H vs Q E hr h=>?_)
 ·obtain ⟨x,dx,c,bp,fp,f,Y,r,w,n,M,N,l,cs,rfl,hx,hC,W,ab,ai,q⟩:=h
  obtain ⟨dc,Lp,qs,h1,_,_⟩:=id hC.ins
  have n8:=W.n8
  have G:c≠x:=fun z=>by
   rw [z,hx] at h1
   have:=(HO.ins.inj (bM h1)).2.2;unfold cf at this
   cases this
  refine xx ?_;intro X_;refine xc (jd_ (pv 0) (pv 1) rfl) ?_;intro u_;refine xc (jd_ (pv 0) (pv 2) rfl) ?_;intro u_;refine xc (jd_ (pv 0) (jB_ jz_ rfl T.n_list (by decide +kernel) (qa_ (pv 3) qb_)) rfl) ?_
  intro u_;refine xc (jd_ (pv 0) (qm_ uZ_ (q7_ (qa_ qG_ qb_)) (qt_ (pv 1) rfl)) rfl) ?_;intro u_;refine xl (jd_ (pv 0) (q7_ qb_) rfl) ?_;intro u_;refine ⟨_,rfl,_,rfl,x,a.C_Asking,dx,_,rfl,hx,T.cl_Asking,T.no_Asking_code,(by decide),?_⟩
  refine ⟨_,rfl,_,rfl,x,a.C_Asking,dx,_,rfl,qc_,T.cl_Asking,T.no_Asking_ask,(by show (1:Nat) < 1000;decide),?_⟩
  dsimp only;rw [q8_]
  have ad:putF "ask" (.ref f) (putF "code" (.ref c) [])=[(("code" : Str),V.ref c),(("ask" : Str),.ref f)]:=rfl
  rw [ad]
  have fr:∀ {fs:List (Str × V)}{b:Addr},(upd H x (.ins a.C_Asking dx fs)) b=none->H b=none:=fun {fs b} z=>by
   by_cases e:b=x
   ·rw [e,qc_] at z;cases z
   ·rwa [qd_ e] at z
  have aa:SqL K (upd H x (.ins a.C_Asking dx [(("code" : Str),V.ref c),(("ask" : Str),.ref f)])) Y (rowO cs):=by
   rcases ab with (z | ⟨o,z⟩) | z
   ·exact .inl (.inl (by rw [qd_ (qY_ z hx (fun y=>by cases y))];exact z))
   ·exact .inl (.inr ⟨o,by rw [qd_ (qY_ z hx (fun y=>by cases y))];exact z⟩)
   ·exact .inr z
  refine ⟨_,rfl,Y,_,rfl,.inl aa,fun cl X=>?_⟩
  have B:=fr X
  have d:x≠cl:=fun z=>by rw [<- z,qc_] at X;cases X
  refine ⟨_,rfl,x,a.C_Asking,dx,_,rfl,(by rw [qd_ d];exact qc_),T.cl_Asking,T.no_Asking_costs,(by show (2:Nat) < 1000;decide),?_⟩
  refine ⟨(show 1<=sizeLine by decide),fun p1 n1=>?_⟩
  have D:x≠p1:=fun z=>by rw [<- z,qc_] at n1;cases n1
  have J:p1≠cl:=fun z=>by rw [z,qd_ (cJ d),qc_] at n1;cases n1
  have ae:(upd (upd (upd (upd H x (.ins a.C_Asking dx [(("code" : Str),V.ref c),(("ask" : Str),.ref f)])) cl (.lst (rowO cs))) x (.ins a.C_Asking dx (putF "costs" (.ref cl) [(("code" : Str),V.ref c),(("ask" : Str),.ref f)]))) p1 (.lst [V.non])) c=some (.ins a.C_Code dc (cf bp M N Lp)):=by
   have n2:c≠p1:=fun z=>by
    rw [<- z,qd_ G,qd_ (fun y=>by rw [y,B] at h1;cases h1),qd_ G,h1] at n1
    cases n1
   rw [qd_ n2,qd_ G,qd_ (fun y=>by rw [y,B] at h1;cases h1),qd_ G]
   exact h1
  refine ⟨_,rfl,c,_,_,_,_,rfl,ae,T.cl_Code,T.no_Code_roles,zj_ bp M N Lp,p1,_,_,rfl,rfl,qc_,by omega,by omega,?_,fun rl nrl=>?_⟩
  ·rw [cx]
   show 1 * (N+M)<=sizeLine
   exact bG (by omega:1 * (N+M)<=30) (by decide)
  have g:x≠rl:=fun z=>by rw [<- z,qd_ D,qc_] at nrl;cases nrl
  have Z:rl≠p1:=fun z=>by rw [z,qc_] at nrl;cases nrl
  have I:rl≠cl:=fun z=>by rw [z,qd_ (cJ J),qd_ (cJ d),qc_] at nrl;cases nrl
  have O:H rl=none:=by
   rw [qd_ Z,qd_ (cJ g),qd_ I,qd_ (cJ g)] at nrl;exact nrl
  refine ⟨_,rfl,x,a.C_Asking,dx,_,rfl,(by rw [qd_ g,qd_ D];exact qc_),T.cl_Asking,T.no_Asking_row,(by show (3:Nat) < 1000;decide),?_⟩
  refine ⟨cn _,fun sl nsl=>?_⟩
  have C:x≠sl:=fun z=>by rw [<- z,qc_] at nsl;cases nsl
  have S:sl≠rl:=fun z=>by rw [z,qd_ (cJ g),qc_] at nsl;cases nsl
  have ah:sl≠p1:=fun z=>by rw [z,qd_ (cJ D),qd_ (cJ Z),qc_] at nsl;cases nsl
  have L:sl≠cl:=fun z=>by rw [z,qd_ (cJ d),qd_ (cJ I),qd_ (cJ J),qd_ (cJ d),qc_] at nsl;cases nsl
  have U:H sl=none:=by
   rw [qd_ (cJ C),qd_ S,qd_ ah,qd_ (cJ C),qd_ L,qd_ (cJ C)] at nsl;exact nsl
  have ac:H p1=none:=by
   rw [qd_ (cJ D),qd_ J,qd_ (cJ D)] at n1;exact n1
  refine ⟨_,rfl,x,a.C_Asking,dx,_,rfl,(by rw [qd_ C];exact qc_),T.cl_Asking,T.no_Asking_asked,(by show (4:Nat) < 1000;decide),?_⟩
  refine q _ cl rl sl (fun b o hb hz=>?_) qc_ B O U (cJ I) (cJ L) (cJ S) ?_ ?_ ?_
  ·have f1:∀ y,H y=none->b≠y:=fun y ny e=>by rw [e,ny] at hz;cases hz
   rw [qd_ hb,qd_ (f1 sl U),qd_ hb,qd_ (f1 rl O),qd_ (f1 p1 ac),qd_ hb,qd_ (f1 cl B),qd_ hb];exact hz
  ·rw [qd_ (cJ d),qd_ (cJ L),qd_ (cJ d),qd_ (cJ I),qd_ (cJ J),qd_ (cJ d),qc_]
  ·rw [qd_ (cJ g),qd_ (cJ S),qd_ (cJ g),qc_]
   have:(List.replicate (((N+M:Nat):Int)).toNat [V.non]).flatten=rowO (List.replicate (N+M) none):=by
    rw [cx];unfold rowO;rw [List.map_replicate];generalize N+M=R
    induction R with
    | zero=>rfl
    | succ R ih=>rw [dy,eG,ih];rfl
   rw [this]
  ·rw [qd_ (cJ C),qc_]
   rfl
theorem okC2 {P:Program}{w:World}{K:PySem.W.Frag}{mg:Str->Option Value}{base:Heap}{x qual:Str}{st:Stmt}{f:Addr}{N ps:List Str}{k:Nat}{sp:Sp}{oc:Value}{od an:Option Addr}{osl:Array (Option Value)}{kV doc pm cdv ct:Value} (lk:K.lookup f=some ⟨oc,od,.func (PySem.W.fnOf x qual (q5_ st) (qM_ st) (qe_ st) .none kV doc pm an cdv ct),osl⟩) (hcd:PySem.W.codeIn K cdv qual=true) (S:qk_ N ps (qe_ st)) (len:∀ vs H Q E,sp vs H Q E->vs.length=ps.length)
  (hbody:∀ (A:Around) (outer:List Env) (s:Shared) (H:Hp) (vs:List V) (Q:VK) (E:XK),Room k (A.deeper (envOfC qual (qe_ st) s.heap.objs.size f cdv))->sp vs H Q E →
   ∃ t,PSR (cxOf CX0 P w K mg base N qual (qe_ st) f cdv A outer s H E).nox (qM_ st) t/\t (fun v σ H'=>∃ cvs,qkh_ N (qe_ st) (cellsFrom (s.heap.objs.size+1) (qe_ st).names []) σ cvs/\((∀ c v,cvs.lookup c=some v->H' c=none/\H c=none)->Q v (trC cvs H'))) (start N vs) H):FnOk P w K mg base CX0 (k+1) f (PySem.W.fnOf x qual (q5_ st) (qM_ st) (qe_ st) .none kV doc pm an cdv ct) ps sp:=by
 refine ⟨len,fun A outer s H L us vs Q E hr e0 hb r h=>?_⟩
 have hl:=len _ _ _ _ h
 have KX:K.In s.heap:=e0.mod.kin.keeps fun b o e=>(e0.bs b o e).1
 have D:s.heap.NoLimit:=e0.mod.nolimit.keeps fun b o e=>(e0.bs b o e).1
 have g:∀ y∈ps.zip us,(qe_ st).names.lookup y.1=some .local\/((qe_ st).names.lookup y.1=some .cell/\((cellsFrom (s.heap.objs.size+1) (qe_ st).names []).lookup y.1).isSome=true):=fun ⟨n,v⟩ hy=>by
  rcases S.par n (fm hy).1 with q | q
  ·exact .inl q
  ·exact .inr ⟨q,PySem.W.cellsFrom_some _ _ _ (.inl q)⟩
 refine codeAny_call_function hr.depth (KX _ _ lk) rfl S.co S.gen rfl (PySem.W.codeRec_of KX hcd) (hb _ _ _ _ ?_);refine wpAny_newFunctionEnv_cells S.kind g fun env he s1 y=>?_;subst he;refine ⟨D.keeps y.toInCall.keep,codeAny_func ?_⟩;obtain ⟨t,ht,hq⟩:=hbody A outer s H vs Q E (hr.deeper _) h
 have I:Inv (cxOf CX0 P w K mg base N qual (qe_ st) f cdv A outer s H E) [] (start N vs) H s1:=qbu_ S hr.hd e0 hl r y;refine d7 (ht [] s1 (start N vs) H _ (I.wish _) hq) (fun fl s' hs=>?_) fun e s' hs=>False.elim hs;obtain ⟨v,σ',H',u,rfl,J0,rv,cvs,G,hQ⟩:=hs
 have J:=J0.unwish
 have B:Un (frs outer) [] H H' s.heap s'.heap:=J.base
 have cell:∀ c v,cvs.lookup c=some v->H' c=none/\s.heap.objs.size<=c/\∃ u,RelV v u/\s'.heap.IsCell c (some u):=fun c v e=>by
  obtain ⟨i,y,h1,h2,h3,h4⟩:=G c v e;obtain ⟨m,hn,hl⟩:=J.loc;obtain ⟨u,ru,l⟩:=hl i y v h1 h2 (.inr (.inl h4));refine ⟨J.freeC y c h3,J.ok.cab y c rfl h3,u,ru,?_⟩;rcases l with ⟨l,_⟩ | ⟨_,c',e',z⟩
  ·have l:(qe_ st).names.lookup y=some .local:=l
   rw [h4] at l
   cases l
  ·have e':(cellsFrom (s.heap.objs.size+1) (qe_ st).names []).lookup y=some c':=e'
   rw [h3] at e'
   cases e';exact z
 have C:∀ b o,s.heap.get? b=some o->cvs.lookup b=none:=fun b o e=>by
  cases z:cvs.lookup b with
  | none=>rfl
  | some v=>exact absurd (bJ e) (Nat.not_lt.mpr (cell b v z).2.1)
 have d:∀ b x,H' b=some x->cvs.lookup b=none:=fun b x e=>by
  cases z:cvs.lookup b with
  | none=>rfl
  | some v=>rw [(cell b v z).1] at e;cases e
 refine ⟨v,trC cvs H',J.os,J.bare,⟨B.keep,B.slot,fun b o e n hx=>(jh_ (C b o e)).trans (B.free b o e n hx),B.there,fun b xs e=>?_,fun b o x e=>?_,fun b ps e=>?_⟩,qg7_ J.hok (fun c v e=>(cell c v e).1) (fun c v e=>(cell c v e).2.2),rv,hQ fun c v e=>⟨(cell c v e).1,e0.hok.fresh (cell c v e).2.1⟩⟩
 ·have z:=B.tups b xs e
  exact (jh_ (d b _ z)).trans z
 ·have z:=B.frzs b o x e
  exact (jh_ (d b _ z)).trans z
 ·obtain ⟨more,z⟩:=B.tbls b ps e
  exact ⟨more,(jh_ (d b _ z)).trans z⟩
theorem qlf_ {P:Program}{w:World}{K:PySem.W.Frag}{mg:Str->Option Value}{base:Heap}{x qual:Str}{st:Stmt}{f c t:Addr}{fd:FuncData}{N ps:List Str}{k:Nat}{sp:Sp} (F:FunT K x qual st f fd c t) (S:qk_ N ps (qe_ st)) (len:∀ vs H Q E,sp vs H Q E->vs.length=ps.length)
  (hbody:∀ (A:Around) (outer:List Env) (s:Shared) (H:Hp) (vs:List V) (Q:VK) (E:XK),Room k (A.deeper (envOfC qual (qe_ st) s.heap.objs.size f (.ref c)))->sp vs H Q E →
   ∃ t,PSR (cxOf CX0 P w K mg base N qual (qe_ st) f (.ref c) A outer s H E).nox (qM_ st) t/\t (fun v σ H'=>∃ cvs,qkh_ N (qe_ st) (cellsFrom (s.heap.objs.size+1) (qe_ st).names []) σ cvs/\((∀ c v,cvs.lookup c=some v->H' c=none/\H c=none)->Q v (trC cvs H'))) (start N vs) H):FnOk P w K mg base CX0 (k+1) f fd ps sp:=by
 obtain ⟨oc,od,kV,g,pm,an,ct,osl,rfl,lk,d⟩:=F.ex;exact okC2 lk d S len hbody
def TabS (H:Hp) (t:Addr) (p:Pos) (q:Str):Prop:=∃ ps,H t=some (.tbl ps)/\(ps = #[]\/∃ c',ps = #[rawInt p.line,rawInt p.col,.ref c']/\H c'=some (yd_ q c'))
theorem TabS.keep {H H':Hp}{t:Addr}{p:Pos}{q:Str} (h:TabS H t p q) (k:Same H H'):TabS H' t p q:=by
 obtain ⟨ps,h1,h2⟩:=h;refine ⟨ps,k _ _ h1,?_⟩;rcases h2 with h2 | ⟨c',e,h2⟩
 ·exact .inl h2
 ·exact .inr ⟨c',e,k _ _ h2⟩
theorem qfa_ {P:Addr}{pos:Pos}{q:Str}{mk:Value->Value->Value->Value->FuncData}{σ:L2.St}{H:Hp}{Q:VK} (ht:TabS H P pos q)
  (h:∀ (H1:Hp) (c' fa:Addr) (doc pm ctv:Value),(∀ b o,b≠P->H b=some o->H1 b=some o)->TabS H1 P pos q->H fa=none->H1 fa=some (FunO fa (mk doc pm (.ref c') ctv))->H1 c'=some (yd_ q c')->(∀ b,H1 b=none->H b=none)->Q (.ref fa) H1):tFn P pos q mk σ H Q:=by
 obtain ⟨ps,hP,h2⟩:=ht;rcases h2 with rfl | ⟨c0,rfl,d⟩
 ·refine ⟨#[],hP,trivial,.inl ⟨rfl,fun c' fa doc pm ctv n1 n2 ne=>h _ c' fa doc pm ctv (fun b o hb e=>?_) ⟨_,?_,.inr ⟨c',rfl,?_⟩⟩ n2 qc_ ?_ fun b e=>?_⟩⟩
  ·rw [qd_ (qh_ e n2),qd_ (qh_ e n1),qd_ hb];exact e
  ·rw [qd_ (qh_ hP n2),qd_ (qh_ hP n1)];exact qc_
  ·rw [qd_ ne.symm];exact qc_
  ·rw [qd_ ne.symm];exact qc_
  ·by_cases z1:b=fa
   ·rw [z1];exact n2
   rw [qd_ z1] at e
   by_cases z2:b=c'
   ·rw [z2];exact n1
   rw [qd_ z2] at e
   by_cases z3:b=P
   ·rw [z3,qc_] at e;cases e
   rwa [qd_ z3] at e
 ·refine ⟨_,hP,⟨⟩,.inr ⟨c0,?_,d,fun fa doc pm ctv n=>h _ c0 fa doc pm ctv (fun b o _ e=>?_) ⟨_,?_,.inr ⟨c0,rfl,?_⟩⟩ n qc_ ?_ fun b e=>?_⟩⟩
  ·show codeAmong pos [rawInt pos.line,rawInt pos.col,.ref c0]=some (.ref c0)
   simp [codeAmong,rawInt]
  ·rw [qd_ (qh_ e n)];exact e
  ·rw [qd_ (qh_ hP n)];exact hP
  ·rw [qd_ (qh_ d n)];exact d
  ·rw [qd_ (qh_ d n)];exact d
  ·by_cases z1:b=fa
   ·rw [z1];exact n
   rwa [qd_ z1] at e
def inA:Stmt:=(qM_ qa9_).getD 0 (.Pass ⟨0,0,0,0⟩)
def posD:Stmt->Pos
 | .FunctionDef _ _ _ _ _ _ _ _ _ p=>p
 | _=>⟨0,0,0,0⟩
def qA:Str:="_law_asker" ++ Str.ofString ".<locals>." ++ Str.ofString "_law_ask"
def clA (c1 c2:Addr):List (Str × Addr):=[("_law_seen",c2),("_law_row",c1)]
structure AskerAt (H:Hp) (f rw z:Addr):Prop where
 ex:∃ (c' c1 c2:Addr) (doc pm ctv:Value),H f=some (FunO f (PySem.W.fnX "_law_ask" qA (q5_ inA) (qM_ inA) (qe_ inA) (clA c1 c2) .none .none doc pm none (.ref c') ctv))∧H c'=some (yd_ qA c')∧H c1=some (CelO c1 (.ref rw))∧H c2=some (CelO c2 (.ref z))∧c1≠c2
theorem AskerAt.same {H H':Hp}{f rw z:Addr} (h:AskerAt H f rw z) (s:Same H H'):AskerAt H' f rw z:=by
 obtain ⟨c',c1,c2,d,pm,g,h1,h2,h3,h4,h5⟩:=h.ex;exact ⟨c',c1,c2,d,pm,g,s _ _ h1,s _ _ h2,s _ _ h3,s _ _ h4,h5⟩
inductive qh5_ (a:Adr) (vs:List V) (H:Hp) (Q:VK) (E_3:XK):Prop
 | mk:∀ (rw z:Addr),vs=[.ref rw,.ref z]->TabS H a.t63 (posD inA) qA->(∀ (H':Hp) (f:Addr),(∀ b o,b≠a.t63->H b=some o->H' b=some o)->TabS H' a.t63 (posD inA) qA->H f=none->AskerAt H' f rw z->(∀ b,H' b=none->H b=none)->Q (.ref f) H')->qh5_ a vs H Q E_3
theorem qna_ (T:Txt K mg a) (B:Tb base mg a):FnO P wo K mg base 1 a.f63 ["_law_row", "_law_seen"] (qh5_ a):=by
 refine qlf_ T.x63.F (k:=0) sc_asker (fun vs H Q E h=>?_) (fun A outer s H vs Q E hr h=>?_)
 ·obtain ⟨rw,sl,rfl,_⟩:=h
  rfl
 ·obtain ⟨rw,z,rfl,ht,q⟩:=h
  refine ⟨_,(qmp_ (qp3_ (i:=2) (T.x63.F.tab B.b_asker B.n_asker) rfl sc_asker.nd rfl (Or.inl rfl))
   (qos_ (pv 2))),?_⟩
  unfold tRC tRR tAsg;refine qfa_ (q:=qA) (pos:=posD inA) ht fun H1 c' fa d pm r k1 t1 n1 hf hc fr=>?_;refine ⟨_,rfl,[(s.heap.objs.size+1,.ref rw),(s.heap.objs.size+1+1,.ref z)],?_,fun l=>?_⟩
  ·intro c v e
   rw [cu] at e
   split at e
   ·rename_i h
    cases e
    cases eq_of_beq h;exact ⟨0,_,rfl,rfl,rfl,rfl⟩
   ·rw [cu] at e
    split at e
    ·rename_i h
     cases e
     cases eq_of_beq h;exact ⟨1,_,rfl,rfl,rfl,rfl⟩
    ·cases e
  ·have ne:s.heap.objs.size+1≠s.heap.objs.size+1+1:=by omega
   have l1:[(s.heap.objs.size+1,V.ref rw),(s.heap.objs.size+1+1,.ref z)].lookup (s.heap.objs.size+1)=some (.ref rw):=by rw [cu];simp
   have l2:[(s.heap.objs.size+1,V.ref rw),(s.heap.objs.size+1+1,.ref z)].lookup (s.heap.objs.size+1+1)=some (.ref z):=by rw [cu,cP.mpr (cJ ne)];simp
   have g:∀ {b:Addr}{o:HO},H1 b=some o->[(s.heap.objs.size+1,V.ref rw),(s.heap.objs.size+1+1,.ref z)].lookup b=none:=fun {b o} e=>by
    cases y:[(s.heap.objs.size+1,V.ref rw),(s.heap.objs.size+1+1,.ref z)].lookup b with
    | none=>rfl
    | some v=>rw [(l b v y).1] at e;cases e
   have sm:Same H1 (trC [(s.heap.objs.size+1,V.ref rw),(s.heap.objs.size+1+1,.ref z)] H1):=fun b o e=>(jh_ (g e)).trans e;refine q _ fa (fun b o hb e=>sm b o (k1 b o hb e)) (t1.keep sm) n1 ⟨c',s.heap.objs.size+1,s.heap.objs.size+1+1,d,pm,r,sm _ _ hf,sm _ _ hc,vx_ l1,vx_ l2,ne⟩ fun b e=>?_
   cases y:[(s.heap.objs.size+1,V.ref rw),(s.heap.objs.size+1+1,.ref z)].lookup b with
   | none=>exact fr b ((jh_ y).symm.trans e)
   | some v=>rw [vx_ y] at e;cases e
inductive qfb_ (f:V) (vs:List V) (H:Hp) (Q:VK):Prop
 | mk:∀ (fa rw z:Addr) (k:Nat) (srow:List (Option Nat)) (as:List Nat),f=.ref fa->vs=[.int k]->AskerAt H fa rw z->H rw=some (.lst (rowO srow))->H z=some (.lst (rowV as))->k < srow.length->as.length < 900->rw≠z->Q (valO (srow.getD k none)) (upd H z (.lst (rowV (as++[k]))))->qfb_ f vs H Q
theorem qqf_ (T:Txt K mg a):qac_ P wo K mg base 1 qfb_:=by
 intro A outer s H f us vs Q hr e0 r h;obtain ⟨fa,rw,z,k,g,as,rfl,rfl,hA,l,hz,hk,has,E,q⟩:=h;obtain ⟨c',c1,c2,G,pm,I,h1,h2,h3,h4,h5⟩:=hA.ex;refine ⟨fa,_,rfl,h1,?_⟩
 have l1:[(c1,V.ref rw),(c2,.ref z)].lookup c1=some (.ref rw):=by rw [cu];simp
 have l2:[(c1,V.ref rw),(c2,.ref z)].lookup c2=some (.ref z):=by
  rw [cu,cP.mpr (cJ h5)]
  simp
 have L:∀ c v,[(c1,V.ref rw),(c2,.ref z)].lookup c=some v->(c=c1/\v=.ref rw)\/(c=c2/\v=.ref z):=fun c v e=>by
  rw [cu] at e
  split at e
  ·rename_i h
   cases e;exact .inl ⟨eq_of_beq h,rfl⟩
  ·rw [cu] at e
   split at e
   ·rename_i h
    cases e;exact .inr ⟨eq_of_beq h,rfl⟩
   ·cases e
 have at_:∀ c v,[(c1,V.ref rw),(c2,.ref z)].lookup c=some v->H c=some (CelO c v):=fun c v e=>by
  rcases L c v e with ⟨rfl,rfl⟩ | ⟨rfl,rfl⟩
  ·exact h3
  ·exact h4
 refine qor_ (k:=0) (cvs:=[(c1,V.ref rw),(c2,.ref z)]) (vs:=[.int ((k:Nat):Int)]) (N:=["_law_role", "_law_seen", "_law_row"]) (ps:=["_law_role"]) (σ0:=[some (.int ((k:Nat):Int)),some (.ref z),some (.ref rw)]) ⟨rfl,rfl,rfl,by decide +kernel,rfl,by decide +kernel,by decide +kernel⟩ hr e0 r h1 h2 ?_ ?_ ?_ (ux_ (qV_ (jF_ cB cD cE qQ_ (pv 1) (qa_ (pv 0) qb_)))
   (vW_ (qo_ (qy_ qz_ (pv 2) (pv 0) (fun _ _=>rfl))))) ?_
 ·obtain ⟨u,rfl,_⟩:=jy_ r
  rfl
 ·have J:∀ x c,(clA c1 c2).lookup x=some c→(x = "_law_seen" ∧ c=c2) ∨ (x = "_law_row" ∧ c=c1):=fun x c e=>by
   unfold clA at e;rw [cu] at e
   split at e
   ·rename_i h
    cases e;exact .inl ⟨eq_of_beq h,rfl⟩
   ·rw [cu] at e
    split at e
    ·rename_i h
     cases e;exact .inr ⟨eq_of_beq h,rfl⟩
    ·cases e
  refine ⟨fun x y c e1 e2=>?_,fun x hx=>?_,fun x c e=>?_,at_⟩
  ·rcases J x c e1 with ⟨rfl,rfl⟩ | ⟨rfl,rfl⟩
   ·rcases J y c e2 with ⟨rfl,_⟩ | ⟨_,z⟩
    ·rfl
    ·exact absurd z.symm h5
   ·rcases J y c e2 with ⟨_,z⟩ | ⟨rfl,_⟩
    ·exact absurd z h5
    ·rfl
  ·have d:∀ q∈(qe_ inA).names,q.2=.free→q.1 = "_law_seen" ∨ q.1 = "_law_row":=by decide +kernel
   have d:=d (x,.free) (cQ hx) rfl;rcases d with d | d
   ·have d:x=_:=d
    subst d;exact ⟨c2,rfl⟩
   ·have d:x=_:=d
    subst d;exact ⟨c1,rfl⟩
  ·rcases J x c e with ⟨_,rfl⟩ | ⟨_,rfl⟩
   ·exact ⟨_,l2⟩
   ·exact ⟨_,l1⟩
 ·refine ⟨rfl,fun i x v e1 e2=>?_⟩
  match i,e1,e2 with
  | 0,e1,e2=>exact .inl ⟨e1,by cases e2;rfl⟩
  | 1,e1,e2 =>
   cases e1
   cases e2;exact .inr ⟨rfl,c2,rfl,l2⟩
  | 2,e1,e2 =>
   cases e1
   cases e2;exact .inr ⟨rfl,c1,rfl,l1⟩
 ·have no:∀ {b:Addr}{xs:List V},H b=some (.lst xs)->[(c1,V.ref rw),(c2,.ref z)].lookup b=none:=fun {b xs} e=>by
   cases y:[(c1,V.ref rw),(c2,.ref z)].lookup b with
   | none=>rfl
   | some v=>rw [at_ b v y] at e;cases e
  have C:=(q1_ (no hz)).trans hz
  have D:(rowV as).length < sizeLine:=by
   rw [qg_];exact fi has (by decide)
  have B:(upd (untr [(c1,V.ref rw),(c2,.ref z)] H) z (.lst (rowV (as++[k])))) rw=some (.lst (rowO g)):=by
   rw [qd_ E,q1_ (no l)];exact l
  refine ⟨_,rfl,.inl ⟨rfl,_,SqL.of C⟩,_,rfl,z,_,_,rfl,rfl,C,D,?_⟩;rw [jE_];refine ⟨_,rfl,_,rfl,rw,_,_,_,rfl,rfl,SqL.of B,qv_ (qS_ (o:=g.getD k none) (by rw [b7,b8 hk];rfl)),?_⟩
  have e:trC [(c1,V.ref rw),(c2,.ref z)] (upd (untr [(c1,V.ref rw),(c2,.ref z)] H) z (.lst (rowV (as++[k]))))=upd H z (.lst (rowV (as++[k]))):=by
   funext b
   cases y:[(c1,V.ref rw),(c2,.ref z)].lookup b with
   | some v =>
    have nz:b≠z:=fun e=>by rw [e,no hz] at y;cases y
    rw [vx_ y,qd_ nz,at_ b v y]
   | none =>
    rw [jh_ y]
    by_cases nz:b=z
    ·rw [nz,qc_,qc_]
    ·rw [qd_ nz,qd_ nz,q1_ y]
  show Q (valO (g.getD k none)) (trC _ _)
  rw [e];exact q
def posL:Pos:=⟨54,32,54,69⟩
def qL:Str:="Asking.order" ++ Str.ofString ".<locals>." ++ Str.ofString "<lambda>"
structure AskR where
 A:Addr
 c:Addr
 bp:Addr
 fp:Addr
 f:Addr
 cl:Addr
 rl:Addr
 sl:Addr
 rw:Addr
 z:Addr
structure AskI (a:Adr) (H0:Hp) (R:AskR) (r w n M N:Nat) (l:Nat->Nat->Nat) (cs srow:List (Option Nat)):Prop where
 code:CodeAt a H0 R.c R.bp R.fp r w n M N l
 full:GF.Full r w
 n16:n<=16
 W:Wts w M N l
 obj:∃ dx,H0 R.A=some (.ins a.C_Asking dx (af R.c R.f R.cl R.rl R.sl))
 cost:H0 R.cl=some (.lst (rowO cs))
 csl:cs.length=N+M
 asker:AskerAt H0 R.f R.rw R.z
 row:H0 R.rw=some (.lst (rowO srow))
 srl:srow.length=N+M
 nrl:H0 R.rl=none
 nsl:H0 R.sl=none
 nz:H0 R.z=none
 nt:H0 a.t38=none
 d1:R.rl≠R.sl
 d2:R.rl≠R.z
 d3:R.sl≠R.z
structure AskM (a:Adr) (H0 H:Hp) (R:AskR) (n:Nat) (os:List (Option Nat)) (as:List Nat):Prop where
 sm:Same H0 H
 hr:H R.rl=some (.lst (rowO os))
 hs:H R.sl=some (.lst (rowV as))
 hz:H R.z=some (.lst (rowV as))
 tab:TabS H a.t38 posL qL
 osl:os.length=n
 nd:as.Nodup
 lt:∀ k∈as,k < n
theorem jf_:∀ (n:Nat) (as:List Nat),as.Nodup->(∀ k∈as,k < n)->as.length<=n
 | 0,[],_,_=>bF _
 | 0,k :: _,_,h=>absurd (h k (.head _)) (cX k)
 | n+1,as,nd,h=>by
  by_cases z:n∈as
  ·have e:=List.length_erase_of_mem z
   have ih:=jf_ n (as.erase n) (nd.erase n) fun k hk=>by
    have h1:=h k (List.mem_of_mem_erase hk)
    have h2:k≠n:=fun e=>by
     subst e;exact (List.Nodup.mem_erase_iff nd).mp hk |>.1 rfl
    omega
   omega
  ·exact Nat.le_succ_of_le (jf_ n as nd fun k hk=>by
    have h1:=h k hk
    have h2:k≠n:=fun e=>z (e ▸ hk)
    omega)
theorem AskM.asl {a:Adr}{H0 H:Hp}{R:AskR}{n:Nat}{os:List (Option Nat)}{as:List Nat} (h:AskM a H0 H R n os as):as.length<=n:=jf_ n as h.nd h.lt
def mayB (cs:List (Option Nat)) (as:List Nat) (k:Nat):Bool:=(cs.getD k none).isSome && !as.contains k
theorem qlg_ (k:Nat):∀ as:List Nat,inV (.int (k:Nat)) (rowV as)=as.contains k
 | []=>rfl
 | x :: as=>by
  have ih:=qlg_ k as;unfold inV rowV at ih ⊢;rw [cN,fw,ih,List.contains_cons]
  congr 1
  show eqV (.int (x:Nat)) (.int (k:Nat))=(k == x)
  show (((x:Nat):Int) == ((k:Nat):Int))=(k == x)
  by_cases z:x=k
  ·subst z;simp
  ·have h1:((x:Nat):Int)≠((k:Nat):Int):=by omega
   rw [cP.mpr h1,cP.mpr (cJ z)]
theorem qnb_ (as:List Nat):(rowV as).all j4_=true:=by
 unfold rowV;rw [List.all_map];exact c5.mpr fun _ _=>rfl
theorem jt_ {os:List (Option Nat)}{k:Nat} (h:k < os.length):os[k]?=some (os.getD k none):=by
 rw [b7,b8 h];rfl
theorem yB_ (o:Option Nat):(!decide (valO o=V.non))=o.isSome:=by
 cases o with
 | none=>rfl
 | some b=>rw [bY (fun z=>by cases z)];rfl
inductive qn3_ (a:Adr) (vs:List V) (H:Hp) (Q:VK) (E_3:XK):Prop
 | mk:∀ (H0:Hp) (R:AskR) (r w n M N k:Nat) (l:Nat->Nat->Nat) (cs srow os:List (Option Nat)) (as:List Nat),vs=[.ref R.A,.int k]->AskI a H0 R r w n M N l cs srow->AskM a H0 H R (N+M) os as->k < N+M->Q (.bl (mayB cs as k)) H->qn3_ a vs H Q E_3
theorem yW_ (T:Txt K mg a):FnO P wo K mg base 1 a.f32 ["self", "role"] (qn3_ a):=by
 refine T.x32.F.okA (k:=0) qdk_ (fun g A outer s H vs Q E hr h=>?_)
 ·obtain ⟨H0,R,r,w,n,M,N,k,l,cs,d,os,as,rfl,I,J,hk,q⟩:=h
  obtain ⟨dx,hA⟩:=I.obj
  have hA:=J.sm _ _ hA;refine xx ?_;intro X_;refine xl (qo_ (qpt_ (yq_ jg_ (qy_ qz_ (qt_ (pv 0) rfl) (pv 1) (fun _ _=>rfl)) qG_ (qp_ _)) (qdt_ (yq_ qd0_ (pv 1) (qt_ (pv 0) rfl) rfl)))) ?_;intro u_;refine ⟨_,rfl,R.A,_,_,_,_,rfl,hA,T.cl_Asking,T.no_Asking_costs,zm_ _ _ _ _ _,_,rfl,R.cl,_,_,_,rfl,rfl,SqL.of (J.sm _ _ I.cost),qv_ (qS_ (jt_ (by rw [I.csl];exact hk))),rfl,_,rfl,?_⟩
  rw [yB_];unfold mayB at q
  cases hz:(cs.getD k none).isSome with
  | false =>
   rw [hz] at q;exact q
  | true =>
   rw [hz] at q;refine ⟨_,rfl,_,rfl,R.A,_,_,_,_,rfl,hA,T.cl_Asking,T.no_Asking_asked,qe9_ _ _ _ _ _,R.sl,_,rfl,.inl (SqL.of J.hs),rfl,qnb_ as,?_⟩;rw [qlg_];exact q
theorem TabS.up {H:Hp}{t x:Addr}{p:Pos}{q:Str}{xs:List V}{o:HO} (h:TabS H t p q) (hx:H x=some (.lst xs)):TabS (upd H x o) t p q:=by
 obtain ⟨ps,h1,h2⟩:=h;refine ⟨ps,by rw [qd_ (qY_ h1 hx (fun y=>by cases y))];exact h1,?_⟩
 rcases h2 with h2 | ⟨c',e,h2⟩
 ·exact .inl h2
 ·exact .inr ⟨c',e,by rw [qd_ (qY_ h2 hx (fun y=>by cases y))];exact h2⟩
theorem AskM.same {a:Adr}{H0 H H':Hp}{R:AskR}{n:Nat}{os:List (Option Nat)}{as:List Nat} (h:AskM a H0 H R n os as) (s:Same H H'):AskM a H0 H' R n os as :=
 ⟨h.sm.trans s,s _ _ h.hr,s _ _ h.hs,s _ _ h.hz,h.tab.keep s,h.osl,h.nd,h.lt⟩
def tk (cs srow os:List (Option Nat)) (as:List Nat) (k:Nat):List (Option Nat) × List Nat:=if mayB cs as k=true then (os.set k (srow.getD k none),as++[k]) else (os,as)
theorem qfc_ (os:List (Option Nat)) (k:Nat) (o:Option Nat):(rowO os).set k (valO o)=rowO (os.set k o):=by
 unfold rowO;rw [fH]
theorem qpa_ {cs:List (Option Nat)}{as:List Nat}{k:Nat} (h:mayB cs as k=true):k∉as:=fun z=>by
 unfold mayB at h;rw [c9.mpr z,Bool.not_true,Bool.and_false] at h
 cases h
theorem qjd_ {as:List Nat}{k:Nat} (h:as.Nodup) (n:k∉as):(as++[k]).Nodup:=List.nodup_append.mpr ⟨h,List.pairwise_singleton _ k,fun x hx y hy e=>by
 rw [bS.mp hy] at e
 exact n (e ▸ hx)⟩
inductive qlh_ (a:Adr) (vs:List V) (H:Hp) (Q:VK) (E_3:XK):Prop
 | mk:∀ (H0:Hp) (R:AskR) (r w n M N k:Nat) (l:Nat->Nat->Nat) (cs srow os:List (Option Nat)) (as:List Nat),vs=[.ref R.A,.int k]->AskI a H0 R r w n M N l cs srow->AskM a H0 H R (N+M) os as->k < N+M->(∀ H',AskM a H0 H' R (N+M) (tk cs srow os as k).1 (tk cs srow os as k).2->Q (valO ((tk cs srow os as k).1.getD k none)) H')->qlh_ a vs H Q E_3
theorem qbj_ (T:Txt K mg a):FnO P wo K mg base 2 a.f33 ["self", "role"] (qlh_ a):=by
 have CK:qac_ P wo K mg base 1 qfb_:=qqf_ T;refine T.x33.F.okA (k:=1) qbc_ (fun U A outer s H vs Q E hr h=>?_)
 ·obtain ⟨H0,R,r,w,n,M,N,k,l,cs,d,os,as,rfl,I,J,hk,q⟩:=h
  obtain ⟨dx,hA⟩:=I.obj
  have n8:=I.W.n8
  have G:=J.asl;refine xx ?_;intro X_;refine xq ?_;refine xi (q6_ (qx_ (pv 0) T.cl_Asking T.x32.me (yW_ T) hr.u T.x32.b .nil qj_ (qa_ (pv 1) qb_))) ?_;refine xc (qV_ (jF_ cB cD cE qQ_ (qt_ (pv 0) rfl) (qa_ (pv 1) qb_))) ?_;intro u_;refine xl (yM_ (qmq_ CK hr.u (pv 0) (qa_ (pv 1) qb_)) (zb_ (qt_ (pv 0) rfl) (pv 1) yg_)) ?_;intro u_;refine ⟨_,qw_,?_⟩;intro u_;refine xl (qo_ (qy_ qz_ (qt_ (pv 0) rfl) (pv 1) (fun _ _=>rfl))) ?_;intro u_;refine ⟨_,rfl,R.A,dx,_,rfl,J.sm _ _ hA,rfl,_,rfl,H0,R,r,w,n,M,N,k,l,cs,d,os,as,rfl,I,J,hk,?_⟩
  cases hz:mayB cs as k with
  | true =>
   refine ⟨_,rfl,ite2 (fun _=>?_) (fun y=>absurd rfl y)⟩
   have L:(rowV as).length < sizeLine:=by
    rw [qg_];exact cY G (cY n8 (by decide))
   have g:=J.sm.up (o:=.lst (rowV (as++[k]))) I.nsl;refine ⟨_,rfl,R.A,_,_,_,_,rfl,J.sm _ _ hA,T.cl_Asking,T.no_Asking_asked,qe9_ _ _ _ _ _,.inl ⟨rfl,_,SqL.of J.hs⟩,_,rfl,R.sl,_,_,rfl,rfl,J.hs,L,?_⟩;rw [jE_]
   have O:=(I.asker.ex);obtain ⟨c',c1,c2,S,pm,X,hf,hc,h3,h4,h5⟩:=O;refine ⟨_,rfl,R.A,_,_,_,R.f,_,rfl,g _ _ hA,T.cl_Asking,T.no_Asking_ask,qqe_ _ _ _ _ _,g _ _ hf,_,rfl,g _ _ hf,R.f,R.rw,R.z,k,d,as,rfl,rfl,I.asker.same g,g _ _ I.row,(by rw [qd_ (cJ I.d3)];exact J.hz),by rw [I.srl];exact hk,by omega,(fun y=>by have:=I.row;rw [y,I.nz] at this;cases this),?_⟩
   have C:=g.up (o:=.lst (rowV (as++[k]))) I.nz
   have D:(upd (upd H R.sl (.lst (rowV (as++[k])))) R.z (.lst (rowV (as++[k])))) R.rl=some (.lst (rowO os)):=by
    rw [qd_ I.d2,qd_ I.d1];exact J.hr
   refine ⟨_,rfl,R.A,_,_,_,_,rfl,C _ _ hA,T.cl_Asking,T.no_Asking_row,vQ_ _ _ _ _ _,_,rfl,R.rl,_,_,k,rfl,rfl,D,yx_ (by rw [qK_,J.osl];exact hk),?_⟩
   rw [qfc_]
   have B:=C.up (o:=.lst (rowO (os.set k (d.getD k none)))) I.nrl
   have J3:AskM a H0 (upd (upd (upd H R.sl (.lst (rowV (as++[k])))) R.z (.lst (rowV (as++[k])))) R.rl (.lst (rowO (os.set k (d.getD k none))))) R (N+M) (os.set k (d.getD k none)) (as++[k]):=by
    refine ⟨B,qc_,?_,?_,((J.tab.up J.hs).up (x:=R.z) (xs:=rowV as) ?_).up D,by rw [cZ,J.osl],qjd_ J.nd (qpa_ hz),fun x hx=>?_⟩
    ·rw [qd_ (cJ I.d1),qd_ I.d3];exact qc_
    ·rw [qd_ (cJ I.d2)];exact qc_
    ·rw [qd_ (cJ I.d3)];exact J.hz
    ·rcases bU.mp hx with y | y
     ·exact J.lt x y
     ·rw [bS.mp y];exact hk
   have e:tk cs d os as k=(os.set k (d.getD k none),as++[k]):=by unfold tk;rw [if_pos hz]
   rw [e] at q;exact ⟨_,rfl,R.A,_,_,_,_,rfl,B _ _ hA,T.cl_Asking,T.no_Asking_row,vQ_ _ _ _ _ _,_,rfl,R.rl,_,_,_,rfl,rfl,SqL.of qc_,qv_ (qS_ (jt_ (by rw [cZ,J.osl];exact hk))),q _ J3⟩
  | false =>
   refine ⟨_,rfl,ite2 (fun y=>by cases y) (fun _=>?_)⟩
   have e:tk cs d os as k=(os,as):=by unfold tk;rw [if_neg (by rw [hz];decide)]
   rw [e] at q;exact ⟨_,rfl,R.A,_,_,_,_,rfl,J.sm _ _ hA,T.cl_Asking,T.no_Asking_row,vQ_ _ _ _ _ _,_,rfl,R.rl,_,_,_,rfl,rfl,SqL.of J.hr,qv_ (qS_ (jt_ (by rw [J.osl];exact hk))),q _ J⟩
theorem qli_ (ns:List Int):preSum (fun i=>ns.getD i 0) ns.length=ns.sum:=by
 have h:∀ (f:Nat->Int) (j:Nat),preSum f j=((List.range j).map f).sum:=fun f j=>by
  induction j with
  | zero=>rfl
  | succ j ih =>
   have e:preSum f (j+1)=preSum f j+f j:=rfl;rw [e,ih,di,cK,List.sum_append]
   simp
 rw [h]
 congr 1
 apply cU
 intro i;rw [bE]
 by_cases hi:i < ns.length
 ·rw [cb hi,b8 hi,da,b7,b8 hi]
  rfl
 ·rw [bT (by rw [bI];omega),bT (by omega)]
  rfl
inductive ut_ (K:PySem.W.Frag) (xs:List V) (H:Hp) (Q:VK):Prop
 | mk:∀ (p:Addr) (ns:List Int),xs=[.ref p]->SqL K H p (ns.map V.int)->ns.length<=1000->((∀ y∈ns,0<=y/\y<=1000000))->Q (.int ns.sum) H->ut_ K xs H Q
theorem qcw_ {X:Cx} (hc:X.calm=true):jr_ X (.builtin "sum") (ut_ X.K):=by
 intro l s σ H xs us Q I r h;obtain ⟨p,ns,rfl,hq,hn,hb,q⟩:=h;obtain ⟨u,rfl,rx⟩:=jy_ r
 cases rx;obtain ⟨d,rv,⟨o,nn,e1,e2,e3,e4⟩,hz⟩:=I.list hq
 have g:p≠s.heap.objs.size:=bP (bJ e1)
 have hl:d.toArray.size=ns.length:=by
  have:=rv.length;rw [b9] at this
  simp [this]
 have hv:∀ j,0<=ns.getD j 0/\ns.getD j 0<=1000000:=fun j=>by
  by_cases hj:j < ns.length
  ·rw [b7,b8 hj]
   exact hb _ (cR hj)
  ·rw [b7,bT (by omega)]
   exact ⟨by decide,by decide⟩
 have hs:∀ j,0<=preSum (fun i=>ns.getD i 0) j/\preSum (fun i=>ns.getD i 0) j<=1000000 * (j:Int)/\∀ i,i < j->ns.getD i 0<=preSum (fun i=>ns.getD i 0) j:=fun j=>by
  induction j with
  | zero=>exact ⟨fg _,fg _,fun i h=>absurd h (cX _)⟩
  | succ j ih =>
   have e:preSum (fun i=>ns.getD i 0) (j+1)=preSum (fun i=>ns.getD i 0) j+ns.getD j 0:=rfl
   have:=hv j;rw [e];refine ⟨by omega,by omega,fun i h=>?_⟩
   by_cases y:i=j
   ·subst y;omega
   ·have:=ih.2.2 i (by omega)
    omega
 refine call_sum_walk (eE ⟨o,e1,e2,nn,e4⟩ ?_);refine ⟨_,_,_,_,_,_,fun i=>ns.getD i 0,rfl,Walks.list (A:=X.A.in1) (show X.A.in1.handled=none from I.ok.hd hc) s.heap.objs.size p g d.toArray,⟨⟨_,bZ _ rfl,rfl,rfl⟩,⟨o,bD _ e1,e2,nn,e4⟩⟩,fun b hb=>?_,fun i v hv=>qee_ rv hv,fun j hj=>?_,fun h' tk t' kp=>?_⟩
 ·show b < (s.heap.push _).objs.size
  rw [Heap.size_push];rcases bL.mp hb with z | z
  ·rw [z];exact cm _
  ·rw [bS.mp z];exact cA (bJ e1)
 ·have h1:=hv j
  have h2:=hs (j+1);rw [hl] at hj
  have h3:=h2.2.1
  have h4:=h2.1
  show InLong (ns.getD j 0)/\InLong (preSum (fun i=>ns.getD i 0) (j+1))
  generalize preSum (fun i=>ns.getD i 0) (j+1)=pp at h3 h4;unfold InLong;omega
 ·rw [hl]
  rw [<- qli_] at q;exact ⟨.int _,H,I.kept (t':=tk) fun b o e=>kp b o (fun z=>by rw [bS.mp z] at e;exact absurd (bJ e) (cI _)) (bD _ e),⟨_,rfl⟩,q⟩
theorem qlj_ (os:List (Option Nat)):((List.range os.length).map fun i=>V.bl (os.getD i none).isSome)=knV (knO os):=by
 unfold knV knO
 apply cU
 intro i;rw [bE,bE,bE]
 by_cases hi:i < os.length
 ·rw [cb hi,b8 hi]
  have eg:os.getD i none=os[i]:=by rw [b7,b8 hi];rfl
  dsimp only [Option.map];rw [eg]
 ·rw [bT (by rw [bI];omega),bT (by omega)]
  rfl
theorem ju_ (os:List (Option Nat)):(knO os).length=os.length:=by unfold knO;rw [b9]
inductive qh6_ (a:Adr) (vs:List V) (H:Hp) (Q:VK) (E_3:XK):Prop
 | mk:∀ (H0:Hp) (R:AskR) (r w n M N:Nat) (l:Nat->Nat->Nat) (cs srow os:List (Option Nat)) (as:List Nat),vs=[.ref R.A]->AskI a H0 R r w n M N l cs srow->AskM a H0 H R (N+M) os as->(∀ D H',Same H H'->H D=none->H' D=some (.lst (knV (knO os)))->Q (.ref D) H')->qh6_ a vs H Q E_3
theorem jT_ (T:Txt K mg a):FnO P wo K mg base 1 a.f35 ["self"] (qh6_ a):=by
 refine T.x35.F.okA (k:=0) qah_ (fun D A outer s H vs Q E hr h=>?_)
 ·obtain ⟨H0,R,r,w,n,M,N,l,cs,C,os,as,rfl,I,J,q⟩:=h
  obtain ⟨dx,hA⟩:=I.obj
  have n8:=I.W.n8
  have B:=J.osl;refine xx ?_;intro X_
  refine xl (qo_ (qJ_ (CompOk.of (cap:=[]) (own:=["block"]) (by kernel_rfl)) rfl (qB_ (qt_ (pv 0) rfl)) (fun _ _ _ _ _=>(ql_ (i:=0) (bC (by kernel_rfl)) rfl (Or.inl rfl))) (fun _ _ _ _ _=>qI_) (fun _ _ _ _ _=>by exact (yq_ jg_ (pv 0) qG_ (qp_ _))))) ?_
  intro u_;refine ⟨_,rfl,R.A,_,_,_,_,rfl,J.sm _ _ hA,T.cl_Asking,T.no_Asking_row,vQ_ _ _ _ _ _,R.rl,rfl,⟨_,SqL.of J.hr⟩,fun kn d=>?_⟩;refine js_ (xs:=rowO os) (f:=fun i=>.bl (os.getD i none).isSome) (cs:=[]) (SqL.of J.hr) d rfl (by rw [qK_];exact bG (by omega:os.length<=8) (by decide)) (fun i u H2 R2 hu s2 hR=>?_) (fun H2 s2 g=>?_)
  ·have hi:i < os.length:=by rw [<- qK_];exact (bK.mp hu).1
   rw [qS_ (jt_ hi)] at hu
   cases bM hu;refine ⟨_,rfl,rfl,?_⟩;rw [yB_];exact hR _ (Same.refl _)
  rw [qK_,qlj_] at g;exact q kn H2 s2 d g
inductive qfd_ (K:PySem.W.Frag) (a:Adr) (vs:List V) (H:Hp) (Q:VK) (E_3:XK):Prop
 | mk:∀ (H0:Hp) (R:AskR) (so:Addr) (r w n M N:Nat) (l:Nat->Nat->Nat) (cs srow os:List (Option Nat)) (as rs:List Nat),vs=[.ref R.A,.ref so]->AskI a H0 R r w n M N l cs srow->AskM a H0 H R (N+M) os as->SqL K H so (rowV rs)->((∀ k∈rs,k < N+M))->(∀ H',Same H H'->Q (.bl (rs.all (fx r w M N l (knO os)))) H')->qfd_ K a vs H Q E_3
theorem yo_ (T:Txt K mg a):FnO P wo K mg base 10 a.f36 ["self", "some"] (qfd_ K a):=by
 refine T.x36.F.okA (k:=9) qai_ (fun C A outer s H vs Q E hr h=>?_)
 ·obtain ⟨H0,R,so,r,w,n,M,N,l,cs,d,os,as,rs,rfl,I,J,g,B,q⟩:=h
  obtain ⟨dx,hA⟩:=I.obj;refine xx ?_;intro X_;refine xl (qo_ (qq_ (zl_ T) hr.u rfl T.x30.m T.x30.k T.x30.b .nil qj_ (qa_ (qt_ (pv 0) rfl) (qa_ (jV_ (pv 0) T.cl_Asking T.x35.me (jT_ T) hr.u T.x35.b .nil qj_) (qa_ (pv 1) qb_))))) ?_;intro u_;refine ⟨_,rfl,R.A,_,_,_,_,rfl,J.sm _ _ hA,T.cl_Asking,T.no_Asking_code,jQ_ _ _ _ _ _,_,rfl,R.A,dx,_,rfl,J.sm _ _ hA,rfl,H0,R,r,w,n,M,N,l,cs,d,os,as,rfl,I,J,fun D H1 s1 nD hD=>?_⟩;exact ⟨_,rfl,R.c,R.bp,R.fp,D,so,r,w,n,M,N,l,knO os,rs,rfl,I.code.same (J.sm.trans s1),I.full,I.W,hD,by rw [ju_,J.osl],s1.seq g,B,fun H' s'=>q H' (s1.trans s')⟩
inductive qcx_ (K:PySem.W.Frag) (a:Adr) (vs:List V) (H:Hp) (Q:VK) (E_3:XK):Prop
 | mk:∀ (H0:Hp) (R:AskR) (so:Addr) (r w n M N:Nat) (l:Nat->Nat->Nat) (cs srow os:List (Option Nat)) (as rs:List Nat),vs=[.ref R.A,.ref so]->AskI a H0 R r w n M N l cs srow->AskM a H0 H R (N+M) os as->SqL K H so (rowV rs)->rs.length<=8->((∀ k∈rs,k < N+M/\(cs.getD k none).isSome=true/\(cs.getD k none).getD 0<=1000000))->(∀ H',Same H H'->Q (.int (((rs.map fun k=>(((cs.getD k none).getD 0:Nat):Int)).sum:Int))) H')->qcx_ K a vs H Q E_3
theorem yT_ (T:Txt K mg a):FnO P wo K mg base 1 a.f37 ["self", "some"] (qcx_ K a):=by
 refine T.x37.F.okA (k:=0) vI_ (fun G A outer s H vs Q E hr h=>?_)
 ·obtain ⟨H0,R,so,r,w,n,M,N,l,cs,C,os,as,rs,rfl,I,J,d,B,g,q⟩:=h
  obtain ⟨dx,hA⟩:=I.obj;refine xx ?_;intro X_
  refine xl (qo_ (qs_ (qcw_ rfl) rfl T.n_sum PyProof.Rows.Boot.sum (qa_ (qJ_ (CompOk.of (cap:=[0]) (own:=["role"]) (by kernel_rfl)) rfl (qB_ (pv 1)) (fun _ _ _ _ _=>(ql_ (i:=1) (bC (by kernel_rfl)) rfl (Or.inl rfl))) (fun _ _ _ _ _=>qI_) (fun _ _ _ _ _=>by exact (qy_ (q9_ (K:=K) rfl) (yt_ (K:=K) rfl (pv 0) rfl) (pv 1) (fun _ _=>rfl)))) qb_))) ?_
  intro u_;refine ⟨_,rfl,so,rfl,⟨_,d⟩,fun D nD=>?_⟩;refine js_ (xs:=rowV rs) (f:=fun i=>.int (((cs.getD (rs.getD i 0) none).getD 0:Nat):Int)) (cs:=[some (.ref R.A)]) d nD rfl (by rw [qg_];exact bG B (by decide)) (fun i u H2 R2 hu s2 hR=>?_) (fun H2 s2 hD=>?_)
  ·obtain ⟨k,ek,rfl⟩:=qN_ hu
   obtain ⟨h1,h2,h3⟩:=g k (bO ek)
   have eg:rs.getD i 0=k:=by rw [b7,ek];rfl
   rw [eg] at hR
   have ev:valO (cs.getD k none)=.int (((cs.getD k none).getD 0:Nat):Int):=by
    cases hz:cs.getD k none with
    | none=>rw [hz] at h2;cases h2
    | some b=>rfl
   have gi:=qv_ (qS_ (jt_ (os:=cs) (k:=k) (by rw [I.csl];exact h1)))
   rw [ev] at gi;exact ⟨_,rfl,R.A,_,_,_,_,rfl,s2 _ _ (J.sm _ _ hA),T.cl_Asking,T.no_Asking_costs,zm_ _ _ _ _ _,_,rfl,R.cl,_,_,_,rfl,rfl,SqL.of (s2 _ _ (J.sm _ _ I.cost)),gi,hR _ (Same.refl _)⟩
  rw [qg_] at hD
  have ex:((List.range rs.length).map fun i=>V.int (((cs.getD (rs.getD i 0) none).getD 0:Nat):Int))=(rs.map fun k=>(((cs.getD k none).getD 0:Nat):Int)).map V.int:=by
   rw [cq]
   apply cU
   intro i;rw [bE,bE]
   by_cases hi:i < rs.length
   ·rw [cb hi,b8 hi]
    have eg:rs.getD i 0=rs[i]:=by rw [b7,b8 hi];rfl
    dsimp only [Option.map];rw [eg];rfl
   ·rw [bT (by rw [bI];omega),bT (by omega)]
    rfl
  rw [ex] at hD;refine ⟨D,_,rfl,SqL.of hD,by rw [b9];omega,fun y hy=>?_,q H2 s2⟩
  obtain ⟨k,hk,rfl⟩:=cG.mp hy
  have:=(g k hk).2.2;omega
inductive qcy_ (a:Adr) (vs:List V) (H:Hp) (Q:VK) (E_3:XK):Prop
 | mk:∀ (H0:Hp) (R:AskR) (r w n M N k:Nat) (l:Nat->Nat->Nat) (cs srow os:List (Option Nat)) (as X:List Nat),vs=[.ref R.A,.int k]->AskI a H0 R r w n M N l cs srow->AskM a H0 H R (N+M) os as->k < N+M->X.length=N+M->((∀ b∈X,b < (2 ^ w) ^ n))->isMk r w n M N l X=true->jS_ (N+M) os X->(∀ H',Same H H'->Q (if fx r w M N l (knO os) k=true then .int ((X.getD k 0:Nat):Int) else .non) H')->qcy_ a vs H Q E_3
theorem jZ_ (T:Txt K mg a):FnO P wo K mg base 9 a.f40 ["self", "role"] (qcy_ a):=by
 refine T.x40.F.okA (k:=8) vJ_ (fun G A outer s H vs Q E hr h=>?_)
 ·obtain ⟨H0,R,r,w,n,M,N,k,l,cs,C,os,as,X,rfl,I,J,hk,hX,B,hm,d,q⟩:=h
  obtain ⟨dx,hA⟩:=I.obj
  have hC:=I.code.same J.sm;obtain ⟨dc,Lp,qs,hc,_,_⟩:=id hC.ins;refine xx ?_;intro X_;refine xl (qo_ (qx_ (by exact (qt_ (pv 0) rfl)) T.cl_Code T.x27.me (uM_ T) hr.u T.x27.b .nil qj_ (qa_ (qt_ (pv 0) rfl) (qa_ (pv 1) qb_)))) ?_
  intro u_;refine ⟨_,rfl,R.A,_,_,_,_,rfl,J.sm _ _ hA,T.cl_Asking,T.no_Asking_code,jQ_ _ _ _ _ _,R.c,dc,_,rfl,hc,rfl,_,rfl,R.A,_,_,_,_,rfl,J.sm _ _ hA,T.cl_Asking,T.no_Asking_row,vQ_ _ _ _ _ _,_,rfl,?_⟩;refine ⟨R.c,R.bp,R.fp,R.rl,r,w,n,M,N,k,l,os,rfl,hC,I.full,I.n16,I.W,J.hr,J.osl,hk,fun b hb=>?_,fun hz H' s'=>⟨fun D g=>?_,fun mk hf=>?_⟩⟩
  ·have e:fx r w M N l (knO os) k=true:=by
    unfold fx;rw [b7,qm6_ (by rw [J.osl];exact hk) hb]
    rfl
   have:=q H (Same.refl _);rw [e,if_pos rfl,d k hk b hb] at this;exact this
  ·have kz:=z4_ (by rw [J.osl];exact hk) hz
   have kg:(knO os).getD k false=false:=by rw [b7,kz];rfl
   have e:fx r w M N l (knO os) k=true:=by
    unfold fx;rw [qcp_ I.full I.W (by rw [ju_,J.osl]) hk kg g,dX]
   have:=q H' s';rw [e,if_pos rfl,← tells_make I.full.toGood I.W J.osl hX B hk hz hm d g] at this;exact this
  ·have kz:=z4_ (by rw [J.osl];exact hk) hz
   have kg:(knO os).getD k false=false:=by rw [b7,kz];rfl
   have e:fx r w M N l (knO os) k=false:=by
    unfold fx;rw [qcq_ I.full I.W (by rw [ju_,J.osl]) hk kg hf,kg]
    rfl
   have:=q H' s';rw [e,if_neg (by decide)] at this
   exact this
def jb_ (cs srow:List (Option Nat)):List Nat->List (Option Nat)->List Nat->List (Option Nat) × List Nat
 | [],os,as=>(os,as)
 | k :: ks,os,as=>if ((tk cs srow os as k).1.getD k none).isSome=true then jb_ cs srow ks (tk cs srow os as k).1 (tk cs srow os as k).2 else tk cs srow os as k
inductive qh7_ (K:PySem.W.Frag) (a:Adr) (vs:List V) (H:Hp) (Q:VK) (E_3:XK):Prop
 | mk:∀ (H0:Hp) (R:AskR) (so:Addr) (r w n M N:Nat) (l:Nat->Nat->Nat) (cs srow os:List (Option Nat)) (as rs:List Nat),vs=[.ref R.A,.ref so]->AskI a H0 R r w n M N l cs srow->AskM a H0 H R (N+M) os as->SqL K H0 so (rowV rs)->((∀ k∈rs,k < N+M))->(∀ H',AskM a H0 H' R (N+M) (jb_ cs srow rs os as).1 (jb_ cs srow rs os as).2->Q .non H')->qh7_ K a vs H Q E_3
theorem z6_ (T:Txt K mg a):FnO P wo K mg base 3 a.f34 ["self", "some"] (qh7_ K a):=by
 refine T.x34.F.okA (k:=2) sc_Asking_take_along (fun G A outer s H vs Q E hr h=>?_)
 ·obtain ⟨H0,R,so,r,w,n,M,N,l,cs,d,os,as,rs,rfl,I,J,C,D,q⟩:=h
  obtain ⟨dx,hA⟩:=I.obj;refine xx ?_;intro X_;refine x1 ?_;refine xf PassesOwn.never rfl (qB_ (pv 1)) (ql_ (i:=2) sc_Asking_take_along.nd rfl (Or.inl rfl)) ?_;refine x1 ?_;refine xi (qn_ vp_ (qx_ (pv 0) T.cl_Asking T.x33.me (qbj_ T) hr.u T.x33.b .nil qj_ (qa_ (pv 2) qb_)) qG_ (qp_ _)) ?_;refine xl ql7_ ?_;intro u_;refine ⟨_,qw_,?_⟩;intro u_;intro u_;refine ⟨_,rfl,so,rfl,⟨_,J.sm.seq C⟩,?_⟩;refine let I_:Nat->L2.St->Hp->Prop:=fun i σ H'=>L2.A2 ((∃ v2:Option V,σ=[some (.ref R.A),some (.ref so),v2])) (L2.E2 fun B g=>L2.A2 (AskM a H0 H' R (N+M) B g) (jb_ cs d rs os as=jb_ cs d (rs.drop i) B g));ji_ (xs:=rowV rs) I_ ⟨⟨none,rfl⟩,os,as,J,rfl⟩ ?_ ?_ ?_
  ·rintro i σ H' _ ⟨_,_,_,J',_⟩
   exact J'.sm.seq C
  ·rintro i x σ H' hx ⟨⟨v2,rfl⟩,B,g,J',e'⟩
   obtain ⟨k,ek,rfl⟩:=qN_ hx
   have hk:=D k (bO ek)
   have hi:=(bK.mp ek).1
   have ed:rs.drop i=k :: rs.drop (i+1):=by
    rw [List.drop_eq_getElem_cons hi,(bK.mp ek).2]
   refine ⟨_,rfl,R.A,dx,_,rfl,J'.sm _ _ hA,rfl,_,rfl,H0,R,r,w,n,M,N,k,l,cs,d,B,g,rfl,I,J',hk,fun H2 J2=>?_⟩;refine ⟨rfl,_,rfl,?_⟩;rw [ed] at e'
   have e2:jb_ cs d (k :: rs.drop (i+1)) B g=if ((tk cs d B g k).1.getD k none).isSome=true then jb_ cs d (rs.drop (i+1)) (tk cs d B g k).1 (tk cs d B g k).2 else tk cs d B g k:=rfl
   rw [e2] at e'
   cases hz:(tk cs d B g k).1.getD k none with
   | none =>
    refine ite2 (fun _=>?_) (fun y=>absurd rfl y);rw [hz,if_neg (by decide)] at e'
    rw [e'] at q;exact q H2 J2
   | some b =>
    refine ite2 (fun y=>absurd (bC y) (fun z=>by cases z)) (fun _=>?_)
    rw [hz,if_pos (show (some b).isSome=true from rfl)] at e';exact ⟨⟨_,rfl⟩,_,_,J2,e'⟩
  ·rintro σ H' ⟨⟨v2,rfl⟩,B,g,J',e'⟩
   rw [qg_,List.drop_length] at e';rw [e'] at q;exact q H' J'
theorem qcz_ {row:List Nat}{k:Nat} (h:k < row.length):row.getD k 0∈row:=by
 rw [b7,b8 h];exact cR h
theorem y6_ {K:PySem.W.Frag}{l:Addr}{rs:List Nat}{b:Nat->Bool}{k:Nat}{tt:TT}{te:TE}{cs:L2.St}{H1:Hp}{D:Addr}{Q:Hp->Prop} (hl:SqL K H1 l (rowV rs)) (hD:H1 D=none) (hk:k=cs.length) (hn:rs.length<=sizeLine)
  (ht:∀ x H (R:Bool->Hp->Prop),x∈rs->Same H1 H->(∀ H4,Same H H4->R (b x) H4)->tt (cs++[some (.int (x:Nat))]) H R)
  (he:∀ x H (R:V->Hp->Prop),x∈rs->b x=true->Same H1 H->(∀ H4,Same H H4->R (.int (x:Nat)) H4)->te (cs++[some (.int (x:Nat))]) H R)
  (hQ:∀ H,Same H1 H->H D=some (.lst (rowV (rs.filter b)))->Q H):q0_ (Itl K l) (qR_ k) tt te (cs++[none]) H1 D Q:=by
 refine yc_ (n:=rs.length) (src:=fun i=>.int ((rs.getD i 0:Nat):Int)) (f:=fun i=>.int ((rs.getD i 0:Nat):Int)) (b:=fun i=>b (rs.getD i 0)) hD hk hn (fun H sm=>⟨_,sm.seq hl,by rw [qg_];exact bF _⟩) (fun i H hi sm=>⟨_,_,sm.seq hl,je_ hi⟩) (fun i H x H' hi sm y=>?_) (fun i H R hi sm r=>ht _ H R (qcz_ hi) sm r) (fun i H R hi hb sm r=>he _ H R (qcz_ hi) hb sm r) (fun H sm h=>hQ H sm ?_)
 ·obtain ⟨e,y⟩:=y
  exact ⟨bM ((y _ (sm.seq hl)).symm.trans (je_ hi)),e⟩
 ·rw [h]
  refine congrArg (fun z=>some (HO.lst z)) ?_;unfold rowV;clear hl hn ht he hQ h
  have:rs=(List.range rs.length).map fun i=>rs.getD i 0:=by
   apply cU
   intro i
   by_cases hi:i < rs.length
   ·rw [bE,cb hi,da,b7,b8 hi]
    rfl
   ·rw [bT (by omega),bT (by rw [b9,bI];omega)]
  conv=>rhs;rw [this]
  rw [List.filter_map,cq];rfl
inductive qaq_ (K:PySem.W.Frag) (a:Adr) (vs:List V) (H:Hp) (Q:VK) (E_3:XK):Prop
 | mk:∀ (H0:Hp) (R:AskR) (so:Addr) (r w n M N:Nat) (l:Nat->Nat->Nat) (cs srow os:List (Option Nat)) (as rs:List Nat),vs=[.ref R.A,.ref so]->AskI a H0 R r w n M N l cs srow->AskM a H0 H R (N+M) os as->SqL K H so (rowV rs)->rs.length<=8->((∀ k∈rs,k < N+M))->(∀ D H',Same H H'->H D=none->H' D=some (.lst (rowV (rs.filter fun k=>!fx r w M N l (knO os) k)))->Q (.ref D) H')->qaq_ K a vs H Q E_3
theorem y0_ (T:Txt K mg a):FnO P wo K mg base 10 a.f41 ["self", "some"] (qaq_ K a):=by
 refine T.x41.F.okA (k:=9) sc_Asking_unfixed (fun S A outer s H vs Q E hr h=>?_)
 ·obtain ⟨H0,R,so,r,w,n,M,N,l,cs,B,os,as,rs,rfl,I,J,d,h8,L,q⟩:=h
  obtain ⟨dx,hA⟩:=I.obj
  have hA:=J.sm _ _ hA;refine xx ?_;intro X_;refine xc (qi_ (i:=2) sc_Asking_unfixed.nd rfl (Or.inr rfl) (jV_ (pv 0) T.cl_Asking T.x35.me (jT_ T) hr.u T.x35.b .nil qj_)) ?_;intro u_
  refine xl (qo_ (qJ_ (CompOk.of (cap:=[2,0]) (own:=["role"]) (by kernel_rfl)) rfl (qB_ (pv 1)) (fun _ _ _ _ _=>(ql_ (i:=2) (bC (by kernel_rfl)) rfl (Or.inl rfl))) (fun _ _ _ _ _=>(jl_ (j9_ (q6_ (qx_ (by exact (yt_ (K:=K) rfl (pv 1) rfl)) T.cl_Code T.x25.me (vo_ T) hr.u T.x25.b .nil qj_ (qa_ (pv 0) (qa_ (pv 2) qb_))))))) (fun _ _ _ _ _=>by exact (pv 2)))) ?_
  intro u_;refine ⟨_,rfl,R.A,dx,_,rfl,hA,rfl,H0,R,r,w,n,M,N,l,cs,B,os,as,rfl,I,J,fun kn H1 s1 O G=>?_⟩;refine ⟨_,rfl,so,rfl,⟨_,s1.seq d⟩,fun D nD=>?_⟩;refine y6_ (rs:=rs) (b:=fun k=>!fx r w M N l (knO os) k) (cs:=[some (.ref kn),some (.ref R.A)]) (s1.seq d) nD rfl (bG h8 (by decide)) (fun x Hx Rx hx sx hR=>?_) (fun x Hx Rx hx _ sx hR=>⟨_,rfl,hR _ (Same.refl _)⟩) (fun H2 s2 hD=>?_)
  ·have g:=J.sm.trans (s1.trans sx)
   obtain ⟨C,Lp,qs,hc,_⟩:=I.code.ins;refine ⟨_,rfl,R.A,_,_,_,_,rfl,(s1.trans sx) _ _ hA,T.cl_Asking,T.no_Asking_code,jQ_ _ _ _ _ _,R.c,C,_,rfl,g _ _ hc,rfl,_,rfl,_,rfl,R.c,R.bp,R.fp,kn,r,w,n,M,N,x,l,knO os,rfl,I.code.same g,I.full,I.W,sx _ _ G,by rw [ju_,J.osl],L x hx,fun H' s'=>?_⟩
   exact ⟨_,rfl,hR _ s'⟩
  ·exact q D H2 (s1.trans s2) (s1.free nD) hD
def z7_ (cs:List (Option Nat)) (rs:List Nat):Int:=(rs.map fun k=>(((cs.getD k none).getD 0:Nat):Int)).sum
def qfe_ (cs:List (Option Nat)) (as ls:List Nat):V:=if ls.all (mayB cs as)=true then .int (z7_ cs ls) else .non
inductive qff_ (K:PySem.W.Frag) (a:Adr) (vs:List V) (H:Hp) (Q:VK) (E_3:XK):Prop
 | mk:∀ (H0:Hp) (R:AskR) (so:Addr) (r w n M N:Nat) (l:Nat->Nat->Nat) (cs srow os:List (Option Nat)) (as rs:List Nat),vs=[.ref R.A,.ref so]->AskI a H0 R r w n M N l cs srow->AskM a H0 H R (N+M) os as->SqL K H so (rowV rs)->rs.length<=8->((∀ k∈rs,k < N+M))->((∀ k,(cs.getD k none).getD 0<=1000000))->(∀ H',Same H H'->Q (qfe_ cs as (rs.filter fun k=>!fx r w M N l (knO os) k)) H')->qff_ K a vs H Q E_3
theorem qar_ (T:Txt K mg a):FnO P wo K mg base 11 a.f42 ["self", "some"] (qff_ K a):=by
 refine T.x42.F.okA (k:=10) sc_Asking_price (fun U A outer s H vs Q E hr h=>?_)
 ·obtain ⟨H0,R,so,r,w,n,M,N,l,cs,g,os,as,rs,rfl,I,J,O,h8,G,S,q⟩:=h
  obtain ⟨dx,hA⟩:=I.obj
  have hA:=J.sm _ _ hA;refine xx ?_;intro X_;refine xc (qi_ (i:=2) sc_Asking_price.nd rfl (Or.inl rfl) (qx_ (pv 0) T.cl_Asking T.x41.me (y0_ T) hr.u T.x41.b .nil qj_ (qa_ (pv 1) qb_))) ?_;intro u_;refine xq ?_
  refine xi (j9_ (q6_ (qs_ (qkf_ rfl) rfl T.n_all boot_all (qa_ (qJ_ (CompOk.of (cap:=[0]) (own:=["role"]) (by kernel_rfl)) rfl (qB_ (pv 2)) (fun _ _ _ _ _=>(ql_ (i:=1) (bC (by kernel_rfl)) rfl (Or.inl rfl))) (fun _ _ _ _ _=>qI_) (fun _ _ _ _ _=>by exact (qx_ (pv 0) T.cl_Asking T.x32.me (yW_ T) hr.u T.x32.b .nil qj_ (qa_ (pv 1) qb_)))) qb_)))) ?_
  refine xl (qo_ qG_) ?_;intro u_;refine ⟨_,qw_,?_⟩;intro u_;refine xl (qo_ (qx_ (pv 0) T.cl_Asking T.x37.me (yT_ T) hr.u T.x37.b .nil qj_ (qa_ (pv 2) qb_))) ?_;intro u_;refine ⟨_,rfl,R.A,dx,_,rfl,hA,rfl,_,rfl,H0,R,so,r,w,n,M,N,l,cs,g,os,as,rs,rfl,I,J,O,h8,G,fun L H1 s1 nL hL=>?_⟩
  have C:∀ k∈(rs.filter fun k=>!fx r w M N l (knO os) k),k < N+M:=fun k hk=>G k (bV.mp hk).1
  have B:(rs.filter fun k=>!fx r w M N l (knO os) k).length<=8:=bG (cj _ _) h8;generalize (rs.filter fun k=>!fx r w M N l (knO os) k)=ls at q hL C B;refine ⟨_,rfl,L,rfl,⟨_,SqL.of hL⟩,fun D nD=>?_⟩;refine js_ (xs:=rowV ls) (f:=fun i=>.bl (mayB cs as (ls.getD i 0))) (cs:=[some (.ref R.A)]) (SqL.of hL) nD rfl (by rw [qg_];exact bG B (by decide)) (fun i u H2 R2 hu s2 hR=>?_) (fun H2 s2 hD=>?_)
  ·obtain ⟨k,ek,rfl⟩:=qN_ hu
   have eg:ls.getD i 0=k:=by rw [b7,ek];rfl
   rw [eg] at hR
   have d:=s1.trans s2;refine ⟨_,rfl,R.A,dx,_,rfl,d _ _ hA,rfl,_,rfl,H0,R,r,w,n,M,N,k,l,cs,g,os,as,rfl,I,J.same d,C k (bO ek),?_⟩;exact hR _ (Same.refl _)
  rw [qg_] at hD
  have ex:((List.range ls.length).map fun i=>V.bl (mayB cs as (ls.getD i 0)))=(ls.map (mayB cs as)).map V.bl:=by
   rw [cq]
   apply cU
   intro i;rw [bE,bE]
   by_cases hi:i < ls.length
   ·rw [cb hi,b8 hi]
    have eg:ls.getD i 0=ls[i]:=by rw [b7,b8 hi];rfl
    dsimp only [Option.map];rw [eg];rfl
   ·rw [bT (by rw [bI];omega),bT (by omega)]
    rfl
  rw [ex] at hD
  have d:=s1.trans s2;refine ⟨D,_,rfl,SqL.of hD,_,rfl,?_⟩
  have ea:((ls.map (mayB cs as)).all fun b=>b)=ls.all (mayB cs as):=by rw [List.all_map];rfl
  rw [ea];unfold qfe_ at q
  cases hz:ls.all (mayB cs as) with
  | false =>
   rw [hz] at q;refine ite2 (fun _=>?_) (fun y=>absurd rfl y);exact q H2 d
  | true =>
   rw [hz] at q;refine ite2 (fun y=>absurd y (by decide)) (fun _=>?_)
   refine ⟨_,rfl,R.A,dx,_,rfl,d _ _ hA,rfl,_,rfl,H0,R,L,r,w,n,M,N,l,cs,g,os,as,ls,rfl,I,J.same d,SqL.of (s2 _ _ hL),B,fun k hk=>⟨C k hk,?_,S k⟩,fun H' s'=>q H' (d.trans s')⟩
   have:=c5.mp hz k hk;unfold mayB at this;exact (cC _ _ ▸ this).1
def ckO (cs:List (Option Nat)) (k:Nat):Int:=(((cs.getD k none).getD 0:Nat):Int)
inductive qh8_ (a:Adr) (vs:List V) (H:Hp) (Q:VK) (E_3:XK):Prop
 | mk:∀ (H0:Hp) (R:AskR) (r w n M N:Nat) (l:Nat->Nat->Nat) (cs srow os:List (Option Nat)) (as:List Nat),vs=[.ref R.A]->AskI a H0 R r w n M N l cs srow->AskM a H0 H R (N+M) os as->(∀ D H' ms,AskM a H0 H' R (N+M) os as->(∀ b o,b≠a.t38->H b=some o->H' b=some o)->H D=none->H' D=some (.lst (rowV ms))->ms.Perm ((List.range (N+M)).filter (mayB cs as))->ms.Pairwise (klt (ckO cs))->Q (.ref D) H')->qh8_ a vs H Q E_3
theorem qas_ (T:Txt K mg a) (B:Tb base mg a):FnO P wo K mg base 5 a.f38 ["self"] (qh8_ a):=by
 refine T.x38.F.okA (k:=4) sc_Asking_order (fun A outer s H vs Q E hr h=>?_)
 ·obtain ⟨H0,R,r,w,n,M,N,l,cs,C,os,as,rfl,I,J,q⟩:=h
  obtain ⟨dx,hA⟩:=I.obj
  have n8:=I.W.n8
  have hC:=I.code.same J.sm;obtain ⟨dc,Lp,qs,hc,_,_⟩:=id hC.ins;refine xx ?_;intro X_
  refine xc (jp_ (i:=1) sc_Asking_order.nd rfl (Or.inl rfl) (CompOk.of (cap:=[0]) (own:=["role"]) (by kernel_rfl)) rfl (qL_ rfl T.n_range (qa_ (qt_ (qt_ (pv 0) rfl) rfl) qb_)) (fun _ _ _ _ _=>(ql_ (i:=1) (bC (by kernel_rfl)) rfl (Or.inl rfl))) (fun _ _ _ _ _=>(jl_ (q6_ (qx_ (pv 0) T.cl_Asking T.x32.me (yW_ T) hr.u T.x32.b .nil qj_ (qa_ (pv 1) qb_))))) (fun _ _ _ _ _=>by exact (pv 1))) ?_
  intro u_
  refine xl (qo_ (qmu_ (k:=0) (p:="role") (y:="self") (j:=0) (T.x38.F.tab B.b_Asking_order B.n_Asking_order) rfl hr.u rfl T.n_sorted (pv 1) ⟨rfl,rfl,rfl,by decide +kernel,rfl,by decide +kernel,by decide +kernel⟩ rfl (by decide +kernel) rfl rfl rfl rfl (fun _ _ _ _=>rfl) (fun _ _ _ _ _ _ hr=>(yO_ (qa_ (qy_ (q9_ (K:=K) rfl) (yt_ (K:=K) rfl (pv 1) rfl) (pv 0) (fun _ _=>rfl)) (qa_ (pv 0) qb_)))))) ?_
  intro u_;refine ⟨_,rfl,R.A,_,_,_,_,rfl,J.sm _ _ hA,T.cl_Asking,T.no_Asking_code,jQ_ _ _ _ _ _,R.c,_,_,_,_,rfl,hc,T.cl_Code,T.no_Code_roles,zj_ R.bp M N Lp,_,rfl,by omega,by omega,fun fl S=>?_⟩
  rw [cx];refine jP_ (n:=N+M) (f:=fun k=>.int ((k:Nat):Int)) (b:=mayB cs as) (cs:=[some (.ref R.A)]) S rfl (bG n8 (by decide)) (fun k H2 R2 hk s2 hR=>?_) (fun k H2 R2 hk hb s2 hR=>?_) (fun H2 s2 G=>?_)
  ·refine ⟨_,rfl,R.A,dx,_,rfl,s2 _ _ (J.sm _ _ hA),rfl,_,rfl,H0,R,r,w,n,M,N,k,l,cs,C,os,as,rfl,I,J.same s2,hk,?_⟩
   exact ⟨_,rfl,hR _ (Same.refl _)⟩
  ·exact ⟨_,rfl,hR _ (Same.refl _)⟩
  have J2:=J.same s2
  have g:H2 fl=some (.lst (rowV ((List.range (N+M)).filter (mayB cs as)))):=G;refine ⟨_,rfl,?_⟩;refine qfa_ (q:=qL) (pos:=posL) J2.tab fun H3 c' fa X pm U k3 t3 n3 Z Y O=>?_
  have ht:∀ {b:Addr}{xs:List V},H2 b=some (.lst xs)->b≠a.t38:=fun {b xs} e=>by
   obtain ⟨ps,hp,_⟩:=J2.tab;exact qY_ e hp (fun y=>by cases y)
  have h0:∀ {b:Addr}{o:HO},H0 b=some o->b≠a.t38:=fun {b o} e=>qh_ e I.nt
  have J3:AskM a H0 H3 R (N+M) os as:=⟨fun b o e=>k3 b o (h0 e) (J2.sm b o e),k3 _ _ (ht J2.hr) J2.hr,k3 _ _ (ht J2.hs) J2.hs,k3 _ _ (ht J2.hz) J2.hz,t3,J2.osl,J2.nd,J2.lt⟩;refine ⟨fl,(List.range (N+M)).filter (mayB cs as),ckO cs,8,.ref R.A,rfl,SqL.of (k3 _ _ (ht g) g),cL _ d6,fun k hk=>?_,?_,rfl,fun k H' hk sm=>?_,fun D H' ms n1 n2 sm pm pw=>?_⟩
  ·have:=bQ.mp (bV.mp hk).1
   omega
  ·have:=cj (mayB cs as) (List.range (N+M))
   rw [bI] at this;omega
  ·have L:=bQ.mp (bV.mp hk).1
   have d:=(bV.mp hk).2
   have J':=J3.same sm
   have ev:valO (cs.getD k none)=.int (ckO cs k):=by
    unfold mayB at d;unfold ckO
    cases hz:cs.getD k none with
    | none=>rw [hz] at d;cases d
    | some b=>rfl
   have gi:=qv_ (qS_ (jt_ (os:=cs) (k:=k) (by rw [I.csl];exact L)))
   rw [ev] at gi;exact ⟨_,rfl,R.A,_,_,_,_,rfl,J'.sm _ _ hA,T.cl_Asking,T.no_Asking_costs,zm_ _ _ _ _ _,_,rfl,R.cl,_,_,_,rfl,rfl,SqL.of (J'.sm _ _ I.cost),gi,_,rfl,(by show 2<=sizeLine;decide),fun p np=>⟨p,rfl,qc_,Same.new np⟩⟩
  ·have s4:Same H3 (upd H' D (.lst (jG_ ms))):=sm.up n1
   refine q D _ ms (J3.same s4) (fun b o hb e=>s4 b o (k3 b o hb (s2 b o e))) ?_ qc_ pm pw;exact s2.free (O D n1)
def knW (ks:List Bool):List Nat->List Bool
 | []=>ks
 | k :: way=>knW (ks.set k true) way
theorem qnc_ (ks:List Bool) (k:Nat):∀ way,knW ks (way++[k])=(knW ks way).set k true:=fun way=>by
 induction way generalizing ks with
 | nil=>rfl
 | cons x way ih=>exact ih _
theorem z8_ (ks:List Bool):∀ way,(knW ks way).length=ks.length:=fun way=>by
 induction way generalizing ks with
 | nil=>rfl
 | cons x way ih =>
  show (knW (ks.set x true) way).length=_
  rw [ih,cZ]
theorem qpb_ (ks:List Bool) (k:Nat):(knV ks).set k (.bl true)=knV (ks.set k true):=by
 unfold knV;rw [fH]
theorem j0_ {ms:List Nat}{j k:Nat} (h:ms[j]?=some k):ms.take (j+1)=ms.take j++[k]:=by
 rw [eK,h];rfl
def qfg_ (r w M N:Nat) (l:Nat->Nat->Nat) (ks:List Bool) (rs ms:List Nat) (j:Nat):Prop :=
 j<=ms.length/\rs.all (fx r w M N l (knW ks (ms.take j)))=true/\∀ i,i < j->rs.all (fx r w M N l (knW ks (ms.take i)))=false
def qfh_ (r w M N:Nat) (l:Nat->Nat->Nat) (ks:List Bool) (rs ms:List Nat):Prop:=∀ i,i<=ms.length->rs.all (fx r w M N l (knW ks (ms.take i)))=false
inductive qfi_ (a:Adr) (vs:List V) (H:Hp) (Q:VK) (E_3:XK):Prop
 | mk:∀ (H0:Hp) (R:AskR) (so:Addr) (r w n M N:Nat) (l:Nat->Nat->Nat) (cs srow os:List (Option Nat)) (as rs:List Nat),vs=[.ref R.A,.ref so]->AskI a H0 R r w n M N l cs srow->AskM a H0 H R (N+M) os as->H so=some (.lst (rowV rs))->((∀ k∈rs,k < N+M))->(∀ H' ms,AskM a H0 H' R (N+M) os as->(∀ b o,b≠a.t38->H b=some o->H' b=some o)->ms.Perm ((List.range (N+M)).filter (mayB cs as))->ms.Pairwise (klt (ckO cs))->(∀ D j,qfg_ r w M N l (knO os) rs ms j->H D=none->H' D=some (.lst (rowV (ms.take j)))->Q (.ref D) H')/\(qfh_ r w M N l (knO os) rs ms->Q .non H'))->qfi_ a vs H Q E_3
theorem zn_ (T:Txt K mg a) (B:Tb base mg a):FnO P wo K mg base 10 a.f39 ["self", "some"] (qfi_ a):=by
 refine T.x39.F.okA (k:=9) sc_Asking_detour (fun al A outer s H vs Q E hr h=>?_)
 ·obtain ⟨H0,R,so,r,w,n,M,N,l,cs,O,os,as,rs,rfl,I,J,U,ak,q⟩:=h
  obtain ⟨dx,hA⟩:=I.obj
  have n8:=I.W.n8
  have ae:so≠a.t38:=by
   obtain ⟨ps,hp,_⟩:=J.tab;exact qY_ U hp (fun y=>by cases y)
  refine xx ?_;intro X_;refine xc (qi_ (i:=2) sc_Asking_detour.nd rfl (Or.inl rfl) (jV_ (pv 0) T.cl_Asking T.x38.me (qas_ T B) hr.u T.x38.b .nil qj_)) ?_;intro u_;refine xc (qi_ (i:=3) sc_Asking_detour.nd rfl (Or.inl rfl) (jV_ (pv 0) T.cl_Asking T.x35.me (jT_ T) hr.u T.x35.b .nil qj_)) ?_;intro u_;refine xc (qi_ (i:=4) sc_Asking_detour.nd rfl (Or.inl rfl) (q7_ qb_)) ?_;intro u_;refine xq ?_;refine xw PassesOwn.never (j9_ (q6_ (qq_ (zl_ T) hr.u rfl T.x30.m T.x30.k T.x30.b .nil qj_ (qa_ (qt_ (pv 0) rfl) (qa_ (pv 3) (qa_ (pv 1) qb_)))))) ?_;refine xq ?_;refine xi (qn_ jx_ (qs_ qr_ rfl T.n_len ci (qa_ (pv 4) qb_)) (qs_ qr_ rfl T.n_len ci (qa_ (pv 2) qb_)) (qp_ _)) ?_;refine xl (qo_ qG_) ?_;intro u_;refine ⟨_,qw_,?_⟩;intro u_;refine xc (qi_ (i:=5) sc_Asking_detour.nd rfl (Or.inl rfl) (qy_ qz_ (pv 2) (qs_ qr_ rfl T.n_len ci (qa_ (pv 4) qb_)) (fun _ _=>rfl))) ?_;intro u_;refine xc (yM_ zp_ (zb_ (pv 3) (pv 5) yg_)) ?_;intro u_;refine xl (qV_ (jF_ cB cD cE qQ_ (pv 4) (qa_ (pv 5) qb_))) ?_;intro u_;intro u_;refine xl (qo_ (pv 4)) ?_;intro u_;refine ⟨_,rfl,R.A,dx,_,rfl,J.sm _ _ hA,rfl,H0,R,r,w,n,M,N,l,cs,O,os,as,rfl,I,J,fun D1 H1 ms J1 k1 am X pm pw=>?_⟩
  have q:=fun H' (s:Same H1 H')=>q H' ms (J1.same s) (fun b o hb e=>s b o (k1 b o hb e)) pm pw
  have ad:=k1 _ _ ae U
  have ml:ms.length<=8:=by
   rw [pm.length_eq]
   have:=cj (mayB cs as) (List.range (N+M));rw [bI] at this;omega
  have ah:∀ k∈ms,k < N+M:=fun k hk=>bQ.mp (bV.mp (pm.mem_iff.mp hk)).1;refine ⟨_,rfl,R.A,dx,_,rfl,J1.sm _ _ hA,rfl,H0,R,r,w,n,M,N,l,cs,O,os,as,rfl,I,J1,fun D2 H2 s2 ai Z=>?_⟩;refine ⟨cn _,fun D3 aa=>?_⟩
  have L:D2≠D3:=qh_ Z aa
  have g:H1 D3=none:=s2.free aa
  have aj:∀ D,H1 D=none->H D=none:=fun D e=>by
   cases z:H D with
   | none=>rfl
   | some o =>
    by_cases y:D=a.t38
    ·obtain ⟨ps,hp,_⟩:=J1.tab
     rw [y,hp] at e;cases e
    ·rw [k1 D o y z] at e;cases e
  have Y:(upd H2 D3 (.lst [])) D3=some (.lst (rowV (ms.take 0))):=qc_
  have S:(upd H2 D3 (.lst [])) D2=some (.lst (knV (knW (knO os) (ms.take 0)))):=by rw [qd_ L];exact Z
  have s3:Same H1 (upd H2 D3 (.lst [])):=s2.up g;generalize (upd H2 D3 (.lst []))=H3 at Y S s3
  refine ⟨fun m σ H'=>∃ (j:Nat) (v5:Option V),m=ms.length - j/\j<=ms.length/\σ=[some (.ref R.A),some (.ref so),some (.ref D1),some (.ref D2),some (.ref D3),v5]/\Same H1 H'/\H' D2=some (.lst (knV (knW (knO os) (ms.take j))))/\H' D3=some (.lst (rowV (ms.take j)))/\∀ i,i < j->rs.all (fx r w M N l (knW (knO os) (ms.take i)))=false,
   ⟨_,0,none,rfl,cn _,rfl,s3,S,Y,fun i hi=>absurd hi (cX i)⟩,?_⟩
  rintro m σ H' ⟨j,v5,rfl,hj,rfl,sm,h2,h3,G⟩
  have J':=J1.same sm;refine ⟨_,rfl,R.A,_,_,_,_,rfl,J'.sm _ _ hA,T.cl_Asking,T.no_Asking_code,jQ_ _ _ _ _ _,_,rfl,_,rfl,?_⟩;refine ⟨R.c,R.bp,R.fp,D2,so,r,w,n,M,N,l,knW (knO os) (ms.take j),rs,rfl,I.code.same J'.sm,I.full,I.W,h2,by rw [z8_,ju_,J.osl],SqL.of (sm _ _ ad),ak,fun H4 s4=>?_⟩
  refine ⟨_,rfl,?_⟩
  have d:=sm.trans s4
  cases hz:rs.all (fx r w M N l (knW (knO os) (ms.take j))) with
  | true =>
   refine ite2 (fun y=>absurd y (by decide)) (fun _=>?_)
   exact ⟨_,rfl,(q H4 d).1 D3 j ⟨hj,hz,G⟩ (aj D3 g) (s4 _ _ h3)⟩
  | false =>
   refine ite2 (fun _=>⟨_,fun _ _ z=>z,?_⟩) (fun y=>absurd rfl y);refine ⟨_,rfl,D3,_,rfl,.inl (SqL.of (s4 _ _ h3)),_,rfl,D1,_,rfl,.inl (SqL.of (d _ _ X)),rfl,_,rfl,?_⟩
   have e1:(rowV (ms.take j)).length=j:=by rw [qg_,dv];omega
   rw [e1,qg_]
   by_cases hjm:j=ms.length
   ·refine ite2 (fun _=>?_) (fun y=>absurd (bN (by rw [hjm])) y)
    refine (q H4 d).2 fun i hi=>?_
    by_cases y:i=j
    ·rw [y];exact hz
    ·exact G i (by omega)
   ·refine ite2 (fun y=>absurd (V.int.inj (bC y)) (by omega)) (fun _=>?_)
    have C:j < ms.length:=by omega
    have gk:ms[j]?=some ms[j]:=b8 C
    have hk:=ah _ (cR C)
    have ek:(rowV ms)[j]?=some (.int (ms[j]:Nat)):=qew_ C;refine ⟨_,rfl,_,rfl,D3,_,rfl,.inl (SqL.of (s4 _ _ h3)),?_⟩;rw [e1];refine ⟨D1,_,_,_,rfl,rfl,SqL.of (d _ _ X),qv_ ek,?_⟩;refine ⟨_,rfl,_,rfl,D2,_,_,ms[j],rfl,rfl,s4 _ _ h2,yx_ (by unfold knV;rw [b9,z8_,ju_,J.osl];exact hk),?_⟩
    rw [qpb_,← qnc_,← j0_ gk]
    have ab:(upd H4 D2 (.lst (knV (knW (knO os) (ms.take (j+1)))))) D3=some (.lst (rowV (ms.take j))):=by
     rw [qd_ (cJ L)];exact s4 _ _ h3
    have ac:(rowV (ms.take j)).length < sizeLine:=by
     rw [e1];exact bR (by omega:j < 8) (by decide)
    refine ⟨_,rfl,.inl ⟨rfl,_,SqL.of ab⟩,_,rfl,D3,_,_,rfl,rfl,ab,ac,?_⟩;rw [jE_,← j0_ gk];refine ⟨ms.length - (j+1),by omega,j+1,_,rfl,C,rfl,(d.up ai).up g,?_,qc_,fun i hi=>?_⟩
    ·rw [qd_ L];exact qc_
    ·by_cases y:i=j
     ·rw [y];exact hz
     ·exact G i (by omega)
theorem qc0_ {k:Nat}:∀ as:List Nat,as.Nodup->(rowV as).countP (fun z=>eqV z (.int (k:Nat)))<=1
 | [],_=>cn _
 | x :: as,nd=>by
  have nd':=dI.mp nd
  have ih:=qc0_ (k:=k) as nd'.2;unfold rowV at ih ⊢;rw [cN,e9]
  by_cases z:x=k
  ·subst z
   have:(List.map (fun n:Nat=>V.int (n:Int)) as).countP (fun z=>eqV z (.int (x:Nat)))=0:=by
    rw [List.countP_eq_zero];intro v hv;obtain ⟨y,hy,rfl⟩:=cG.mp hv
    have ne:((y:Nat):Int)≠((x:Nat):Int):=fun e=>nd'.1 (by have e2:y=x:=(by omega);rw [<- e2];exact hy)
    show ¬ (((y:Nat):Int) == ((x:Nat):Int))=true
    rw [cP.mpr ne]
    decide
   rw [this]
   split <;> omega
  ·have ne:((x:Nat):Int)≠((k:Nat):Int):=by omega
   have:(eqV (V.int (x:Nat)) (.int (k:Nat)))=false:=by
    show (((x:Nat):Int) == ((k:Nat):Int))=false
    exact cP.mpr ne
   rw [if_neg (by rw [this];decide)]
   exact ih
def qP_ (xs:List Addr) (H:Hp):Hp:=fun b=>if b∈xs then none else H b
theorem z9_ (xs:List Addr) (H:Hp):Same (qP_ xs H) H:=fun b o e=>by
 unfold qP_ at e
 split at e
 ·cases e
 ·exact e
theorem q4_ {xs:List Addr}{H:Hp}{b:Addr} (h:b∈xs):qP_ xs H b=none:=by unfold qP_;rw [if_pos h]
theorem jw_ {xs:List Addr}{H:Hp}{b:Addr} (h:b∉xs):qP_ xs H b=H b:=by unfold qP_;rw [if_neg h]
theorem qat_ {G H:Hp}{xs:List Addr} (s:Same G H) (h:∀ x∈xs,G x=none):Same G (qP_ xs H):=fun b o e=>by
 rw [jw_ (fun z=>by rw [h b z] at e;cases e)]
 exact s b o e
theorem qfj_ (ks:List Bool) (k:Nat) (hk:k < ks.length):∀ way:List Nat,(knW ks way).getD k false=(ks.getD k false || way.contains k):=fun way=>by
 induction way generalizing ks with
 | nil=>show ks.getD k false=_;simp
 | cons x way ih =>
  show (knW (ks.set x true) way).getD k false=_
  rw [ih (ks.set x true) (by rw [cZ];exact hk),List.contains_cons]
  by_cases z:x=k
  ·subst z
   rw [b7,dS hk]
   simp
  ·rw [b7,dC z,← b7,cP.mpr (cJ z),dO]
theorem AskM.up {a:Adr}{H0 H:Hp}{R:AskR}{n:Nat}{os:List (Option Nat)}{as:List Nat}{x:Addr}{xs:List V}{o:HO} (J:AskM a H0 H R n os as) (n0:H0 x=none) (hx:H x=some (.lst xs)) (h1:R.rl≠x) (h2:R.sl≠x) (h3:R.z≠x):AskM a H0 (upd H x o) R n os as :=
 ⟨J.sm.up n0,by rw [qd_ h1];exact J.hr,by rw [qd_ h2];exact J.hs,by rw [qd_ h3];exact J.hz,J.tab.up hx,J.osl,J.nd,J.lt⟩
theorem qnd_ {a:Adr} (ys:List Addr) {G H3 H5:Hp}{x dx c bp fp f cl rl sl rw z:Addr}{r w n M N:Nat}{l:Nat->Nat->Nat}{cs srow:List (Option Nat)} (sG:Same G H3) (code:CodeAt a G c bp fp r w n M N l) (full:GF.Full r w) (n16:n<=16) (W:Wts w M N l) (row:G rw=some (.lst (rowO srow))) (srl:srow.length=N+M) (nzG:G z=none) (ntG:G a.t38=none) (ask:AskerAt H3 f rw z) (hz:H3 z=some (.lst (rowV []))) (tab:TabS H3 a.t38 posL qL) (csl:cs.length=N+M)
  (nx:H3 x=none) (ndx:H3 dx=none) (k5:∀ b o,b≠x->(upd (upd H3 dx (.own x)) x (.ins a.C_Asking dx [])) b=some o->H5 b=some o) (hx5:H5 x=some (.ins a.C_Asking dx (af c f cl rl sl))) (ncl:(upd (upd H3 dx (.own x)) x (.ins a.C_Asking dx [])) cl=none) (nrl:(upd (upd H3 dx (.own x)) x (.ins a.C_Asking dx [])) rl=none) (nsl:(upd (upd H3 dx (.own x)) x (.ins a.C_Asking dx [])) sl=none) (d1:cl≠rl) (d2:cl≠sl) (d3:rl≠sl) (hcl:H5 cl=some (.lst (rowO cs))) (hrl:H5 rl=some (.lst (rowO (List.replicate (N+M) none)))) (hsl:H5 sl=some (.lst (rowV []))) (hys:∀ y∈ys,G y=none/\((∃ xs,H3 y=some (.lst xs))\/∃ ps,H3 y=some (.tbl ps))) :
  AskI a (qP_ (z :: rl :: sl :: a.t38 :: ys) H5) ⟨x,c,bp,fp,f,cl,rl,sl,rw,z⟩ r w n M N l cs srow/\AskM a (qP_ (z :: rl :: sl :: a.t38 :: ys) H5) H5 ⟨x,c,bp,fp,f,cl,rl,sl,rw,z⟩ (N+M) (List.replicate (N+M) none) []/\Same G (qP_ (z :: rl :: sl :: a.t38 :: ys) H5)/\Same H3 H5:=by
 have fr:∀ {b:Addr},(upd (upd H3 dx (.own x)) x (.ins a.C_Asking dx [])) b=none->H3 b=none:=fun {b} e=>by
  by_cases z1:b=x
  ·rw [z1];exact nx
  rw [qd_ z1] at e
  by_cases z2:b=dx
  ·rw [z2];exact ndx
  rwa [qd_ z2] at e
 have d:Same H3 H5:=fun b o e=>k5 b o (qh_ e nx) (by rw [qd_ (qh_ e nx),qd_ (qh_ e ndx)];exact e)
 have g:=fr ncl
 have h:=fr nrl
 have s:=fr nsl;obtain ⟨ps,hp,_⟩:=id tab
 have D:=d _ _ hp
 have C:=d _ _ hz
 have H:∀ {b:Addr}{o:HO},H3 b=some o->(∀ xs,o≠.lst xs)->(∀ xs,o≠.tbl xs)->b∉(z :: rl :: sl :: a.t38 :: ys):=fun {b o} e n1 n2 hb=>by
  rcases bL.mp hb with y | hb
  ·rw [y,hz] at e;exact n1 _ (bM e).symm
  rcases bL.mp hb with y | hb
  ·rw [y,h] at e;cases e
  rcases bL.mp hb with y | hb
  ·rw [y,s] at e;cases e
  rcases bL.mp hb with y | hb
  ·rw [y,hp] at e;exact n2 _ (bM e).symm
  ·obtain ⟨_,⟨xs,hy⟩ | ⟨xs,hy⟩⟩:=hys b hb
   ·rw [hy] at e;exact n1 _ (bM e).symm
   ·rw [hy] at e;exact n2 _ (bM e).symm
 have B:Same G (qP_ (z :: rl :: sl :: a.t38 :: ys) H5):=qat_ (sG.trans d) fun b hb=>by
  rcases bL.mp hb with y | hb
  ·rw [y];exact nzG
  rcases bL.mp hb with y | hb
  ·rw [y];exact sG.free h
  rcases bL.mp hb with y | hb
  ·rw [y];exact sG.free s
  rcases bL.mp hb with y | hb
  ·rw [y];exact ntG
  ·exact (hys b hb).1
 have hx:x∉(z :: rl :: sl :: a.t38 :: ys):=fun hb=>by
  rcases bL.mp hb with y | hb
  ·rw [y,C] at hx5;cases hx5
  rcases bL.mp hb with y | hb
  ·rw [y,hrl] at hx5;cases hx5
  rcases bL.mp hb with y | hb
  ·rw [y,hsl] at hx5;cases hx5
  rcases bL.mp hb with y | hb
  ·rw [y,D] at hx5;cases hx5
  ·obtain ⟨_,⟨xs,hy⟩ | ⟨xs,hy⟩⟩:=hys x hb <;> rw [nx] at hy <;> cases hy
 have hc:cl∉(z :: rl :: sl :: a.t38 :: ys):=fun hb=>by
  rcases bL.mp hb with y | hb
  ·rw [y,hz] at g;cases g
  rcases bL.mp hb with y | hb
  ·exact d1 y
  rcases bL.mp hb with y | hb
  ·exact d2 y
  rcases bL.mp hb with y | hb
  ·rw [y,D] at hcl;cases hcl
  ·obtain ⟨_,⟨xs,hy⟩ | ⟨xs,hy⟩⟩:=hys cl hb <;> rw [g] at hy <;> cases hy
 obtain ⟨c',c1,c2,E,pm,I,a1,a2,a3,a4,a5⟩:=ask.ex
 have ex:∀ {b:Addr}{φ:Heap->Prop},H3 b=some (.ext φ)->qP_ (z :: rl :: sl :: a.t38 :: ys) H5 b=some (.ext φ):=fun {b φ} e=>by
  rw [jw_ (H e (fun _ y=>by cases y) (fun _ y=>by cases y))]
  exact d _ _ e
 refine ⟨⟨code.same B,full,n16,W,⟨dx,?_⟩,?_,csl,⟨c',c1,c2,E,pm,I,ex a1,ex a2,ex a3,ex a4,a5⟩,B _ _ row,srl,q4_ (by simp),q4_ (by simp),q4_ (by simp),q4_ (by simp),d3,qh_ hz h |>.symm,qh_ hz s |>.symm⟩,⟨z9_ _ _,hrl,hsl,C,tab.keep d,cV,List.nodup_nil,fun k hk=>absurd hk ca⟩,B,d⟩
 ·rw [jw_ hx];exact hx5
 ·rw [jw_ hc];exact hcl
theorem qne_ (R k:Nat):(List.replicate R (none:Option Nat)).getD k none=none:=by
 rw [b7,eS]
 split <;> rfl
theorem qlk_ (R:Nat) (X:List Nat):jS_ R (List.replicate R none) X:=fun j _ b hb=>by
 rw [qne_] at hb
 cases hb
theorem TabS.kp {H H':Hp}{t t':Addr}{p:Pos}{q:Str}{ps:Array Value} (h:TabS H t p q) (ne:t≠t') (ht:H t'=some (.tbl ps)) (k:∀ b o,b≠t'->H b=some o->H' b=some o):TabS H' t p q:=by
 obtain ⟨d,h1,h2⟩:=h;refine ⟨d,k _ _ ne h1,?_⟩;rcases h2 with h2 | ⟨c',e,h2⟩
 ·exact .inl h2
 ·exact .inr ⟨c',e,k _ _ (qY_ h2 ht (fun y=>by cases y)) h2⟩
theorem TabS.hide {H:Hp}{t:Addr}{p:Pos}{q:Str}{xs:List Addr} (h:TabS H t p q) (ht:t∉xs) (hx:∀ x∈xs,(∃ ys,H x=some (.lst ys))\/∃ ps,H x=some (.tbl ps)):TabS (qP_ xs H) t p q:=by
 obtain ⟨ps,h1,h2⟩:=h;refine ⟨ps,by rw [jw_ ht];exact h1,?_⟩
 rcases h2 with h2 | ⟨c',e,h2⟩
 ·exact .inl h2
 ·refine .inr ⟨c',e,?_⟩
  rw [jw_ fun z=>?_]
  ·exact h2
  ·rcases hx c' z with ⟨ys,y⟩ | ⟨ys,y⟩
   ·rw [h2] at y;cases y
   ·rw [h2] at y;cases y
theorem qpc_ (r w n M N:Nat) (l:Nat->Nat->Nat) (bs:List Nat) (g:GF.Good r w) (W:Wts w M N l) (hb:bs.length=N):isMk r w n M N l (j7_ r w n M N l bs)=true:=by
 unfold isMk j7_;rw [c5];intro t ht
 have ht:=bQ.mp ht
 apply bN
 rw [qhv_,List.zip_append (by rw [qu_,hb]),GF.sumB_append]
 have h1:=GF.sumB_unit g.rule g.w1 (n:=n) (t:=t) M 0 ((List.range M).map fun t=>GF.sumB r w n ((rowT N l t).zip bs)) (by rw [b9,bI]) fun b hb=>by
  obtain ⟨j,hj,rfl⟩:=cG.mp hb;exact GF.sumB_lt g.rule (y9_ fun k hk=>W.lt j k (bQ.mp hj) hk)
 simp only [Nat.add_zero] at h1;rw [h1,if_pos (by omega),Nat.sub_zero,b7,bE,cb ht]
 exact dN _
theorem qfk_ (r w n M N:Nat) (l:Nat->Nat->Nat) (bs:List Nat) (hb:bs.length=N):(j7_ r w n M N l bs).length=N+M:=by
 unfold j7_;rw [cg,b9,bI,hb]
theorem qpd_ {r w n M N:Nat}{l:Nat->Nat->Nat}{bs:List Nat} (g:GF.Good r w) (W:Wts w M N l) (hlt:∀ b∈bs,b < (2 ^ w) ^ n):∀ b∈j7_ r w n M N l bs,b < (2 ^ w) ^ n:=fun b hb=>by
 unfold j7_ at hb;rcases bU.mp hb with h | h
 ·exact hlt b h
 ·obtain ⟨j,hj,rfl⟩:=cG.mp h
  exact GF.sumB_lt g.rule (y9_ fun k hk=>W.lt j k (bQ.mp hj) hk)
theorem jH_ {K:PySem.W.Frag}{l:Addr}{rs:List Nat}{f:Nat->V}{k:Nat}{te:TE}{cs:L2.St}{H1:Hp}{D:Addr}{Q:Hp->Prop} (hl:SqL K H1 l (rowV rs)) (hD:H1 D=none) (hk:k=cs.length) (hn:rs.length<=1000)
  (he:∀ x H (R:V->Hp->Prop),x∈rs->Same H1 H->(∀ H4,Same H H4->R (f x) H4)->te (cs++[some (.int (x:Nat))]) H R)
  (hQ:∀ H,Same H1 H->H D=some (.lst (rs.map f))->Q H):q0_ (Itl K l) (qR_ k) jk_ te (cs++[none]) H1 D Q:=by
 refine js_ (xs:=rowV rs) (f:=fun i=>f (rs.getD i 0)) hl hD hk (by rw [qg_];exact bG hn (by decide)) (fun i u H R hu sm hR=>?_) (fun H sm h=>hQ H sm ?_)
 ·obtain ⟨x,ex,rfl⟩:=qN_ hu
  have eg:rs.getD i 0=x:=by rw [b7,ex];rfl
  rw [eg] at hR;exact he x H R (bO ex) sm hR
 ·rw [h,qg_]
  refine congrArg (fun z=>some (HO.lst z)) ?_
  apply cU
  intro i;rw [bE,bE]
  by_cases hi:i < rs.length
  ·rw [cb hi,b8 hi,da,b7,b8 hi]
   rfl
  ·rw [bT (by rw [bI];omega),bT (by omega)]
   rfl
def tch (l:Nat->Nat->Nat) (t k:Nat):Bool:=decide (l t k≠0)
def qA_ (nk:List Nat) (nb:Nat->Nat):List (Key × V):=nk.map fun k=>(Sum.inl ((k:Nat):Int),V.int ((nb k:Nat):Int))
def srtN (N:Nat) (nk:List Nat):List Nat:=(List.range N).filter fun k=>nk.contains k
theorem qX_ {N k:Nat}{nk:List Nat} (lt:∀ k∈nk,k < N):k∈srtN N nk ↔ k∈nk:=by
 unfold srtN;rw [bV,bQ,c9];exact ⟨fun h=>h.2,fun h=>⟨lt k h,h⟩⟩
theorem jI_ {N:Nat}{nk:List Nat}:(srtN N nk).length<=N:=by
 have:=cj (fun k=>nk.contains k) (List.range N)
 rwa [bI] at this
theorem j8_ (nk:List Nat) (nb:Nat->Nat):(qA_ nk nb).map (·.1)=(nk.map fun k=>((k:Nat):Int)).map Sum.inl:=by
 unfold qA_;rw [cq,cq];rfl
theorem j1_ {N:Nat}{nk:List Nat} (nd:nk.Nodup) (lt:∀ k∈nk,k < N) {ns:List Int} (p:ns.Perm (nk.map fun k=>((k:Nat):Int))) (s:ns.Pairwise fun x y=>x<=y):ns.map V.int=rowV (srtN N nk):=by
 have e:ns=(srtN N nk).map fun k=>((k:Nat):Int):=by
  refine eO (le:=fun x y=>x<=y) (fun a b _ _ h1 h2=>Int.le_antisymm h1 h2) s ?_ (p.trans (List.Perm.map _ ?_))
  ·rw [List.pairwise_map]
   exact (cL _ List.pairwise_lt_range).imp fun h=>by omega
  ·refine (List.perm_ext_iff_of_nodup nd (cL _ d6)).mpr fun k=>?_
   exact (qX_ lt).symm
 rw [e];unfold rowV;rw [cq];rfl
theorem jn_ (nk:List Nat) (nb:Nat->Nat) (k:Nat):valV (qA_ nk nb) (Sum.inl ((k:Nat):Int))=if k∈nk then some (.int ((nb k:Nat):Int)) else none:=by
 unfold qA_
 induction nk with
 | nil=>rfl
 | cons x nk ih =>
  rw [cN]
  by_cases e:x=k
  ·subst e
   rw [zZ_ rfl,if_pos cF]
  ·rw [z0_ (fun y=>e (by have:=Sum.inl.inj y;omega)),ih]
   by_cases m:k∈nk
   ·rw [if_pos m,if_pos (cz _ m)]
   ·rw [if_neg m,if_neg (fun y=>by rcases bL.mp y with y | y;exact e y.symm;exact m y)]
inductive qc1_ (a:Adr) (vs:List V) (H:Hp) (Q:VK) (E_3:XK):Prop
 | mk:∀ (c bp fp:Addr) (r w n M N t k:Nat) (l:Nat->Nat->Nat),vs=[.ref c,.int t,.int k]->CodeAt a H c bp fp r w n M N l->t < M->k < N->Q (.bl (tch l t k)) H->qc1_ a vs H Q E_3
theorem zD_ (T:Txt K mg a):FnO P wo K mg base 1 a.f29 ["self", "total", "role"] (qc1_ a):=by
 refine T.x29.F.okA (k:=0) qag_ (fun d A outer s H vs Q E hr h=>?_)
 ·obtain ⟨c,bp,fp,r,w,n,M,N,t,k,l,rfl,hC,ht,hk,q⟩:=h
  obtain ⟨dx,Lp,qs,h1,h2,h3⟩:=id hC.ins;refine xx ?_;intro X_;refine xq ?_;refine xi (PW.pt (jR_ (qn_ yl_ (pv 1) qf_ (qp_ _)) (jL_ (qn_ uW_ (pv 1) (qt_ (pv 0) rfl) (qp_ _))))) ?_;refine xl q3_ ?_;intro u_;refine ⟨_,qw_,?_⟩;intro u_;refine xq ?_;refine xi (PW.pt (jR_ (qn_ yl_ (pv 2) qf_ (qp_ _)) (jL_ (qn_ uW_ (pv 2) (qt_ (pv 0) rfl) (qp_ _))))) ?_;refine xl q3_ ?_;intro u_;refine ⟨_,qw_,?_⟩;intro u_;refine xl (qo_ (yq_ zq_ (qy_ qz_ (qy_ qz_ (qt_ (pv 0) rfl) (pv 1) (fun _ _=>rfl)) (pv 2) (fun _ _=>rfl)) qf_ (qp_ _))) ?_;intro u_;refine ⟨_,rfl,_,_,rfl,rfl,_,rfl,?_⟩;refine ite2 (fun y=>absurd (bC y) (by omega)) (fun _=>?_)
  refine ⟨_,rfl,_,rfl,c,_,_,_,_,rfl,h1,T.cl_Code,T.no_Code_sums,zT_ bp M N Lp,_,_,rfl,rfl,_,rfl,?_⟩;refine ite2 (fun y=>absurd (bC y) (by omega)) (fun _=>?_)
  refine ⟨_,rfl,_,_,rfl,rfl,_,rfl,?_⟩;refine ite2 (fun y=>absurd (bC y) (by omega)) (fun _=>?_)
  refine ⟨_,rfl,_,rfl,c,_,_,_,_,rfl,h1,T.cl_Code,T.no_Code_data,yA_ bp M N Lp,_,_,rfl,rfl,_,rfl,?_⟩;refine ite2 (fun y=>absurd (bC y) (by omega)) (fun _=>?_)
  obtain ⟨p,ep,hp⟩:=h3.get ht
  have gi:=qv_ (je_ (row:=rowT (N+M) (eqn N l) t) (i:=k) (by rw [qu_];omega))
  rw [qZ_ (by omega:k < N+M),show eqn N l t k=l t k by unfold eqn;rw [if_pos hk]] at gi
  refine ⟨_,rfl,c,_,_,_,_,rfl,h1,T.cl_Code,T.no_Code_lines,z3_ bp M N Lp,_,rfl,Lp,_,_,_,rfl,rfl,SqL.of h2,qv_ (qO_ ep),_,rfl,p,_,_,_,rfl,rfl,SqL.of hp,gi,rfl,?_⟩
  have ed:(!decide (V.int ((l t k:Nat):Int)=V.int 0))=tch l t k:=by
   unfold tch
   by_cases x:l t k=0
   ·rw [x];rfl
   ·rw [bY (fun e=>x (by have:=V.int.inj e;omega)),bN x];rfl
  rw [ed];exact q
inductive qc2_ (K:PySem.W.Frag) (a:Adr) (vs:List V) (H:Hp) (Q:VK) (E_3:XK):Prop
 | mk:∀ (c bp fp tl:Addr) (r w n M N k:Nat) (l:Nat->Nat->Nat) (ts:List Nat),vs=[.ref c,.ref tl,.int k]->CodeAt a H c bp fp r w n M N l->SqL K H tl (rowV ts)->ts.length<=8->((∀ t∈ts,t < M))->k < N->(∀ H',Same H H'->Q (.bl (ts.any fun t=>tch l t k)) H')->qc2_ K a vs H Q E_3
theorem qau_ (T:Txt K mg a):FnO P wo K mg base 2 a.f43 ["code", "totals", "role"] (qc2_ K a):=by
 refine T.x43.F.okA (k:=1) qi7_ (fun B A outer s H vs Q E hr h=>?_)
 ·obtain ⟨c,bp,fp,tl,r,w,n,M,N,k,l,ts,rfl,hC,d,h8,g,hk,q⟩:=h
  refine xx ?_;intro X_
  refine xl (qo_ (qs_ (qce_ rfl) rfl T.n_any boot_any (qa_ (qJ_ (CompOk.of (cap:=[2,0]) (own:=["total"]) (by kernel_rfl)) rfl (qB_ (pv 1)) (fun _ _ _ _ _=>(ql_ (i:=2) (bC (by kernel_rfl)) rfl (Or.inl rfl))) (fun _ _ _ _ _=>qI_) (fun _ _ _ _ _=>by exact (qx_ (pv 1) T.cl_Code T.x29.me (zD_ T) hr.u T.x29.b .nil qj_ (qa_ (pv 2) (qa_ (pv 0) qb_))))) qb_))) ?_
  intro u_;refine ⟨_,rfl,tl,rfl,⟨_,d⟩,fun D nD=>?_⟩;refine jH_ (f:=fun t=>.bl (tch l t k)) (cs:=[some (.int (k:Nat)),some (.ref c)]) d nD rfl (by omega) (fun t Hx Rx ht sx hR=>?_) (fun H2 s2 hD=>?_)
  ·obtain ⟨dx,Lp,qs,h1,h2,h3⟩:=id hC.ins
   exact ⟨_,rfl,c,dx,_,rfl,sx _ _ h1,rfl,_,rfl,_,rfl,c,bp,fp,r,w,n,M,N,t,k,l,rfl,hC.same sx,g t ht,hk,hR _ (Same.refl _)⟩
  ·refine ⟨D,ts.map fun t=>tch l t k,rfl,SqL.of (by rw [hD,cq];rfl),?_⟩
   rw [List.any_map];exact q H2 s2
def totL (M N:Nat) (l:Nat->Nat->Nat) (cs:List (Option Nat)) (rs:List Nat):List Nat:=((List.range M).filter fun t=>(cs.getD (N+t) none).isSome).filter fun t=>rs.any (tch l t)
def qT_ (N:Nat) (l:Nat->Nat->Nat) (ts nk:List Nat):List Nat:=(List.range N).filter fun k=>!nk.contains k && ts.any fun t=>tch l t k
def chgL (N:Nat) (l:Nat->Nat->Nat) (ts rs:List Nat):List Nat:=(rs.filter fun k=>ts.any fun t=>tch l t k)++ts.map fun t=>N+t
theorem qpe_ {M N t:Nat}{l:Nat->Nat->Nat}{cs:List (Option Nat)}{rs:List Nat} (h:t∈totL M N l cs rs):t < M:=bQ.mp (bV.mp (bV.mp h).1).1
theorem qnf_ {M N:Nat}{l:Nat->Nat->Nat}{cs:List (Option Nat)}{rs:List Nat}:(totL M N l cs rs).length<=M:=by
 have h1:=cj (fun t=>rs.any (tch l t)) ((List.range M).filter fun t=>(cs.getD (N+t) none).isSome)
 have h2:=cj (fun t=>(cs.getD (N+t) none).isSome) (List.range M);rw [bI] at h2;exact bG h1 h2
inductive qll_ (a:Adr) (vs:List V) (H:Hp) (Q:VK) (E_3:XK):Prop
 | mk:∀ (H0:Hp) (R:AskR) (nd:Addr) (r w n M N:Nat) (l:Nat->Nat->Nat) (cs srow os:List (Option Nat)) (as nk:List Nat) (nb:Nat->Nat),vs=[.ref R.A,.ref nd]->AskI a H0 R r w n M N l cs srow->AskM a H0 H R (N+M) os as->H nd=some (.dK (qA_ nk nb))->nk.Nodup->((∀ k∈nk,k < N))->(∀ D H',Same H H'->H D=none->H' D=some (.lst (rowV (totL M N l cs (srtN N nk))))->Q (.ref D) H')->qll_ a vs H Q E_3
theorem uO_ (T:Txt K mg a):FnO P wo K mg base 2 a.f44 ["asking", "news"] (qll_ a):=by
 refine T.x44.F.okA (k:=1) sc_sums_to_write (fun Y A outer s H vs Q E hr h=>?_)
 ·obtain ⟨H0,R,nd,r,w,n,M,N,l,cs,U,os,as,nk,nb,rfl,I,J,O,g,nlt,q⟩:=h
  obtain ⟨dx,hA⟩:=I.obj
  have hA:=J.sm _ _ hA
  have hC:=I.code.same J.sm;obtain ⟨dc,Lp,qs,hc,_,_⟩:=id hC.ins
  have n8:=I.W.n8;refine xx ?_;intro X_;refine xc (qi_ (i:=2) sc_sums_to_write.nd rfl (Or.inr rfl) (qt_ (pv 0) rfl)) ?_;intro u_
  refine xc (jp_ (i:=3) sc_sums_to_write.nd rfl (Or.inl rfl) (CompOk.of (cap:=[0,2]) (own:=["total"]) (by kernel_rfl)) rfl (qL_ rfl T.n_range (qa_ (qt_ (pv 2) rfl) qb_)) (fun _ _ _ _ _=>(ql_ (i:=2) (bC (by kernel_rfl)) rfl (Or.inl rfl))) (fun _ _ _ _ _=>(jl_ (qn_ jg_ (qy_ (q9_ (K:=K) rfl) (yt_ (K:=K) rfl (pv 0) rfl) (qm_ qE_ (yt_ (K:=K) rfl (pv 1) rfl) (pv 2)) (fun _ _=>rfl)) qG_ (qp_ _)))) (fun _ _ _ _ _=>by exact (pv 2))) ?_
  intro u_
  refine xl (qo_ (qmk_ (CompOkC.of (cap:=[2,1]) (y:="total") (by kernel_rfl)) rfl (qB_ (pv 3)) (fun _ _ _ _ _=>(ql_ (i:=2) (bC (by kernel_rfl)) rfl (Or.inr rfl) (Or.inl (dY _)))) (fun _ _ _ _ _=>by exact (jl_ (q6_ (qs_ (qi3_ (K:=K) rfl rfl) rfl T.n_any boot_any (qa_ (qJ_ (CompOk.of (cap:=[2,0]) (own:=["role"]) (by kernel_rfl)) rfl (qm0_ (K:=K) rfl (qs_ (jX_ rfl) rfl T.n_sorted dk (qa_ (pv 1) qb_))) (fun _ _ _ _ _=>(ql_ (i:=2) (bC (by kernel_rfl)) rfl (Or.inl rfl))) (fun _ _ _ _ _=>qI_) (fun _ _ _ _ _=>by exact (qx_ (pv 1) T.cl_Code T.x29.me (zD_ T) hr.u T.x29.b .nil qj_ (qa_ (pv 0) (qa_ (pv 2) qb_))))) qb_))))) (fun _ _ _ _ _=>by exact (pv 2)))) ?_
  intro u_;refine ⟨_,rfl,R.A,_,_,_,_,rfl,hA,T.cl_Asking,T.no_Asking_code,jQ_ _ _ _ _ _,?_⟩;refine ⟨_,rfl,R.c,_,_,_,_,rfl,hc,T.cl_Code,T.no_Code_sums,zT_ R.bp M N Lp,_,rfl,by omega,by omega,fun tl S=>?_⟩
  rw [cx];refine jP_ (n:=M) (f:=fun k=>.int ((k:Nat):Int)) (b:=fun t=>(cs.getD (N+t) none).isSome) (cs:=[some (.ref R.A),some (.ref R.c)]) S rfl (bG (by omega:M<=8) (by decide)) (fun t H2 R2 ht s2 hR=>?_) (fun t H2 R2 ht hb s2 hR=>⟨_,rfl,hR _ (Same.refl _)⟩) (fun H2 s2 d=>?_)
  ·have gi:=qv_ (qS_ (jt_ (os:=cs) (k:=N+t) (by rw [I.csl];omega)))
   refine ⟨_,rfl,R.A,_,_,_,_,rfl,s2 _ _ hA,T.cl_Asking,T.no_Asking_costs,zm_ _ _ _ _ _,_,rfl,R.c,_,_,_,_,rfl,s2 _ _ hc,T.cl_Code,T.no_Code_data,yA_ R.bp M N Lp,_,rfl,_,_,rfl,rfl,R.cl,_,_,_,rfl,congrArg V.int (show (N:Int)+(t:Int)=((N+t:Nat):Int) by omega),SqL.of ((J.sm.trans s2) _ _ I.cost),gi,rfl,_,rfl,?_⟩
   rw [yB_];exact hR _ (Same.refl _)
  have d:H2 tl=some (.lst (rowV ((List.range M).filter fun t=>(cs.getD (N+t) none).isSome))):=d
  have X:((List.range M).filter fun t=>(cs.getD (N+t) none).isSome).length<=M:=by
   have:=cj (fun t=>(cs.getD (N+t) none).isSome) (List.range M)
   rwa [bI] at this
  refine ⟨_,rfl,tl,rfl,⟨_,SqL.of d⟩,fun D nD=>?_⟩;refine y6_ (rs:=(List.range M).filter fun t=>(cs.getD (N+t) none).isSome) (b:=fun t=>(srtN N nk).any (tch l t)) (cs:=[some (.ref R.c),some (.ref nd)]) (SqL.of d) nD rfl (bG (by omega:_<=8) (by decide)) (fun t Hx Rx ht sx hR=>?_) (fun t Hx Rx ht _ sx hR=>⟨_,rfl,hR _ (Same.refl _)⟩) (fun H3 s3 hD=>?_)
  ·have B:=bQ.mp (bV.mp ht).1
   have sx:=s2.trans sx
   have nl:nk.length<=8:=bG (jf_ N nk g nlt) (by omega)
   refine ⟨_,rfl,nd,_,nk.map fun k=>((k:Nat):Int),rfl,sx _ _ O,j8_ nk nb,by rw [b9];omega,fun L ns nL pm pw=>?_⟩
   rw [j1_ g nlt pm pw]
   have sL:=Same.new (o:=.lst (rowV (srtN N nk))) nL
   have hL:=qc_ (H:=Hx) (a:=L) (o:=.lst (rowV (srtN N nk)));generalize (upd Hx L (.lst (rowV (srtN N nk))))=Hy at sL hL;refine ⟨L,rfl,⟨_,SqL.of hL⟩,fun D2 G=>?_⟩;refine jH_ (f:=fun k=>.bl (tch l t k)) (cs:=[some (.int (t:Nat)),some (.ref R.c)]) (SqL.of hL) G rfl (bG jI_ (by omega)) (fun k Hz Rz hk sz hR=>?_) (fun H4 s4 C=>?_)
   ·have sz:=(sx.trans sL).trans sz
    exact ⟨_,rfl,R.c,dc,_,rfl,sz _ _ hc,rfl,_,rfl,_,rfl,R.c,R.bp,R.fp,r,w,n,M,N,t,k,l,rfl,hC.same sz,B,nlt k ((qX_ nlt).mp hk),hR _ (Same.refl _)⟩
   ·refine ⟨D2,(srtN N nk).map fun k=>tch l t k,rfl,SqL.of (by rw [C,cq];rfl),_,rfl,?_⟩
    rw [List.any_map];exact hR _ (sL.trans s4)
  ·exact q D H3 (s2.trans s3) (s2.free nD) hD
inductive qfl_ (K:PySem.W.Frag) (a:Adr) (vs:List V) (H:Hp) (Q:VK) (E_3:XK):Prop
 | mk:∀ (c bp fp tl nd:Addr) (r w n M N:Nat) (l:Nat->Nat->Nat) (ts nk:List Nat) (nb:Nat->Nat),vs=[.ref c,.ref tl,.ref nd]->CodeAt a H c bp fp r w n M N l->N<=8->SqL K H tl (rowV ts)->ts.length<=8->((∀ t∈ts,t < M))->H nd=some (.dK (qA_ nk nb))->(∀ D H',Same H H'->H D=none->H' D=some (.lst (rowV (qT_ N l ts nk)))->Q (.ref D) H')->qfl_ K a vs H Q E_3
theorem qje_ (T:Txt K mg a):FnO P wo K mg base 3 a.f45 ["code", "totals", "news"] (qfl_ K a):=by
 refine T.x45.F.okA (k:=2) qi8_ (fun C A outer s H vs Q E hr h=>?_)
 ·obtain ⟨c,bp,fp,tl,nd,r,w,n,M,N,l,ts,nk,nb,rfl,hC,n8,d,h8,g,B,q⟩:=h
  obtain ⟨dc,Lp,qs,hc,_,_⟩:=id hC.ins;refine xx ?_;intro X_
  refine xl (qo_ (qJ_ (CompOk.of (cap:=[2,0,1]) (own:=["role"]) (by kernel_rfl)) rfl (qL_ rfl T.n_range (qa_ (qt_ (pv 0) rfl) qb_)) (fun _ _ _ _ _=>(ql_ (i:=3) (bC (by kernel_rfl)) rfl (Or.inl rfl))) (fun _ _ _ _ _=>(jl_ (PW.pt (uT_ (uS_ (qcc_ (j5_ hr) (pv 3) (pv 0))) (vV_ (q6_ (qq_ (qau_ T) hr.u rfl T.x43.m T.x43.k T.x43.b .nil qj_ (qa_ (pv 1) (qa_ (pv 2) (qa_ (pv 3) qb_)))))))))) (fun _ _ _ _ _=>by exact (pv 3)))) ?_
  intro u_;refine ⟨_,rfl,c,_,_,_,_,rfl,hc,T.cl_Code,T.no_Code_data,yA_ bp M N Lp,_,rfl,by omega,by omega,fun D nD=>?_⟩
  rw [cx];refine jP_ (n:=N) (f:=fun k=>.int ((k:Nat):Int)) (b:=fun k=>!nk.contains k && ts.any fun t=>tch l t k) (cs:=[some (.ref nd),some (.ref c),some (.ref tl)]) nD rfl (bG n8 (by decide)) (fun k H2 R2 hk s2 hR=>?_) (fun k H2 R2 hk hb s2 hR=>⟨_,rfl,hR _ (Same.refl _)⟩) (fun H2 s2 hD=>q D H2 s2 nD hD)
  refine ⟨_,rfl,_,rfl,nd,_,rfl,DGet.k (k:=Sum.inl ((k:Nat):Int)) (s2 _ _ B),_,rfl,?_⟩;rw [jn_]
  by_cases m:k∈nk
  ·rw [if_pos m]
   rw [show nk.contains k=true from c9.mpr m] at hR;exact ite2 (fun y=>absurd y (fun z=>by cases z)) (fun _=>hR _ (Same.refl _))
  ·rw [if_neg m]
   rw [show nk.contains k=false from by
    cases e:nk.contains k with
    | false=>rfl
    | true=>exact absurd (c9.mp e) m] at hR
   refine ite2 (fun _=>?_) (fun y=>absurd rfl y);exact ⟨_,rfl,_,rfl,_,rfl,c,bp,fp,tl,r,w,n,M,N,k,l,ts,rfl,hC.same s2,s2.seq d,h8,g,hk,fun H' s'=>⟨_,rfl,hR _ s'⟩⟩
inductive qav_ (a:Adr) (vs:List V) (H:Hp) (Q:VK) (E_3:XK):Prop
 | mk:∀ (c bp fp tl nd:Addr) (r w n M N:Nat) (l:Nat->Nat->Nat) (ts nk:List Nat) (nb:Nat->Nat),vs=[.ref c,.ref tl,.ref nd]->CodeAt a H c bp fp r w n M N l->N<=8->H tl=some (.lst (rowV ts))->ts.length<=8->((∀ t∈ts,t < M))->H nd=some (.dK (qA_ nk nb))->nk.Nodup->((∀ k∈nk,k < N))->(∀ D H',Same H H'->H D=none->H' D=some (.lst (rowV (chgL N l ts (srtN N nk))))->Q (.ref D) H')->qav_ a vs H Q E_3
theorem qfm_ (T:Txt K mg a):FnO P wo K mg base 3 a.f46 ["code", "totals", "news"] (qav_ a):=by
 refine T.x46.F.okA (k:=2) qeu_ (fun O A outer s H vs Q E hr h=>?_)
 ·obtain ⟨c,bp,fp,tl,nd,r,w,n,M,N,l,ts,nk,nb,rfl,hC,n8,d,h8,G,I,C,nlt,q⟩:=h
  obtain ⟨dc,Lp,qs,hc,_,_⟩:=id hC.ins
  have nl:nk.length<=8:=bG (jf_ N nk C nlt) n8;refine xx ?_;intro X_
  refine xl (qo_ (qm_ qd1_ (qJ_ (CompOk.of (cap:=[0,1]) (own:=["role"]) (by kernel_rfl)) rfl (qB_ (qs_ (jX_ rfl) rfl T.n_sorted dk (qa_ (pv 2) qb_))) (fun _ _ _ _ _=>(ql_ (i:=2) (bC (by kernel_rfl)) rfl (Or.inl rfl))) (fun _ _ _ _ _=>(jl_ (q6_ (qq_ (qau_ T) hr.u rfl T.x43.m T.x43.k T.x43.b .nil qj_ (qa_ (pv 0) (qa_ (pv 1) (qa_ (pv 2) qb_))))))) (fun _ _ _ _ _=>by exact (pv 2))) (qJ_ (CompOk.of (cap:=[0]) (own:=["total"]) (by kernel_rfl)) rfl (qB_ (pv 1)) (fun _ _ _ _ _=>(ql_ (i:=1) (bC (by kernel_rfl)) rfl (Or.inl rfl))) (fun _ _ _ _ _=>qI_) (fun _ _ _ _ _=>by exact (qm_ qE_ (yt_ (K:=K) rfl (pv 0) rfl) (pv 1)))))) ?_
  intro u_;refine ⟨_,rfl,nd,_,nk.map fun k=>((k:Nat):Int),rfl,I,j8_ nk nb,by rw [b9];omega,fun L ns nL pm pw=>?_⟩
  rw [j1_ C nlt pm pw]
  have sL:=Same.new (o:=.lst (rowV (srtN N nk))) nL
  have hL:=qc_ (H:=H) (a:=L) (o:=.lst (rowV (srtN N nk)));generalize (upd H L (.lst (rowV (srtN N nk))))=H1 at sL hL;refine ⟨L,rfl,⟨_,SqL.of hL⟩,fun D nD=>?_⟩;refine y6_ (rs:=srtN N nk) (b:=fun k=>ts.any fun t=>tch l t k) (cs:=[some (.ref c),some (.ref tl)]) (SqL.of hL) nD rfl (bG jI_ (bG n8 (by decide))) (fun k Hx Rx hk sx hR=>?_) (fun k Hx Rx hk _ sx hR=>⟨_,rfl,hR _ (Same.refl _)⟩) (fun H2 s2 hD=>?_)
  ·have sx:=sL.trans sx
   exact ⟨_,rfl,_,rfl,_,rfl,c,bp,fp,tl,r,w,n,M,N,k,l,ts,rfl,hC.same sx,SqL.of (sx _ _ d),h8,G,nlt k ((qX_ nlt).mp hk),fun H' s'=>⟨_,rfl,hR _ s'⟩⟩
  have g:=sL.trans s2;refine ⟨_,rfl,tl,rfl,⟨_,SqL.of (g _ _ d)⟩,fun D2 J=>?_⟩;refine jH_ (f:=fun t=>.int ((N+t:Nat):Int)) (cs:=[some (.ref c)]) (SqL.of (g _ _ d)) J rfl (by omega) (fun t Hx Rx ht sx hR=>?_) (fun H3 s3 B=>?_)
  ·refine ⟨_,rfl,c,_,_,_,_,rfl,(g.trans sx) _ _ hc,T.cl_Code,T.no_Code_data,yA_ bp M N Lp,_,rfl,_,_,rfl,rfl,?_⟩
   have e:V.int ((N:Int)+(t:Int))=V.int ((N+t:Nat):Int):=congrArg V.int (by omega)
   rw [<- e] at hR;exact hR _ (Same.refl _)
  have B:H3 D2=some (.lst (rowV (ts.map fun t=>N+t))):=by rw [B];unfold rowV;rw [cq];rfl
  refine ⟨D,D2,_,_,rfl,rfl,s3 _ _ hD,B,?_,fun p np=>?_⟩
  ·rw [qg_,qg_,b9]
   have:=cj (fun k=>ts.any fun t=>tch l t k) (srtN N nk)
   have:=jI_ (N:=N) (nk:=nk);exact bG (by omega:_<=16) (by decide)
  refine q p _ (((sL.trans s2).trans s3).up ?_) ?_ ?_
  ·exact ((sL.trans s2).trans s3).free np
  ·exact ((sL.trans s2).trans s3).free np
  ·rw [qc_,yH_]
   rfl
def pick {α:Type} (f:α->Int):List α->Option α
 | []=>none
 | x :: xs=>match pick f xs with
  | none=>some x
  | some y=>if f y < f x then some y else some x
theorem yU_ {α:Type}{f:α->Int}{d:α}:∀ {xs:List α},0 < xs.length->∃ i x,xs[i]?=some x/\pick f xs=some x/\Least (fun i=>f (xs.getD i d)) xs.length i
 | [],h=>absurd h (cI 0)
 | x :: xs,_=>by
  by_cases hx:0 < xs.length
  ·obtain ⟨i,y,h1,h2,h3⟩:=yU_ (f:=f) (d:=d) hx
   have ei:xs.getD i d=y:=by rw [b7,h1];rfl
   unfold pick;rw [h2];dsimp only
   by_cases z:f y < f x
   ·rw [if_pos z]
    refine ⟨i+1,y,h1,rfl,fun j hj=>?_⟩
    cases j with
    | zero =>
     show f (xs.getD i d)<=f x/\_
     rw [ei];exact ⟨by omega,fun _=>by show f (xs.getD i d) < f x;rw [ei];exact z⟩
    | succ j =>
     have:=h3 j (by simpa using hj)
     exact ⟨this.1,fun e=>this.2 (by omega)⟩
   ·rw [if_neg z]
    refine ⟨0,x,rfl,rfl,fun j hj=>⟨?_,fun e=>absurd e (cX j)⟩⟩
    cases j with
    | zero=>exact fg _
    | succ j =>
     have:=(h3 j (by simpa using hj)).1
     show f x<=f (xs.getD j d)
     have h4:f (xs.getD i d)<=f (xs.getD j d):=this;rw [ei] at h4;omega
  ·have e:xs=[]:=List.eq_nil_of_length_eq_zero (by omega)
   subst e;refine ⟨0,x,rfl,rfl,fun j hj=>⟨?_,fun e=>absurd e (cX j)⟩⟩;obtain rfl:j=0:=by simpa using hj
   exact fg _
theorem qlm_ {kf:Nat->Int}{n i j:Nat} (hi:i < n) (hj:j < n) (h1:Least kf n i) (h2:Least kf n j):i=j:=by
 have a:=h1 j hj
 have b:=h2 i hi;rcases Nat.lt_trichotomy i j with z | z | z
 ·have:=b.2 z;omega
 ·exact z
 ·have:=a.2 z;omega
theorem qh9_ {α:Type}{f:α->Int}{d:α}{xs:List α}{i:Nat}{x:α} (h:xs[i]?=some x) (l:Least (fun i=>f (xs.getD i d)) xs.length i):pick f xs=some x:=by
 have hi:=(bK.mp h).1;obtain ⟨j,y,h1,h2,h3⟩:=yU_ (f:=f) (d:=d) (xs:=xs) (by omega)
 obtain rfl:=qlm_ hi (bK.mp h1).1 l h3;rw [h] at h1;rw [h2,← h1]
theorem va_ {α:Type}{f:α->Int}{xs:List α}{x:α} (h:pick f xs=some x):x∈xs:=by
 cases xs with
 | nil=>cases h
 | cons y ys =>
  obtain ⟨j,z,h1,h2,_⟩:=yU_ (f:=f) (d:=y) (xs:=y :: ys) (Nat.zero_lt_succ _);rw [h] at h2
  cases h2;exact bO h1
theorem qc3_ {α:Type}{f:α->Int}{xs:List α} (h:pick f xs=none):xs=[]:=by
 cases xs with
 | nil=>rfl
 | cons y ys =>
  obtain ⟨j,z,h1,h2,_⟩:=yU_ (f:=f) (d:=y) (xs:=y :: ys) (Nat.zero_lt_succ _);rw [h] at h2
  cases h2
section
variable (r w M N:Nat) (l:Nat->Nat->Nat) (cs:List (Option Nat)) (as:List Nat) (ks:List Bool) (ms:List Nat)
def unfL (L:List Nat):List Nat:=L.filter fun k=>!fx r w M N l ks k
def q2_ (L:List Nat):List (Int × List Nat):=if (unfL r w M N l ks L).all (mayB cs as)=true then [(z7_ cs (unfL r w M N l ks L),unfL r w M N l ks L)] else []
def detO (L:List Nat):Option (List Nat):=((List.range (ms.length+1)).find? fun j=>L.all (fx r w M N l (knW ks (ms.take j)))).map fun j=>ms.take j
def jU_ (L L':List Nat):List (List Nat):=(detO r w M N l ks ms L).toList++(detO r w M N l ks ms L').toList
def ye_ (L L':List Nat):List (Int × List Nat):=q2_ r w M N l cs as ks L++q2_ r w M N l cs as ks L'++((pick (fun d=>((d.length:Nat):Int)) (jU_ r w M N l ks ms L L')).toList.map fun d=>(z7_ cs d,d))
def yJ_ (L L':List Nat):Option (List Nat):=(pick (fun p=>p.1) (ye_ r w M N l cs as ks ms L L')).map (·.2)
end
theorem qia_ {r w M N j:Nat}{l:Nat->Nat->Nat}{ks:List Bool}{L ms:List Nat} (h:qfg_ r w M N l ks L ms j):detO r w M N l ks ms L=some (ms.take j):=by
 unfold detO
 have:(List.range (ms.length+1)).find? (fun j=>L.all (fx r w M N l (knW ks (ms.take j))))=some j:=by
  rw [List.find?_range_eq_some];exact ⟨h.2.1,bQ.mpr (Nat.lt_succ_of_le h.1),fun i hi=>by rw [h.2.2 i hi];rfl⟩
 rw [this];rfl
theorem qib_ {r w M N:Nat}{l:Nat->Nat->Nat}{ks:List Bool}{L ms:List Nat} (h:qfh_ r w M N l ks L ms):detO r w M N l ks ms L=none:=by
 unfold detO
 have:(List.range (ms.length+1)).find? (fun j=>L.all (fx r w M N l (knW ks (ms.take j))))=none:=by
  rw [List.find?_eq_none];intro i hi;rw [h i (Nat.le_of_lt_succ (bQ.mp hi))]
  decide
 rw [this];rfl
theorem qng_ {ck:Nat->Int}{m n:Nat} (h1:klt ck m n) (h2:klt ck n m):m=n:=by
 unfold klt at h1 h2;omega
theorem qc4_ {ck:Nat->Int}{f:Nat->Bool}{R:Nat}{ms ms':List Nat} (p1:ms.Perm ((List.range R).filter f)) (w1:ms.Pairwise (klt ck)) (p2:ms'.Perm ((List.range R).filter f)) (w2:ms'.Pairwise (klt ck)):ms'=ms:=eO (le:=klt ck) (fun _ _ _ _ h1 h2=>qng_ h1 h2) w2 w1 (p2.trans p1.symm)
theorem qfn_ {r w M N:Nat}{l:Nat->Nat->Nat}{ks:List Bool}{L ms way:List Nat} (h:detO r w M N l ks ms L=some way):∃ j,way=ms.take j:=by
 unfold detO at h;rw [Option.map_eq_some_iff] at h;obtain ⟨j,_,e⟩:=h;exact ⟨j,e.symm⟩
def posW:Pos:=⟨93,25,93,43⟩
def qW:Str:="next_way" ++ Str.ofString ".<locals>." ++ Str.ofString "<lambda>"
def Kp (H H':Hp):Prop:=∀ b o,(∀ ps,o≠HO.tbl ps)->H b=some o->H' b=some o
theorem Kp.of {H H':Hp} (s:Same H H'):Kp H H':=fun b o _ e=>s b o e
theorem Kp.tab {H H':Hp}{t:Addr}{ps:Array Value} (h:H t=some (.tbl ps)) (k:∀ b o,b≠t->H b=some o->H' b=some o):Kp H H':=fun b o n e=>k b o (qY_ e h (n _)) e
theorem vR_ {xs:List V}:∀ ps,HO.lst xs≠.tbl ps:=fun _ y=>by cases y
theorem qfo_ {xs:List V}:∀ ps,HO.tup xs≠.tbl ps:=fun _ y=>by cases y
def WaysAt (Hb H:Hp) (W:Addr) (ws:List (Int × List Nat)):Prop:=∃ ts:List Addr,H W=some (.lst (ts.map V.ref))/\ts.length=ws.length/\∀ (i:Nat) (t:Addr) (cw:Int × List Nat),ts[i]?=some t->ws[i]?=some cw->∃ D,H t=some (.tup [.int cw.1,.ref D])/\H D=some (.lst (rowV cw.2))/\Hb D=none/\D≠W
theorem WaysAt.keep {Hb H H':Hp}{W:Addr}{ws:List (Int × List Nat)} (h:WaysAt Hb H W ws) (k:Kp H H'):WaysAt Hb H' W ws:=by
 obtain ⟨ts,h1,h2,h3⟩:=h;refine ⟨ts,k _ _ vR_ h1,h2,fun i t cw e1 e2=>?_⟩;obtain ⟨D,a1,a2,a3⟩:=h3 i t cw e1 e2;exact ⟨D,k _ _ qfo_ a1,k _ _ vR_ a2,a3⟩
theorem WaysAt.push {Hb H:Hp}{W p D:Addr}{ws:List (Int × List Nat)}{c:Int}{way:List Nat} (h:WaysAt Hb H W ws) (hp:H p=some (.tup [.int c,.ref D])) (hD:H D=some (.lst (rowV way))) (hb:Hb D=none) (dW:D≠W):∃ ts:List Addr,H W=some (.lst (ts.map V.ref))/\ts.length=ws.length/\WaysAt Hb (upd H W (.lst (ts.map V.ref++[.ref p]))) W (ws++[(c,way)]):=by
 obtain ⟨ts,h1,h2,h3⟩:=h;refine ⟨ts,h1,h2,ts++[p],by rw [qc_,cK];rfl,by rw [cg,cg,h2];rfl,fun i t cw e1 e2=>?_⟩
 have ht:∀ {t:Addr}{x y:V},H t=some (.tup [x,y])->t≠W:=fun {t x y} e=>qY_ e h1 (fun z=>by cases z)
 by_cases hi:i < ts.length
 ·rw [cW hi] at e1
  rw [cW (by omega)] at e2
  obtain ⟨D',a1,a2,a3,a4⟩:=h3 i t cw e1 e2;exact ⟨D',by rw [qd_ (ht a1)];exact a1,by rw [qd_ a4];exact a2,a3,a4⟩
 ·rw [de (by omega)] at e1
  rw [de (by omega),← h2] at e2
  cases z:i - ts.length with
  | zero =>
   rw [z] at e1 e2
   cases bM e1
   cases bM e2;exact ⟨D,by rw [qd_ (ht hp)];exact hp,by rw [qd_ dW];exact hD,hb,dW⟩
  | succ m=>rw [z] at e1;cases e1
def DetV (Hb H:Hp) (W:Addr) (v:V) (o:Option (List Nat)):Prop:=match o with
 | none=>v=.non
 | some way=>∃ D,v=.ref D/\H D=some (.lst (rowV way))/\Hb D=none/\D≠W
theorem DetV.keep {Hb H H':Hp}{W:Addr}{v:V}{o:Option (List Nat)} (h:DetV Hb H W v o) (k:Kp H H'):DetV Hb H' W v o:=by
 cases o with
 | none=>exact h
 | some way =>
  obtain ⟨D,a1,a2,a3⟩:=h;exact ⟨D,a1,k _ _ vR_ a2,a3⟩
theorem qln_ {K:PySem.W.Frag}{a:Addr}{xs:List V}{b:Nat->Bool}{k:Nat}{tt:TT}{te:TE}{cs:L2.St}{H1:Hp}{D:Addr}{Q:Hp->Prop} (hl:H1 a=some (.tup xs)) (hD:H1 D=none) (hk:k=cs.length) (hn:xs.length<=1000)
  (ht:∀ i H (R:Bool->Hp->Prop),i < xs.length->Same H1 H->(∀ H4,Same H H4->R (b i) H4)->tt (cs++[some (xs.getD i .non)]) H R)
  (he:∀ i H (R:V->Hp->Prop),i < xs.length->b i=true->Same H1 H->(∀ H4,Same H H4->R (xs.getD i .non) H4)->te (cs++[some (xs.getD i .non)]) H R)
  (hQ:∀ H,Same H1 H->H D=some (.lst (((List.range xs.length).filter b).map fun i=>xs.getD i .non))->Q H):q0_ (Itt K a) (qR_ k) tt te (cs++[none]) H1 D Q:=by
 have g:∀ i,i < xs.length->xs[i]?=some (xs.getD i .non):=fun i hi=>by rw [b7,b8 hi];rfl
 refine yc_ (n:=xs.length) (src:=fun i=>xs.getD i .non) hD hk (bG hn (by decide)) (fun H sm=>⟨_,SqT.of (sm _ _ hl),bF _⟩) (fun i H hi sm=>⟨_,_,SqT.of (sm _ _ hl),g i hi⟩) (fun i H x H' hi sm y=>?_) ht he hQ
 obtain ⟨e,y⟩:=y;exact ⟨bM ((y _ (SqT.of (sm _ _ hl))).symm.trans (g i hi)),e⟩
def qqg_ (Hb H:Hp) (W:Addr) (as:List Addr) (ds:List (List Nat)):Prop:=as.length=ds.length/\∀ (i:Nat) (p:Addr) (d:List Nat),as[i]?=some p->ds[i]?=some d->H p=some (.lst (rowV d))/\Hb p=none/\p≠W
theorem qpf_ {Hb H:Hp}{W:Addr}{v1 v2:V}{o1 o2:Option (List Nat)} (h1:DetV Hb H W v1 o1) (h2:DetV Hb H W v2 o2):∃ as:List Addr,(((List.range 2).filter fun i=>!decide ([v1,v2].getD i .non=.non)).map fun i=>[v1,v2].getD i .non)=as.map V.ref/\qqg_ Hb H W as (o1.toList++o2.toList):=by
 have n0:∀ D,(!decide (V.ref D=V.non))=true:=fun D=>by rw [bY (fun z=>by cases z)];rfl
 cases o1 with
 | none =>
  have h1:v1=.non:=h1;subst h1
  cases o2 with
  | none =>
   have h2:v2=.non:=h2;subst h2;exact ⟨[],rfl,rfl,fun i p d e=>by simp at e⟩
  | some d2 =>
   obtain ⟨D2,rfl,a2⟩:=h2;refine ⟨[D2],?_,rfl,fun i p d e1 e2=>?_⟩
   ·rfl
   ·match i,e1,e2 with
    | 0,e1,e2=>cases e1;cases e2;exact a2
    | i+1,e1,_=>cases e1
 | some d1 =>
  obtain ⟨D1,rfl,a1⟩:=h1
  cases o2 with
  | none =>
   have h2:v2=.non:=h2;subst h2;refine ⟨[D1],?_,rfl,fun i p d e1 e2=>?_⟩
   ·rfl
   ·match i,e1,e2 with
    | 0,e1,e2=>cases e1;cases e2;exact a1
    | i+1,e1,_=>cases e1
  | some d2 =>
   obtain ⟨D2,rfl,a2⟩:=h2;refine ⟨[D1,D2],?_,rfl,fun i p d e1 e2=>?_⟩
   ·rfl
   ·match i,e1,e2 with
    | 0,e1,e2=>cases e1;cases e2;exact a1
    | 1,e1,e2=>cases e1;cases e2;exact a2
    | i+2,e1,_=>cases e1
theorem qlo_ {F:V->Prop}{G:Prop} (Pz:V->Prop) (h:(∀ v,Pz v->F v)->G) (key:∀ v,Pz v->F v):G:=h key
theorem qq7_ {F:Option V->Hp->Prop}{G:Prop} (Pz:Hp->Prop) (h:(∀ v H,Pz H->F v H)->G) (key:∀ v H,Pz H->F v H):G:=h key
theorem AskM.kpw {a:Adr}{H0 H H':Hp}{R:AskR}{n:Nat}{os:List (Option Nat)}{as:List Nat}{ps:Array Value}{t:Addr} (J:AskM a H0 H R n os as) (ne:a.t38≠t) (n0:H0 t=none) (ht:H t=some (.tbl ps)) (k:∀ b o,b≠t->H b=some o->H' b=some o):AskM a H0 H' R n os as :=
 ⟨fun b o e=>k b o (fun z=>by rw [z,n0] at e;cases e) (J.sm b o e),k _ _ (qY_ J.hr ht (fun z=>by cases z)) J.hr,k _ _ (qY_ J.hs ht (fun z=>by cases z)) J.hs,k _ _ (qY_ J.hz ht (fun z=>by cases z)) J.hz,J.tab.kp ne ht k,J.osl,J.nd,J.lt⟩
inductive qlp_ (a:Adr) (vs:List V) (H:Hp) (Q:VK) (E_3:XK):Prop
 | mk:∀ (H0:Hp) (R:AskR) (RS CH:Addr) (r w n M N:Nat) (l:Nat->Nat->Nat) (cs srow os:List (Option Nat)) (as rest chg:List Nat),vs=[.ref R.A,.ref RS,.ref CH]->AskI a H0 R r w n M N l cs srow->AskM a H0 H R (N+M) os as->TabS H a.t47 posW qW->H0 a.t47=none->H0 RS=some (.lst (rowV rest))->H0 CH=some (.lst (rowV chg))->rest.length<=8->((∀ k∈rest,k < N+M))->chg.length<=8->((∀ k∈chg,k < N+M))->((∀ k,(cs.getD k none).getD 0<=1000000))->(∀ H' ms,AskM a H0 H' R (N+M) os as->TabS H' a.t47 posW qW->ms.Perm ((List.range (N+M)).filter (mayB cs as))->ms.Pairwise (klt (ckO cs))->(∀ D way,yJ_ r w M N l cs as (knO os) ms rest chg=some way->H D=none->H' D=some (.lst (rowV way))->Q (.ref D) H')/\(yJ_ r w M N l cs as (knO os) ms rest chg=none->Q .non H'))->qlp_ a vs H Q E_3
theorem qgi_ (T:Txt K mg a) (B:Tb base mg a):FnO P wo K mg base 12 a.f47 ["asking", "rest", "change"] (qlp_ a):=by
 refine T.x47.F.okA (k:=11) sc_next_way (fun A outer s H vs Q E hr h=>?_)
 ·obtain ⟨H0,R,RS,CH,r,w,n,M,N,l,cs,O,os,as,rest,g,rfl,I,J,TW,aZ,aH,aF,r8,ah,c8,ak,aB,q⟩:=h
  obtain ⟨dx,hA⟩:=I.obj;refine xx ?_;intro X_;refine xc (qi_ (i:=3) sc_next_way.nd rfl (Or.inl rfl) (q7_ qb_)) ?_;intro u_;refine xq ?_;refine xf PassesOwn.never rfl (qjq_ (yO_ (qa_ (pv 1) (qa_ (pv 2) qb_)))) (ql_ (i:=4) sc_next_way.nd rfl (Or.inl rfl)) ?_;refine xc (qi_ (i:=5) sc_next_way.nd rfl (Or.inl rfl) (qx_ (pv 0) T.cl_Asking T.x42.me (qar_ T) hr.u T.x42.b .nil qj_ (qa_ (pv 4) qb_))) ?_;intro u_;refine x1 ?_;refine xi (qn_ jg_ (pv 5) qG_ (qp_ _)) ?_;refine xl (qV_ (jF_ cB cD cE qQ_ (pv 3) (qa_ (yO_ (qa_ (pv 5) (qa_ (qx_ (pv 0) T.cl_Asking T.x41.me (y0_ T) hr.u T.x41.b .nil qj_ (qa_ (pv 4) qb_)) qb_))) qb_))) ?_;intro u_;refine ⟨_,qw_,?_⟩;intro u_;intro u_
  refine xc (jp_ (i:=6) sc_next_way.nd rfl (Or.inl rfl) (CompOk.of (cap:=[]) (own:=["way"]) (by kernel_rfl)) rfl (qjq_ (yO_ (qa_ (qx_ (pv 0) T.cl_Asking T.x39.me (zn_ T B) hr.u T.x39.b .nil qj_ (qa_ (pv 1) qb_)) (qa_ (qx_ (pv 0) T.cl_Asking T.x39.me (zn_ T B) hr.u T.x39.b .nil qj_ (qa_ (pv 2) qb_)) qb_)))) (fun _ _ _ _ _=>(ql_ (i:=0) (bC (by kernel_rfl)) rfl (Or.inl rfl))) (fun _ _ _ _ _=>(jl_ (qn_ jg_ (pv 0) qG_ (qp_ _)))) (fun _ _ _ _ _=>by exact (pv 0))) ?_
  intro u_;refine xq ?_;refine xi (qn_ j3_ (qs_ qr_ rfl T.n_len ci (qa_ (pv 6) qb_)) qf_ (qp_ _)) ?_;refine xc (qi_ (i:=7) sc_next_way.nd rfl (Or.inl rfl) (qkt_ rfl rfl T.n_min rfl T.n_len (pv 6))) ?_;intro u_;refine xl (qV_ (jF_ cB cD cE qQ_ (pv 3) (qa_ (yO_ (qa_ (qx_ (pv 0) T.cl_Asking T.x37.me (yT_ T) hr.u T.x37.b .nil qj_ (qa_ (pv 7) qb_)) (qa_ (pv 7) qb_))) qb_))) ?_;intro u_;refine ⟨_,qw_,?_⟩;intro u_;refine xq ?_;refine xi (qn_ jx_ (qs_ qr_ rfl T.n_len ci (qa_ (pv 3) qb_)) qf_ (qp_ _)) ?_;refine xl (qo_ qG_) ?_;intro u_;refine ⟨_,qw_,?_⟩;intro u_
  refine xl (qo_ (qy_ vs_ (qo0_ (k:=0) (p:="way") (T.x47.F.tab B.b_next_way B.n_next_way) rfl rfl hr.u rfl T.n_min (pv 3) ⟨rfl,rfl,rfl,by decide +kernel,rfl,by decide +kernel,by decide +kernel⟩ (by decide +kernel) (fun _ _ _ _=>rfl) (fun _ _ _ _ _ _ hr=>(qy_ (qoo_ (K:=K) rfl) (pv 0) qf_ (fun _ _=>rfl)))) qf_ (fun _ _=>rfl))) ?_
  intro u_;refine ⟨cn _,fun W nW=>?_⟩
  have sW:=Same.new (o:=.lst []) nW
  have w0:WaysAt H (upd H W (.lst [])) W []:=⟨[],qc_,rfl,fun i t cw e=>by simp at e⟩
  generalize (upd H W (.lst []))=H1 at sW w0;refine ⟨_,rfl,_,rfl,(show 2<=sizeLine by decide),fun tp a0=>?_⟩
  have sT:=Same.new (o:=.tup [.ref RS,.ref CH]) a0
  have aj:=qc_ (H:=H1) (a:=tp) (o:=.tup [.ref RS,.ref CH])
  have w1:=w0.keep (Kp.of sT)
  have s1:=sW.trans sT;generalize (upd H1 tp (.tup [.ref RS,.ref CH]))=H2 at sT aj w1 s1;refine ⟨tp,rfl,⟨_,SqT.of aj⟩,?_⟩;refine let I_:Nat->L2.St->Hp->Prop:=fun i σ H'=>L2.A4 ((∃ v4 v5:Option V,σ=[some (.ref R.A),some (.ref RS),some (.ref CH),some (.ref W),v4,v5,none,none])) (Same H H') (H' tp=some (.tup [.ref RS,.ref CH])) (WaysAt H H' W (([rest,g].take i).flatMap (q2_ r w M N l cs as (knO os))));qob_ (xs:=[.ref RS,.ref CH]) I_ ⟨⟨none,none,rfl⟩,s1,aj,w1⟩ ?_ ?_ ?_
  ·rintro i σ H' _ ⟨_,_,h,_⟩
   exact SqT.of h
  ·rintro i x σ H' hx ⟨⟨v4,v5,rfl⟩,sm,ht,ww⟩
   obtain ⟨LA,L,hL,L8,az,rfl,eL⟩:∃ LA L,H0 LA=some (.lst (rowV L))/\L.length<=8/\(∀ k∈L,k < N+M)/\x=.ref LA/\[rest,g][i]?=some L:=by
    match i,hx with
    | 0,hx=>cases hx;exact ⟨RS,rest,aH,r8,ah,rfl,rfl⟩
    | 1,hx=>cases hx;exact ⟨CH,g,aF,c8,ak,rfl,rfl⟩
    | i+2,hx=>cases hx
   have J1:=J.same sm;refine ⟨_,rfl,R.A,dx,_,rfl,J1.sm _ _ hA,rfl,_,rfl,H0,R,LA,r,w,n,M,N,l,cs,O,os,as,L,rfl,I,J1,SqL.of (J1.sm _ _ hL),L8,az,aB,fun H3 s3=>?_⟩
   have ef:([rest,g].take (i+1)).flatMap (q2_ r w M N l cs as (knO os))=([rest,g].take i).flatMap (q2_ r w M N l cs as (knO os))++q2_ r w M N l cs as (knO os) L:=by
    rw [eK,eL,List.flatMap_append]
    simp
   have wl:(([rest,g].take i).flatMap (q2_ r w M N l cs as (knO os))).length<=2:=by
    have c1:∀ L,(q2_ r w M N l cs as (knO os) L).length<=1:=fun L=>by
     unfold q2_
     split
     ·exact bF _
     ·exact cn _
    have hi:=(bK.mp eL).1
    match i,hi with
    | 0,_=>exact cn _
    | 1,_=>simpa using bG (c1 rest) (by decide)
   have an:=sm.trans s3
   have J3:=J1.same s3
   have w3:=ww.keep (Kp.of s3);unfold qfe_
   cases hz:(L.filter fun k=>!fx r w M N l (knO os) k).all (mayB cs as) with
   | false =>
    rw [if_neg (by decide)]
    refine ⟨_,rfl,rfl,_,rfl,ite2 (fun y=>absurd y (by decide)) (fun _=>?_)⟩
    have e0:q2_ r w M N l cs as (knO os) L=[]:=by unfold q2_ unfL;rw [hz,if_neg (by decide)]
    exact ⟨⟨_,_,rfl⟩,an,s3 _ _ ht,by rw [ef,e0,dA];exact w3⟩
   | true =>
    rw [if_pos rfl];refine ⟨_,rfl,rfl,_,rfl,ite2 (fun _=>?_) (fun y=>absurd (by rw [bY (fun z=>by cases z)];rfl) y)⟩
    have e1:q2_ r w M N l cs as (knO os) L=[(z7_ cs (L.filter fun k=>!fx r w M N l (knO os) k),L.filter fun k=>!fx r w M N l (knO os) k)]:=by unfold q2_ unfL;rw [hz,if_pos rfl]
    obtain ⟨a3,aG,_⟩:=id w3;refine ⟨_,rfl,.inl ⟨rfl,_,SqL.of aG⟩,_,rfl,_,rfl,R.A,dx,_,rfl,J3.sm _ _ hA,rfl,_,rfl,H0,R,LA,r,w,n,M,N,l,cs,O,os,as,L,rfl,I,J3,SqL.of (J3.sm _ _ hL),L8,az,fun D H4 s4 nD hD=>?_⟩;refine ⟨(show 2<=sizeLine by decide),fun p np=>?_⟩
    have s5:=Same.new (o:=.tup [.int (z7_ cs (L.filter fun k=>!fx r w M N l (knO os) k)),.ref D]) np
    have hp:=qc_ (H:=H4) (a:=p) (o:=.tup [.int (z7_ cs (L.filter fun k=>!fx r w M N l (knO os) k)),.ref D]);generalize (upd H4 p (.tup [.int (z7_ cs (L.filter fun k=>!fx r w M N l (knO os) k)),.ref D]))=H5 at s5 hp
    have aa:=s4.trans s5;obtain ⟨ts,hW,hl,w6⟩:=(w3.keep (Kp.of aa)).push hp (s5 _ _ hD) (an.free nD) (qh_ aG nD).symm;refine ⟨W,_,_,rfl,rfl,hW,?_,⟨_,_,rfl⟩,(an.trans aa).up nW,?_,by rw [ef,e1];exact w6⟩
    ·rw [b9,hl]
     exact cY wl (by decide)
    ·rw [qd_ (qY_ (aa _ _ (s3 _ _ ht)) hW (fun y=>by cases y))]
     exact aa _ _ (s3 _ _ ht)
  ·rintro σ H' ⟨⟨v4,v5,rfl⟩,sm,_,ww⟩
   have J1:=J.same sm
   have aA:=TW.keep sm
   have ew:([rest,g].take [V.ref RS,V.ref CH].length).flatMap (q2_ r w M N l cs as (knO os))=q2_ r w M N l cs as (knO os) rest++q2_ r w M N l cs as (knO os) g:=by simp
   rw [ew] at ww;try dsimp only [L2.start,List.set,List.map,List.append,List.replicate,HAppend.hAppend,Append.append,List.length,Nat.reduceAdd,Nat.reduceSub]
   refine ⟨_,rfl,R.A,dx,_,rfl,J1.sm _ _ hA,rfl,_,rfl,H0,R,RS,r,w,n,M,N,l,cs,O,os,as,rest,rfl,I,J1,J1.sm _ _ aH,ah,fun Ha ms Ja ka pm pw=>?_⟩
   have q:=fun H' Jx Tx=>q H' ms Jx Tx pm pw;obtain ⟨be,aq,_⟩:=id J1.tab
   have aU:=Kp.tab aq ka
   have wa:=ww.keep aU
   have aC:∀ {D:Addr},H' D=none->H D=none:=fun {D} e=>sm.free e
   have aS:=ww.choose_spec.1;obtain ⟨bb,a2,_⟩:=id aA
   have aL:=aA.kp (cJ B.d_Asking_order_next_way) aq ka
   refine qlo_ (fun v=>DetV H Ha W v (detO r w M N l (knO os) ms rest)) (fun G=>by
    refine ⟨fun D j hd nD hD=>?_,fun am=>?_⟩
    ·obtain ⟨v,hv⟩:∃ v,v=V.ref D:=⟨_,rfl⟩
     rw [<- hv];exact G v (by rw [qia_ hd];exact ⟨D,hv,hD,aC nD,(qh_ aS nD).symm⟩)
    ·exact G .non (by rw [qib_ am];rfl)) ?_
   intro v1 ae;refine ⟨_,rfl,R.A,dx,_,rfl,Ja.sm _ _ hA,rfl,_,rfl,H0,R,CH,r,w,n,M,N,l,cs,O,os,as,g,rfl,I,Ja,Ja.sm _ _ aF,ak,fun Hc a8 Jc kc aO aM=>?_⟩
   cases qc4_ pm pw aO aM;obtain ⟨a4,Y,_⟩:=id Ja.tab
   have ay:=Kp.tab Y kc
   have wc:=wa.keep ay
   have ae:=ae.keep ay
   have a1:∀ {D:Addr},Ha D=none->H D=none:=fun {D} e=>by
    cases z:H' D with
    | none=>exact aC z
    | some o =>
     by_cases y:D=a.t38
     ·rw [y,Y] at e;cases e
     ·rw [ka D o y z] at e;cases e
   have aR:=wa.choose_spec.1
   have aN:=aL.kp (cJ B.d_Asking_order_next_way) Y kc
   refine qlo_ (fun v=>DetV H Hc W v (detO r w M N l (knO os) ms g)) (fun G=>by
    refine ⟨fun D j hd nD hD=>?_,fun am=>?_⟩
    ·obtain ⟨v,hv⟩:∃ v,v=V.ref D:=⟨_,rfl⟩
     rw [<- hv];exact G v (by rw [qia_ hd];exact ⟨D,hv,hD,a1 nD,(qh_ aR nD).symm⟩)
    ·exact G .non (by rw [qib_ am];rfl)) ?_
   intro v2 aE;obtain ⟨U,au,Z⟩:=qpf_ ae aE;refine ⟨(show 2<=sizeLine by decide),fun tq aW=>?_⟩
   have sq:=Same.new (o:=.tup [v1,v2]) aW
   have ao:=qc_ (H:=Hc) (a:=tq) (o:=.tup [v1,v2]);generalize (upd Hc tq (.tup [v1,v2]))=Hd at sq ao;refine ⟨tq,rfl,⟨_,SqT.of ao⟩,fun DL aY=>?_⟩;refine qln_ (b:=fun i=>!decide ([v1,v2].getD i .non=.non)) (cs:=[]) ao aY rfl (show 2<=1000 by decide) (fun i Hx Rx hi sx hR=>⟨_,rfl,rfl,_,rfl,hR _ (Same.refl _)⟩) (fun i Hx Rx hi _ sx hR=>⟨_,rfl,hR _ (Same.refl _)⟩) (fun He se ad=>?_)
   have ad:He DL=some (.lst (U.map V.ref)):=by rw [ad,← au];rfl
   have ab:=sq.trans se
   have We:=wc.keep (Kp.of ab)
   have Je:=Jc.same ab
   have ax:=aN.keep ab
   have S:=Z.1
   have aD:∀ (i:Nat) (p:Addr) (d:List Nat),U[i]?=some p->(jU_ r w M N l (knO os) ms rest g)[i]?=some d->He p=some (.lst (rowV d))/\H p=none/\p≠W:=fun i p d e1 e2=>by
    obtain ⟨h1,h2⟩:=Z.2 i p d e1 e2;exact ⟨ab _ _ h1,h2⟩
   have S:U.length=(jU_ r w M N l (knO os) ms rest g).length:=S
   have aK:∀ d∈jU_ r w M N l (knO os) ms rest g,∃ j,d=ms.take j:=fun d hd=>by
    unfold jU_ at hd;rcases bU.mp hd with y | y
    ·exact qfn_ (dz.mp y)
    ·exact qfn_ (dz.mp y)
   have aJ:(q2_ r w M N l cs as (knO os) rest++q2_ r w M N l cs as (knO os) g).length<=2:=by
    have c1:∀ L,(q2_ r w M N l cs as (knO os) L).length<=1:=fun L=>by
     unfold q2_
     split
     ·exact bF _
     ·exact cn _
    rw [cg];exact Nat.add_le_add (c1 rest) (c1 g)
   clear ae aE Z au;try dsimp only [L2.start,List.set,List.map,List.append,List.replicate,HAppend.hAppend,Append.append,List.length,Nat.reduceAdd,Nat.reduceSub]
   refine ⟨_,rfl,DL,_,rfl,.inl (SqL.of ad),_,_,rfl,rfl,_,rfl,?_⟩
   refine qq7_ (fun Hf=>AskM a H0 Hf R (N+M) os as/\TabS Hf a.t47 posW qW/\WaysAt H Hf W (ye_ r w M N l cs as (knO os) ms rest g)) (fun G=>by
    by_cases hz:0 < U.length
    ·refine ite2 (fun _=>?_) (fun y=>absurd (bN (by rw [b9];omega)) y)
     refine ⟨_,rfl,DL,U,fun i=>((jU_ r w M N l (knO os) ms rest g).getD i []).length,rfl,ad,hz,fun i p hp=>?_,fun i p Hm hp hl X=>?_⟩
     ·have hi:i < (jU_ r w M N l (knO os) ms rest g).length:=by rw [<- S];exact (bK.mp hp).1
      obtain ⟨h1,_⟩:=aD i p _ hp (b8 hi);exact ⟨_,h1,by rw [qg_];show _=((jU_ r w M N l (knO os) ms rest g).getD i []).length;rw [b7,b8 hi];rfl⟩
     have hi:i < (jU_ r w M N l (knO os) ms rest g).length:=by rw [<- S];exact (bK.mp hp).1
     obtain ⟨d,ed⟩:∃ d,(jU_ r w M N l (knO os) ms rest g)[i]?=some d:=⟨_,b8 hi⟩;obtain ⟨h1,h2,h3⟩:=aD i p d hp ed;rw [S] at hl
     have ep:=qh9_ (f:=fun d:List Nat=>((d.length:Nat):Int)) (d:=[]) ed hl;obtain ⟨jd,av⟩:=aK d (bO ed)
     have Jm:=Je.same X
     have Wm:=We.keep (Kp.of X)
     have ml:ms.length<=8:=by
      rw [pm.length_eq]
      have:=cj (mayB cs as) (List.range (N+M));rw [bI] at this
      have:=I.W.n8;omega
     have aP:d.length<=8:=by rw [av,dv];omega
     have aT:∀ k∈d,k < N+M/\(cs.getD k none).isSome=true/\(cs.getD k none).getD 0<=1000000:=fun k hk=>by
      rw [av] at hk
      have:=bV.mp (pm.mem_iff.mp (dr hk))
      have h2:=this.2;unfold mayB at h2;exact ⟨bQ.mp this.1,(cC _ _ ▸ h2).1,aB k⟩
     obtain ⟨a6,aV,_⟩:=id Wm;refine ⟨_,rfl,.inl ⟨rfl,_,SqL.of aV⟩,_,rfl,R.A,dx,_,rfl,Jm.sm _ _ hA,rfl,_,rfl,H0,R,p,r,w,n,M,N,l,cs,O,os,as,d,rfl,I,Jm,SqL.of (X _ _ h1),aP,aT,fun Hn sn=>?_⟩;refine ⟨_,rfl,(show 2<=sizeLine by decide),fun pt aQ=>?_⟩
     have so:=Same.new (o:=.tup [.int ((d.map fun k=>(((cs.getD k none).getD 0:Nat):Int)).sum),.ref p]) aQ
     have aI:=qc_ (H:=Hn) (a:=pt) (o:=.tup [.int ((d.map fun k=>(((cs.getD k none).getD 0:Nat):Int)).sum),.ref p]);generalize (upd Hn pt (.tup [.int ((d.map fun k=>(((cs.getD k none).getD 0:Nat):Int)).sum),.ref p]))=Ho at so aI
     have ai:=sn.trans so;obtain ⟨ts,hW,C,wp⟩:=(Wm.keep (Kp.of ai)).push aI ((X.trans ai) _ _ h1) h2 h3;refine ⟨W,_,_,rfl,rfl,hW,?_,?_⟩
     ·rw [b9,C]
      exact cY aJ (by decide)
     have Jo:=(Jm.same ai).up (x:=W) (o:=.lst (ts.map V.ref++[.ref pt])) (J.sm.free nW) hW (qh_ J.hr nW) (qh_ J.hs nW) (qh_ J.hz nW)
     have To:=(ax.keep (X.trans ai)).up (o:=.lst (ts.map V.ref++[.ref pt])) hW;generalize (upd Ho W (.lst (ts.map V.ref++[.ref pt])))=Hq at wp Jo To;try dsimp only [L2.start,List.set,List.map,List.append,List.replicate,HAppend.hAppend,Append.append,List.length,Nat.reduceAdd,Nat.reduceSub]
     obtain ⟨o,ho⟩:∃ o:Option V,o=some (V.ref p):=⟨_,rfl⟩;rw [<- ho];refine G o Hq ⟨Jo,To,?_⟩;unfold ye_;rw [ep];exact wp
    ·refine ite2 (fun y=>absurd (bC y) (by rw [b9];omega)) (fun _=>?_)
     unfold qnu_;try dsimp only [L2.start,List.set,List.map,List.append,List.replicate,HAppend.hAppend,Append.append,List.length,Nat.reduceAdd,Nat.reduceSub]
     have e0:jU_ r w M N l (knO os) ms rest g=[]:=List.eq_nil_of_length_eq_zero (by omega)
     refine G none He ⟨Je,ax,?_⟩;unfold ye_;rw [e0]
     simpa [pick] using We) ?_
   rintro v7 Hf ⟨Jf,al,Wf⟩;obtain ⟨ts,aw,C,ar⟩:=id Wf;refine ⟨_,rfl,W,_,rfl,.inl (SqL.of aw),rfl,_,rfl,?_⟩;rw [b9,C]
   cases hws:ye_ r w M N l cs as (knO os) ms rest g with
   | nil =>
    refine ite2 (fun _=>?_) (fun y=>absurd rfl y);exact (q Hf Jf al).2 (by unfold yJ_;rw [hws];rfl)
   | cons w0 ws0 =>
    refine ite2 (fun y=>absurd (V.int.inj (bC y)) (by rw [cM];omega)) (fun _=>?_)
    rw [hws] at C ar;refine ⟨_,rfl,?_⟩;refine qfa_ (q:=qW) (pos:=posW) al fun Hg c' fa bg a5 a7 kg tg ng ba bd bc=>?_;obtain ⟨a9,ap,_⟩:=id al
    have ac:=Kp.tab ap kg
    have Jg:=Jf.kpw B.d_Asking_order_next_way aZ ap kg
    have aX:=ac _ _ vR_ aw;refine ⟨W,ts.map V.ref,fun i=>((w0 :: ws0).getD i (0,[])).1,rfl,aX,by rw [b9,C];exact Nat.zero_lt_succ _,fun i y Hh hy sh=>?_,fun i y Hh hy hl sh=>?_⟩
    ·obtain ⟨t,et,rfl⟩:=zr_ hy
     have hi:i < (w0 :: ws0).length:=by rw [<- C];exact (bK.mp et).1
     obtain ⟨D,h1,h2,h3,h4⟩:=ar i t _ et (b8 hi)
     have e:((w0 :: ws0).getD i (0,[])).1=(w0 :: ws0)[i].1:=by rw [b7,b8 hi];rfl
     rw [<- e] at h1;exact ⟨_,rfl,t,_,_,_,rfl,rfl,SqT.of (sh _ _ (ac _ _ qfo_ h1)),qv_ (j:=0) rfl,rfl,Same.refl _⟩
    ·obtain ⟨t,et,rfl⟩:=zr_ hy
     rw [b9,C] at hl
     have hi:i < (w0 :: ws0).length:=by rw [<- C];exact (bK.mp et).1
     have ei:=b8 hi;obtain ⟨D,h1,h2,h3,h4⟩:=ar i t _ et ei;refine ⟨t,_,_,_,rfl,rfl,SqT.of (sh _ _ (ac _ _ qfo_ h1)),qv_ (j:=1) rfl,?_⟩;refine (q Hh (Jg.same sh) (tg.keep sh)).1 D _ ?_ h3 (sh _ _ (ac _ _ vR_ h2));unfold yJ_;rw [hws,qh9_ (d:=((0:Int),([]:List Nat))) ei hl];rfl
inductive qn4_ (a:Adr) (vs:List V) (H:Hp) (Q:VK) (E_3:XK):Prop
 | mk:∀ (c bp fp:Addr) (r w n M N:Nat) (l:Nat->Nat->Nat),vs=[.ref c]->CodeAt a H c bp fp r w n M N l->M<=8->(∀ D qs H',H D=none->Same H H'->H' D=some (.lst (List.map V.ref qs))->TabAt H' qs M (rowT (N+M) (eqn N l))->(∀ p∈qs,H p=none)->D∉qs->Q (.ref D) H')->qn4_ a vs H Q E_3
theorem y1_ (T:Txt K mg a):FnO P wo K mg base 1 a.f28 ["self"] (qn4_ a):=by
 refine T.x28.F.okA (k:=0) v8_ (fun G A outer s H vs Q E hr h=>?_)
 ·obtain ⟨c,bp,fp,r,w,n,M,N,l,rfl,hC,m8,q⟩:=h
  obtain ⟨dx,Lp,qs,h1,h2,h3⟩:=id hC.ins
  have el:(qs.map V.ref).length=M:=by rw [b9,h3.len]
  refine xx ?_;intro X_
  refine xl (qo_ (qJ_ (CompOk.of (cap:=[]) (own:=["line"]) (by kernel_rfl)) rfl (qB_ (qt_ (pv 0) rfl)) (fun _ _ _ _ _=>(ql_ (i:=0) (bC (by kernel_rfl)) rfl (Or.inl rfl))) (fun _ _ _ _ _=>qI_) (fun _ _ _ _ _=>by exact (jB_ (qdf_ (K:=K) rfl) rfl T.n_list (by decide +kernel) (qa_ (pv 0) qb_))))) ?_
  intro u_;refine ⟨_,rfl,c,_,_,_,_,rfl,h1,T.cl_Code,T.no_Code_lines,z3_ bp M N Lp,Lp,rfl,⟨_,SqL.of h2⟩,fun D nD=>?_⟩;refine qiu_ (xs:=qs.map V.ref) (row:=fun i=>rowV (rowT (N+M) (eqn N l) i)) (cs:=[]) (SqL.of h2) nD rfl (by rw [el];exact bG m8 (by decide)) (fun i u H4 R4 hu s4 hR=>?_) (fun gs H7 s4 hG g B C=>?_)
  ·obtain ⟨p,ep,hp⟩:=h3.get (i:=i) (by rw [<- el];exact (bK.mp hu).1)
   rw [qO_ ep] at hu
   cases bM hu;exact ⟨_,rfl,p,_,rfl,.inl (SqL.of (s4 _ _ hp)),fun d nd=>hR d _ nd (Same.new nd) qc_⟩
  ·rw [el] at g
   exact q D gs H7 nD s4 hG ⟨g.len,fun i p e=>g.on i p e⟩ B C
theorem qfp_ (F:Nat->Nat) (N:Nat):∀ M,GF.xsum (N+M) F=GF.xsum N F ^^^ GF.xsum M (fun i=>F (N+i))
 | 0=>(cT _).symm
 | M+1=>by
  show GF.xsum (N+M) F ^^^ F (N+M)=GF.xsum N F ^^^ (GF.xsum M (fun i=>F (N+i)) ^^^ F (N+M))
  rw [qfp_ F N M,dj]
def yf_ (r w n N:Nat) (l:Nat->Nat->Nat) (t:Nat) (nv:Nat->Nat):Nat:=GF.xsum N fun k=>GF.sc r w n (l t k) (nv k)
def newV (nk:List Nat) (nb:Nat->Nat) (X:List Nat) (k:Nat):Nat:=if k∈nk then nb k else X.getD k 0
theorem qqh_ {r w n M N t:Nat}{l:Nat->Nat->Nat}{X:List Nat} (g:GF.Good r w) (hX:X.length=N+M) (hlt:∀ b∈X,b < (2 ^ w) ^ n) (h:isMk r w n M N l X=true) (ht:t < M):X.getD (N+t) 0=yf_ r w n N l t fun k=>X.getD k 0:=by
 have e:=(qlc_ hX).mp h t ht;rw [qfp_] at e
 have e1:GF.xsum N (fun j=>GF.sc r w n (eqn N l t j) (X.getD j 0))=yf_ r w n N l t fun k=>X.getD k 0:=GF.xsum_congr N fun k hk=>by
  unfold eqn;rw [if_pos hk]
 have e2:GF.xsum M (fun i=>GF.sc r w n (eqn N l t (N+i)) (X.getD (N+i) 0))=X.getD (N+t) 0:=by
  rw [GF.xsum_single ht fun i hi ne=>?_]
  ·unfold eqn
   rw [if_neg (by omega),if_pos (by omega)]
   refine GF.sc_one g.rule g.w1 (hlt _ ?_);rw [b7,b8 (by omega)]
   exact cR _
  ·unfold eqn
   rw [if_neg (by omega),if_neg (by omega),GF.sc_zero]
 rw [e1,e2] at e;exact (qe5_ e).symm
theorem qnh_ {r w n N t:Nat}{l:Nat->Nat->Nat}{nv:Nat->Nat}:GF.sumB r w n ((((List.range N).filter fun k=>tch l t k).map fun k=>l t k).zip (((List.range N).filter fun k=>tch l t k).map nv))=yf_ r w n N l t nv:=by
 rw [List.zip_map',GF.sumB_filter];refine GF.xsum_congr N fun k hk=>?_
 by_cases z:l t k=0
 ·rw [if_neg (by unfold tch;rw [bY (by simpa using z)];decide),z,GF.sc_zero]
 ·rw [if_pos (by unfold tch;exact bN z)]
theorem qpg_ {r w n N t:Nat}{l:Nat->Nat->Nat}{nk:List Nat}{nb:Nat->Nat}{X:List Nat} (g:GF.Good r w) (hl:∀ k,k < N->l t k < 2 ^ w):(yf_ r w n N l t fun k=>X.getD k 0) ^^^ GF.sumB r w n ((((srtN N nk).filter fun k=>tch l t k).map fun k=>l t k).zip (((srtN N nk).filter fun k=>tch l t k).map fun k=>X.getD k 0 ^^^ nb k))=yf_ r w n N l t (newV nk nb X):=by
 unfold srtN;rw [List.filter_filter,List.zip_map',GF.sumB_filter];unfold yf_;rw [<- GF.xsum_xor];refine GF.xsum_congr N fun k hk=>?_;unfold newV
 by_cases m:k∈nk
 ·rw [if_pos m]
  have mc:nk.contains k=true:=c9.mpr m
  by_cases z:l t k=0
  ·rw [z,GF.sc_zero,GF.sc_zero,GF.sc_zero]
   split <;> rfl
  ·rw [if_pos (by rw [mc,fD];unfold tch;exact bN z),GF.sc_xor g.rule (hl k hk),← dj,dN,cS]
 ·rw [if_neg m,if_neg (fun y=>m (c9.mp (cC _ _ ▸ y).2)),cT]
theorem qlq_ {l:Nat->Nat->Nat}{t k N:Nat} (hk:k < N):(!decide (V.int ((eqn N l t k:Nat):Int)=V.int 0))=tch l t k:=by
 unfold tch eqn;rw [if_pos hk]
 by_cases x:l t k=0
 ·rw [x];rfl
 ·rw [bY (fun e=>x (by have:=V.int.inj e;omega)),bN x];rfl
structure MkX (r w n M N:Nat) (l:Nat->Nat->Nat) (os:List (Option Nat)) (X:List Nat):Prop where
 len:X.length=N+M
 lt:∀ b∈X,b < (2 ^ w) ^ n
 ism:isMk r w n M N l X=true
 ag:jS_ (N+M) os X
inductive qlr_ (a:Adr) (vs:List V) (H:Hp) (Q:VK) (E_3:XK):Prop
 | mk:∀ (H0:Hp) (R:AskR) (nd:Addr) (r w n M N t:Nat) (l:Nat->Nat->Nat) (cs srow os:List (Option Nat)) (as X nk:List Nat) (nb:Nat->Nat),vs=[.ref R.A,.ref nd,.int t]->AskI a H0 R r w n M N l cs srow->AskM a H0 H R (N+M) os as->H nd=some (.dK (qA_ nk nb))->t < M->MkX r w n M N l os X->((∀ k,k < N->tch l t k=true->k∉nk->fx r w M N l (knO os) k=true))->(∀ H',Same H H'->Q (.int ((yf_ r w n N l t (newV nk nb X):Nat):Int)) H')->qlr_ a vs H Q E_3
theorem qbk_ (T:Txt K mg a):FnO P wo K mg base 10 a.f48 ["asking", "news", "total"] (qlr_ a):=by
 refine T.x48.F.okA (k:=9) sc_sum_by_rest (fun ak A outer s H vs Q E hr h=>?_)
 ·obtain ⟨H0,R,nd,r,w,n,M,N,t,l,cs,aa,os,as,X,nk,nb,rfl,I,J,S,ht,mx,ae,q⟩:=h
  obtain ⟨dx,hA⟩:=I.obj
  have hA:=J.sm _ _ hA
  have hC:=I.code.same J.sm;obtain ⟨dc,Lp,qs,hc,_,_⟩:=id hC.ins;obtain ⟨dB,hB⟩:=hC.blk.ins
  have n8:=I.W.n8;refine xx ?_;intro X_;refine xc (qi_ (i:=3) sc_sum_by_rest.nd rfl (Or.inl rfl) (qt_ (pv 0) rfl)) ?_;intro u_;refine xc (qi_ (i:=4) sc_sum_by_rest.nd rfl (Or.inr rfl) (qy_ qz_ (jV_ (pv 3) T.cl_Code T.x28.me (y1_ T) hr.u T.x28.b .nil qj_) (pv 2) (fun _ _=>rfl))) ?_;intro u_
  refine xc (jp_ (i:=5) sc_sum_by_rest.nd rfl (Or.inl rfl) (CompOk.of (cap:=[4]) (own:=["role"]) (by kernel_rfl)) rfl (qL_ rfl T.n_range (qa_ (qt_ (pv 3) rfl) qb_)) (fun _ _ _ _ _=>(ql_ (i:=1) (bC (by kernel_rfl)) rfl (Or.inl rfl))) (fun _ _ _ _ _=>(jl_ (qn_ zq_ (qy_ (q9_ (K:=K) rfl) (pv 0) (pv 1) (fun _ _=>rfl)) qf_ (qp_ _)))) (fun _ _ _ _ _=>by exact (pv 1))) ?_
  intro u_
  refine xc (jp_ (i:=6) sc_sum_by_rest.nd rfl (Or.inl rfl) (CompOk.of (cap:=[1,0]) (own:=["role"]) (by kernel_rfl)) rfl (qB_ (pv 5)) (fun _ _ _ _ _=>(ql_ (i:=2) (bC (by kernel_rfl)) rfl (Or.inl rfl))) (fun _ _ _ _ _=>qI_) (fun _ _ _ _ _=>by exact (uw_ (uS_ (qem_ (j5_ hr) (pv 2) (pv 0))) (qa7_ (j5_ hr) (pv 0) (pv 2) (fun _ _=>rfl)) (qx_ (pv 1) T.cl_Asking T.x40.me (jZ_ T) hr.u T.x40.b .nil qj_ (qa_ (pv 2) qb_))))) ?_
  intro u_
  refine xl (qo_ (qx_ (by exact (qt_ (pv 3) rfl)) T.cl_Blocks T.x18.me (yh_ T) hr.u T.x18.b .nil qj_ (qa_ (qJ_ (CompOk.of (cap:=[4]) (own:=["role"]) (by kernel_rfl)) rfl (qB_ (pv 5)) (fun _ _ _ _ _=>(ql_ (i:=1) (bC (by kernel_rfl)) rfl (Or.inl rfl))) (fun _ _ _ _ _=>qI_) (fun _ _ _ _ _=>by exact (qy_ (q9_ (K:=K) rfl) (pv 0) (pv 1) (fun _ _=>rfl)))) (qa_ (pv 6) qb_)))) ?_
  intro u_;refine ⟨_,rfl,R.A,_,_,_,_,rfl,hA,T.cl_Asking,T.no_Asking_code,jQ_ _ _ _ _ _,?_⟩;refine ⟨_,rfl,R.c,dc,_,rfl,hc,rfl,R.c,R.bp,R.fp,r,w,n,M,N,l,rfl,hC,by omega,fun EL es H1 aj s1 ac Z _ _=>?_⟩
  obtain ⟨lp,ah,U⟩:=Z.get ht;refine ⟨_,rfl,EL,_,_,_,rfl,rfl,SqL.of ac,qv_ (qO_ ah),?_⟩
  have gi:∀ k,k < N->atI (rowV (rowT (N+M) (eqn N l) t)) (k:Int)=some (.int ((eqn N l t k:Nat):Int)):=fun k hk=>by
   have:=qv_ (je_ (row:=rowT (N+M) (eqn N l) t) (i:=k) (by rw [qu_];omega))
   rwa [qZ_ (by omega:k < N+M)] at this
  refine ⟨_,rfl,R.c,_,_,_,_,rfl,s1 _ _ hc,T.cl_Code,T.no_Code_data,yA_ R.bp M N Lp,_,rfl,by omega,by omega,fun rl nrl=>?_⟩
  rw [cx];refine jP_ (n:=N) (f:=fun k=>.int ((k:Nat):Int)) (b:=fun k=>tch l t k) (cs:=[some (.ref lp)]) nrl rfl (bG (by omega:N<=8) (by decide)) (fun k H2 R2 hk s2 hR=>?_) (fun k H2 R2 hk hb s2 hR=>⟨_,rfl,hR _ (Same.refl _)⟩) (fun H2 s2 d=>?_)
  ·refine ⟨_,rfl,_,rfl,lp,_,_,_,rfl,rfl,SqL.of (s2 _ _ U),gi k hk,rfl,_,rfl,?_⟩
   rw [qlq_ hk];exact hR _ (Same.refl _)
  have d:H2 rl=some (.lst (rowV ((List.range N).filter fun k=>tch l t k))):=d
  have ai:((List.range N).filter fun k=>tch l t k).length<=8:=by
   have:=cj (fun k=>tch l t k) (List.range N);rw [bI] at this;omega
  have g:∀ k∈((List.range N).filter fun k=>tch l t k),k < N/\tch l t k=true:=fun k hk=>⟨bQ.mp (bV.mp hk).1,(bV.mp hk).2⟩
  have L:=s1.trans s2;refine ⟨_,rfl,rl,rfl,⟨_,SqL.of d⟩,fun so ab=>?_⟩;refine jH_ (f:=fun k=>.int ((newV nk nb X k:Nat):Int)) (cs:=[some (.ref nd),some (.ref R.A)]) (SqL.of d) ab rfl (by omega) (fun k Hx Rx hk sx hR=>?_) (fun H3 s3 D=>?_)
  ·obtain ⟨B,O⟩:=g k hk
   have sx:=L.trans sx;refine ⟨_,rfl,_,rfl,nd,_,rfl,DGet.k (k:=Sum.inl ((k:Nat):Int)) (sx _ _ S),_,rfl,?_⟩;rw [jn_];unfold newV at hR
   by_cases m:k∈nk
   ·rw [if_pos m] at hR
    rw [if_pos m];refine ite2 (fun _=>?_) (fun y=>absurd rfl y)
    have dg:=DGet.k (k:=Sum.inl ((k:Nat):Int)) (sx _ _ S);rw [jn_,if_pos m] at dg;exact ⟨_,rfl,_,rfl,nd,_,rfl,dg,hR _ (Same.refl _)⟩
   ·rw [if_neg m] at hR
    rw [if_neg m];refine ite2 (fun y=>absurd y (by decide)) (fun _=>?_)
    refine ⟨_,rfl,R.A,dx,_,rfl,sx _ _ hA,rfl,_,rfl,H0,R,r,w,n,M,N,k,l,cs,aa,os,as,X,rfl,I,J.same sx,by omega,mx.len,mx.lt,mx.ism,mx.ag,fun H' s'=>?_⟩
    rw [if_pos (ae k B O m)];exact hR _ s'
  have G:=L.trans s3
  have D:H3 so=some (.lst (rowV (((List.range N).filter fun k=>tch l t k).map (newV nk nb X)))):=by rw [D];unfold rowV;rw [cq];rfl
  refine ⟨_,rfl,R.c,_,_,_,_,rfl,G _ _ hc,T.cl_Code,T.no_Code_blocks,yR_ R.bp M N Lp,R.bp,dB,_,rfl,G _ _ hB,rfl,?_⟩;refine ⟨_,rfl,rl,rfl,⟨_,SqL.of (s3 _ _ d)⟩,fun fl ad=>?_⟩;refine jH_ (f:=fun k=>.int ((l t k:Nat):Int)) (cs:=[some (.ref lp)]) (SqL.of (s3 _ _ d)) ad rfl (by omega) (fun k Hx Rx hk sx hR=>?_) (fun H4 s4 C=>?_)
  ·obtain ⟨B,O⟩:=g k hk
   have g2:=gi k B;rw [show eqn N l t k=l t k by unfold eqn;rw [if_pos B]] at g2
   exact ⟨_,rfl,_,rfl,lp,_,_,_,rfl,rfl,SqL.of ((s2.trans (s3.trans sx)) _ _ U),g2,hR _ (Same.refl _)⟩
  have C:H4 fl=some (.lst (rowV (((List.range N).filter fun k=>tch l t k).map fun k=>l t k))):=by rw [C];unfold rowV;rw [cq];rfl
  have Y:=G.trans s4;refine ⟨_,rfl,R.bp,R.fp,fl,so,r,w,n,_,_,rfl,hC.blk.same Y,I.full.toGood,I.n16,SqL.of C,SqL.of (s4 _ _ D),by rw [b9,b9],fun f hf=>?_,fun H' s'=>?_⟩
  ·obtain ⟨k,hk,rfl⟩:=cG.mp hf
   exact I.W.lt t k ht (g k hk).1
  ·rw [qnh_]
   exact q H' (Y.trans s')
inductive qls_ (a:Adr) (vs:List V) (H:Hp) (Q:VK) (E_3:XK):Prop
 | mk:∀ (H0:Hp) (R:AskR) (nd:Addr) (r w n M N t:Nat) (l:Nat->Nat->Nat) (cs srow os:List (Option Nat)) (as X nk:List Nat) (nb:Nat->Nat),vs=[.ref R.A,.ref nd,.int t]->AskI a H0 R r w n M N l cs srow->AskM a H0 H R (N+M) os as->H nd=some (.dK (qA_ nk nb))->nk.Nodup->((∀ k∈nk,k < N))->t < M->MkX r w n M N l os X->((∀ k∈nk,tch l t k=true->fx r w M N l (knO os) k=true))->fx r w M N l (knO os) (N+t)=true->(∀ H',Same H H'->Q (.int ((yf_ r w n N l t (newV nk nb X):Nat):Int)) H')->qls_ a vs H Q E_3
theorem uP_ (T:Txt K mg a):FnO P wo K mg base 10 a.f49 ["asking", "news", "total"] (qls_ a):=by
 refine T.x49.F.okA (k:=9) sc_sum_by_change (fun au A outer s H vs Q E hr h=>?_)
 ·obtain ⟨H0,R,nd,r,w,n,M,N,t,l,cs,Z,os,as,X,nk,nb,rfl,I,J,ac,aa,nlt,ht,mx,an,ai,q⟩:=h
  obtain ⟨dx,hA⟩:=I.obj
  have hA:=J.sm _ _ hA
  have hC:=I.code.same J.sm;obtain ⟨dc,Lp,qs,hc,_,_⟩:=id hC.ins;obtain ⟨dB,hB⟩:=hC.blk.ins
  have n8:=I.W.n8
  have nl:nk.length<=8:=bG (jf_ N nk aa nlt) (by omega)
  refine xx ?_;intro X_;refine xc (qi_ (i:=3) sc_sum_by_change.nd rfl (Or.inl rfl) (qt_ (pv 0) rfl)) ?_;intro u_;refine xc (qi_ (i:=4) sc_sum_by_change.nd rfl (Or.inr rfl) (qy_ qz_ (jV_ (pv 3) T.cl_Code T.x28.me (y1_ T) hr.u T.x28.b .nil qj_) (pv 2) (fun _ _=>rfl))) ?_;intro u_
  refine xc (jp_ (i:=5) sc_sum_by_change.nd rfl (Or.inl rfl) (CompOk.of (cap:=[4]) (own:=["role"]) (by kernel_rfl)) rfl (qB_ (qs_ (jX_ rfl) rfl T.n_sorted dk (qa_ (pv 1) qb_))) (fun _ _ _ _ _=>(ql_ (i:=1) (bC (by kernel_rfl)) rfl (Or.inl rfl))) (fun _ _ _ _ _=>(jl_ (qn_ zq_ (qy_ (q9_ (K:=K) rfl) (pv 0) (pv 1) (fun _ _=>rfl)) qf_ (qp_ _)))) (fun _ _ _ _ _=>by exact (pv 1))) ?_
  intro u_
  refine xc (jp_ (i:=6) sc_sum_by_change.nd rfl (Or.inl rfl) (CompOk.of (cap:=[1,0]) (own:=["role"]) (by kernel_rfl)) rfl (qB_ (pv 5)) (fun _ _ _ _ _=>(ql_ (i:=2) (bC (by kernel_rfl)) rfl (Or.inl rfl))) (fun _ _ _ _ _=>qI_) (fun _ _ _ _ _=>by exact (qm_ yk_ (qx_ (pv 1) T.cl_Asking T.x40.me (jZ_ T) hr.u T.x40.b .nil qj_ (qa_ (pv 2) qb_)) (qa7_ (j5_ hr) (pv 0) (pv 2) (fun _ _=>rfl))))) ?_
  intro u_
  refine xl (qo_ (qm_ yk_ (qx_ (pv 0) T.cl_Asking T.x40.me (jZ_ T) hr.u T.x40.b .nil qj_ (qa_ (qm_ qE_ (qt_ (pv 3) rfl) (pv 2)) qb_)) (qx_ (by exact (qt_ (pv 3) rfl)) T.cl_Blocks T.x18.me (yh_ T) hr.u T.x18.b .nil qj_ (qa_ (qJ_ (CompOk.of (cap:=[4]) (own:=["role"]) (by kernel_rfl)) rfl (qB_ (pv 5)) (fun _ _ _ _ _=>(ql_ (i:=1) (bC (by kernel_rfl)) rfl (Or.inl rfl))) (fun _ _ _ _ _=>qI_) (fun _ _ _ _ _=>by exact (qy_ (q9_ (K:=K) rfl) (pv 0) (pv 1) (fun _ _=>rfl)))) (qa_ (pv 6) qb_))))) ?_
  intro u_;refine ⟨_,rfl,R.A,_,_,_,_,rfl,hA,T.cl_Asking,T.no_Asking_code,jQ_ _ _ _ _ _,?_⟩;refine ⟨_,rfl,R.c,dc,_,rfl,hc,rfl,R.c,R.bp,R.fp,r,w,n,M,N,l,rfl,hC,by omega,fun EL es H1 aq s1 ak ah _ _=>?_⟩
  obtain ⟨lp,ao,O⟩:=ah.get ht;refine ⟨_,rfl,EL,_,_,_,rfl,rfl,SqL.of ak,qv_ (qO_ ao),?_⟩
  have gi:∀ k,k < N->atI (rowV (rowT (N+M) (eqn N l) t)) (k:Int)=some (.int ((eqn N l t k:Nat):Int)):=fun k hk=>by
   have:=qv_ (je_ (row:=rowT (N+M) (eqn N l) t) (i:=k) (by rw [qu_];omega))
   rwa [qZ_ (by omega:k < N+M)] at this
  refine ⟨_,rfl,nd,_,nk.map fun k=>((k:Nat):Int),rfl,s1 _ _ ac,j8_ nk nb,by rw [b9];omega,fun sl ns nsl pm pw=>?_⟩
  rw [j1_ aa nlt pm pw]
  have sS:=Same.new (o:=.lst (rowV (srtN N nk))) nsl
  have Y:=qc_ (H:=H1) (a:=sl) (o:=.lst (rowV (srtN N nk)));generalize (upd H1 sl (.lst (rowV (srtN N nk))))=H1' at sS Y
  have s1:=s1.trans sS
  have O:=sS _ _ O
  have B:∀ k∈srtN N nk,k < N/\k∈nk:=fun k hk=>⟨nlt k ((qX_ nlt).mp hk),(qX_ nlt).mp hk⟩;refine ⟨sl,rfl,⟨_,SqL.of Y⟩,fun rl nrl=>?_⟩;refine y6_ (rs:=srtN N nk) (b:=fun k=>tch l t k) (cs:=[some (.ref lp)]) (SqL.of Y) nrl rfl (bG jI_ (bG (by omega:N<=8) (by decide))) (fun k H2 R2 hk s2 hR=>?_) (fun k H2 R2 hk hb s2 hR=>⟨_,rfl,hR _ (Same.refl _)⟩) (fun H2 s2 G=>?_)
  ·have d:=(B k hk).1
   refine ⟨_,rfl,_,rfl,lp,_,_,_,rfl,rfl,SqL.of (s2 _ _ O),gi k d,rfl,_,rfl,?_⟩;rw [qlq_ d];exact hR _ (Same.refl _)
  have ap:((srtN N nk).filter fun k=>tch l t k).length<=8:=bG (cj _ _) (bG jI_ (by omega))
  have D:∀ k∈((srtN N nk).filter fun k=>tch l t k),k < N/\k∈nk/\tch l t k=true:=fun k hk=>⟨(B k (bV.mp hk).1).1,(B k (bV.mp hk).1).2,(bV.mp hk).2⟩
  have ab:=s1.trans s2;refine ⟨_,rfl,rl,rfl,⟨_,SqL.of G⟩,fun so aj=>?_⟩;refine jH_ (f:=fun k=>.int ((X.getD k 0 ^^^ nb k:Nat):Int)) (cs:=[some (.ref nd),some (.ref R.A)]) (SqL.of G) aj rfl (by omega) (fun k Hx Rx hk sx hR=>?_) (fun H3 s3 U=>?_)
  ·obtain ⟨d,ae,am⟩:=D k hk
   have sx:=ab.trans sx;refine ⟨_,rfl,R.A,dx,_,rfl,sx _ _ hA,rfl,_,rfl,H0,R,r,w,n,M,N,k,l,cs,Z,os,as,X,rfl,I,J.same sx,by omega,mx.len,mx.lt,mx.ism,mx.ag,fun H' s'=>?_⟩
   rw [if_pos (an k ae am)]
   have dg:=DGet.k (k:=Sum.inl ((k:Nat):Int)) ((sx.trans s') _ _ ac);rw [jn_,if_pos ae] at dg;refine ⟨_,rfl,_,rfl,nd,_,rfl,dg,_,_,rfl,rfl,?_⟩
   show Rx (V.int (Builtin.bitXor _ _)) H'
   rw [jj_];exact hR _ s'
  have L:=ab.trans s3
  have U:H3 so=some (.lst (rowV (((srtN N nk).filter fun k=>tch l t k).map fun k=>X.getD k 0 ^^^ nb k))):=by rw [U];unfold rowV;rw [cq];rfl
  refine ⟨_,rfl,R.A,dx,_,rfl,L _ _ hA,rfl,_,rfl,R.c,_,_,_,_,rfl,L _ _ hc,T.cl_Code,T.no_Code_data,yA_ R.bp M N Lp,_,rfl,_,_,rfl,rfl,?_⟩;refine ⟨H0,R,r,w,n,M,N,N+t,l,cs,Z,os,as,X,congrArg (fun z=>[V.ref R.A,V.int z]) (show (N:Int)+(t:Int)=((N+t:Nat):Int) by omega),I,J.same L,by omega,mx.len,mx.lt,mx.ism,mx.ag,fun ar g=>?_⟩
  rw [if_pos ai]
  have C:=L.trans g;refine ⟨_,rfl,R.c,_,_,_,_,rfl,C _ _ hc,T.cl_Code,T.no_Code_blocks,yR_ R.bp M N Lp,R.bp,dB,_,rfl,C _ _ hB,rfl,?_⟩;refine ⟨_,rfl,rl,rfl,⟨_,SqL.of ((s3.trans g) _ _ G)⟩,fun fl al=>?_⟩;refine jH_ (f:=fun k=>.int ((l t k:Nat):Int)) (cs:=[some (.ref lp)]) (SqL.of ((s3.trans g) _ _ G)) al rfl (by omega) (fun k Hx Rx hk sx hR=>?_) (fun H4 s4 S=>?_)
  ·have d:=(D k hk).1
   have g2:=gi k d;rw [show eqn N l t k=l t k by unfold eqn;rw [if_pos d]] at g2
   exact ⟨_,rfl,_,rfl,lp,_,_,_,rfl,rfl,SqL.of ((s2.trans ((s3.trans g).trans sx)) _ _ O),g2,hR _ (Same.refl _)⟩
  have S:H4 fl=some (.lst (rowV (((srtN N nk).filter fun k=>tch l t k).map fun k=>l t k))):=by rw [S];unfold rowV;rw [cq];rfl
  have ad:=C.trans s4;refine ⟨_,rfl,R.bp,R.fp,fl,so,r,w,n,_,_,rfl,hC.blk.same ad,I.full.toGood,I.n16,SqL.of S,SqL.of ((g.trans s4) _ _ U),by rw [b9,b9],fun f hf=>?_,fun H' s'=>?_⟩
  ·obtain ⟨k,hk,rfl⟩:=cG.mp hf
   exact I.W.lt t k ht (D k hk).1
  ·refine ⟨_,_,rfl,rfl,?_⟩
   show Q (V.int (Builtin.bitXor _ _)) H'
   rw [jj_,qqh_ I.full.toGood mx.len mx.lt mx.ism ht,qpg_ I.full.toGood fun k hk=>I.W.lt t k ht hk];exact q H' (ad.trans s')
def jc_ (N:Nat) (cs:List (Option Nat)) (ts nk:List Nat):List Nat:=((srtN N nk).filter fun k=>(cs.getD k none).isSome)++ts.map fun t=>N+t
def laidV (r w n N:Nat) (l:Nat->Nat->Nat) (nk:List Nat) (nb:Nat->Nat) (X:List Nat) (k:Nat):Nat:=if k < N then nb k else yf_ r w n N l (k - N) (newV nk nb X)
theorem yV_ {ks:List Nat}{f:Nat->Nat}{k:Nat} (h:k∉ks):putK (qA_ ks f) (Sum.inl ((k:Nat):Int)) (.int ((f k:Nat):Int))=qA_ (ks++[k]) f:=by
 rw [qmv_ _ (by rw [jn_,if_neg h])]
 unfold qA_;rw [cK];rfl
theorem zE_ (ks:List Nat) (f:Nat->Nat):(qA_ ks f).length=ks.length:=by unfold qA_;rw [b9]
theorem qfq_ {xs:List Nat} (nd:xs.Nodup) {i k:Nat} (e:xs[i]?=some k):k∉xs.take i:=fun h=>by
 have hi:=bK.mp e
 have n2:(xs.take i++xs.drop i).Nodup:=by rw [List.take_append_drop];exact nd
 refine (List.nodup_append.mp n2).2.2 k h k ?_ rfl;rw [List.drop_eq_getElem_cons hi.1,hi.2];exact cF
inductive qic_ (a:Adr) (vs:List V) (H:Hp) (Q:VK) (E_3:XK):Prop
 | mk:∀ (H0:Hp) (R:AskR) (nd tl:Addr) (b:Bool) (r w n M N:Nat) (l:Nat->Nat->Nat) (cs srow os:List (Option Nat)) (as X nk ts:List Nat) (nb:Nat->Nat),vs=[.ref R.A,.ref nd,.ref tl,.bl b]->AskI a H0 R r w n M N l cs srow->AskM a H0 H R (N+M) os as->H nd=some (.dK (qA_ nk nb))->nk.Nodup->((∀ k∈nk,k < N))->H tl=some (.lst (rowV ts))->ts.Nodup->((∀ t∈ts,t < M))->MkX r w n M N l os X->((b=true->∀ t∈ts,∀ k,k < N->tch l t k=true->k∉nk->fx r w M N l (knO os) k=true))->((b=false->∀ t∈ts,(∀ k∈nk,tch l t k=true->fx r w M N l (knO os) k=true)/\fx r w M N l (knO os) (N+t)=true))->(∀ D H',Same H H'->H D=none->H' D=some (.dK (qA_ (jc_ N cs ts nk) (laidV r w n N l nk nb X)))->Q (.ref D) H')->qic_ a vs H Q E_3
theorem qlt_ (T:Txt K mg a):FnO P wo K mg base 11 a.f50 ["asking", "news", "totals", "by_rest"] (qic_ a):=by
 refine T.x50.F.okA (k:=10) sc_to_lay (fun ak A outer s H vs Q E hr h=>?_)
 ·obtain ⟨H0,R,nd,tl,b,r,w,n,M,N,l,cs,O,os,as,X,nk,ts,nb,rfl,I,J,B,L,nlt,S,Z,Y,mx,ae,ai,q⟩:=h
  obtain ⟨dx,hA⟩:=I.obj
  have hA:=J.sm _ _ hA
  have hC:=I.code.same J.sm;obtain ⟨dc,Lp,qs,hc,_,_⟩:=id hC.ins
  have n8:=I.W.n8
  have nl:nk.length<=8:=bG (jf_ N nk L nlt) (by omega)
  have aj:ts.length<=M:=jf_ M ts Z Y;refine xx ?_;intro X_;refine xc (qi_ (i:=4) sc_to_lay.nd rfl (Or.inl rfl) uD_) ?_;intro u_;refine xq ?_;refine xf PassesOwn.never rfl (qB_ (qs_ (jX_ rfl) rfl T.n_sorted dk (qa_ (pv 1) qb_))) (ql_ (i:=5) sc_to_lay.nd rfl (Or.inl rfl)) ?_;refine x1 ?_;refine xi (qn_ jg_ (qy_ qz_ (qt_ (pv 0) rfl) (pv 5) (fun _ _=>rfl)) qG_ (qp_ _)) ?_;refine xl (v6_ (j5_ hr) (pv 4) (pv 5) (qa7_ (j5_ hr) (pv 1) (pv 5) (fun _ _=>rfl)) rfl) ?_;intro u_;refine ⟨_,qw_,?_⟩;intro u_;intro u_;refine xq ?_;refine xf PassesOwn.never rfl (qB_ (pv 2)) (ql_ (i:=6) sc_to_lay.nd rfl (Or.inl rfl)) ?_;refine xc (qi_ (i:=5) sc_to_lay.nd rfl (Or.inl rfl) (qm_ qE_ (qt_ (qt_ (pv 0) rfl) rfl) (pv 6))) ?_;intro u_;refine xl (v6_ (j5_ hr) (pv 4) (pv 5) (uw_ (q6_ (pv 3)) (qq_ (qbk_ T) hr.u rfl T.x48.m T.x48.k T.x48.b .nil qj_ (qa_ (pv 0) (qa_ (pv 1) (qa_ (pv 6) qb_)))) (qq_ (uP_ T) hr.u rfl T.x49.m T.x49.k T.x49.b .nil qj_ (qa_ (pv 0) (qa_ (pv 1) (qa_ (pv 6) qb_))))) rfl) ?_;intro u_;intro u_;refine xl (qo_ (pv 4)) ?_;intro u_;refine fun D nD=>?_
  have sD:=Same.new (o:=.dK []) nD
  have hD:=qc_ (H:=H) (a:=D) (o:=.dK []);generalize (upd H D (.dK []))=H1 at sD hD;refine ⟨_,rfl,nd,_,nk.map fun k=>((k:Nat):Int),rfl,sD _ _ B,j8_ nk nb,by rw [b9];omega,fun sl ns nsl pm pw=>?_⟩
  rw [j1_ L nlt pm pw]
  have sS:=Same.new (o:=.lst (rowV (srtN N nk))) nsl
  have G:=qc_ (H:=H1) (a:=sl) (o:=.lst (rowV (srtN N nk)))
  have ad:sl≠D:=(qh_ hD nsl).symm;generalize (upd H1 sl (.lst (rowV (srtN N nk))))=H2 at sS G
  have ac:=sS _ _ hD
  have s2:=sD.trans sS;refine ⟨sl,rfl,⟨_,SqL.of G⟩,?_⟩;refine let I_:Nat->L2.St->Hp->Prop:=fun i σ H'=>L2.A4 ((∃ v5:Option V,σ=[some (.ref R.A),some (.ref nd),some (.ref tl),some (.bl b),some (.ref D),v5,none])) (Same H H') (H' sl=some (.lst (rowV (srtN N nk)))) (H' D=some (.dK (qA_ (((srtN N nk).take i).filter fun k=>(cs.getD k none).isSome) (laidV r w n N l nk nb X))));ji_ (xs:=rowV (srtN N nk)) I_ ⟨⟨none,rfl⟩,s2,G,ac⟩ ?_ ?_ ?_
  ·rintro i σ H' _ ⟨_,_,h,_⟩
   exact SqL.of h
  ·rintro i x σ H' hx ⟨⟨v5,rfl⟩,sm,aa,d⟩
   obtain ⟨k,ek,rfl⟩:=qN_ hx
   have ab:=(qX_ nlt).mp (bO ek)
   have ah:=nlt k ab
   have gi:=qv_ (qS_ (jt_ (os:=cs) (k:=k) (by rw [I.csl];omega)))
   have sx:=sm;refine ⟨_,rfl,R.A,_,_,_,_,rfl,sx _ _ hA,T.cl_Asking,T.no_Asking_costs,zm_ _ _ _ _ _,_,rfl,R.cl,_,_,_,rfl,rfl,SqL.of ((J.sm.trans sx) _ _ I.cost),gi,rfl,_,rfl,?_⟩;rw [yB_]
   have et:((srtN N nk).take (i+1)).filter (fun k=>(cs.getD k none).isSome)=((srtN N nk).take i).filter (fun k=>(cs.getD k none).isSome)++(if (cs.getD k none).isSome=true then [k] else []):=by
    rw [j0_ ek,ee]
    congr 1
    by_cases z:(cs.getD k none).isSome=true
    ·rw [if_pos z,eU (p:=fun k=>(cs.getD k none).isSome) z,dQ]
    ·rw [if_neg z,eV (p:=fun k=>(cs.getD k none).isSome) z,dQ]
   cases hz:(cs.getD k none).isSome with
   | false =>
    refine ite2 (fun y=>absurd y (by decide)) (fun _=>?_)
    exact ⟨⟨_,rfl⟩,sm,aa,by rw [et,hz,if_neg (by decide),dA];exact d⟩
   | true =>
    refine ite2 (fun _=>?_) (fun y=>absurd rfl y)
    have dg:=DGet.k (k:=Sum.inl ((k:Nat):Int)) (sx _ _ B);rw [jn_,if_pos ab] at dg
    have g:k∉((srtN N nk).take i).filter fun k=>(cs.getD k none).isSome:=fun y=>qfq_ (cL _ d6:(srtN N nk).Nodup) ek (bV.mp y).1;refine ⟨_,rfl,_,rfl,nd,_,rfl,dg,_,rfl,_,rfl,D,_,rfl,DPut.k (k:=Sum.inl ((k:Nat):Int)) d ?_,?_⟩
    ·rw [zE_]
     exact cY (bG (cj _ _) (bG (by rw [dv];exact Nat.min_le_right _ _) (bG jI_ (by omega:N<=8)))) (by decide)
    refine ⟨⟨_,rfl⟩,sm.up nD,by rw [qd_ ad];exact aa,?_⟩
    rw [qc_,et,hz,if_pos rfl]
    have ev:laidV r w n N l nk nb X k=nb k:=by unfold laidV;rw [if_pos ah]
    rw [<- yV_ g,ev]
  ·rintro σ H' ⟨⟨v5,rfl⟩,sm,_,d⟩
   rw [qg_,fc] at d;refine ⟨_,rfl,tl,rfl,⟨_,SqL.of (sm _ _ S)⟩,?_⟩;refine let I_:Nat->L2.St->Hp->Prop:=fun i σ H'=>L2.A3 ((∃ v5 v6:Option V,σ=[some (.ref R.A),some (.ref nd),some (.ref tl),some (.bl b),some (.ref D),v5,v6])) (Same H H') (H' D=some (.dK (qA_ (((srtN N nk).filter fun k=>(cs.getD k none).isSome)++(ts.take i).map fun t=>N+t) (laidV r w n N l nk nb X))));ji_ (xs:=rowV ts) I_ ⟨⟨_,_,rfl⟩,sm,by rw [d];simp⟩ ?_ ?_ ?_
   ·rintro i σ H' _ ⟨_,sm,_⟩
    exact SqL.of (sm _ _ S)
   ·rintro i x σ H' hx ⟨⟨v5,v6,rfl⟩,sm,d⟩
    obtain ⟨t,et,rfl⟩:=qN_ hx
    have C:=bO et
    have U:=Y t C;refine ⟨_,rfl,R.A,_,_,_,_,rfl,sm _ _ hA,T.cl_Asking,T.no_Asking_code,jQ_ _ _ _ _ _,R.c,_,_,_,_,rfl,sm _ _ hc,T.cl_Code,T.no_Code_data,yA_ R.bp M N Lp,_,rfl,_,_,rfl,rfl,?_⟩
    have g:N+t∉((srtN N nk).filter fun k=>(cs.getD k none).isSome)++(ts.take i).map fun t=>N+t:=fun y=>by
     rcases bU.mp y with y | y
     ·have:=nlt _ ((qX_ nlt).mp (bV.mp y).1)
      omega
     ·obtain ⟨t',h1,h2⟩:=cG.mp y
      have:t'=t:=by omega
      subst this;exact qfq_ Z et h1
    have len:(qA_ (((srtN N nk).filter fun k=>(cs.getD k none).isSome)++(ts.take i).map fun t=>N+t) (laidV r w n N l nk nb X)).length < sizeLine:=by
     rw [zE_,cg,b9]
     have h1:=cj (fun k=>(cs.getD k none).isSome) (srtN N nk)
     have h2:=jI_ (N:=N) (nk:=nk)
     have h3:(ts.take i).length<=ts.length:=by rw [dv];exact Nat.min_le_right _ _
     exact cY (by omega:_<=8) (by decide)
    have ev:laidV r w n N l nk nb X (N+t)=yf_ r w n N l t (newV nk nb X):=by unfold laidV;rw [if_neg (by omega),fe]
    have fin:∀ H2,Same H' H2->Same H (upd H2 D (.dK (qA_ (((srtN N nk).filter fun k=>(cs.getD k none).isSome)++(ts.take (i+1)).map fun t=>N+t) (laidV r w n N l nk nb X)))):=fun H2 s2=>(sm.trans s2).up nD
    have ed:(((srtN N nk).filter fun k=>(cs.getD k none).isSome)++(ts.take i).map fun t=>N+t)++[N+t]=((srtN N nk).filter fun k=>(cs.getD k none).isSome)++(ts.take (i+1)).map fun t=>N+t:=by
     rw [j0_ et,cK,eI];rfl
    try dsimp only
    rw [show (N:Int)+(t:Int)=((N+t:Nat):Int) by omega]
    refine ⟨_,rfl,_,rfl,?_⟩
    cases b with
    | true =>
     refine ite2 (fun _=>?_) (fun y=>absurd rfl y);refine ⟨_,rfl,_,rfl,_,rfl,H0,R,nd,r,w,n,M,N,t,l,cs,O,os,as,X,nk,nb,rfl,I,J.same sm,sm _ _ B,U,mx,ae rfl t C,fun H2 s2=>?_⟩;refine ⟨_,rfl,_,rfl,D,_,rfl,DPut.k (k:=Sum.inl ((N+t:Nat):Int)) (s2 _ _ d) len,?_⟩;rw [<- ev,yV_ g,ed];exact ⟨⟨_,_,rfl⟩,fin H2 s2,qc_⟩
    | false =>
     refine ite2 (fun y=>absurd y (by decide)) (fun _=>?_)
     obtain ⟨f1,f2⟩:=ai rfl t C;refine ⟨_,rfl,_,rfl,_,rfl,H0,R,nd,r,w,n,M,N,t,l,cs,O,os,as,X,nk,nb,rfl,I,J.same sm,sm _ _ B,L,nlt,U,mx,f1,f2,fun H2 s2=>?_⟩;refine ⟨_,rfl,_,rfl,D,_,rfl,DPut.k (k:=Sum.inl ((N+t:Nat):Int)) (s2 _ _ d) len,?_⟩;rw [<- ev,yV_ g,ed];exact ⟨⟨_,_,rfl⟩,fin H2 s2,qc_⟩
   ·rintro σ H' ⟨⟨v5,v6,rfl⟩,sm,d⟩
    rw [qg_,fc] at d;exact ⟨_,rfl,q D H' sm nD d⟩
def sumC (cs:List (Option Nat)) (rs:List Nat):Int:=(rs.map fun k=>ckO cs k).sum
theorem AskI.ext {a:Adr}{H0:Hp}{R:AskR}{r w n M N:Nat}{l:Nat->Nat->Nat}{cs srow:List (Option Nat)}{D:Addr}{o:HO} (I:AskI a H0 R r w n M N l cs srow) (nD:H0 D=none) (h1:R.rl≠D) (h2:R.sl≠D) (h3:R.z≠D) (h4:a.t38≠D):AskI a (upd H0 D o) R r w n M N l cs srow:=by
 have s:=Same.new (o:=o) nD;obtain ⟨dx,hA⟩:=I.obj;exact ⟨I.code.same s,I.full,I.n16,I.W,⟨dx,s _ _ hA⟩,s _ _ I.cost,I.csl,I.asker.same s,s _ _ I.row,I.srl,by rw [qd_ h1];exact I.nrl,by rw [qd_ h2];exact I.nsl,by rw [qd_ h3];exact I.nz,by rw [qd_ h4];exact I.nt,I.d1,I.d2,I.d3⟩
theorem AskM.ext {a:Adr}{H0 H:Hp}{R:AskR}{n:Nat}{os:List (Option Nat)}{as:List Nat}{D:Addr}{o:HO} (J:AskM a H0 H R n os as) (hD:H D=some o):AskM a (upd H0 D o) H R n os as :=
 ⟨fun b u e=>by
  by_cases z:b=D
  ·rw [z,qc_] at e
   cases e;rw [z];exact hD
  ·rw [qd_ z] at e
   exact J.sm b u e,J.hr,J.hs,J.hz,J.tab,J.osl,J.nd,J.lt⟩
theorem AskM.rebs {a:Adr}{H0 H0' H:Hp}{R:AskR}{n:Nat}{os:List (Option Nat)}{as:List Nat} (J:AskM a H0' H R n os as) (s:Same H0 H0'):AskM a H0 H R n os as:=⟨s.trans J.sm,J.hr,J.hs,J.hz,J.tab,J.osl,J.nd,J.lt⟩
theorem AskM.away {a:Adr}{H0 H:Hp}{R:AskR}{n:Nat}{os:List (Option Nat)}{as:List Nat}{D:Addr} (J:AskM a H0 H R n os as) (nD:H D=none):R.rl≠D/\R.sl≠D/\R.z≠D/\a.t38≠D:=by
 obtain ⟨ps,hp,_⟩:=J.tab;exact ⟨qh_ J.hr nD,qh_ J.hs nD,qh_ J.hz nD,qh_ hp nD⟩
theorem qni_ {R:Nat}{cs srow os:List (Option Nat)}{as X:List Nat}{k:Nat} (hl:os.length=R) (hs:jS_ R srow X) (ho:jS_ R os X) (hk:k < R):jS_ R (tk cs srow os as k).1 X:=by
 unfold tk
 split
 ·intro j hj b hb
  by_cases z:j=k
  ·subst z
   rw [b7,dS (by omega)] at hb
   exact hs j hj b hb
  ·rw [b7,dC (cJ z),← b7] at hb
   exact ho j hj b hb
 ·exact ho
theorem qqi_ {cs srow os:List (Option Nat)}{as:List Nat}{k:Nat}:(tk cs srow os as k).1.length=os.length:=by
 unfold tk
 split
 ·exact cZ
 ·rfl
theorem qid_ {cs srow os:List (Option Nat)}{as:List Nat}{k:Nat} (h:mayB cs as k=true):(tk cs srow os as k).2.length=as.length+1:=by
 unfold tk;rw [if_pos h];exact cg
theorem qn5_ {cs srow os:List (Option Nat)}{as:List Nat}{k:Nat}:as.length<=(tk cs srow os as k).2.length:=by
 unfold tk
 split
 ·rw [cg];exact dZ _ _
 ·exact bF _
theorem uu_ {R:Nat}{cs srow:List (Option Nat)}{X:List Nat} (hs:jS_ R srow X):∀ (ks:List Nat) (os:List (Option Nat)) (as:List Nat),os.length=R->(∀ k∈ks,k < R)->jS_ R os X->jS_ R (jb_ cs srow ks os as).1 X
 | [],_,_,_,_,h=>h
 | k :: ks,os,as,hl,hk,h=>by
  have h1:=qni_ (cs:=cs) (as:=as) hl hs h (hk k (.head _));unfold jb_
  split
  ·exact uu_ hs ks _ _ (by rw [qqi_,hl]) (fun j hj=>hk j (.tail _ hj)) h1
  ·exact h1
theorem qfr_ {cs srow:List (Option Nat)}:∀ (ks:List Nat) (os:List (Option Nat)) (as:List Nat),as.length<=(jb_ cs srow ks os as).2.length
 | [],_,_=>bF _
 | k :: ks,os,as=>by
  unfold jb_
  split
  ·exact bG qn5_ (qfr_ ks _ _)
  ·exact qn5_
theorem qjf_ {cs srow:List (Option Nat)}{k:Nat}{ks:List Nat}{os:List (Option Nat)}{as:List Nat} (h:mayB cs as k=true):as.length+1<=(jb_ cs srow (k :: ks) os as).2.length:=by
 unfold jb_
 split
 ·rw [<- qid_ (srow:=srow) (os:=os) h]
  exact qfr_ ks _ _
 ·rw [qid_ h]
  exact bF _
theorem qlu_ {F:Hp->Prop}{G:Prop} (Pz:Hp->Prop) (h:(∀ z,Pz z->F z)->G) (key:∀ z,Pz z->F z):G:=h key
section
variable (r w M N:Nat) (l:Nat->Nat->Nat) (cs srow:List (Option Nat)) (L L':List Nat)
inductive WrS:List (Option Nat)->List Nat->List (Option Nat)->List Nat->Bool->Prop
 | done {os as}:(L.all (fx r w M N l (knO os)) || L'.all (fx r w M N l (knO os)))=true->WrS os as os as true
 | none {os as ms}:L.all (fx r w M N l (knO os))=false->L'.all (fx r w M N l (knO os))=false->ms.Perm ((List.range (N+M)).filter (mayB cs as))->ms.Pairwise (klt (ckO cs))->yJ_ r w M N l cs as (knO os) ms L L'=none->WrS os as os as false
 | step {os as ms way os' as' b}:L.all (fx r w M N l (knO os))=false->L'.all (fx r w M N l (knO os))=false->ms.Perm ((List.range (N+M)).filter (mayB cs as))->ms.Pairwise (klt (ckO cs))->yJ_ r w M N l cs as (knO os) ms L L'=some way->WrS (jb_ cs srow way os as).1 (jb_ cs srow way os as).2 os' as' b->WrS os as os' as' b
end
theorem qfs_ {r w M N:Nat}{l:Nat->Nat->Nat}{cs os:List (Option Nat)}{as ms L L' way:List Nat} (h1:L.all (fx r w M N l (knO os))=false) (h2:L'.all (fx r w M N l (knO os))=false) (pm:ms.Perm ((List.range (N+M)).filter (mayB cs as))) (hL:∀ k∈L,k < N+M) (hL':∀ k∈L',k < N+M) (h:yJ_ r w M N l cs as (knO os) ms L L'=some way):(∀ k∈way,k < N+M/\mayB cs as k=true)/\∃ k rest,way=k :: rest:=by
 have kw:knW (knO os) []=knO os:=rfl
 have g:∀ {L:List Nat}{p:Int × List Nat},L.all (fx r w M N l (knO os))=false->(∀ k∈L,k < N+M)->p∈q2_ r w M N l cs as (knO os) L->(∀ k∈p.2,k < N+M/\mayB cs as k=true)/\∃ k rest,p.2=k :: rest:=fun {L p} h1 hL h=>by
  unfold q2_ at h
  split at h
  ·next hz =>
   rw [bS.mp h];refine ⟨fun k hk=>⟨hL k (bV.mp hk).1,c5.mp hz k hk⟩,?_⟩
   cases e:unfL r w M N l (knO os) L with
   | cons k rest=>exact ⟨k,rest,rfl⟩
   | nil =>
    have:L.all (fx r w M N l (knO os))=true:=c5.mpr fun k hk=>by
     cases hf:fx r w M N l (knO os) k with
     | true=>rfl
     | false =>
      have:k∈unfL r w M N l (knO os) L:=bV.mpr ⟨hk,by rw [hf];rfl⟩
      rw [e] at this
      cases this
    rw [h1] at this
    cases this
  ·cases h
 have B:∀ {L d:List Nat},L.all (fx r w M N l (knO os))=false->detO r w M N l (knO os) ms L=some d->(∀ k∈d,k < N+M/\mayB cs as k=true)/\∃ k rest,d=k :: rest:=fun {L d} h1 h=>by
  unfold detO at h
  cases hf:(List.range (ms.length+1)).find? fun j=>L.all (fx r w M N l (knW (knO os) (ms.take j))) with
  | none=>rw [hf] at h;cases h
  | some j =>
   rw [hf] at h
   have hd:ms.take j=d:=bM h;subst hd;refine ⟨fun k hk=>?_,?_⟩
   ·have:=bV.mp (pm.mem_iff.mp (dr hk))
    exact ⟨bQ.mp this.1,this.2⟩
   ·cases e:ms.take j with
    | cons k rest=>exact ⟨k,rest,rfl⟩
    | nil =>
     have:=List.find?_some hf;rw [e,kw,h1] at this
     cases this
 unfold yJ_ at h
 cases hp:pick (fun p=>p.1) (ye_ r w M N l cs as (knO os) ms L L') with
 | none=>rw [hp] at h;cases h
 | some p =>
  rw [hp] at h
  have hd:p.2=way:=bM h;subst hd
  have hm:=va_ hp;unfold ye_ at hm;rcases bU.mp hm with hm | hm
  ·rcases bU.mp hm with hm | hm
   ·exact g h1 hL hm
   ·exact g h2 hL' hm
  ·obtain ⟨d,hd,rfl⟩:=cG.mp hm
   have s:=va_ (dz.mp hd);unfold jU_ at s;rcases bU.mp s with y | y
   ·exact B h1 (dz.mp y)
   ·exact B h2 (dz.mp y)
def knL (os:List (Option Nat)) (L:List Nat):List Bool:=(List.range os.length).map fun k=>(os.getD k none).isSome || L.contains k
theorem restL_mem {N:Nat}{l:Nat->Nat->Nat}{ts nk:List Nat}{k:Nat}:k∈qT_ N l ts nk ↔ k < N/\k∉nk/\∃ t∈ts,tch l t k=true:=by
 unfold qT_;rw [bV,bQ,cC,eM,eZ];refine ⟨fun ⟨a,b,c⟩=>⟨a,fun z=>?_,c⟩,fun ⟨a,b,c⟩=>⟨a,?_,c⟩⟩
 ·rw [c9.mpr z] at b
  cases b
 ·cases z:nk.contains k with
  | false=>rfl
  | true=>exact absurd (c9.mp z) b
theorem qph_ {N M:Nat}{l:Nat->Nat->Nat}{ts nk:List Nat} (ht:∀ t∈ts,t < M):∀ k∈chgL N l ts (srtN N nk),k < N+M:=fun k hk=>by
 unfold chgL at hk;rcases bU.mp hk with h | h
 ·have:=bQ.mp (bV.mp (bV.mp h).1).1
  omega
 ·obtain ⟨t,h1,rfl⟩:=cG.mp h
  have:=ht t h1;omega
theorem AskM.has {a:Adr}{H0 H:Hp}{R:AskR}{n:Nat}{os:List (Option Nat)}{as:List Nat}{D:Addr}{o:HO} (J:AskM a H0 H R n os as) (hD:H D=some o):Same H0 (upd H0 D o):=fun b u e=>by
 by_cases z:b=D
 ·subst z
  rw [qc_,← hD];exact J.sm b u e
 ·rw [qd_ z];exact e
theorem AskI.extH {a:Adr}{H0 H:Hp}{R:AskR}{r w n M N n':Nat}{l:Nat->Nat->Nat}{cs srow os:List (Option Nat)}{as:List Nat}{D:Addr}{o:HO} (I:AskI a H0 R r w n M N l cs srow) (J:AskM a H0 H R n' os as) (hD:H D=some o) (h1:R.rl≠D) (h2:R.sl≠D) (h3:R.z≠D) (h4:a.t38≠D):AskI a (upd H0 D o) R r w n M N l cs srow:=by
 have s:=J.has hD;obtain ⟨dx,hA⟩:=I.obj;exact ⟨I.code.same s,I.full,I.n16,I.W,⟨dx,s _ _ hA⟩,s _ _ I.cost,I.csl,I.asker.same s,s _ _ I.row,I.srl,by rw [qd_ h1];exact I.nrl,by rw [qd_ h2];exact I.nsl,by rw [qd_ h3];exact I.nz,by rw [qd_ h4];exact I.nt,I.d1,I.d2,I.d3⟩
theorem qnj_ {a:Adr}{H0 H:Hp}{R:AskR}{r w n M N n':Nat}{l:Nat->Nat->Nat}{cs srow os:List (Option Nat)}{as:List Nat}{t:Addr}{p:Pos}{q:Str} (I:AskI a H0 R r w n M N l cs srow) (J:AskM a H0 H R n' os as) (h:TabS H t p q) (ne:a.t38≠t):∃ H1,Same H0 H1/\AskI a H1 R r w n M N l cs srow/\AskM a H1 H R n' os as/\TabS H1 t p q:=by
 obtain ⟨ps,h1,h2⟩:=h
 have I1:=I.extH J h1 (qY_ J.hr h1 (fun y=>by cases y)) (qY_ J.hs h1 (fun y=>by cases y)) (qY_ J.hz h1 (fun y=>by cases y)) ne
 have J1:=J.ext h1
 have s1:=J.has h1;rcases h2 with h2 | ⟨c',e,h2⟩
 ·exact ⟨_,s1,I1,J1,ps,qc_,.inl h2⟩
 ·obtain ⟨po,d,_⟩:=id J.tab
  have nt:t≠c':=qY_ h1 h2 (fun y=>by cases y)
  refine ⟨_,s1.trans (J1.has h2),I1.extH J1 h2 (qY_ J.hr h2 (fun y=>by cases y)) (qY_ J.hs h2 (fun y=>by cases y)) (qY_ J.hz h2 (fun y=>by cases y)) (qY_ d h2 (fun y=>by cases y)),J1.ext h2,ps,?_,.inr ⟨c',e,qc_⟩⟩
  rw [qd_ nt];exact qc_
inductive qlv_ (a:Adr) (vs:List V) (H:Hp) (Q:VK) (E_3:XK):Prop
 | mk:∀ (H0:Hp) (R:AskR) (nd:Addr) (r w n M N:Nat) (l:Nat->Nat->Nat) (cs srow os:List (Option Nat)) (as X nk:List Nat) (nb:Nat->Nat),vs=[.ref R.A,.ref nd]->AskI a H0 R r w n M N l cs srow->AskM a H0 H R (N+M) os as->TabS H a.t47 posW qW->H0 a.t47=none->H0 nd=some (.dK (qA_ nk nb))->nk.Nodup->((∀ k∈nk,k < N))->((∀ k,(cs.getD k none).getD 0<=1000000))->MkX r w n M N l os X->jS_ (N+M) srow X->(∀ H' os' as' b,WrS r w M N l cs srow (qT_ N l (totL M N l cs (srtN N nk)) nk) (chgL N l (totL M N l cs (srtN N nk)) (srtN N nk)) os as os' as' b->jS_ (N+M) os' X->AskM a H0 H' R (N+M) os' as'->TabS H' a.t47 posW qW->(b=true->(srtN N nk).all (fx r w M N l (knL os' (jc_ N cs (totL M N l cs (srtN N nk)) nk)))=true->∀ D,H0 D=none->H' D=some (.dK (qA_ (jc_ N cs (totL M N l cs (srtN N nk)) nk) (laidV r w n N l nk nb X)))->Q (.ref D) H')/\((b && (srtN N nk).all (fx r w M N l (knL os' (jc_ N cs (totL M N l cs (srtN N nk)) nk))))=false->Q .non H'))->qlv_ a vs H Q E_3
theorem qdo_ (T:Txt K mg a) (B:Tb base mg a):FnO P wo K mg base 13 a.f51 ["asking", "news"] (qlv_ a):=by
 refine T.x51.F.okA (k:=12) sc_new_blocks (fun aS A outer s H vs Q E hr h=>?_)
 ·obtain ⟨H0,R,nd,r,w,n,M,N,l,cs,srow,os,as,X,nk,nb,rfl,I,J,TW,aM,Y,S,nlt,aI,mx,aE,q⟩:=h
  obtain ⟨dx,hA⟩:=I.obj
  have n8:=I.W.n8;refine xx ?_;intro X_;refine xc (qi_ (i:=2) sc_new_blocks.nd rfl (Or.inl rfl) (qt_ (pv 0) rfl)) ?_;intro u_;refine xc (qi_ (i:=3) sc_new_blocks.nd rfl (Or.inl rfl) (qq_ (uO_ T) hr.u rfl T.x44.m T.x44.k T.x44.b .nil qj_ (qa_ (pv 0) (qa_ (pv 1) qb_)))) ?_;intro u_;refine xc (qi_ (i:=4) sc_new_blocks.nd rfl (Or.inl rfl) (qq_ (qje_ T) hr.u rfl T.x45.m T.x45.k T.x45.b .nil qj_ (qa_ (pv 2) (qa_ (pv 3) (qa_ (pv 1) qb_))))) ?_;intro u_;refine xc (qi_ (i:=5) sc_new_blocks.nd rfl (Or.inl rfl) (qq_ (qfm_ T) hr.u rfl T.x46.m T.x46.k T.x46.b .nil qj_ (qa_ (pv 2) (qa_ (pv 3) (qa_ (pv 1) qb_))))) ?_;intro u_;refine xq ?_;refine xw PassesOwn.never (PW.pt (uT_ (j9_ (q6_ (qx_ (pv 0) T.cl_Asking T.x36.me (yo_ T) hr.u T.x36.b .nil qj_ (qa_ (pv 4) qb_)))) (vV_ (j9_ (q6_ (qx_ (pv 0) T.cl_Asking T.x36.me (yo_ T) hr.u T.x36.b .nil qj_ (qa_ (pv 5) qb_))))))) ?_;refine xc (qi_ (i:=6) sc_new_blocks.nd rfl (Or.inl rfl) (qq_ (qgi_ T B) hr.u rfl T.x47.m T.x47.k T.x47.b .nil qj_ (qa_ (pv 0) (qa_ (pv 4) (qa_ (pv 5) qb_))))) ?_;intro u_;refine xq ?_;refine xi (qn_ vp_ (pv 6) qG_ (qp_ _)) ?_;refine xl (qo_ qG_) ?_;intro u_;refine ⟨_,qw_,?_⟩;intro u_;refine xl (qV_ (qx_ (pv 0) T.cl_Asking T.x34.me (z6_ T) hr.u T.x34.b .nil qj_ (qa_ (pv 6) qb_))) ?_;intro u_;intro u_;refine xc (qi_ (i:=7) sc_new_blocks.nd rfl (Or.inr rfl) (qq_ (qlt_ T) hr.u rfl T.x50.m T.x50.k T.x50.b .nil qj_ (qa_ (pv 0) (qa_ (pv 1) (qa_ (pv 3) (qa_ (qx_ (pv 0) T.cl_Asking T.x36.me (yo_ T) hr.u T.x36.b .nil qj_ (qa_ (pv 4) qb_)) qb_)))))) ?_
  intro u_
  refine xc (jp_ (i:=8) sc_new_blocks.nd rfl (Or.inl rfl) (CompOk.of (cap:=[7]) (own:=["role", "is_known"]) (by kernel_rfl)) rfl (v4_ rfl T.n_enumerate (qa_ (jV_ (pv 0) T.cl_Asking T.x35.me (jT_ T) hr.u T.x35.b .nil qj_) qb_)) (fun _ _ _ _ _=>(qa5_ (n:=2) (K:=K) rfl rfl (qH_ (ql_ (i:=1) (bC (by kernel_rfl)) rfl (Or.inl rfl)) (qH_ (ql_ (i:=2) (bC (by kernel_rfl)) rfl (Or.inl rfl)) jM_)))) (fun _ _ _ _ _=>qI_) (fun _ _ _ _ _=>by exact (qnt_ (pv 2) (qdt_ (qps_ (qem_ (j5_ hr) (pv 1) (pv 0))))))) ?_
  intro u_;refine xq ?_;refine xi (j9_ (q6_ (qq_ (zl_ T) hr.u rfl T.x30.m T.x30.k T.x30.b .nil qj_ (qa_ (pv 2) (qa_ (pv 8) (qa_ (qs_ (jX_ rfl) rfl T.n_sorted dk (qa_ (pv 1) qb_)) qb_)))))) ?_;refine xl (qo_ qG_) ?_;intro u_;refine ⟨_,qw_,?_⟩;intro u_;refine xl (qo_ (pv 7)) ?_;intro u_;refine ⟨_,rfl,R.A,_,_,_,_,rfl,J.sm _ _ hA,T.cl_Asking,T.no_Asking_code,jQ_ _ _ _ _ _,?_⟩;refine ⟨_,rfl,_,rfl,H0,R,nd,r,w,n,M,N,l,cs,srow,os,as,nk,nb,rfl,I,J,J.sm _ _ Y,S,nlt,fun TL H1 s1 aH L=>?_⟩
  have O:∀ t∈totL M N l cs (srtN N nk),t < M:=fun t h=>qpe_ h
  have ao:(totL M N l cs (srtN N nk)).length<=8:=bG qnf_ (by omega)
  have aA:(totL M N l cs (srtN N nk)).Nodup:=cL _ (cL _ d6);generalize aR:totL M N l cs (srtN N nk)=ts at *
  have J1:=J.same s1;refine ⟨_,rfl,_,rfl,_,rfl,R.c,R.bp,R.fp,TL,nd,r,w,n,M,N,l,ts,nk,nb,rfl,I.code.same J1.sm,by omega,SqL.of L,ao,O,J1.sm _ _ Y,fun RS H2 s2 av aB=>?_⟩
  have J2:=J1.same s2
  have ar:=s1.trans s2;refine ⟨_,rfl,_,rfl,_,rfl,R.c,R.bp,R.fp,TL,nd,r,w,n,M,N,l,ts,nk,nb,rfl,I.code.same J2.sm,by omega,s2 _ _ L,ao,O,J2.sm _ _ Y,S,nlt,fun CH H3 s3 ad aL=>?_⟩
  have J3:=J2.same s3
  have aJ:=ar.trans s3
  have t3:=TW.keep aJ
  have aw:∀ {D:Addr},H D=none->H0 D=none/\(R.rl≠D/\R.sl≠D/\R.z≠D/\a.t38≠D)/\a.t47≠D:=fun {D} e=>by
   obtain ⟨pt,aN,_⟩:=id TW;exact ⟨J.sm.free e,J.away e,qh_ aN e⟩
  obtain ⟨z1,⟨z2,z3,z4,z5⟩,z6⟩:=aw aH;obtain ⟨y1,⟨y2,y3,y4,y5⟩,y6⟩:=aw (s1.free av);obtain ⟨x1,⟨x2,x3,x4,x5⟩,x6⟩:=aw (ar.free ad)
  have d1:RS≠TL:=(qh_ L av).symm
  have d2:CH≠TL:=(qh_ (s2 _ _ L) ad).symm
  have d3:CH≠RS:=(qh_ aB ad).symm
  have e1:(upd H0 TL (.lst (rowV ts))) RS=none:=by rw [qd_ d1];exact y1
  have e2:(upd (upd H0 TL (.lst (rowV ts))) RS (.lst (rowV (qT_ N l ts nk)))) CH=none:=by rw [qd_ d3,qd_ d2];exact x1
  have I3:=((I.ext (o:=.lst (rowV ts)) z1 z2 z3 z4 z5).ext (o:=.lst (rowV (qT_ N l ts nk))) e1 y2 y3 y4 y5).ext (o:=.lst (rowV (chgL N l ts (srtN N nk)))) e2 x2 x3 x4 x5
  have K3:=((J3.ext ((s2.trans s3) _ _ L)).ext (s3 _ _ aB)).ext aL
  have sb:Same H0 (upd (upd (upd H0 TL (.lst (rowV ts))) RS (.lst (rowV (qT_ N l ts nk)))) CH (.lst (rowV (chgL N l ts (srtN N nk))))):=(Same.new z1).trans ((Same.new e1).trans (Same.new e2))
  have az:(upd (upd (upd H0 TL (.lst (rowV ts))) RS (.lst (rowV (qT_ N l ts nk)))) CH (.lst (rowV (chgL N l ts (srtN N nk))))) a.t47=none:=by rw [qd_ x6,qd_ y6,qd_ z6];exact aM
  have ay:(upd (upd (upd H0 TL (.lst (rowV ts))) RS (.lst (rowV (qT_ N l ts nk)))) CH (.lst (rowV (chgL N l ts (srtN N nk))))) TL=some (.lst (rowV ts)):=by rw [qd_ (cJ d2),qd_ (cJ d1)];exact qc_
  have ac:(upd (upd (upd H0 TL (.lst (rowV ts))) RS (.lst (rowV (qT_ N l ts nk)))) CH (.lst (rowV (chgL N l ts (srtN N nk))))) RS=some (.lst (rowV (qT_ N l ts nk))):=by rw [qd_ (cJ d3)];exact qc_
  have ai:(upd (upd (upd H0 TL (.lst (rowV ts))) RS (.lst (rowV (qT_ N l ts nk)))) CH (.lst (rowV (chgL N l ts (srtN N nk))))) CH=some (.lst (rowV (chgL N l ts (srtN N nk)))):=qc_;generalize (upd (upd (upd H0 TL (.lst (rowV ts))) RS (.lst (rowV (qT_ N l ts nk)))) CH (.lst (rowV (chgL N l ts (srtN N nk)))))=Hb at I3 K3 sb az ay ac ai
  have aP:(qT_ N l ts nk).length<=8:=bG (cj _ _) (by rw [bI];omega)
  have aa:∀ k∈qT_ N l ts nk,k < N+M:=fun k h=>by have:=(restL_mem.mp h).1;omega
  have aG:(chgL N l ts (srtN N nk)).length<=8:=by
   unfold chgL;rw [cg,b9]
   have h1:=cj (fun k=>ts.any fun t=>tch l t k) (srtN N nk)
   have h2:=jI_ (N:=N) (nk:=nk)
   have h3:=jf_ M ts aA O;omega
  have ae:=qph_ (N:=N) (l:=l) (nk:=nk) O;try dsimp only [L2.start,List.set,List.map,List.append,List.replicate,HAppend.hAppend,Append.append,List.length,Nat.reduceAdd,Nat.reduceSub]
  refine ⟨fun m σ H'=>∃ (d:List (Option Nat)) (g:List Nat) (v6:Option V),m=(N+M) - g.length/\σ=[some (.ref R.A),some (.ref nd),some (.ref R.c),some (.ref TL),some (.ref RS),some (.ref CH),v6,none,none]/\AskM a Hb H' R (N+M) d g/\TabS H' a.t47 posW qW/\jS_ (N+M) d X/\∀ ah al b,WrS r w M N l cs srow (qT_ N l ts nk) (chgL N l ts (srtN N nk)) d g ah al b->WrS r w M N l cs srow (qT_ N l ts nk) (chgL N l ts (srtN N nk)) os as ah al b,
   ⟨_,os,as,none,rfl,rfl,K3,t3,mx.ag,fun _ _ _ h=>h⟩,?_⟩
  rintro m σ H' ⟨d,g,v6,rfl,rfl,J4,t4,ab,aj⟩;obtain ⟨U,Z⟩:=I3.obj;refine ⟨_,rfl,R.A,U,_,rfl,J4.sm _ _ Z,rfl,_,rfl,Hb,R,RS,r,w,n,M,N,l,cs,srow,d,g,qT_ N l ts nk,rfl,I3,J4,SqL.of (J4.sm _ _ ac),aa,fun H5 s5=>?_⟩
  have J5:=J4.same s5
  have t5:=t4.keep s5
  refine qlu_ (fun H6=>Same H' H6/\((qT_ N l ts nk).all (fx r w M N l (knO d)) || (chgL N l ts (srtN N nk)).all (fx r w M N l (knO d)))=true) (fun aC=>by
   cases hz:(qT_ N l ts nk).all (fx r w M N l (knO d)) with
   | true =>
    refine ⟨_,rfl,ite2 (fun y=>absurd y (by decide)) (fun _=>?_)⟩
    refine ite2 (fun y=>absurd y (by decide)) (fun _=>?_)
    exact aC H5 ⟨s5,by rw [hz];rfl⟩
   | false =>
    refine ⟨_,rfl,ite2 (fun _=>?_) (fun y=>absurd rfl y)⟩;refine ⟨_,rfl,R.A,U,_,rfl,J5.sm _ _ Z,rfl,_,rfl,Hb,R,CH,r,w,n,M,N,l,cs,srow,d,g,chgL N l ts (srtN N nk),rfl,I3,J5,SqL.of (J5.sm _ _ ai),ae,fun H6 s6=>?_⟩
    have J6:=J5.same s6
    have t6:=t5.keep s6
    cases hy:(chgL N l ts (srtN N nk)).all (fx r w M N l (knO d)) with
    | true =>
     refine ⟨_,rfl,ite2 (fun y=>absurd y (by decide)) (fun _=>?_)⟩
     exact aC H6 ⟨s5.trans s6,by rw [hz,hy];rfl⟩
    | false =>
     refine ⟨_,rfl,ite2 (fun _=>⟨_,fun _ _ z=>z,?_⟩) (fun y=>absurd rfl y)⟩;refine ⟨_,rfl,_,rfl,_,rfl,Hb,R,RS,CH,r,w,n,M,N,l,cs,srow,d,g,qT_ N l ts nk,chgL N l ts (srtN N nk),rfl,I3,J6,t6,az,ac,ai,aP,aa,aG,ae,aI,fun H7 ms J7 t7 pm pw=>⟨fun D an hn nD hD=>?_,fun hn=>?_⟩⟩
     ·obtain ⟨G,k0,am,e0⟩:=qfs_ hz hy pm aa ae hn
      refine ⟨_,rfl,rfl,_,rfl,?_⟩;refine ite2 (fun y=>absurd (bC y) (fun z=>by cases z)) (fun _=>?_)
      have ax:Hb D=none:=J6.sm.free nD;obtain ⟨a1,a2,a3,a4⟩:=J6.away nD;refine ⟨_,rfl,R.A,U,_,rfl,J7.sm _ _ Z,rfl,_,rfl,?_⟩;obtain ⟨Hc,sc,Ic,Jc,Tc⟩:=qnj_ (I3.ext ax a1 a2 a3 a4) (J7.ext hD) t7 B.d_Asking_order_next_way;refine ⟨Hc,R,D,r,w,n,M,N,l,cs,srow,d,g,an,rfl,Ic,Jc,SqL.of (sc _ _ qc_),fun x hx=>(G x hx).1,fun H8 J8=>?_⟩
      have J9:=J8.rebs ((Same.new ax).trans sc);refine ⟨(N+M) - (jb_ cs srow an d g).2.length,?_,_,_,_,rfl,rfl,J9,Tc.keep J8.sm,uu_ aE _ _ _ J4.osl (fun x hx=>(G x hx).1) ab,fun ah al b h=>aj _ _ _ (.step hz hy pm pw hn h)⟩
      have h1:=qjf_ (srow:=srow) (ks:=am) (os:=d) (G k0 (by rw [e0];exact .head _)).2
      have h2:=J9.asl;rw [e0] at h2 ⊢;omega
     ·refine ⟨_,rfl,rfl,_,rfl,?_⟩
      refine ite2 (fun _=>?_) (fun y=>absurd rfl y)
      exact (q H7 d g false (aj _ _ _ (.none hz hy pm pw hn)) ab (J7.rebs sb) t7).2 rfl) ?_
  rintro H6 ⟨s6,C⟩
  have J6:=J4.same s6
  have t6:=t4.keep s6;refine ⟨_,rfl,_,rfl,_,rfl,_,rfl,R.A,U,_,rfl,J6.sm _ _ Z,rfl,_,rfl,Hb,R,RS,r,w,n,M,N,l,cs,srow,d,g,qT_ N l ts nk,rfl,I3,J6,SqL.of (J6.sm _ _ ac),aa,fun H7 s7=>?_⟩
  have J7:=J6.same s7;refine ⟨Hb,R,nd,TL,(qT_ N l ts nk).all (fx r w M N l (knO d)),r,w,n,M,N,l,cs,srow,d,g,X,nk,ts,nb,rfl,I3,J7,(sb.trans J7.sm) _ _ Y,S,nlt,J7.sm _ _ ay,aA,O,⟨mx.len,mx.lt,mx.ism,ab⟩,fun hb t ht k hk ak aO=>?_,fun hb t ht=>⟨fun k hk ak=>?_,?_⟩,fun D H8 s8 nD hD=>?_⟩
  ·exact c5.mp hb k (restL_mem.mpr ⟨hk,aO,t,ht,ak⟩)
  ·rw [hb,dO] at C
   refine c5.mp C k (bU.mpr (.inl (bV.mpr ⟨(qX_ nlt).mpr hk,eZ.mpr ⟨t,ht,ak⟩⟩)))
  ·rw [hb,dO] at C
   exact c5.mp C _ (bU.mpr (.inr (cG.mpr ⟨t,ht,rfl⟩)))
  have J8:=J7.same s8;try dsimp only [L2.start,List.set,List.map,List.append,List.replicate,HAppend.hAppend,Append.append,List.length,Nat.reduceAdd,Nat.reduceSub]
  refine ⟨_,rfl,R.A,U,_,rfl,J8.sm _ _ Z,rfl,Hb,R,r,w,n,M,N,l,cs,srow,d,g,rfl,I3,J8,fun KL H9 s9 aQ aD=>?_⟩
  have au:=s9 _ _ hD
  have J9:=J8.same s9;refine ⟨KL,_,rfl,SqL.of aD,fun KN aF=>?_⟩
  have o8:d.length<=8:=by rw [J4.osl];exact n8
  have kl:(knV (knO d)).length=d.length:=by unfold knV;rw [b9,ju_]
  refine qix_ (xs:=knV (knO d)) (f:=fun i=>.bl ((d.getD i none).isSome || (jc_ N cs ts nk).contains i)) (cs:=[some (.ref D)]) (SqL.of aD) aF rfl (by rw [kl];exact bG o8 (by decide)) (fun i u H2 R2 hu s2 hR=>?_) (fun HA sA ap=>?_)
  ·have hi:i < d.length:=by rw [<- kl];exact (bK.mp hu).1
   have eu:u=.bl (d.getD i none).isSome:=by
    rw [<- qlj_,bE,cb hi] at hu;exact (bM hu).symm
   subst eu
   have dg:=DGet.k (k:=Sum.inl ((i:Nat):Int)) (s2 _ _ au);rw [jn_] at dg
   cases ho:(d.getD i none).isSome with
   | true =>
    rw [ho,Bool.true_or] at hR;refine ⟨_,rfl,_,rfl,ite2 (fun _=>hR _ (Same.refl _)) (fun y=>absurd rfl y)⟩
   | false =>
    rw [ho,dO] at hR;refine ⟨_,rfl,_,rfl,ite2 (fun y=>absurd y (by decide)) (fun _=>?_)⟩
    refine ⟨_,rfl,_,rfl,D,_,rfl,dg,?_⟩
    have ec:(if i∈jc_ N cs ts nk then some (V.int ((laidV r w n N l nk nb X i:Nat):Int)) else none).isSome=(jc_ N cs ts nk).contains i:=by
     by_cases z:i∈jc_ N cs ts nk
     ·rw [if_pos z,c9.mpr z];rfl
     ·rw [if_neg z]
      cases e:(jc_ N cs ts nk).contains i with
      | false=>rfl
      | true=>exact absurd (c9.mp e) z
    rw [ec];exact hR _ (Same.refl _)
  have ek:(List.range (knV (knO d)).length).map (fun i=>V.bl ((d.getD i none).isSome || (jc_ N cs ts nk).contains i))=knV (knL d (jc_ N cs ts nk)):=by
   unfold knL;rw [kl];unfold knV;rw [cq];rfl
  rw [ek] at ap
  have JA:=J9.same sA
  have nl:nk.length<=8:=bG (jf_ N nk S nlt) (by omega)
  refine ⟨_,rfl,_,rfl,_,rfl,nd,_,nk.map fun k=>((k:Nat):Int),rfl,(sb.trans JA.sm) _ _ Y,j8_ nk nb,by rw [b9];omega,fun sl ns nsl pm pw=>?_⟩
  rw [j1_ S nlt pm pw]
  have sS:=Same.new (o:=.lst (rowV (srtN N nk))) nsl
  have aq:=qc_ (H:=HA) (a:=sl) (o:=.lst (rowV (srtN N nk)));generalize (upd HA sl (.lst (rowV (srtN N nk))))=HB at sS aq
  have JB:=JA.same sS;refine ⟨R.c,R.bp,R.fp,KN,sl,r,w,n,M,N,l,knL d (jc_ N cs ts nk),srtN N nk,rfl,I.code.same (sb.trans JB.sm),I.full,I.W,sS _ _ ap,by unfold knL;rw [b9,bI,J4.osl],SqL.of aq,fun k hk=>?_,fun HC sC=>?_⟩
  ·have:=nlt k ((qX_ nlt).mp hk)
   omega
  have JC:=JB.same sC
  have aK:=s7.trans (s8.trans (s9.trans (sA.trans (sS.trans sC))));obtain ⟨qa,qb⟩:=q HC d g true (aj _ _ _ (.done C)) ab (JC.rebs sb) (t6.keep aK)
  cases hz:(srtN N nk).all (fx r w M N l (knL d (jc_ N cs ts nk))) with
  | true =>
   refine ⟨_,rfl,ite2 (fun y=>absurd y (by decide)) (fun _=>?_)⟩
   exact ⟨_,rfl,qa rfl hz D (sb.free (J7.sm.free nD)) ((sA.trans (sS.trans sC)) _ _ au)⟩
  | false =>
   refine ⟨_,rfl,ite2 (fun _=>?_) (fun y=>absurd rfl y)⟩;exact qb (by rw [hz];rfl)
theorem qc5_:∀ {ks:List Bool}{x:Nat},x < ks.length->ks.getD x false=false->jo_ (ks.set x true)+1=jo_ ks
 | [],x,h,_=>absurd h (cX x)
 | b :: ks,0,_,h=>by
  have h:b=false:=h;subst h;unfold jo_;rw [List.set_cons_zero,e9,e9];rfl
 | b :: ks,x+1,hx,h=>by
  have ih:=qc5_ (ks:=ks) (x:=x) (by simpa using hx) h
  unfold jo_ at ih ⊢;rw [List.set_cons_succ,e9,e9];omega
theorem vS_:∀ (rs:List Nat) (ks:List Bool),rs.Nodup->(∀ x∈rs,x < ks.length/\ks.getD x false=false)->jo_ (knW ks rs)+rs.length=jo_ ks
 | [],_,_,_=>rfl
 | x :: rs,ks,nd,h=>by
  have nd':=dI.mp nd
  have h1:=h x (.head _)
  have ih:=vS_ rs (ks.set x true) nd'.2 fun y hy=>by
   have h2:=h y (.tail _ hy)
   have ne:x≠y:=fun e=>nd'.1 (e ▸ hy);refine ⟨by rw [cZ];exact h2.1,?_⟩
   rw [b7,dC ne,← b7];exact h2.2
  have e:=qc5_ h1.1 h1.2
  show jo_ (knW (ks.set x true) rs)+(rs.length+1)=jo_ ks
  omega
theorem vT_ (R k:Nat):(List.replicate R false).getD k false=false:=by
 rw [b7,eS]
 split <;> rfl
theorem qc6_ (R:Nat):jo_ (List.replicate R false)=R:=by
 unfold jo_;rw [List.countP_replicate];rfl
theorem qbl_ (R:Nat):knO (List.replicate R none)=List.replicate R false:=by
 unfold knO;rw [List.map_replicate];rfl
theorem qft_ {r w M N k:Nat}{rs:List Nat} (g:GF.Good r w) (W:Wts w M N plainL) (hk:k < N+M) (nd:rs.Nodup) (hrs:∀ x∈rs,x < N+M):fx r w M N plainL (knW (List.replicate (N+M) false) rs) k=(rs.contains k || decide (N<=rs.length)):=by
 have hl:(knW (List.replicate (N+M) false) rs).length=N+M:=by rw [z8_,cV]
 have hg:=qfj_ (List.replicate (N+M) false) k (by rw [cV];exact hk) rs
 rw [vT_,dO] at hg;unfold fx;rw [hg]
 cases z:rs.contains k with
 | true=>rfl
 | false =>
  rw [dO,dO,qcs_ g W.m1 W.m2 W.n8 hl hk (by rw [hg,z])]
  have:=vS_ rs (List.replicate (N+M) false) nd fun x hx=>⟨by rw [cV];exact hrs x hx,vT_ _ _⟩
  rw [qc6_] at this;rw [decide_eq_decide];omega
theorem qlw_ {cs:List (Option Nat)}{as:List Nat}{x y:Nat} (h:mayB cs as y=true) (ne:y≠x):mayB cs (as++[x]) y=true:=by
 unfold mayB at h ⊢;rw [cC] at h ⊢;refine ⟨h.1,?_⟩
 have h2:=h.2;rw [eM] at h2 ⊢;rw [<- Bool.not_eq_true,c9] at h2 ⊢;intro z;rcases bU.mp z with z | z
 ·exact h2 z
 ·exact ne (bS.mp z)
theorem qc7_ {cs srow:List (Option Nat)}:∀ (rs:List Nat) (os:List (Option Nat)) (as:List Nat),rs.Nodup->(∀ x∈rs,mayB cs as x=true/\x < os.length/\(srow.getD x none).isSome=true)->(jb_ cs srow rs os as).2=as++rs/\knO (jb_ cs srow rs os as).1=knW (knO os) rs
 | [],os,as,_,_=>⟨(dA as).symm,rfl⟩
 | x :: rs,os,as,nd,h=>by
  have nd':=dI.mp nd;obtain ⟨h1,h2,h3⟩:=h x (.head _)
  have et:tk cs srow os as x=(os.set x (srow.getD x none),as++[x]):=by unfold tk;rw [if_pos h1]
  have eg:(os.set x (srow.getD x none)).getD x none=srow.getD x none:=by
   rw [b7,dS h2];rfl
  have ih:=qc7_ rs (os.set x (srow.getD x none)) (as++[x]) nd'.2 fun y hy=>by
   obtain ⟨k1,k2,k3⟩:=h y (.tail _ hy);exact ⟨qlw_ k1 (fun e=>nd'.1 (e ▸ hy)),by rw [cZ];exact k2,k3⟩
  have ek:knO (os.set x (srow.getD x none))=(knO os).set x true:=by
   unfold knO;rw [fH,h3]
  unfold jb_;rw [et];dsimp only;rw [eg,if_pos h3];refine ⟨by rw [ih.1,eI];rfl,?_⟩
  rw [ih.2,ek];rfl
theorem zI_ (cs:List (Option Nat)) (a b:List Nat):sumC cs (a++b)=sumC cs a+sumC cs b:=by
 unfold sumC;rw [cK,List.sum_append]
theorem qaw_ (cs:List (Option Nat)) (k:Nat):0<=ckO cs k:=by unfold ckO;omega
theorem zF_ (cs:List (Option Nat)) (x:Nat) (rs:List Nat):sumC cs (x :: rs)=ckO cs x+sumC cs rs:=by
 unfold sumC;rw [cN,List.sum_cons]
theorem yK_ (cs:List (Option Nat)):∀ rs:List Nat,0<=sumC cs rs
 | []=>fg _
 | x :: rs=>by
  rw [zF_]
  have:=yK_ cs rs
  have:=qaw_ cs x;omega
theorem qbm_ {xs:List V}{k:Nat}:cutV xs none (some (k:Int))=xs.take k:=by
 unfold cutV;rw [HT.sIx_none,HT.sIx_nat,List.drop_zero,Nat.sub_zero];rw [List.take_eq_take_iff];omega
theorem yC_ (cs:List (Option Nat)) (k:Nat):mayB cs [] k=(cs.getD k none).isSome:=by
 unfold mayB
 simp
theorem qc8_ {cs:List (Option Nat)}{k:Nat} (h:(cs.getD k none).isSome=true):valO (cs.getD k none)=.int (ckO cs k):=by
 unfold ckO
 cases e:cs.getD k none with
 | none=>rw [e] at h;cases h
 | some x=>rfl
theorem qfu_ (X:List Nat):rowV X=rowO (X.map some):=by
 unfold rowV rowO;rw [cq];rfl
def noN (cs:List (Option Nat)) (R:Nat):Nat:=(List.range R).countP fun j=>(cs.getD j none).isNone
theorem qpi_ {cs:List (Option Nat)}{R k:Nat}:noN (cs.set k none) R<=noN cs R+1:=by
 unfold noN
 induction R with
 | zero=>simp
 | succ R ih =>
  rw [di,List.countP_append,List.countP_append,List.countP_singleton,List.countP_singleton]
  by_cases z:k=R
  ·subst z
   have e:(List.range k).countP (fun j=>((cs.set k none).getD j none).isNone)=(List.range k).countP (fun j=>(cs.getD j none).isNone):=by
    refine List.countP_congr fun x hx=>?_
    have hx:=bQ.mp hx;rw [b7,dC (by omega),← b7]
   rw [e]
   split <;> split <;> omega
  ·have e:((cs.set k none).getD R none)=cs.getD R none:=by
    rw [b7,dC z,← b7]
   rw [e];omega
theorem qnk_ (cs:List Nat):noN (cs.map some) cs.length=0:=by
 unfold noN;rw [List.countP_eq_zero];intro k hk
 have hk:=bQ.mp hk;rw [b7,bE,b8 hk];exact fun y=>by cases y
inductive qie_ (vs:List V) (H:Hp) (Q:VK) (E_3:XK):Prop
 | mk:∀ (N M:Nat),vs=[.int N,.int M]->1<=M->M<=2->N<=8->(∀ D H' ps,Same H H'->H' D=some (.lst (List.map V.ref ps))->TabAt H' ps M (rowT N plainL)->Q (.ref D) H')->qie_ vs H Q E_3
theorem qfv_ (T:Txt K mg a):FnO P wo K mg base 1 a.f58 ["_law_data", "_law_sums"] qie_:=by
 refine T.x58.F.okA (k:=0) sc_plain (fun J A outer s H vs Q E hr h=>?_)
 ·obtain ⟨N,M,rfl,m1,m2,n8,q⟩:=h
  refine xx ?_;intro X_
  refine xc (qi_ (i:=2) sc_plain.nd rfl (Or.inl rfl) (q7_ (qa_ (qm_ uZ_ (q7_ (qa_ qf_ qb_)) (pv 0)) (qa_ (qJ_ (CompOk.of (cap:=[]) (own:=["_law_role"]) (by kernel_rfl)) rfl (qL_ rfl T.n_range (qa_ (pv 0) qb_)) (fun _ _ _ _ _=>(ql_ (i:=0) (bC (by kernel_rfl)) rfl (Or.inl rfl))) (fun _ _ _ _ _=>qI_) (fun _ _ _ _ _=>by exact (qm_ qE_ (pv 0) qf_))) qb_)))) ?_
  intro u_;refine xl (qo_ (zV_ v2_ (pv 2) v0_ (v1_ (pv 1)))) ?_;intro u_;refine ⟨(show 1<=sizeLine by decide),fun p1 n1=>⟨_,rfl,p1,_,_,rfl,rfl,qc_,by omega,by omega,?_,fun p2 n2=>?_⟩⟩
  ·rw [cx]
   show 1 * N<=sizeLine
   exact bG (by omega:1 * N<=30) (by decide)
  have e0:rowT N plainL 0=List.replicate N 1:=by
   unfold rowT
   show ((List.range N).map fun _=>1)=_
   rw [List.map_const',bI]
  have eR:(List.replicate ((N:Int)).toNat [V.int 1]).flatten=rowV (rowT N plainL 0):=by
   rw [cx,e0];exact qbe_ N 1
  rw [eR]
  have sP:=(Same.new (o:=.lst [V.int 1]) n1).trans (Same.new (o:=.lst (rowV (rowT N plainL 0))) n2)
  have g:(upd (upd H p1 (.lst [V.int 1])) p2 (.lst (rowV (rowT N plainL 0)))) p2=some (.lst (rowV (rowT N plainL 0))):=qc_;generalize (upd (upd H p1 (.lst [V.int 1])) p2 (.lst (rowV (rowT N plainL 0))))=Hp at sP g;refine ⟨_,rfl,_,rfl,by omega,by omega,fun cp B=>?_⟩
  rw [cx];refine ui_ (n:=N) (f:=fun i=>.int ((plainL 1 i:Nat):Int)) (cs:=[]) B rfl (bG n8 (by decide)) (fun i Hx Rx hi sx hR=>?_) (fun Hq sQ r=>?_)
  ·refine ⟨_,rfl,_,_,rfl,rfl,?_⟩
   have e:(i:Int)+1=((plainL 1 i:Nat):Int):=by
    unfold plainL;rw [if_neg (by decide)]
    omega
   try dsimp only
   rw [e];exact hR _ (Same.refl _)
  have G:((List.range N).map fun i=>V.int ((plainL 1 i:Nat):Int))=rowV (rowT N plainL 1):=by
   unfold rowV rowT;rw [cq];rfl
  rw [G] at r;refine ⟨(show 2<=sizeLine by decide),fun LL D=>?_⟩
  have sL:=Same.new (o:=.lst [V.ref p2,V.ref cp]) D
  have d:(upd Hq LL (.lst [V.ref p2,V.ref cp])) LL=some (.lst (List.map V.ref [p2,cp])):=qc_
  have l:=sP.trans (sQ.trans sL)
  have h2:=sL _ _ (sQ _ _ g)
  have h3:=sL _ _ r;generalize (upd Hq LL (.lst [V.ref p2,V.ref cp]))=Hl at l d h2 h3;refine ⟨_,rfl,_,rfl,_,rfl,LL,_,rfl,SqL.of d,fun sl nsl=>?_⟩;rw [qbm_,← List.map_take]
  have sS:=Same.new (o:=.lst (([p2,cp].take M).map V.ref)) nsl
  have I:(upd Hl sl (.lst (([p2,cp].take M).map V.ref))) sl=some (.lst (([p2,cp].take M).map V.ref)):=qc_
  have C:TabAt (upd Hl sl (.lst (([p2,cp].take M).map V.ref))) ([p2,cp].take M) M (rowT N plainL):=⟨by rw [dv];show min M 2=M;omega,fun i p e=>by
   rw [List.getElem?_take] at e
   split at e
   ·match i,e with
    | 0,e=>cases bM e;exact sS _ _ h2
    | 1,e=>cases bM e;exact sS _ _ h3
   ·cases e⟩
  exact q sl _ _ (l.trans sS) I C
inductive qlx_ (vs:List V) (H:Hp) (Q:VK) (E_3:XK):Prop
 | mk:∀ (c:Int) (R M:Nat) (ch:Addr) (cs:List Nat),vs=[.int c,.int R,.int M,.ref ch]->2<=R->R<=8->M<=2->H ch=some (.lst (rowV cs))->cs.length=R->((∀ x∈cs,x<=9))->(∀ H' (cs':List (Option Nat)),(∀ b o,b≠ch->H b=some o->H' b=some o)->H' ch=some (.lst (rowO cs'))->cs'.length=R->(∀ j,(cs'.getD j none).getD 0<=9)->noN cs' R<=M->Q (.ref ch) H')->qlx_ vs H Q E_3
theorem qpj_ (T:Txt K mg a):FnO P wo K mg base 1 a.f61 ["_law_cell_here", "_law_roles", "_law_sums", "_law_costs_here"] qlx_:=by
 refine T.x61.F.okA (k:=0) sc_lost (fun C A outer s H vs Q E hr h=>?_)
 ·obtain ⟨c,R,M,ch,cs,rfl,r2,r8,m2,r,hl,h9,q⟩:=h
  refine xx ?_;intro X_;refine xc (qi_ (i:=4) sc_lost.nd rfl (Or.inl rfl) (qm_ jN_ (pv 0) (qm_ qE_ (pv 2) qf_))) ?_;intro u_;refine xc (qi_ (i:=5) sc_lost.nd rfl (Or.inl rfl) (qm_ qW_ (pv 4) (pv 1))) ?_;intro u_;refine xc (qi_ (i:=6) sc_lost.nd rfl (Or.inl rfl) (qm_ qW_ (qm_ qE_ (qm_ qE_ (pv 5) qf_) (qm_ qW_ (qm_ jN_ (pv 4) (pv 1)) (qm_ yj_ (pv 1) qf_))) (pv 1))) ?_;intro u_;refine xq ?_;refine xf PassesOwn.never rfl (qB_ (zV_ v2_ (q7_ (qa_ (pv 5) (qa_ (pv 6) qb_))) v0_ (v1_ (qm_ qW_ (pv 0) (qm_ qE_ (pv 2) qf_))))) (ql_ (i:=7) sc_lost.nd rfl (Or.inl rfl)) ?_;refine xl (yM_ qG_ (zb_ (pv 3) (pv 7) yg_)) ?_;intro u_;intro u_;refine xl (qo_ (pv 3)) ?_;intro u_
  have hM:(0:Int) < (M:Int)+1:=by omega
  have hR:(0:Int) < (R:Int):=by omega
  obtain ⟨o,eo,ho⟩:∃ o:Nat,(c / ((M:Int)+1)) % (R:Int)=(o:Int)/\o < R:=by
   have h1:=fF (c / ((M:Int)+1)) (Int.ne_of_gt hR)
   have h2:=fj (c / ((M:Int)+1)) hR;exact ⟨_,(Int.toNat_of_nonneg h1).symm,by omega⟩
  obtain ⟨t,et,ht⟩:∃ t:Nat,((o:Int)+1+(c / ((M:Int)+1)) / (R:Int) % ((R:Int) - 1)) % (R:Int)=(t:Int)/\t < R:=by
   have h1:=fF ((o:Int)+1+(c / ((M:Int)+1)) / (R:Int) % ((R:Int) - 1)) (Int.ne_of_gt hR)
   have h2:=fj ((o:Int)+1+(c / ((M:Int)+1)) / (R:Int) % ((R:Int) - 1)) hR;exact ⟨_,(Int.toNat_of_nonneg h1).symm,by omega⟩
  obtain ⟨m,em,hm⟩:∃ m:Nat,c % ((M:Int)+1)=(m:Int)/\m<=M:=by
   have h1:=fF c (Int.ne_of_gt hM)
   have h2:=fj c hM;exact ⟨_,(Int.toNat_of_nonneg h1).symm,by omega⟩
  refine ⟨_,rfl,_,rfl,_,_,rfl,rfl,_,_,rfl,rfl,⟨by omega,by omega⟩,?_⟩
  refine ⟨_,rfl,_,rfl,_,_,rfl,rfl,hR,?_⟩;try dsimp only [L2.start,List.set,List.map,List.append,List.replicate,HAppend.hAppend,Append.append,List.length,Nat.reduceAdd,Nat.reduceSub]
  rw [eo];refine ⟨_,rfl,_,_,rfl,rfl,_,rfl,_,rfl,_,_,rfl,rfl,⟨by omega,by omega⟩,_,rfl,_,_,rfl,rfl,_,_,rfl,rfl,by omega,_,_,rfl,rfl,_,rfl,_,_,rfl,rfl,hR,?_⟩
  try dsimp only [L2.start,List.set,List.map,List.append,List.replicate,HAppend.hAppend,Append.append,List.length,Nat.reduceAdd,Nat.reduceSub]
  rw [et];refine ⟨_,rfl,_,rfl,(show 2<=sizeLine by decide),fun LL l=>⟨_,rfl,_,rfl,_,_,rfl,rfl,_,_,rfl,rfl,hM,_,rfl,LL,_,rfl,SqL.of qc_,fun sl nsl=>?_⟩⟩
  rw [em,qbm_]
  have s1:=(Same.new (o:=.lst [V.int (o:Nat),V.int (t:Nat)]) l).trans (Same.new (o:=.lst ([V.int (o:Nat),V.int (t:Nat)].take m)) nsl)
  have g:(upd (upd H LL (.lst [V.int (o:Nat),V.int (t:Nat)])) sl (.lst ([V.int (o:Nat),V.int (t:Nat)].take m))) sl=some (.lst ([V.int (o:Nat),V.int (t:Nat)].take m)):=qc_
  have B:sl≠ch:=fun y=>by
   have:=(Same.new (o:=.lst [V.int (o:Nat),V.int (t:Nat)]) l) _ _ r;rw [<- y,nsl] at this
   cases this
  generalize (upd (upd H LL (.lst [V.int (o:Nat),V.int (t:Nat)])) sl (.lst ([V.int (o:Nat),V.int (t:Nat)].take m)))=H1 at s1 g;refine ⟨sl,rfl,⟨_,SqL.of g⟩,?_⟩;refine let I_:Nat->L2.St->Hp->Prop:=fun i σ H'=>L2.A3 ((∃ v7:Option V,σ=[some (.int c),some (.int (R:Nat)),some (.int (M:Nat)),some (.ref ch),some (.int (c / ((M:Int)+1))),some (.int (o:Nat)),some (.int (t:Nat)),v7])) ((∀ b o,b≠ch->H1 b=some o->H' b=some o)) (L2.E1 fun (d:List (Option Nat))=>L2.A4 (H' ch=some (.lst (rowO d))) (d.length=R) ((∀ j,(d.getD j none).getD 0<=9)) (noN d R<=i));ji_ (xs:=[V.int (o:Nat),V.int (t:Nat)].take m) I_ ⟨⟨none,rfl⟩,fun b o _ e=>e,cs.map some,?_,by rw [b9,hl],fun j=>?_,by rw [<- hl,qnk_];exact bF _⟩ ?_ ?_ ?_
  ·rw [s1 _ _ r,qfu_]
  ·rw [b7,bE]
   cases e:cs[j]? with
   | none=>exact cn _
   | some x=>exact h9 x (bO e)
  ·rintro i σ H' _ ⟨_,k1,_⟩
   exact SqL.of (k1 _ _ B g)
  ·rintro i x σ H' hx ⟨⟨v7,rfl⟩,k1,d,h1,h2,h3,h4⟩
   obtain ⟨k,rfl,hk⟩:∃ k:Nat,x=.int (k:Nat)/\k < R:=by
    have hx:=dr (bO hx);rcases bL.mp hx with y | y
    ·exact ⟨o,y,ho⟩
    ·exact ⟨t,bS.mp y,ht⟩
   refine ⟨_,rfl,_,rfl,ch,_,_,k,rfl,rfl,h1,yx_ (by rw [qK_,h2];exact hk),?_⟩
   refine ⟨⟨_,rfl⟩,fun b o n e=>by rw [qd_ n];exact k1 b o n e,d.set k none,?_,by rw [cZ,h2],fun j=>?_,bG qpi_ (by omega)⟩
   ·rw [qc_,show V.non=valO none from rfl,qfc_]
   ·rw [b7,List.getElem?_set]
    split
    ·split <;> exact cn _
    ·rw [<- b7];exact h3 j
  ·rintro σ H' ⟨⟨v7,rfl⟩,k1,d,h1,h2,h3,h4⟩
   refine ⟨_,rfl,q H' d (fun b o n e=>k1 b o n (s1 b o e)) h1 h2 h3 (bG h4 (bG (List.length_take_le ..) hm))⟩
theorem qc9_ (t k:Nat):tch plainL t k=true:=by
 unfold tch plainL;refine bN ?_
 split <;> omega
theorem qda_ {ts:List Nat} (h:ts≠[]) (k:Nat):(ts.any fun t=>tch plainL t k)=true:=by
 cases ts with
 | nil=>exact absurd rfl h
 | cons t ts=>rw [fw,qc9_,Bool.true_or]
theorem qif_ {N:Nat}{nk:List Nat} (nlt:∀ k∈nk,k < N) (h:nk≠[]):srtN N nk≠[]:=fun e=>by
 cases nk with
 | nil=>exact h rfl
 | cons k nk =>
  have:=(qX_ nlt).mpr (.head nk);rw [e] at this
  cases this
def thrL (M N:Nat) (cs:List (Option Nat)):List Nat:=(List.range M).filter fun t=>(cs.getD (N+t) none).isSome
theorem qly_ {M N:Nat}{cs:List (Option Nat)}{nk:List Nat} (nlt:∀ k∈nk,k < N) (h:nk≠[]):totL M N plainL cs (srtN N nk)=thrL M N cs:=by
 unfold totL thrL;refine List.filter_eq_self.mpr fun t _=>?_;obtain ⟨k,hk⟩:=List.exists_mem_of_ne_nil _ (qif_ nlt h);exact eZ.mpr ⟨k,hk,qc9_ t k⟩
theorem thr_mem {M N x:Nat}{cs:List (Option Nat)}:x∈thrL M N cs ↔ x < M/\(cs.getD (N+x) none).isSome=true:=by
 unfold thrL;rw [bV,bQ]
theorem qjg_ {N:Nat}{ts nk:List Nat} (h:ts≠[]):qT_ N plainL ts nk=(List.range N).filter fun k=>!nk.contains k:=by
 unfold qT_;refine List.filter_congr fun k _=>?_;rw [qda_ h,fD]
theorem qlz_ {N:Nat}{ts rs:List Nat} (h:ts≠[]):chgL N plainL ts rs=rs++ts.map fun t=>N+t:=by
 unfold chgL
 congr 1
 exact List.filter_eq_self.mpr fun k _=>qda_ h k
theorem qnl_ {N:Nat}{nk:List Nat}:qT_ N plainL [] nk=[]:=by
 unfold qT_;refine List.filter_eq_nil_iff.mpr fun k _=>?_;rw [List.any_nil,Bool.and_false];exact fun y=>by cases y
theorem qpk_ {N:Nat}{rs:List Nat}:chgL N plainL [] rs=[]:=by
 unfold chgL;rw [fG,dA];exact List.filter_eq_nil_iff.mpr fun k _ y=>by cases y
theorem qfw_ {r w M N k:Nat}{ks:List Bool} (g:GF.Good r w) (W:Wts w M N plainL) (hks:ks.length=N+M) (hk:k < N+M):fx r w M N plainL ks k=(ks.getD k false || decide (jo_ ks<=M)):=by
 unfold fx
 cases z:ks.getD k false with
 | true=>rfl
 | false=>rw [dO,dO,qcs_ g W.m1 W.m2 W.n8 hks hk z]
theorem y7_ (os:List (Option Nat)) (L:List Nat):(knL os L).length=os.length:=by unfold knL;rw [b9,bI]
theorem uQ_ {os:List (Option Nat)}{L:List Nat}{k:Nat} (hk:k < os.length):(knL os L).getD k false=((knO os).getD k false || L.contains k):=by
 unfold knL knO;rw [b7,bE,cb hk,da,Option.getD_some,b7,b7,bE,b8 hk];rfl
theorem vb_ {r w M N:Nat}{cs os:List (Option Nat)}{L:List Nat} (g:GF.Good r w) (W:Wts w M N plainL) (hos:os.length=N+M) (hno:noN cs (N+M)<=M) {rs:List Nat} (hrs:∀ k∈rs,k < N+M)
  (h:(∀ k∈rs,k∈L)\/∀ x,x < N+M->(knO os).getD x false=false->x∉L->(cs.getD x none).isNone=true):rs.all (fx r w M N plainL (knL os L))=true:=by
 refine c5.mpr fun k hk=>?_
 have d:=hrs k hk;rw [qfw_ g W (by rw [y7_];exact hos) d]
 rcases h with h | h
 ·rw [uQ_ (by omega),c9.mpr (h k hk),dX,Bool.true_or]
 ·have:jo_ (knL os L)<=M:=by
   rw [yI_,y7_,hos];refine bG (List.countP_mono_left fun x hx y=>?_) hno
   have hx:=bQ.mp hx;rw [uQ_ (by omega)] at y
   rw [eM,Bool.or_eq_false_iff] at y;refine h x hx y.1 fun z=>?_;rw [c9.mpr z] at y
   cases y.2
  rw [bN this,dX]
theorem qpl_ {α:Type}{f:α->Int}{xs:List α}{x:α} (h:pick f xs=some x):∀ y∈xs,f x<=f y:=fun y hy=>by
 have h0:0 < xs.length:=List.length_pos_of_mem hy;obtain ⟨i,x',h1,h2,h3⟩:=yU_ (f:=f) (d:=y) h0;rw [h] at h2
 cases h2;obtain ⟨j,hj,e⟩:=List.getElem_of_mem hy
 have:=(h3 j hj).1
 have e1:xs.getD i y=x:=by rw [b7,h1];rfl
 have e2:xs.getD j y=y:=by rw [b7,b8 hj,e];rfl
 dsimp only at this;rw [e1,e2] at this;exact this
theorem vc_ {cs:List (Option Nat)}:∀ {L rs:List Nat},L.Nodup->(∀ k∈L,k∈rs)->sumC cs L<=sumC cs rs
 | [],rs,_,_=>yK_ cs rs
 | k :: L,rs,nd,h=>by
  obtain ⟨s,t,e⟩:=List.append_of_mem (h k (.head _))
  have nd':=dI.mp nd
  have ih:=vc_ (cs:=cs) (L:=L) (rs:=s++t) nd'.2 fun x hx=>by
   have:=h x (.tail _ hx);rw [e] at this;rcases bU.mp this with y | y
   ·exact bU.mpr (.inl y)
   ·rcases bL.mp y with z | z
    ·subst z;exact absurd hx nd'.1
    ·exact bU.mpr (.inr z)
  rw [e,zI_,zF_,zF_];rw [zI_] at ih;omega
def qD_ (cs:List (Option Nat)) (L:List Nat):Option Int:=if L.all (fun k=>(cs.getD k none).isSome)=true then some (sumC cs L) else none
def minO (s:Int):Option Int->Int
 | some x=>if x < s then x else s
 | none=>s
theorem qn6_ {r w M N:Nat}{L ms:List Nat} (g:GF.Good r w) (W:Wts w M N plainL) (nd:ms.Nodup) (lt:∀ x∈ms,x < N+M) (hN:N<=ms.length) (hL:∀ k∈L,k < N+M):∃ j,j<=N/\detO r w M N plainL (List.replicate (N+M) false) ms L=some (ms.take j)/\(j=N\/∀ k∈L,k∈ms.take j)/\L.all (fx r w M N plainL (knW (List.replicate (N+M) false) (ms.take j)))=true:=by
 have h:∀ i,i<=ms.length->∀ k,k < N+M->fx r w M N plainL (knW (List.replicate (N+M) false) (ms.take i)) k=((ms.take i).contains k || decide (N<=i)):=fun i hi k hk=>by
  rw [qft_ g W hk (nd.sublist (fz i ms)) fun x hx=>lt x (dr hx),dv,fE hi]
 have d:L.all (fx r w M N plainL (knW (List.replicate (N+M) false) (ms.take N)))=true:=c5.mpr fun k hk=>by
  rw [h N hN k (hL k hk),bN (bF N),dX]
 cases hf:(List.range (ms.length+1)).find? fun j=>L.all (fx r w M N plainL (knW (List.replicate (N+M) false) (ms.take j))) with
 | none =>
  have:=List.find?_eq_none.mp hf N (bQ.mpr (by omega))
  exact absurd d this
 | some j =>
  have hj:=List.find?_some hf;obtain ⟨_,i,hi,e,s⟩:=List.find?_eq_some_iff_getElem.mp hf;rw [List.getElem_range] at e;subst e;rw [bI] at hi
  have l:i<=N:=by
   by_cases y:i<=N
   ·exact y
   ·have:=s N (by omega)
    rw [List.getElem_range,d] at this
    cases this
  refine ⟨i,l,by unfold detO;rw [hf];rfl,?_,hj⟩
  by_cases y:i=N
  ·exact .inl y
  ·refine .inr fun k hk=>?_
   have:=c5.mp hj k hk;rw [h i (by omega) k (hL k hk),bY (by omega),Bool.or_false] at this
   exact c9.mp this
theorem qnm_ {M N:Nat}{cs:List (Option Nat)} (hno:noN cs (N+M)<=M) (h:thrL M N cs=[]):∀ k,k < N->(cs.getD k none).isSome=true:=fun k hk=>by
 cases e:(cs.getD k none).isSome with
 | true=>rfl
 | false =>
  have h1:∀ t,t < M->(cs.getD (N+t) none).isNone=true:=fun t ht=>by
   cases z:cs.getD (N+t) none with
   | none=>rfl
   | some b =>
    have:t∈thrL M N cs:=thr_mem.mpr ⟨ht,by rw [z];rfl⟩
    rw [h] at this
    cases this
  have h2:M+1<=noN cs (N+M):=by
   unfold noN;rw [List.range_add,List.countP_append,List.countP_map]
   have a1:(List.range M).countP ((fun j=>(cs.getD j none).isNone) ∘ fun x=>N+x)=M:=by
    have:=List.countP_eq_length (l:=List.range M) (p:=(fun j=>(cs.getD j none).isNone) ∘ fun x=>N+x);rw [bI] at this;exact this.mpr fun t ht=>h1 t (bQ.mp ht)
   have a2:0 < (List.range N).countP fun j=>(cs.getD j none).isNone:=List.countP_pos_iff.mpr ⟨k,bQ.mpr hk,by
    cases z:cs.getD k none with
    | none=>rfl
    | some b=>rw [z] at e;cases e⟩
   grind
  grind
theorem zo_ {N:Nat}{cs:List (Option Nat)}{ts nk:List Nat}{x:Nat} (nlt:∀ k∈nk,k < N):x∈jc_ N cs ts nk ↔ (x∈nk/\(cs.getD x none).isSome=true)\/∃ t∈ts,N+t=x:=by
 unfold jc_;rw [bU,bV,cG,qX_ nlt]
theorem qnn_ {r w M N:Nat}{l:Nat->Nat->Nat}{cs srow os os':List (Option Nat)}{as as' L L':List Nat}{b:Bool} (e:(L.all (fx r w M N l (knO os)) || L'.all (fx r w M N l (knO os)))=true) (h:WrS r w M N l cs srow L L' os as os' as' b):os'=os/\as'=as/\b=true:=by
 cases h with
 | done _=>exact ⟨rfl,rfl,rfl⟩
 | none e1 e2=>rw [e1,e2] at e;cases e
 | step e1 e2=>rw [e1,e2] at e;cases e
theorem ql0_ {r w M N:Nat}{os:List (Option Nat)}{L rs:List Nat} (g:GF.Good r w) (W:Wts w M N plainL) (hos:os.length=N+M) (hg:jo_ (knO os)<=M) (hrs:∀ k∈rs,k < N+M):rs.all (fx r w M N plainL (knL os L))=true:=by
 refine c5.mpr fun k hk=>?_;rw [qfw_ g W (by rw [y7_];exact hos) (hrs k hk)]
 have:jo_ (knL os L)<=M:=by
  refine bG ?_ hg;rw [yI_,yI_,y7_,ju_];refine List.countP_mono_left fun x hx y=>?_
  have hx:=bQ.mp hx;rw [uQ_ hx,eM,Bool.or_eq_false_iff] at y;rw [y.1];rfl
 rw [bN this,dX]
theorem qfx_ {cs:List (Option Nat)}{M N:Nat}{ms:List Nat} (pm:ms.Perm ((List.range (N+M)).filter (mayB cs []))) (hno:noN cs (N+M)<=M):N<=ms.length:=by
 have h1:ms.length=(List.range (N+M)).countP (mayB cs []):=by rw [pm.length_eq,List.countP_eq_length_filter]
 have h2:=List.length_eq_countP_add_countP (l:=List.range (N+M)) (mayB cs []);rw [bI] at h2
 have h3:(List.range (N+M)).countP (fun a=>decide ¬mayB cs [] a=true)<=noN cs (N+M):=by
  refine List.countP_mono_left fun x _ y=>?_
  have y:=bC y;rw [yC_] at y
  cases e:cs.getD x none with
  | none=>rfl
  | some b=>rw [e] at y;exact absurd rfl y
 grind
theorem qn7_ {r w M N:Nat}{cs os':List (Option Nat)}{nk as' X:List Nat}{b:Bool}{S:Int} (g:GF.Good r w) (W:Wts w M N plainL) (hX:X.length=N+M) (hno:noN cs (N+M)<=M) (nlt:∀ k∈nk,k < N) (n0:nk≠[]) (hol:os'.length=N+M)
  (hS:thrL M N cs≠[]->∀ ms:List Nat,ms.Perm ((List.range (N+M)).filter (mayB cs []))->ms.Pairwise (klt (ckO cs))->S=sumC cs (ms.take N)) (hS0:thrL M N cs≠[]->0<=S)
  (h:WrS r w M N plainL cs (X.map some) (qT_ N plainL (thrL M N cs) nk) (chgL N plainL (thrL M N cs) (srtN N nk)) (List.replicate (N+M) none) [] os' as' b) :
  b=true/\(srtN N nk).all (fx r w M N plainL (knL os' (jc_ N cs (thrL M N cs) nk)))=true/\(∀ x∈as',(cs.getD x none).isSome=true) ∧
   sumC cs as'=if thrL M N cs=[] then 0 else minO (minO S (qD_ cs ((List.range N).filter fun k=>!nk.contains k))) (qD_ cs (srtN N nk++(thrL M N cs).map fun t=>N+t)):=by
 have n1:=W.n1
 have C:∀ k∈srtN N nk,k < N+M:=fun k hk=>by
  have:=nlt k ((qX_ nlt).mp hk)
  grind
 have aj:∀ k,k < N+M->fx r w M N plainL (knO (List.replicate (N+M) none)) k=false:=fun k hk=>by
  have:=qft_ (rs:=[]) g W hk List.nodup_nil (fun x hx=>absurd hx ca);rw [qbl_];refine Eq.trans this ?_;rw [bY (by show ¬ N<=0;grind)]
  rfl
 have aa:∀ L:List Nat,(∀ k∈L,k < N+M)->L.all (fx r w M N plainL (knO (List.replicate (N+M) none)))=true->L=[]:=fun L hL e=>by
  cases L with
  | nil=>rfl
  | cons k L =>
   have:=c5.mp e k (.head _);rw [aj k (hL k (.head _))] at this
   cases this
 by_cases ht:thrL M N cs=[]
 ·rw [ht] at h ⊢
  rw [qnl_,qpk_] at h;rw [if_pos rfl]
  cases h with
  | done _ =>
   refine ⟨rfl,vb_ g W hol hno C (.inl fun k hk=>?_),fun x hx=>absurd hx ca,rfl⟩
   have hk:=(qX_ nlt).mp hk;exact (zo_ nlt).mpr (.inl ⟨hk,qnm_ hno ht k (nlt k hk)⟩)
  | none e=>cases e
  | step e=>cases e
 ·rw [if_neg ht]
  rw [qjg_ ht,qlz_ ht] at h
  have hS:=hS ht
  have hS0:=hS0 ht
  have aw:∀ t∈thrL M N cs,t < M:=fun t h=>(thr_mem.mp h).1
  have G:∀ k∈(List.range N).filter fun k=>!nk.contains k,k < N+M:=fun k hk=>by
   have:=bQ.mp (bV.mp hk).1
   grind
  have au:∀ {k},k < N->k∉nk->k∈(List.range N).filter fun k=>!nk.contains k:=fun {k} h1 h2=>bV.mpr ⟨bQ.mpr h1,by
   cases e:nk.contains k with
   | false=>rfl
   | true=>exact absurd (c9.mp e) h2⟩
  have D:∀ k∈srtN N nk++(thrL M N cs).map fun t=>N+t,k < N+M:=fun k hk=>by
   rcases bU.mp hk with h | h
   ·exact C k h
   ·obtain ⟨t,h1,rfl⟩:=cG.mp h
    have:=aw t h1
    grind
  have cne:srtN N nk++(thrL M N cs).map (fun t=>N+t)≠[]:=fun e=>qif_ nlt n0 (List.append_eq_nil_iff.mp e).1
  have ak:((List.range N).filter fun k=>!nk.contains k).Nodup:=cL _ d6
  have am:(srtN N nk++(thrL M N cs).map fun t=>N+t).Nodup:=List.nodup_append.mpr ⟨cL _ d6,List.pairwise_map.mpr ((cL _ d6:(thrL M N cs).Nodup).imp fun h e=>h (by grind)),fun x hx y hy e=>by
   obtain ⟨t,_,rfl⟩:=cG.mp hy
   have:=nlt x ((qX_ nlt).mp hx)
   grind⟩
  have B:(∀ k∈(List.range N).filter fun k=>!nk.contains k,(knO os').getD k false=true)->(srtN N nk).all (fx r w M N plainL (knL os' (jc_ N cs (thrL M N cs) nk)))=true:=fun hr=>by
   refine vb_ g W hol hno C (.inr fun x hx aC ah=>?_)
   cases hc:cs.getD x none with
   | none=>rfl
   | some c =>
    exfalso
    have hs:(cs.getD x none).isSome=true:=by rw [hc];rfl
    by_cases hxN:x < N
    ·by_cases hxk:x∈nk
     ·exact ah ((zo_ nlt).mpr (.inl ⟨hxk,hs⟩))
     ·have:=hr x (au hxN hxk)
      rw [aC] at this
      cases this
    ·refine ah ((zo_ nlt).mpr (.inr ⟨x - N,thr_mem.mpr ⟨by grind,?_⟩,by grind⟩))
     rw [show N+(x - N)=x by grind]
     exact hs
  have J:(∀ k∈srtN N nk,(cs.getD k none).isSome=true)->(srtN N nk).all (fx r w M N plainL (knL os' (jc_ N cs (thrL M N cs) nk)))=true:=fun hc =>
   vb_ g W hol hno C (.inl fun k hk=>(zo_ nlt).mpr (.inl ⟨(qX_ nlt).mp hk,hc k hk⟩))
  generalize aG:((List.range N).filter fun k=>!nk.contains k)=Re at *;generalize ax:(srtN N nk++(thrL M N cs).map fun t=>N+t)=Ch at *
  have T:∀ L:List Nat,(∀ k∈L,k < N+M)->q2_ r w M N plainL cs [] (knO (List.replicate (N+M) none)) L=(qD_ cs L).toList.map fun c=>(c,L):=fun L hL=>by
   have e:unfL r w M N plainL (knO (List.replicate (N+M) none)) L=L:=List.filter_eq_self.mpr fun k hk=>by rw [aj k (hL k hk)];rfl
   have e2:L.all (mayB cs [])=L.all fun k=>(cs.getD k none).isSome:=by
    congr 1
    funext k
    exact yC_ cs k
   unfold q2_ qD_;rw [e,e2]
   split
   ·rfl
   ·rfl
  have an:∀ ms:List Nat,ms.Perm ((List.range (N+M)).filter (mayB cs []))->∃ d j,j<=N/\d=ms.take j/\(j=N\/(∀ k∈Re,k∈d)\/∀ k∈Ch,k∈d)/\(Re.all (fx r w M N plainL (knW (List.replicate (N+M) false) d)) || Ch.all (fx r w M N plainL (knW (List.replicate (N+M) false) d)))=true/\ye_ r w M N plainL cs [] (knO (List.replicate (N+M) none)) ms Re Ch=((qD_ cs Re).toList.map fun c=>(c,Re))++((qD_ cs Ch).toList.map fun c=>(c,Ch))++[(sumC cs d,d)]:=fun ms pm=>by
   have nd:ms.Nodup:=pm.nodup_iff.mpr (cL _ d6)
   have lt:∀ x∈ms,x < N+M:=fun x hx=>bQ.mp (bV.mp (pm.mem_iff.mp hx)).1
   have hN:=qfx_ pm hno;obtain ⟨j1,a1,a2,a3,a4⟩:=qn6_ g W nd lt hN G;obtain ⟨j2,b1,b2,b3,b4⟩:=qn6_ g W nd lt hN D
   have ad:jU_ r w M N plainL (knO (List.replicate (N+M) none)) ms Re Ch=[ms.take j1,ms.take j2]:=by
    unfold jU_;rw [qbl_,a2,b2];rfl
   have fin:∀ d,pick (fun d:List Nat=>((d.length:Nat):Int)) [ms.take j1,ms.take j2]=some d->ye_ r w M N plainL cs [] (knO (List.replicate (N+M) none)) ms Re Ch=((qD_ cs Re).toList.map fun c=>(c,Re))++((qD_ cs Ch).toList.map fun c=>(c,Ch))++[(sumC cs d,d)]:=fun d hd=>by
    unfold ye_;rw [ad,hd,T Re G,T Ch D];rfl
   cases hd:pick (fun d:List Nat=>((d.length:Nat):Int)) [ms.take j1,ms.take j2] with
   | none=>cases qc3_ hd
   | some d =>
    have hm:=va_ hd;rcases bL.mp hm with e | e
    ·refine ⟨d,j1,a1,e,?_,by rw [e,a4];rfl,fin d hd⟩
     rcases a3 with y | y
     ·exact .inl y
     ·exact .inr (.inl (by rw [e];exact y))
    ·have e:=bS.mp e
     refine ⟨d,j2,b1,e,?_,by rw [e,b4,dX],fin d hd⟩
     rcases b3 with y | y
     ·exact .inl y
     ·exact .inr (.inr (by rw [e];exact y))
  cases h with
  | done e =>
   have eR:Re=[]:=by
    rcases dP _ _ ▸ e with e | e
    ·exact aa Re G e
    ·exact absurd (aa Ch D e) cne
   refine ⟨rfl,B (by rw [eR];exact fun k hk=>absurd hk ca),fun x hx=>absurd hx ca,?_⟩
   have p0:qD_ cs Re=some 0:=by rw [eR];rfl
   have m0:minO S (qD_ cs Re)=0:=by
    rw [p0]
    show (if (0:Int) < S then 0 else S)=0
    split <;> grind
   rw [m0]
   show (0:Int)=_
   unfold qD_
   split
   ·have:=yK_ cs Ch
    show (0:Int)=if sumC cs Ch < 0 then sumC cs Ch else 0
    rw [if_neg (by grind)]
   ·rfl
  | none e1 e2 pm pw hn =>
   exfalso
   rename_i ms
   obtain ⟨d,j,_,_,_,_,hw⟩:=an ms pm;unfold yJ_ at hn
   cases hp:pick (fun p:Int × List Nat=>p.1) (ye_ r w M N plainL cs [] (knO (List.replicate (N+M) none)) ms Re Ch) with
   | some p=>rw [hp] at hn;cases hn
   | none =>
    have:=qc3_ hp;rw [hw] at this;exact absurd (List.append_eq_nil_iff.mp this).2 (fun y=>by cases y)
  | step e1 e2 pm pw hn hrest =>
   rename_i ms way
   have nd:ms.Nodup:=pm.nodup_iff.mpr (cL _ d6)
   have hN:=qfx_ pm hno;obtain ⟨d,j,ay,H,I,as,hw⟩:=an ms pm;obtain ⟨l,_⟩:=qfs_ e1 e2 pm G D hn
   have ao:d.Nodup:=by rw [H];exact nd.sublist (fz j ms)
   have ar:∀ k∈d,k∈ms.take N:=fun k hk=>by
    rw [H] at hk
    have:ms.take j=(ms.take N).take j:=by rw [List.take_take,fE ay]
    rw [this] at hk;exact dr hk
   have Q:=hS ms pm pw
   have aA:sumC cs d<=S:=by rw [Q];exact vc_ ao ar
   unfold yJ_ at hn
   cases hp:pick (fun p:Int × List Nat=>p.1) (ye_ r w M N plainL cs [] (knO (List.replicate (N+M) none)) ms Re Ch) with
   | none=>rw [hp] at hn;cases hn
   | some p =>
    rw [hp] at hn
    have O:p.2=way:=bM hn
    have E:=qpl_ hp
    have s:=va_ hp;rw [hw] at E s
    have s:(qD_ cs Re=some p.1/\way=Re)\/(qD_ cs Ch=some p.1/\way=Ch)\/(p.1=sumC cs d/\way=d):=by
     rcases bU.mp s with y | y
     ·rcases bU.mp y with y | y
      ·obtain ⟨c,h1,h2⟩:=cG.mp y
       have h1:=dz.mp h1;rw [<- O,← h2];exact .inl ⟨h1,rfl⟩
      ·obtain ⟨c,h1,h2⟩:=cG.mp y
       have h1:=dz.mp h1;rw [<- O,← h2];exact .inr (.inl ⟨h1,rfl⟩)
     ·have:=bS.mp y
      rw [<- O,this];exact .inr (.inr ⟨rfl,rfl⟩)
    have av:p.1<=sumC cs d:=E (sumC cs d,d) (bU.mpr (.inr (.head _)))
    have ap:∀ c,qD_ cs Re=some c->p.1<=c:=fun c e=>E (c,Re) (bU.mpr (.inl (bU.mpr (.inl (cG.mpr ⟨c,dz.mpr e,rfl⟩)))))
    have Z:∀ c,qD_ cs Ch=some c->p.1<=c:=fun c e=>E (c,Ch) (bU.mpr (.inl (bU.mpr (.inr (cG.mpr ⟨c,dz.mpr e,rfl⟩)))))
    have U:∀ {L:List Nat}{c:Int},qD_ cs L=some c->c=sumC cs L/\∀ k∈L,(cs.getD k none).isSome=true:=fun {L c} e=>by
     unfold qD_ at e
     split at e
     ·next z=>exact ⟨(bM e).symm,fun k hk=>c5.mp z k hk⟩
     ·cases e
    have aq:∀ {L:List Nat},(∀ k∈L,(cs.getD k none).isSome=true)->qD_ cs L=some (sumC cs L):=fun {L} z=>by
     unfold qD_;rw [if_pos (c5.mpr z)]
    have P:∀ k∈ms,(cs.getD k none).isSome=true:=fun k hk=>by
     have:=(bV.mp (pm.mem_iff.mp hk)).2
     rwa [yC_] at this
    have Y:∀ k∈d,k∈ms:=fun k hk=>by rw [H] at hk;exact dr hk
    have ac:way.Nodup:=by
     rcases s with ⟨_,e⟩ | ⟨_,e⟩ | ⟨_,e⟩ <;> rw [e]
     ·exact ak
     ·exact am
     ·exact ao
    have aD:p.1=sumC cs way:=by
     rcases s with ⟨y,e⟩ | ⟨y,e⟩ | ⟨y,e⟩
     ·rw [e];exact (U y).1
     ·rw [e];exact (U y).1
     ·rw [e];exact y
    have ae:∀ x,x < N+M->((X.map some).getD x none).isSome=true:=fun x hx=>by
     rw [b7,bE,b8 (by rw [hX];exact hx)]
     rfl
    obtain ⟨ea,ek⟩:=qc7_ (cs:=cs) (srow:=X.map some) way (List.replicate (N+M) none) [] ac fun x hx=>⟨(l x hx).2,by rw [cV];exact (l x hx).1,ae x (l x hx).1⟩
    rw [qbl_] at ek
    have ai:∀ L:List Nat,(∀ k∈L,k < N+M)->(∀ k∈L,k∈way)->L.all (fx r w M N plainL (knW (List.replicate (N+M) false) way))=true:=fun L hL hs=>c5.mpr fun k hk=>by
     rw [qft_ g W (hL k hk) ac fun x hx=>(l x hx).1,c9.mpr (hs k hk),Bool.true_or]
    have az:(Re.all (fx r w M N plainL (knO (jb_ cs (X.map some) way (List.replicate (N+M) none) []).1)) || Ch.all (fx r w M N plainL (knO (jb_ cs (X.map some) way (List.replicate (N+M) none) []).1)))=true:=by
     rw [ek];rcases s with ⟨_,e⟩ | ⟨_,e⟩ | ⟨_,e⟩
     ·rw [ai Re G (by rw [e];exact fun k hk=>hk)];rfl
     ·rw [ai Ch D (by rw [e];exact fun k hk=>hk),dX]
     ·rw [e];exact as
    obtain ⟨o1,o2,o3⟩:=qnn_ az hrest;rw [ea,List.nil_append] at o2;rw [<- o1] at ek
    have ab:∀ k∈way,(knO os').getD k false=true:=fun k hk=>by
     rw [ek,qfj_ _ k (by rw [cV];exact (l k hk).1),c9.mpr hk,dX]
    refine ⟨o3,?_,fun x hx=>?_,?_⟩
    ·have al:∀ k∈srtN N nk,k∈Ch:=fun k hk=>by rw [<- ax];exact bU.mpr (.inl hk)
     rcases s with ⟨y,e⟩ | ⟨y,e⟩ | ⟨_,e⟩
     ·exact B fun k hk=>ab k (by rw [e];exact hk)
     ·exact J fun k hk=>(U y).2 k (al k hk)
     ·rcases I with z | z | z
      ·refine ql0_ g W hol ?_ C
       have:=vS_ way (List.replicate (N+M) false) ac fun x hx=>⟨by rw [cV];exact (l x hx).1,vT_ _ _⟩
       rw [qc6_] at this
       have aF:way.length=N:=by rw [e,H,z,dv,fE hN]
       rw [ek]
       grind
      ·exact B fun k hk=>ab k (by rw [e];exact z k hk)
      ·exact J fun k hk=>P k (Y k (z k (al k hk)))
    ·rw [o2] at hx
     have:=(l x hx).2
     rwa [yC_] at this
    ·rw [o2,← aD]
     have aB:p.1<=S/\(p.1=S\/qD_ cs Re=some p.1\/qD_ cs Ch=some p.1):=by
      refine ⟨by grind,?_⟩
      rcases s with ⟨y,_⟩ | ⟨y,_⟩ | ⟨y,_⟩
      ·exact .inr (.inl y)
      ·exact .inr (.inr y)
      ·rcases I with z | z | z
       ·refine .inl ?_
        rw [y,H,z,Q]
       ·have q:=aq (L:=Re) fun k hk=>P k (Y k (z k hk))
        have h1:=ap _ q
        have h2:=vc_ (cs:=cs) ak z;refine .inr (.inl ?_);rw [q]
        congr 1
        grind
       ·have q:=aq (L:=Ch) fun k hk=>P k (Y k (z k hk))
        have h1:=Z _ q
        have h2:=vc_ (cs:=cs) am z;refine .inr (.inr ?_);rw [q]
        congr 1
        grind
     obtain ⟨k1,k2⟩:=aB;generalize aE:qD_ cs Re=pR at *;generalize aH:qD_ cs Ch=pC at *;generalize p.1=v at *;clear E s av aA Q
     cases pR with
     | none =>
      cases pC with
      | none =>
       rcases k2 with k | k | k
       ·exact k
       ·cases k
       ·cases k
      | some c =>
       have:=Z c rfl
       show v=if c < S then c else S
       rcases k2 with k | k | k
       ·split <;> grind
       ·cases k
       ·cases k
        split <;> grind
     | some d' =>
      have h1:=ap d' rfl
      cases pC with
      | none =>
       show v=if d' < S then d' else S
       rcases k2 with k | k | k
       ·split <;> grind
       ·cases k
        split <;> grind
       ·cases k
      | some c =>
       have h2:=Z c rfl
       show v=if c < (if d' < S then d' else S) then c else (if d' < S then d' else S)
       rcases k2 with k | k | k
       ·split <;> split <;> grind
       ·cases k
        split <;> split <;> grind
       ·cases k
        split <;> split <;> grind
def valP:Option Int->V
 | some c=>.int c
 | none=>.non
theorem qdb_ (cs:List (Option Nat)) (rs:List Nat) (k:Nat):sumC cs (rs++[k])=sumC cs rs+ckO cs k:=by
 rw [zI_,zF_]
 show _+(_+0)=_
 grind
inductive qig_ (K:PySem.W.Frag) (vs:List V) (H:Hp) (Q:VK) (E_3:XK):Prop
 | mk:∀ (ch rl:Addr) (cs:List (Option Nat)) (rs:List Nat),vs=[.ref ch,.ref rl]->H ch=some (.lst (rowO cs))->SqL K H rl (rowV rs)->((∀ k∈rs,k < cs.length))->Q (valP (qD_ cs rs)) H->qig_ K vs H Q E_3
theorem qfy_ (T:Txt K mg a):FnO P wo K mg base 1 a.f64 ["_law_costs_here", "_law_roles"] (qig_ K):=by
 refine T.x64.F.okA (k:=0) sc_total (fun B A outer s H vs Q E hr h=>?_)
 ·obtain ⟨ch,rl,cs,rs,rfl,g,l,r,q⟩:=h
  refine xx ?_;intro X_;refine xc (qi_ (i:=2) sc_total.nd rfl (Or.inl rfl) qf_) ?_;intro u_;refine xq ?_;refine xf PassesOwn.never rfl (qB_ (pv 1)) (ql_ (i:=3) sc_total.nd rfl (Or.inl rfl)) ?_;refine xq ?_;refine xi (qn_ vp_ (qy_ qz_ (pv 0) (pv 3) (fun _ _=>rfl)) qG_ (qp_ _)) ?_;refine xl (qo_ qG_) ?_;intro u_;refine ⟨_,qw_,?_⟩;intro u_;refine xl (qi_ (i:=2) sc_total.nd rfl (Or.inl rfl) (qm_ qE_ (pv 2) (qy_ qz_ (pv 0) (pv 3) (fun _ _=>rfl)))) ?_;intro u_;intro u_;refine xl (qo_ (pv 2)) ?_;intro u_;refine ⟨_,rfl,rl,rfl,⟨_,l⟩,?_⟩;refine let I_:Nat->L2.St->Hp->Prop:=fun i σ H'=>L2.A3 ((∃ v3:Option V,σ=[some (.ref ch),some (.ref rl),some (.int (sumC cs (rs.take i))),v3])) (H'=H) ((rs.take i).all (fun k=>(cs.getD k none).isSome)=true);ji_ (xs:=rowV rs) I_ ⟨⟨none,rfl⟩,rfl,rfl⟩ ?_ ?_ ?_
  ·rintro i σ H' _ ⟨_,rfl,_⟩
   exact l
  ·rintro i x σ H' hx ⟨⟨v3,rfl⟩,rfl,d⟩
   obtain ⟨k,ek,rfl⟩:=qN_ hx
   have hk:=r k (bO ek)
   have gi:=qv_ (qS_ (jt_ (os:=cs) (k:=k) hk));refine ⟨_,rfl,_,rfl,ch,_,_,_,rfl,rfl,SqL.of g,gi,rfl,_,rfl,?_⟩
   cases hz:cs.getD k none with
   | none =>
    refine ite2 (fun _=>?_) (fun y=>absurd rfl y)
    have e:qD_ cs rs=none:=by
     unfold qD_;rw [if_neg fun y=>?_]
     have:=c5.mp y k (bO ek);rw [hz] at this
     cases this
    rw [e] at q;exact q
   | some b =>
    refine ite2 (fun y=>absurd (bC y) (fun z=>by cases z)) (fun _=>?_)
    rw [hz] at gi;refine ⟨_,rfl,_,rfl,_,rfl,ch,_,_,_,rfl,rfl,SqL.of g,gi,?_⟩;refine ⟨_,_,rfl,rfl,⟨some (.int (k:Nat)),?_⟩,rfl,?_⟩
    ·rw [j0_ ek,qdb_]
     unfold ckO;rw [hz];rfl
    ·rw [j0_ ek,List.all_append,d,fu,hz]
     rfl
  ·rintro σ H' ⟨⟨v3,rfl⟩,rfl,d⟩
   rw [qg_,fc] at *
   have e:qD_ cs rs=some (sumC cs rs):=by unfold qD_;rw [if_pos d]
   rw [e] at q;exact ⟨_,rfl,q⟩
inductive ql1_ (K:PySem.W.Frag) (vs:List V) (H:Hp) (Q:VK) (E_3:XK):Prop
 | mk:∀ (s:Addr) (ns:List Int) (c:Int) (st N L:Nat),vs=[.ref s,.int st,.int c,.int N,.int L]->SqL K H s (ns.map V.int)->ns.length<=63->st+N<=99->1<=N->N<=8->0 < L->L<=2 ^ 128->(∀ D H' nk nb,Same H H'->H D=none->H' D=some (.dK (qA_ nk nb))->nk=srtN N nk->nk≠[]->(∀ k∈nk,k < N/\nb k < L)->Q (.ref D) H')->ql1_ K vs H Q E_3
theorem qpm_ (T:Txt K mg a):FnO P wo K mg base 4 a.f62 ["_law_script", "_law_start", "_law_mask", "_law_data", "_law_limit"] (ql1_ K):=by
 refine T.x62.F.okA (k:=3) sc_news (fun am A outer s H vs Q E hr h=>?_)
 ·obtain ⟨sa,ns,c,st,N,L,rfl,hS,O,U,n1,n8,ab,Y,q⟩:=h
  refine xx ?_;intro X_;refine xc (qi_ (i:=5) sc_news.nd rfl (Or.inl rfl) (qm_ qE_ qf_ (qm_ qW_ (pv 2) (qm_ yj_ (qm_ uV_ qf_ (pv 3)) qf_)))) ?_;intro u_;refine xc (qi_ (i:=6) sc_news.nd rfl (Or.inl rfl) (qq_ (qh3_ T) hr.u rfl T.x57.m T.x57.k T.x57.b .nil qj_ (qa_ (pv 0) (qa_ (pv 1) (qa_ (pv 3) (qa_ (pv 4) qb_)))))) ?_;intro u_;refine xc (qi_ (i:=7) sc_news.nd rfl (Or.inl rfl) uD_) ?_;intro u_;refine xq ?_;refine xf PassesOwn.never rfl (qL_ rfl T.n_range (qa_ (pv 3) qb_)) (ql_ (i:=8) sc_news.nd rfl (Or.inl rfl)) ?_;refine xq ?_;refine xi (qn_ jx_ (qm_ qW_ (pv 5) qf_) qf_ (qp_ _)) ?_;refine xl (v6_ (j5_ hr) (pv 7) (pv 8) (qy_ qz_ (pv 6) (pv 8) (fun _ _=>rfl)) rfl) ?_;intro u_;refine ⟨_,qw_,?_⟩;intro u_;refine xl (qi_ (i:=5) sc_news.nd rfl (Or.inl rfl) (qm_ jN_ (pv 5) qf_)) ?_;intro u_;intro u_;refine xl (qo_ (pv 7)) ?_;intro u_
  have al:(2:Nat) ^ 1<=2 ^ N:=dh (by decide) n1
  have ah:(2:Nat) ^ N<=2 ^ 8:=dh (by decide) n8
  have e1:(1:Int) * 2 ^ ((N:Int)).toNat - 1=((2 ^ N - 1:Nat):Int):=by rw [uG_];grind
  obtain ⟨m0,ao,hm⟩:∃ m0:Nat,m0 < 2 ^ N - 1/\c % ((2 ^ N - 1:Nat):Int)=m0:=by
   have h1:=fF c (b:=((2 ^ N - 1:Nat):Int)) (by grind)
   have h2:=fj c (b:=((2 ^ N - 1:Nat):Int)) (by grind)
   exact ⟨(c % ((2 ^ N - 1:Nat):Int)).toNat,by grind,by grind⟩
  refine ⟨_,rfl,_,rfl,_,_,rfl,rfl,⟨by grind,by grind,by decide⟩,_,_,rfl,rfl,?_⟩
  try dsimp only
  rw [e1];refine ⟨_,_,rfl,rfl,by grind,_,_,rfl,rfl,?_⟩
  try dsimp only
  rw [hm,show (1:Int)+(m0:Int)=((1+m0:Nat):Int) by grind]
  refine ⟨_,rfl,_,rfl,_,rfl,_,rfl,sa,ns,st,N,L,rfl,hS,O,U,n8,ab,Y,fun SL H1 xs s1 an I ak S=>?_⟩;refine fun D nD=>?_
  have sD:=Same.new (o:=.dK []) nD
  have hD:=qc_ (H:=H1) (a:=D) (o:=.dK [])
  have G:=sD _ _ I
  have ae:SL≠D:=qh_ I nD
  have s2:=s1.trans sD;generalize (upd H1 D (.dK []))=H2 at sD hD G s2;refine ⟨_,rfl,_,rfl,by grind,by grind,?_⟩
  rw [cx];refine let I_:Nat->L2.St->Hp->Prop:=fun i σ H'=>L2.E3 fun (lf:Nat) (nk:List Nat) (v8:Option V)=>L2.A8 (σ=[some (.ref sa),some (.int (st:Nat)),some (.int c),some (.int (N:Nat)),some (.int (L:Nat)),some (.int (lf:Nat)),some (.ref SL),some (.ref D),v8]) (Same H H') (H' SL=some (.lst (rowV xs))) (H' D=some (.dK (qA_ nk fun k=>xs.getD k 0))) (nk.Pairwise (· < ·)) ((∀ k∈nk,k < i)) (lf * 2 ^ i<=1+m0) ((nk=[]->lf * 2 ^ i=1+m0));jq_ (lo:=0) (n:=N) I_ ⟨1+m0,[],none,rfl,s2,G,hD,List.Pairwise.nil,fun k hk=>absurd hk ca,by grind,fun _=>by grind⟩ ?_ ?_
  ·rintro i σ H' hi ⟨lf,nk,v8,rfl,sm,l,r,g,d,J,B⟩
   rw [show (0:Int)+(i:Nat)=((i:Nat):Int) by grind]
   have X:(rowV xs)[i]?=some (.int ((xs.getD i 0:Nat):Int)):=by
    unfold rowV;rw [bE,b8 (by grind),b7,b8 (by grind)]
    rfl
   have em:(lf:Int) % 2=((lf % 2:Nat):Int):=by grind
   have ed:(lf:Int) / 2=((lf / 2:Nat):Int):=by grind
   have e2:2 ^ (i+1)=2 * 2 ^ i:=by rw [dl];grind
   have C:lf / 2 * 2 ^ (i+1)<=1+m0:=by
    rw [e2]
    have h1:lf / 2 * (2 * 2 ^ i)=(lf / 2 * 2) * 2 ^ i:=by rw [Nat.mul_assoc]
    rw [h1];exact bG (Nat.mul_le_mul_right _ (by grind)) J
   refine ⟨_,rfl,_,_,rfl,rfl,(by show (0:Int) < 2;decide),?_⟩
   try dsimp only
   rw [em];refine ⟨rfl,_,rfl,?_⟩;refine ite2 (fun y=>?_) (fun y=>?_)
   ·have aj:lf % 2=1:=by
     have:=V.int.inj (bC y)
     grind
    have aa:i∉nk:=fun h=>cI _ (d i h)
    have ad:nk.length<=8:=bG (jf_ i nk (g.imp fun h=>bP h) d) (by grind)
    refine ⟨_,rfl,_,rfl,SL,_,_,_,rfl,rfl,SqL.of l,qv_ X,_,rfl,_,rfl,D,_,rfl,DPut.k (k:=Sum.inl ((i:Nat):Int)) r (by rw [zE_];exact cY ad (by decide)),?_⟩
    rw [show V.int ((xs.getD i 0:Nat):Int)=V.int (((fun k=>xs.getD k 0) i:Nat):Int) from rfl,yV_ aa];refine ⟨_,rfl,_,_,rfl,rfl,⟨by decide,by decide⟩,?_⟩
    refine ⟨lf / 2,nk++[i],some (.int (i:Nat)),?_,sm.up (s1.free nD),by rw [qd_ ae];exact l,qc_,?_,fun k hk=>?_,C,fun e=>?_⟩
    ·rw [<- ed];rfl
    ·exact List.pairwise_append.mpr ⟨g,List.pairwise_singleton _ _,fun x hx y hy=>by rw [bS.mp hy];exact d x hx⟩
    ·rcases bU.mp hk with h | h
     ·exact cA (d k h)
     ·rw [bS.mp h];exact cm _
    ·exact absurd (List.append_eq_nil_iff.mp e).2 (fun z=>by cases z)
   ·have ai:lf % 2=0:=by
     have h1:¬ lf % 2=1:=fun z=>y (bN (by rw [z];rfl))
     grind
    refine ⟨_,rfl,_,_,rfl,rfl,⟨by decide,by decide⟩,?_⟩
    refine ⟨lf / 2,nk,some (.int (i:Nat)),?_,sm,l,r,g,fun k hk=>cA (d k hk),C,fun e=>?_⟩
    ·rw [<- ed];rfl
    ·rw [<- B e,e2,← Nat.mul_assoc]
     congr 1
     grind
  ·rintro σ H' ⟨lf,nk,v8,rfl,sm,l,r,g,d,J,B⟩
   have ac:nk.Nodup:=g.imp fun h=>bP h
   have Z:nk=srtN N nk:=by
    refine eO (le:=fun x y:Nat=>x < y) (fun x y _ _ h1 h2=>by grind) g (cL _ List.pairwise_lt_range) ?_
    exact (List.perm_ext_iff_of_nodup ac (cL _ d6)).mpr fun x=>(qX_ d).symm
   refine ⟨_,rfl,q D H' nk (fun k=>xs.getD k 0) sm (s1.free nD) r Z (fun e=>?_) fun k hk=>⟨d k hk,?_⟩⟩
   ·have h1:=B e
    have h2:lf=0\/1<=lf:=by grind
    rcases h2 with h2 | h2
    ·rw [h2] at h1;grind
    ·have:=Nat.mul_le_mul_right (2 ^ N) h2
     grind
   ·have hk:=d k hk
    rw [b7,b8 (by grind)]
    exact S _ (cR _)
theorem ql2_ {K:PySem.W.Frag}{p:Addr}{xs:List V}{f:Nat->V}{b:Nat->Bool}{k:Nat}{tt:TT}{te:TE}{cs:L2.St}{H1:Hp}{D:Addr}{Q:Hp->Prop} (hl:SqL K H1 p xs) (hD:H1 D=none) (hk:k=cs.length) (hn:xs.length<=1000)
  (ht:∀ i H (R:Bool->Hp->Prop),i < xs.length->Same H1 H->(∀ H4,Same H H4->R (b i) H4)->tt (cs++[some (xs.getD i .non)]) H R)
  (he:∀ i H (R:V->Hp->Prop),i < xs.length->b i=true->Same H1 H->(∀ H4,Same H H4->R (f i) H4)->te (cs++[some (xs.getD i .non)]) H R)
  (hQ:∀ H,Same H1 H->H D=some (.lst (((List.range xs.length).filter b).map f))->Q H):q0_ (Itl K p) (qR_ k) tt te (cs++[none]) H1 D Q:=by
 have g:∀ i,i < xs.length->xs[i]?=some (xs.getD i .non):=fun i hi=>by rw [b7,b8 hi];rfl
 refine yc_ (n:=xs.length) (src:=fun i=>xs.getD i .non) hD hk (bG hn (by decide)) (fun H sm=>⟨_,sm.seq hl,bF _⟩) (fun i H hi sm=>⟨_,_,sm.seq hl,g i hi⟩) (fun i H x H' hi sm y=>?_) ht he hQ
 obtain ⟨e,y⟩:=y;exact ⟨bM ((y _ (sm.seq hl)).symm.trans (g i hi)),e⟩
theorem ql3_ {n:Nat}{lo:Int}{f:Nat->V}{b:Nat->Bool}{k:Nat}{tt:TT}{te:TE}{cs:L2.St}{H1:Hp}{D:Addr}{Q:Hp->Prop} (hD:H1 D=none) (hk:k=cs.length) (hn:n<=sizeLine)
  (ht:∀ i H (R:Bool->Hp->Prop),i < n->Same H1 H->(∀ H4,Same H H4->R (b i) H4)->tt (cs++[some (.int (lo+(i:Nat)))]) H R)
  (he:∀ i H (R:V->Hp->Prop),i < n->b i=true->Same H1 H->(∀ H4,Same H H4->R (f i) H4)->te (cs++[some (.int (lo+(i:Nat)))]) H R)
  (hQ:∀ H,Same H1 H->H D=some (.lst (((List.range n).filter b).map f))->Q H):q0_ (Itr lo n) (qR_ k) tt te (cs++[none]) H1 D Q :=
 yc_ (src:=fun i=>.int (lo+(i:Nat))) hD hk hn (fun H _=>bF _) (fun i H hi _=>hi) (fun i H x H' _ _ y=>⟨y.2,y.1⟩) ht he hQ
theorem ql4_ {cs:List (Option Nat)}{R N:Nat}{ms:List Nat}{ns:List Int} (pm:ms.Perm ((List.range R).filter (mayB cs []))) (pw:ms.Pairwise (klt (ckO cs))) (pn:ns.Perm (((List.range R).filter (mayB cs [])).map (ckO cs))) (sn:ns.Pairwise (·<=·)):(ns.take N).sum=sumC cs (ms.take N):=by
 have e:ns=ms.map (ckO cs):=by
  refine eO (le:=fun x y:Int=>x<=y) (fun x y _ _ h1 h2=>by grind) sn ?_ (pn.trans (pm.map _).symm)
  refine List.pairwise_map.mpr (pw.imp fun h=>?_);unfold klt at h
  grind
 rw [e,← List.map_take];rfl
def qax_ (cs:List (Option Nat)) (M N:Nat) (nk:List Nat) (S:Int):Int:=if thrL M N cs=[] then 0 else minO (minO S (qD_ cs ((List.range N).filter fun k=>!nk.contains k))) (qD_ cs (srtN N nk++(thrL M N cs).map fun t=>N+t))
inductive qfz_ (K:PySem.W.Frag) (vs:List V) (H:Hp) (Q:VK) (E_3:XK):Prop
 | mk:∀ (ch nd:Addr) (M N:Nat) (cs:List (Option Nat)) (nk:List Nat) (nb:Nat->Nat),vs=[.ref ch,.ref nd,.int N]->H ch=some (.lst (rowO cs))->cs.length=N+M->N+M<=8->((∀ j,(cs.getD j none).getD 0<=1000000))->H nd=some (.dK (qA_ nk nb))->nk=srtN N nk->(∀ H' S,Same H H'->(thrL M N cs≠[]->∃ ns:List Int,ns.Perm (((List.range (N+M)).filter (mayB cs [])).map (ckO cs))/\ns.Pairwise (·<=·)/\S=(ns.take N).sum)->Q (.int (qax_ cs M N nk S)) H')->qfz_ K vs H Q E_3
theorem qno_ (T:Txt K mg a):FnO P wo K mg base 2 a.f65 ["_law_costs_here", "_law_news_here", "_law_data"] (qfz_ K):=by
 refine T.x65.F.okA (k:=1) sc_least (fun ar A outer s H vs Q E hr h=>?_)
 ·obtain ⟨ch,nd,M,N,cs,nk,nb,rfl,d,B,n8,h6,U,aa,q⟩:=h
  refine xx ?_;intro X_
  refine xc (jp_ (i:=3) sc_least.nd rfl (Or.inl rfl) (CompOk.of (cap:=[0]) (own:=["_law_role"]) (by kernel_rfl)) rfl (qbo_ rfl T.n_range (qa_ (pv 2) (qa_ (qs_ qr_ rfl T.n_len ci (qa_ (pv 0) qb_)) qb_))) (fun _ _ _ _ _=>(ql_ (i:=1) (bC (by kernel_rfl)) rfl (Or.inl rfl))) (fun _ _ _ _ _=>(jl_ (qn_ jg_ (qy_ (q9_ (K:=K) rfl) (pv 0) (pv 1) (fun _ _=>rfl)) qG_ (qp_ _)))) (fun _ _ _ _ _=>by exact (pv 1))) ?_
  intro u_;refine xq ?_;refine xi (qn_ (qm1_ hr.units) (pv 3) (q7_ qb_) (qp_ _)) ?_;refine xl (qo_ qf_) ?_;intro u_;refine ⟨_,qw_,?_⟩;intro u_
  refine xc (qi_ (i:=4) sc_least.nd rfl (Or.inl rfl) (qs_ (qcw_ rfl) rfl T.n_sum PyProof.Rows.Boot.sum (qa_ (zV_ v2_ (qs_ qgc_ rfl T.n_sorted dk (qa_ (qJ_ (CompOk.of (cap:=[]) (own:=["_law_cost"]) (by kernel_rfl)) rfl (qB_ (pv 0)) (fun _ _ _ _ _=>(ql_ (i:=0) (bC (by kernel_rfl)) rfl (Or.inl rfl))) (fun _ _ _ _ _=>(jl_ (qn_ jg_ (pv 0) qG_ (qp_ _)))) (fun _ _ _ _ _=>by exact (pv 0))) qb_)) v0_ (v1_ (pv 2))) qb_))) ?_
  intro u_
  refine xc (qi_ (i:=5) sc_least.nd rfl (Or.inl rfl) (qq_ (qfy_ T) hr.u rfl T.x64.m T.x64.k T.x64.b .nil qj_ (qa_ (pv 0) (qa_ (qJ_ (CompOk.of (cap:=[1]) (own:=["_law_role"]) (by kernel_rfl)) rfl (qL_ rfl T.n_range (qa_ (pv 2) qb_)) (fun _ _ _ _ _=>(ql_ (i:=1) (bC (by kernel_rfl)) rfl (Or.inl rfl))) (fun _ _ _ _ _=>(jl_ (uS_ (qcc_ (j5_ hr) (pv 1) (pv 0))))) (fun _ _ _ _ _=>by exact (pv 1))) qb_)))) ?_
  intro u_;refine xc (qi_ (i:=6) sc_least.nd rfl (Or.inl rfl) (qq_ (qfy_ T) hr.u rfl T.x64.m T.x64.k T.x64.b .nil qj_ (qa_ (pv 0) (qa_ (qm_ qd1_ (jB_ (qi6_ rfl) rfl T.n_list (by decide +kernel) (qa_ (pv 1) qb_)) (pv 3)) qb_)))) ?_
  intro u_;refine xq ?_;refine xf PassesOwn.never rfl (qB_ (q7_ (qa_ (pv 5) (qa_ (pv 6) qb_)))) (ql_ (i:=7) sc_least.nd rfl (Or.inl rfl)) ?_;refine x1 ?_;refine xi (PW.pt (uT_ (qn_ jg_ (pv 7) qG_ (qp_ _)) (vV_ (qn_ yl_ (pv 7) (pv 4) (qp_ _))))) ?_;refine xl (qi_ (i:=4) sc_least.nd rfl (Or.inl rfl) (pv 7)) ?_;intro u_;refine ⟨_,qw_,?_⟩;intro u_;intro u_;refine xl (qo_ (pv 4)) ?_;intro u_;refine ⟨_,rfl,_,rfl,ch,_,rfl,.inl (SqL.of d),?_⟩;refine ⟨(N:Nat),(((rowO cs).length:Nat):Int),rfl,?_,fun D nD=>?_⟩
  ·rw [qK_,B]
   exact ⟨by grind,by grind,by grind,by grind⟩
  rw [qK_,B,show ((N+M:Nat):Int) - ((N:Nat):Int)=((M:Nat):Int) by grind,cx]
  refine ql3_ (n:=M) (lo:=(N:Nat)) (f:=fun t=>.int ((N+t:Nat):Int)) (b:=fun t=>(cs.getD (N+t) none).isSome) (cs:=[some (.ref ch)]) nD rfl (bG (by grind:M<=8) (by decide)) (fun t H2 R2 ht s2 hR=>?_) (fun t H2 R2 ht hb s2 hR=>?_) (fun H1 s1 hD=>?_)
  ·rw [show ((N:Nat):Int)+((t:Nat):Int)=((N+t:Nat):Int) by grind]
   refine ⟨_,rfl,_,rfl,ch,_,_,_,rfl,rfl,SqL.of (s2 _ _ d),qv_ (qS_ (jt_ (os:=cs) (k:=N+t) (by grind))),rfl,_,rfl,?_⟩
   rw [yB_];exact hR _ (Same.refl _)
  ·rw [show ((N:Nat):Int)+((t:Nat):Int)=((N+t:Nat):Int) by grind]
   exact ⟨_,rfl,hR _ (Same.refl _)⟩
  have eD:((List.range M).filter fun t=>(cs.getD (N+t) none).isSome).map (fun t=>V.int ((N+t:Nat):Int))=rowV ((thrL M N cs).map fun t=>N+t):=by
   unfold thrL rowV;rw [cq];rfl
  rw [eD] at hD;refine ⟨_,rfl,cn _,fun l nE=>?_⟩
  have sE:=Same.new (o:=.lst []) nE
  have hE:=qc_ (H:=H1) (a:=l) (o:=.lst []);generalize (upd H1 l (.lst []))=H2 at sE hE
  have s2:=s1.trans sE;refine ⟨D,l,_,rfl,rfl,SqL.of (sE _ _ hD),SqL.of hE,?_⟩
  by_cases ht:thrL M N cs=[]
  ·rw [ht]
   refine ⟨_,rfl,ite2 (fun _=>?_) (fun y=>absurd rfl y)⟩
   have:=q H2 0 s2 (fun y=>absurd ht y);unfold qax_ at this;rw [if_pos ht] at this;exact this
  have ah:(rowV ((thrL M N cs).map fun t=>N+t)).isEmpty=false:=by
   cases e:thrL M N cs with
   | nil=>exact absurd e ht
   | cons t ts=>rfl
  rw [ah];refine ⟨_,rfl,ite2 (fun y=>absurd y (by decide)) (fun _=>?_)⟩
  refine ⟨_,rfl,ch,rfl,⟨_,SqL.of (s2 _ _ d)⟩,fun A1 nA=>?_⟩;refine ql2_ (xs:=rowO cs) (f:=fun i=>.int (ckO cs i)) (b:=mayB cs []) (cs:=[]) (SqL.of (s2 _ _ d)) nA rfl (by rw [qK_];exact bG (by grind:cs.length<=8) (by decide)) (fun i Hx Rx hi sx hR=>?_) (fun i Hx Rx hi hb sx hR=>?_) (fun H3 s3 O=>?_)
  ·rw [qK_] at hi
   have eu:(rowO cs).getD i .non=valO (cs.getD i none):=by rw [b7,qS_ (jt_ hi)];rfl
   rw [eu];refine ⟨_,rfl,rfl,_,rfl,?_⟩;rw [yB_,← yC_];exact hR _ (Same.refl _)
  ·rw [qK_] at hi
   have eu:(rowO cs).getD i .non=valO (cs.getD i none):=by rw [b7,qS_ (jt_ hi)];rfl
   rw [yC_] at hb;rw [eu,qc8_ hb];exact ⟨_,rfl,hR _ (Same.refl _)⟩
  rw [qK_,B] at O
  have ak:H3 A1=some (.lst ((((List.range (N+M)).filter (mayB cs [])).map (ckO cs)).map V.int)):=by
   rw [O,cq];rfl
  have ap:(((List.range (N+M)).filter (mayB cs [])).map (ckO cs)).length<=8:=by
   rw [b9]
   have:=cj (mayB cs []) (List.range (N+M));rw [bI] at this
   grind
  refine ⟨A1,_,rfl,SqL.of ak,by grind,fun lp ns nl pn sn=>?_⟩
  have aq:=pn.length_eq
  have s4:=(s2.trans s3).trans (Same.new (o:=.lst (ns.map V.int)) nl)
  have L:=((sE.trans s3).trans (Same.new (o:=.lst (ns.map V.int)) nl)) _ _ hD
  have hL:(upd H3 lp (.lst (ns.map V.int))) lp=some (.lst (ns.map V.int)):=qc_;generalize (upd H3 lp (.lst (ns.map V.int)))=H4 at s4 hL L;refine ⟨_,rfl,_,rfl,lp,_,rfl,SqL.of hL,fun sl nsl=>?_⟩;rw [qbm_,← List.map_take]
  have s5:=s4.trans (Same.new (o:=.lst ((ns.take N).map V.int)) nsl)
  have I:=(Same.new (o:=.lst ((ns.take N).map V.int)) nsl) _ _ L
  have hS:(upd H4 sl (.lst ((ns.take N).map V.int))) sl=some (.lst ((ns.take N).map V.int)):=qc_;generalize (upd H4 sl (.lst ((ns.take N).map V.int)))=H5 at s5 hS I;refine ⟨sl,_,rfl,SqL.of hS,by have:=List.length_take_le N ns;grind,fun y hy=>?_,?_⟩
  ·have hy:=pn.mem_iff.mp (dr hy)
   obtain ⟨j,_,rfl⟩:=cG.mp hy
   have:=h6 j;unfold ckO
   grind
  have q:=fun H' sm=>q H' (ns.take N).sum sm fun _=>⟨ns,pn,sn,rfl⟩;generalize (ns.take N).sum=S at q;refine ⟨_,rfl,_,rfl,_,rfl,by grind,by grind,fun RL aj=>?_⟩
  rw [cx];refine jP_ (n:=N) (f:=fun k=>.int (k:Nat)) (b:=fun k=>!nk.contains k) (cs:=[some (.ref nd)]) aj rfl (bG (by grind:N<=8) (by decide)) (fun k H2 R2 hk s2 hR=>?_) (fun k H2 R2 hk hb s2 hR=>?_) (fun H6 s6 ac=>?_)
  ·have dg:=DGet.k (k:=Sum.inl ((k:Nat):Int)) ((s5.trans s2) _ _ U)
   rw [jn_] at dg;refine ⟨_,rfl,_,rfl,nd,_,rfl,dg,_,rfl,?_⟩
   have ec:(!(if k∈nk then some (V.int ((nb k:Nat):Int)) else none).isSome) = !nk.contains k:=by
    by_cases z:k∈nk
    ·rw [if_pos z,c9.mpr z];rfl
    ·rw [if_neg z]
     cases e:nk.contains k with
     | false=>rfl
     | true=>exact absurd (c9.mp e) z
   rw [ec];exact hR _ (Same.refl _)
  ·exact ⟨_,rfl,hR _ (Same.refl _)⟩
  have am:=s6 _ _ I
  have r:=s5.trans s6
  have ad:∀ k∈(List.range N).filter fun k=>!nk.contains k,k < cs.length:=fun k hk=>by
   have:=bQ.mp (bV.mp hk).1
   grind
  refine ⟨ch,RL,cs,_,rfl,r _ _ d,SqL.of ac,ad,?_⟩;refine ⟨_,rfl,_,rfl,nd,_,nk.map fun k=>((k:Nat):Int),rfl,r _ _ U,j8_ nk nb,fun NL ab=>?_⟩
  have eN:(nk.map fun k=>((k:Nat):Int)).map V.int=rowV (srtN N nk):=by
   conv=>rhs;rw [<- aa]
   unfold rowV;rw [cq];rfl
  rw [eN]
  have sN:=Same.new (o:=.lst (rowV (srtN N nk))) ab
  have X:=qc_ (H:=H6) (a:=NL) (o:=.lst (rowV (srtN N nk)));generalize (upd H6 NL (.lst (rowV (srtN N nk))))=H7 at sN X
  have ai:=r.trans sN
  have an:=jI_ (N:=N) (nk:=nk)
  have ao:(thrL M N cs).length<=M:=by
   have:=cj (fun t=>(cs.getD (N+t) none).isSome) (List.range M);rw [bI] at this;exact this
  refine ⟨_,rfl,NL,D,_,_,rfl,rfl,X,sN _ _ am,?_,fun CL Z=>?_⟩
  ·rw [qg_,qg_,b9]
   exact bG (by grind:_<=16) (by decide)
  rw [yH_]
  have sC:=Same.new (o:=.lst (rowV (srtN N nk++(thrL M N cs).map fun t=>N+t))) Z
  have J:=qc_ (H:=H7) (a:=CL) (o:=.lst (rowV (srtN N nk++(thrL M N cs).map fun t=>N+t)));generalize (upd H7 CL (.lst (rowV (srtN N nk++(thrL M N cs).map fun t=>N+t))))=H8 at sC J
  have G:=ai.trans sC
  have Y:∀ k∈srtN N nk++(thrL M N cs).map fun t=>N+t,k < cs.length:=fun k hk=>by
   rcases bU.mp hk with h | h
   ·have:=bQ.mp (bV.mp h).1
    grind
   ·obtain ⟨t,h1,rfl⟩:=cG.mp h
    have:=(thr_mem.mp h1).1
    grind
  refine ⟨ch,CL,cs,_,rfl,G _ _ d,SqL.of J,Y,?_⟩
  have q:∀ H',Same H H'->Q (.int (minO (minO S (qD_ cs ((List.range N).filter fun k=>!nk.contains k))) (qD_ cs (srtN N nk++(thrL M N cs).map fun t=>N+t)))) H':=fun H' sm=>by
   have:=q H' sm;unfold qax_ at this;rw [if_neg ht] at this;exact this
  generalize qD_ cs ((List.range N).filter fun k=>!nk.contains k)=pR at *;generalize qD_ cs (srtN N nk++(thrL M N cs).map fun t=>N+t)=pC at *;refine ⟨_,rfl,_,rfl,(show 2<=sizeLine by decide),fun ll al=>?_⟩
  have C:=Same.new (o:=.lst [valP pR,valP pC]) al
  have g:=qc_ (H:=H8) (a:=ll) (o:=.lst [valP pR,valP pC]);generalize (upd H8 ll (.lst [valP pR,valP pC]))=H9 at C g
  have ae:=G.trans C;refine ⟨ll,rfl,⟨_,SqL.of g⟩,?_⟩;refine let I_:Nat->L2.St->Hp->Prop:=fun i σ H'=>L2.A2 ((∃ v7:Option V,σ=[some (.ref ch),some (.ref nd),some (.int (N:Nat)),some (.ref D),some (.int (([pR,pC].take i).foldl minO S)),some (valP pR),some (valP pC),v7])) (H'=H9);ji_ (xs:=[valP pR,valP pC]) I_ ⟨⟨none,rfl⟩,rfl⟩ ?_ ?_ ?_
  ·rintro i σ H' _ ⟨_,rfl⟩
   exact SqL.of g
  ·rintro i x σ H' hx ⟨⟨v7,rfl⟩,rfl⟩
   obtain ⟨p,ep,rfl⟩:∃ p,[pR,pC][i]?=some p/\x=valP p:=by
    match i,hx with
    | 0,hx=>cases hx;exact ⟨pR,rfl,rfl⟩
    | 1,hx=>cases hx;exact ⟨pC,rfl,rfl⟩
    | i+2,hx=>cases hx
   have et:([pR,pC].take (i+1)).foldl minO S=minO (([pR,pC].take i).foldl minO S) p:=by
    rw [eK,ep,List.foldl_append];rfl
   generalize ([pR,pC].take i).foldl minO S=S1 at et ⊢
   cases p with
   | none =>
    refine ⟨_,rfl,rfl,_,rfl,?_⟩;refine ite2 (fun y=>absurd y (by decide)) (fun _=>?_)
    refine ite2 (fun y=>absurd y (by decide)) (fun _=>?_)
    exact ⟨⟨_,by rw [et];rfl⟩,rfl⟩
   | some c =>
    refine ⟨_,rfl,rfl,_,rfl,?_⟩;refine ite2 (fun _=>?_) (fun y=>absurd (by rw [bY (fun z=>by cases z)];rfl) y)
    refine ⟨_,rfl,_,rfl,_,_,rfl,rfl,_,rfl,?_⟩;refine ite2 (fun y=>?_) (fun y=>?_)
    ·have y:=bC y
     have e:minO S1 (some c)=c:=by show (if c < S1 then c else S1)=c;rw [if_pos y]
     exact ⟨_,rfl,⟨_,by rw [et,e];rfl⟩,rfl⟩
    ·have y:¬ c < S1:=fun z=>y (bN z)
     have e:minO S1 (some c)=S1:=by show (if c < S1 then c else S1)=S1;rw [if_neg y]
     exact ⟨⟨_,by rw [et,e];rfl⟩,rfl⟩
  ·rintro σ H' ⟨⟨v7,rfl⟩,rfl⟩
   exact ⟨_,rfl,q _ ae⟩
def dueB (N:Nat) (cs:List (Option Nat)) (nk:List Nat) (k:Nat):Bool:=(cs.getD k none).isSome && (nk.contains k || decide (N<=k))
def jJ_ (N:Nat) (nk:List Nat) (nb:Nat->Nat) (X:List Nat):List Nat:=(List.range N).map (newV nk nb X)
inductive qn8_ (K:PySem.W.Frag) (vs:List V) (H:Hp) (Q:VK) (E_3:XK):Prop
 | mk:∀ (mk nd ch wl:Addr) (ps:List Addr) (r w n M N:Nat) (l:Nat->Nat->Nat) (cs:List (Option Nat)) (nk X:List Nat) (nb:Nat->Nat),vs=[.ref mk,.ref nd,.ref ch,.ref wl,.int r]->GF.Good r w->1<=M->M<=2->N+M<=8->((∀ i k,i < M->k < N->l i k < 2 ^ w))->H mk=some (.lst (rowV X))->X.length=N+M->((∀ b∈X,b < (2 ^ w) ^ n))->H nd=some (.dK (qA_ nk nb))->((∀ k∈nk,nb k < (2 ^ w) ^ n))->H ch=some (.lst (rowO cs))->cs.length=N+M->H wl=some (.lst (ps.map V.ref))->TabAt H ps M (rowT N l)->(∀ D H',Same H H'->H D=none->H' D=some (.dK (qA_ ((List.range (N+M)).filter (dueB N cs nk)) fun k=>(j7_ r w n M N l (jJ_ N nk nb X)).getD k 0))->Q (.ref D) H')->qn8_ K vs H Q E_3
theorem qqj_ (T:Txt K mg a):FnO P wo K mg base 4 a.f66 ["_law_make_here", "_law_news_here", "_law_costs_here", "_law_weights", "_law_rule_here"] (qn8_ K):=by
 refine T.x66.F.okA (k:=3) sc_due (fun ay A outer s H vs Q E hr h=>?_)
 ·obtain ⟨mk,nd,ch,wl,ps,r,w,n,M,N,l,cs,nk,X,nb,rfl,g,m1,m2,n8,hl,ak,hX,aj,L,ah,as,az,aa,O,q⟩:=h
  refine xx ?_;intro X_;refine xc (qi_ (i:=5) sc_due.nd rfl (Or.inl rfl) (qs_ qr_ rfl T.n_len ci (qa_ (qy_ qz_ (pv 3) qf_ (fun _ _=>rfl)) qb_))) ?_;intro u_
  refine xc (jp_ (i:=6) sc_due.nd rfl (Or.inl rfl) (CompOk.of (cap:=[1,0]) (own:=["_law_role"]) (by kernel_rfl)) rfl (qL_ rfl T.n_range (qa_ (pv 5) qb_)) (fun _ _ _ _ _=>(ql_ (i:=2) (bC (by kernel_rfl)) rfl (Or.inl rfl))) (fun _ _ _ _ _=>qI_) (fun _ _ _ _ _=>by exact (qmx_ (j5_ hr) (pv 0) (pv 2) (qy_ (q9_ (K:=K) rfl) (pv 1) (pv 2) (fun _ _=>rfl)) ⟨rfl,rfl,rfl,rfl⟩))) ?_
  intro u_;refine xc (qi_ (i:=7) sc_due.nd rfl (Or.inl rfl) uD_) ?_;intro u_;refine xq ?_;refine xf PassesOwn.never rfl (v4_ rfl T.n_enumerate (qa_ (qq_ (qh1_ T) hr.u rfl T.x56.m T.x56.k T.x56.b .nil qj_ (qa_ (pv 6) (qa_ (pv 3) (qa_ (pv 4) qb_)))) qb_)) (yL_ rfl (qH_ (ql_ (i:=8) sc_due.nd rfl (Or.inl rfl)) (qH_ (ql_ (i:=9) sc_due.nd rfl (Or.inl rfl)) jM_))) ?_;refine x1 ?_;refine xi (PW.pt (uT_ (qn_ jg_ (qy_ qz_ (pv 2) (pv 8) (fun _ _=>rfl)) qG_ (qp_ _)) (vV_ (PW.pt (jR_ (uS_ (qem_ (j5_ hr) (pv 8) (pv 1))) (jL_ (qn_ uW_ (pv 8) (pv 5) (qp_ _)))))))) ?_;refine xl (v6_ (j5_ hr) (pv 7) (pv 8) (pv 9) rfl) ?_;intro u_;refine ⟨_,qw_,?_⟩;intro u_;intro u_;refine xl (qo_ (pv 7)) ?_;intro u_
  have ax:=O.len
  have ab:ps[0]?=some (ps.getD 0 0):=by rw [b7,b8 (by omega)];rfl
  have aq:=O.on 0 _ ab
  have al:(rowV (rowT N l 0)).length=N:=by rw [qg_,qu_]
  refine ⟨_,rfl,wl,_,_,_,rfl,rfl,SqL.of aa,qv_ (j:=0) (by rw [bE,ab];rfl),?_⟩
  refine ⟨_,_,rfl,.inl (SqL.of aq),?_⟩;rw [al];refine ⟨_,rfl,_,rfl,by omega,by omega,fun SL au=>?_⟩
  rw [cx];refine ui_ (n:=N) (f:=fun k=>.int ((newV nk nb X k:Nat):Int)) (cs:=[some (.ref nd),some (.ref mk)]) au rfl (bG (by omega:N<=8) (by decide)) (fun k H2 R2 hk s2 hR=>?_) (fun H1 s1 I=>?_)
  ·have dg:=DGet.k (k:=Sum.inl ((k:Nat):Int)) (s2 _ _ L)
   rw [jn_] at dg
   have am:(rowV X)[k]?=some (.int ((X.getD k 0:Nat):Int)):=by
    unfold rowV;rw [bE,b8 (by omega),b7,b8 (by omega)]
    rfl
   refine ⟨_,rfl,nd,rfl,.inl ⟨_,.inl (s2 _ _ L)⟩,_,rfl,_,rfl,_,rfl,mk,_,_,_,rfl,rfl,SqL.of (s2 _ _ ak),qv_ am,_,dg,?_⟩
   have ev:(if k∈nk then some (V.int ((nb k:Nat):Int)) else none).getD (V.int ((X.getD k 0:Nat):Int))=V.int ((newV nk nb X k:Nat):Int):=by
    unfold newV
    by_cases z:k∈nk
    ·rw [if_pos z,if_pos z];rfl
    ·rw [if_neg z,if_neg z];rfl
   rw [ev];exact hR _ (Same.refl _)
  have I:H1 SL=some (.lst (rowV (jJ_ N nk nb X))):=by
   rw [I];unfold jJ_ rowV;rw [cq];rfl
  have U:(jJ_ N nk nb X).length=N:=by unfold jJ_;rw [b9,bI]
  have ae:∀ x∈jJ_ N nk nb X,x < (2 ^ w) ^ n:=fun x hx=>by
   obtain ⟨k,hk,rfl⟩:=cG.mp hx
   have hk:=bQ.mp hk;unfold newV
   split
   ·next z=>exact ah k z
   ·rw [b7,b8 (by omega)]
    exact aj _ (cR _)
  refine fun D nD=>?_
  have sD:=Same.new (o:=.dK []) nD
  have hD:=qc_ (H:=H1) (a:=D) (o:=.dK []);generalize (upd H1 D (.dK []))=H2 at sD hD
  have s2:=s1.trans sD;refine ⟨_,rfl,_,rfl,_,rfl,SL,wl,ps,r,w,n,M,N,l,jJ_ N nk nb X,rfl,g,sD _ _ I,U,by omega,m2,ae,s2 _ _ aa,O.same s2,hl,fun ML H3 s3 aw S=>?_⟩
  have ao:(j7_ r w n M N l (jJ_ N nk nb X)).length=N+M:=qfk_ _ _ _ _ _ _ _ U;generalize av:j7_ r w n M N l (jJ_ N nk nb X)=Y at *
  have ap:=s2.trans s3;refine ⟨ML,_,rfl,SqL.of S,?_⟩;refine let I_:Nat->L2.St->Hp->Prop:=fun i σ H'=>L2.A4 ((∃ v8 v9:Option V,σ=[some (.ref mk),some (.ref nd),some (.ref ch),some (.ref wl),some (.int (r:Nat)),some (.int (N:Nat)),some (.ref SL),some (.ref D),v8,v9])) (Same H H') (H' ML=some (.lst (rowV Y))) (H' D=some (.dK (qA_ ((List.range i).filter (dueB N cs nk)) fun k=>Y.getD k 0)));qed_ (l:=ML) (xs:=rowV Y) I_ ⟨⟨none,none,rfl⟩,ap,S,s3 _ _ hD⟩ ?_ ?_ ?_
  ·rintro i σ H' _ ⟨_,_,h,_⟩
   exact SqL.of h
  ·rintro i u TP σ H' hi hu ar ⟨⟨v8,v9,rfl⟩,sm,ad,G⟩
   rw [qg_] at hi;obtain ⟨y,ey,rfl⟩:=qN_ hu
   have eY:Y.getD i 0=y:=by rw [b7,ey];rfl
   have sT:=Same.new (o:=.tup [.int (i:Nat),.int (y:Nat)]) ar;refine ⟨TP,_,rfl,SqT.of qc_,rfl,_,_,rfl,_,_,rfl,rfl,?_⟩
   have B:=sm.trans sT
   have d:=sT _ _ ad
   have C:=sT _ _ G;generalize (upd H' TP (.tup [.int (i:Nat),.int (y:Nat)]))=H4 at B d C
   have gi:=qv_ (qS_ (jt_ (os:=cs) (k:=i) (by omega)))
   have J:(List.range (i+1)).filter (dueB N cs nk)=(List.range i).filter (dueB N cs nk)++(if dueB N cs nk i=true then [i] else []):=by
    rw [di,ee]
    congr 1
    by_cases z:dueB N cs nk i=true
    ·rw [if_pos z,eU z,dQ]
    ·rw [if_neg z,eV z,dQ]
   have dg:=DGet.k (k:=Sum.inl ((i:Nat):Int)) (B _ _ L);rw [jn_] at dg;refine ⟨_,rfl,_,rfl,ch,_,_,_,rfl,rfl,SqL.of (B _ _ as),gi,rfl,_,rfl,?_⟩;rw [yB_]
   refine qlu_ (fun H5=>H5=H4/\dueB N cs nk i=true) (fun ac=>by
    cases hc:(cs.getD i none).isSome with
    | false =>
     refine ite2 (fun y=>absurd y (by decide)) (fun _=>?_)
     refine ite2 (fun y=>absurd y (by decide)) (fun _=>?_)
     have e:dueB N cs nk i=false:=by unfold dueB;rw [hc];rfl
     exact ⟨⟨_,_,rfl⟩,B,d,by rw [J,e,if_neg (by decide),dA];exact C⟩
    | true =>
     refine ite2 (fun _=>?_) (fun y=>absurd rfl y);refine ⟨_,rfl,_,rfl,nd,_,rfl,dg,_,rfl,?_⟩
     by_cases hn:i∈nk
     ·rw [if_pos hn]
      refine ite2 (fun _=>?_) (fun y=>absurd rfl y);refine ite2 (fun _=>?_) (fun y=>absurd rfl y);exact ac H4 ⟨rfl,by unfold dueB;rw [hc,c9.mpr hn];rfl⟩
     ·rw [if_neg hn]
      refine ite2 (fun y=>absurd y (by decide)) (fun _=>?_)
      refine ⟨_,rfl,_,rfl,_,_,rfl,rfl,_,rfl,?_⟩
      have Z:nk.contains i=false:=by
       cases e:nk.contains i with
       | false=>rfl
       | true=>exact absurd (c9.mp e) hn
      refine ite2 (fun z=>?_) (fun z=>?_)
      ·have z:=bC z
       exact ac H4 ⟨rfl,by unfold dueB;rw [hc,Z,bN (by omega:N<=i)];rfl⟩
      ·have z:¬ N<=i:=fun q=>z (bN (by omega))
       have e:dueB N cs nk i=false:=by unfold dueB;rw [hc,Z,bY z];rfl
       exact ⟨⟨_,_,rfl⟩,B,d,by rw [J,e,if_neg (by decide),dA];exact C⟩) ?_
   rintro H5 ⟨rfl,ai⟩
   have an:i∉(List.range i).filter (dueB N cs nk):=fun h=>cI _ (bQ.mp (bV.mp h).1);refine ⟨_,rfl,_,rfl,_,rfl,D,_,rfl,DPut.k (k:=Sum.inl ((i:Nat):Int)) C ?_,?_⟩
   ·rw [zE_]
    have:=cj (dueB N cs nk) (List.range i);rw [bI] at this;exact cY (by omega:_<=8) (by decide)
   rw [<- eY,yV_ (f:=fun k=>Y.getD k 0) an];exact ⟨⟨_,_,rfl⟩,B.up (s1.free nD),by rw [qd_ (qY_ d C (fun y=>by cases y))];exact d,by rw [qc_,J,if_pos ai]⟩
  ·rintro σ H' ⟨⟨v8,v9,rfl⟩,sm,_,G⟩
   rw [qg_,ao] at G;exact ⟨_,rfl,q D H' sm (s1.free nD) G⟩
theorem qgj_ {ks:List Nat}{f f':Nat->Nat} (h:∀ k∈ks,f k=f' k):qA_ ks f=qA_ ks f':=by
 unfold qA_;exact d9 fun k hk=>by rw [h k hk]
theorem qay_ (ks:List Nat) (f:Nat->Nat):zs_ (qA_ ks f)=true:=by
 unfold zs_ qA_;rw [List.all_map];exact c5.mpr fun _ _=>rfl
theorem qaz_ {ks:List Nat}{f:Nat->Nat}:∀ {rs:List Nat},(∀ k∈rs,k∈ks)->v7_ (qA_ ks f) (qA_ rs f)=true
 | [],_=>rfl
 | k :: rs,h=>by
  have e:qA_ (k :: rs) f=(Sum.inl ((k:Nat):Int),V.int ((f k:Nat):Int)) :: qA_ rs f:=rfl;rw [e];unfold v7_;rw [jn_,if_pos (h k (.head _))];dsimp only;rw [qaz_ fun x hx=>h x (.tail _ hx),fD];exact dY _
theorem qnp_ (ks:List Nat) (f:Nat->Nat):eqKV (qA_ ks f) (qA_ ks f)=true:=by
 unfold eqKV;rw [qaz_ fun _ h=>h,fD];exact dY _
theorem qnq_ {r w n M N:Nat}{l:Nat->Nat->Nat}{cs:List (Option Nat)}{nk X:List Nat}{nb:Nat->Nat} (nlt:∀ k∈nk,k < N):qA_ (jc_ N cs (thrL M N cs) nk) (laidV r w n N l nk nb X)=qA_ ((List.range (N+M)).filter (dueB N cs nk)) fun k=>(j7_ r w n M N l (jJ_ N nk nb X)).getD k 0:=by
 have e1:(List.range (N+M)).filter (dueB N cs nk)=jc_ N cs (thrL M N cs) nk:=by
  unfold jc_ thrL srtN;rw [List.range_add,ee,List.filter_map,List.filter_filter]
  congr 1
  ·refine List.filter_congr fun k hk=>?_
   have hk:=bQ.mp hk;unfold dueB;rw [bY (by omega:¬ N<=k),Bool.or_false]
  ·congr 1
   refine List.filter_congr fun t _=>?_
   show dueB N cs nk (N+t)=_
   unfold dueB;rw [bN (by omega:N<=N+t),dX,fD]
 rw [e1];refine qgj_ fun k hk=>?_
 have sl:(jJ_ N nk nb X).length=N:=by unfold jJ_;rw [b9,bI]
 unfold laidV j7_;rcases (zo_ nlt).mp hk with ⟨h1,_⟩ | ⟨t,ht,rfl⟩
 ·have d:=nlt k h1
  rw [if_pos d,b7,cW (by omega)]
  unfold jJ_;rw [bE,cb d]
  show nb k=newV nk nb X k
  unfold newV;rw [if_pos h1]
 ·have g:=(thr_mem.mp ht).1
  rw [if_neg (by omega),b7,de (by omega),sl,fe,bE,cb g]
  show yf_ r w n N l t (newV nk nb X)=GF.sumB r w n ((rowT N l t).zip (jJ_ N nk nb X))
  unfold yf_ jJ_ rowT;rw [GF.sumB_range]
theorem ex_S (cs:List (Option Nat)) (M N:Nat):∃ S:Int,0<=S/\∀ ms:List Nat,ms.Perm ((List.range (N+M)).filter (mayB cs []))->ms.Pairwise (klt (ckO cs))->S=sumC cs (ms.take N):=by
 by_cases h:∃ ms:List Nat,ms.Perm ((List.range (N+M)).filter (mayB cs []))/\ms.Pairwise (klt (ckO cs))
 ·obtain ⟨ms,p,w⟩:=h
  exact ⟨sumC cs (ms.take N),yK_ _ _,fun d p' w'=>by rw [qc4_ p w p' w']⟩
 ·exact ⟨0,fg _,fun ms p w=>absurd ⟨ms,p,w⟩ h⟩
structure ScW (a:Adr) (G H:Hp) (c bp fp mk ch nd:Addr) (r w n M N:Nat) (cs:List (Option Nat)) (X nk:List Nat) (nb:Nat->Nat):Prop where
 sm:Same G H
 code:CodeAt a G c bp fp r w n M N plainL
 full:GF.Full r w
 n16:n<=16
 W:Wts w M N plainL
 make:G mk=some (.lst (rowV X))
 cost:G ch=some (.lst (rowO cs))
 csl:cs.length=N+M
 c6:∀ j,(cs.getD j none).getD 0<=1000000
 few:noN cs (N+M)<=M
 X1:X.length=N+M
 Xlt:∀ b∈X,b < (2 ^ w) ^ n
 Xmk:isMk r w n M N plainL X=true
 news:G nd=some (.dK (qA_ nk nb))
 srt:nk=srtN N nk
 n0:nk≠[]
 nlt:∀ k∈nk,k < N/\nb k < (2 ^ w) ^ n
 nt1:G a.t38=none
 nt2:G a.t63=none
 nt3:G a.t47=none
 t1:TabS H a.t38 posL qL
 t2:TabS H a.t63 (posD inA) qA
 t3:TabS H a.t47 posW qW
theorem ql5_ {R:Nat}{X:List Nat} (h:X.length=R):jS_ R (X.map some) X:=fun j hj b hb=>by
 rw [b7,bE,b8 (by rw [h];exact hj)] at hb
 cases hb;rw [b7,b8 (by rw [h];exact hj)]
 rfl
inductive qih_ (a:Adr) (vs:List V) (H:Hp) (Q:VK) (E_3:XK):Prop
 | mk:∀ (G:Hp) (c bp fp mk ch nd:Addr) (r w n M N:Nat) (cs:List (Option Nat)) (X nk:List Nat) (nb:Nat->Nat),vs=[.ref c,.ref mk,.ref ch,.ref nd,.int r]->ScW a G H c bp fp mk ch nd r w n M N cs X nk nb->(∀ H',ScW a G H' c bp fp mk ch nd r w n M N cs X nk nb->Q (.bl true) H')->qih_ a vs H Q E_3
theorem qnr_ (T:Txt K mg a) (B:Tb base mg a):FnO P wo K mg base 14 a.f67 ["_law_code", "_law_make_here", "_law_costs_here", "_law_news_here", "_law_rule_here"] (qih_ a):=by
 refine T.x67.F.okA (k:=13) sc_scene (fun bj A outer s H vs Q E hr h=>?_)
 ·obtain ⟨G,c,bp,fp,mk,ch,nd,r,w,n,M,N,cs,X,nk,nb,rfl,D,q⟩:=h
  have n8:=D.W.n8
  have aS:nk.Nodup:=by rw [D.srt];exact cL _ d6
  have nlt:∀ k∈nk,k < N:=fun k hk=>(D.nlt k hk).1
  have aI:=D.sm _ _ D.make
  have a5:=D.code.same D.sm;obtain ⟨dc,Lp,qs,hc,_,_⟩:=id a5.ins;refine xx ?_;intro X_;refine xc (qi_ (i:=5) sc_scene.nd rfl (Or.inl rfl) (qm_ yj_ (qs_ qr_ rfl T.n_len ci (qa_ (pv 1) qb_)) (qt_ (pv 0) rfl))) ?_;intro u_;refine xc (qi_ (i:=6) sc_scene.nd rfl (Or.inl rfl) (q7_ qb_)) ?_;intro u_;refine xc (qi_ (i:=7) sc_scene.nd rfl (Or.inl rfl) (vZ_ T.mk_Asking (qbi_ T) hr.u rfl T.m_Asking T.x31.b .nil qj_ (qa_ (pv 0) (qa_ (qq_ (qna_ T B) hr.u rfl T.x63.m T.x63.k T.x63.b .nil qj_ (qa_ (pv 1) (qa_ (pv 6) qb_))) (qa_ (jB_ jz_ rfl T.n_list (by decide +kernel) (qa_ (pv 2) qb_)) qb_))))) ?_
  intro u_;refine xq ?_;refine xi (qn_ (qqb_ hr.units) (qq_ (qdo_ T B) hr.u rfl T.x51.m T.x51.k T.x51.b .nil qj_ (qa_ (pv 7) (qa_ (jB_ qi5_ rfl T.n_dict (by decide +kernel) (qa_ (pv 3) qb_)) qb_))) (qq_ (qqj_ T) hr.u rfl T.x66.m T.x66.k T.x66.b .nil qj_ (qa_ (pv 1) (qa_ (pv 3) (qa_ (pv 2) (qa_ (qq_ (qfv_ T) hr.u rfl T.x58.m T.x58.k T.x58.b .nil qj_ (qa_ (pv 5) (qa_ (qt_ (pv 0) rfl) qb_))) (qa_ (pv 4) qb_)))))) (qp_ _)) ?_
  refine xl (qo_ zp_) ?_;intro u_;refine ⟨_,qw_,?_⟩;intro u_;refine xc (qi_ (i:=8) sc_scene.nd rfl (Or.inl rfl) qf_) ?_;intro u_;refine xq ?_;refine xf PassesOwn.never rfl (qB_ (pv 6)) (ql_ (i:=9) sc_scene.nd rfl (Or.inl rfl)) ?_;refine xq ?_;refine xi (PW.pt (jR_ (qn_ vp_ (qy_ qz_ (pv 2) (pv 9) (fun _ _=>rfl)) qG_ (qp_ _)) (jL_ (qn_ j3_ (jF_ cB PySem.F.slot_list_count PySem.F.type_list_count qmj_ (pv 6) (qa_ (pv 9) qb_)) qf_ (qp_ _))))) ?_;refine xl (qo_ zp_) ?_;intro u_;refine ⟨_,qw_,?_⟩;intro u_;refine xl (qi_ (i:=8) sc_scene.nd rfl (Or.inl rfl) (qm_ qE_ (pv 8) (qy_ qz_ (pv 2) (pv 9) (fun _ _=>rfl)))) ?_;intro u_;intro u_;refine xl (qo_ (yq_ jx_ (pv 8) (qq_ (qno_ T) hr.u rfl T.x65.m T.x65.k T.x65.b .nil qj_ (qa_ (pv 2) (qa_ (pv 3) (qa_ (pv 5) qb_)))) (qp_ _))) ?_;intro u_;refine ⟨_,rfl,mk,_,rfl,.inl (SqL.of aI),?_⟩;refine ⟨_,rfl,c,_,_,_,_,rfl,hc,T.cl_Code,T.no_Code_sums,zT_ bp M N Lp,_,_,rfl,rfl,?_⟩;try dsimp only
  rw [qg_,D.X1,show ((N+M:Nat):Int) - ((M:Nat):Int)=((N:Nat):Int) by omega]
  refine ⟨cn _,fun z nz=>?_⟩
  have s1:=D.sm.trans (Same.new (o:=.lst []) nz)
  have aP:G z=none:=D.sm.free nz
  have hz:(upd H z (.lst [])) z=some (.lst (rowV [])):=qc_
  have t1:=D.t1.keep (Same.new (o:=.lst []) nz)
  have t2:=D.t2.keep (Same.new (o:=.lst []) nz)
  have t3:=D.t3.keep (Same.new (o:=.lst []) nz);generalize (upd H z (.lst []))=H1 at s1 hz t1 t2 t3;refine ⟨_,rfl,_,rfl,_,rfl,mk,z,rfl,t2,fun H2 f k2 Z nf hf bm=>?_⟩;obtain ⟨bh,ar,_⟩:=id t2
  have t1:=t1.kp B.d_Asking_order_asker ar k2
  have t3:=t3.kp B.d_next_way_asker ar k2
  have s2:Same G H2:=fun b o e=>k2 b o (fun y=>by rw [y,D.nt2] at e;cases e) (s1 b o e)
  have a0:=k2 _ _ (qY_ hz ar (fun y=>by cases y)) hz
  refine ⟨_,rfl,ch,_,rfl,.inl (SqL.of (s2 _ _ D.cost)),fun hd aV=>?_⟩
  have g:=Same.new (o:=.lst (rowO cs)) aV
  have s3:=s2.trans g
  have ao:=g _ _ a0
  have ad:(upd H2 hd (.lst (rowO cs))) hd=some (.lst (rowO cs)):=qc_
  have ae:=t1.keep g
  have Z:=Z.keep g
  have aq:=t3.keep g
  have hf:=hf.same g;generalize (upd H2 hd (.lst (rowO cs)))=H3 at g s3 ao ad ae Z aq hf;refine fun x dx nx aw ba=>?_
  have aX:(upd (upd H3 dx (.own x)) x (.ins a.C_Asking dx [])) hd=some (.lst (rowO cs)):=by
   rw [qd_ (qh_ ad nx),qd_ (qh_ ad aw)];exact ad
  have a8:Same G (upd (upd H3 dx (.own x)) x (.ins a.C_Asking dx [])):=fun b o e=>by
   have e3:=s3 b o e;rw [qd_ (qh_ e3 nx),qd_ (qh_ e3 aw)];exact e3
  have aJ:G mk=some (.lst (rowO (X.map some))):=by rw [<- qfu_];exact D.make
  have a1:(X.map some).length=N+M:=by rw [b9,D.X1]
  refine ⟨x,dx,c,bp,fp,f,hd,r,w,n,M,N,plainL,cs,rfl,qc_,D.code.same a8,D.W,SqL.of aX,by rw [D.csl];exact n8,fun H5 cl rl sl k5 aZ a2 nrl nsl d1 d2 d3 a7 au aj=>?_⟩
  obtain ⟨br,aC,_⟩:=id aq;obtain ⟨I,J,al,C⟩:=qnd_ [a.t47] s3 D.code D.full D.n16 D.W aJ a1 aP D.nt1 hf ao ae D.csl nx aw k5 aZ a2 nrl nsl d1 d2 d3 a7 au aj (fun y hy=>by rw [bS.mp hy];exact ⟨D.nt3,.inr ⟨_,aC⟩⟩)
  have ay:=C _ _ ao;obtain ⟨bg,aK,_⟩:=id ae
  have aR:=C _ _ aK
  have aB:=C _ _ aC
  have aG:TabS (qP_ [z,rl,sl,a.t38,a.t47] H5) a.t63 (posD inA) qA:=by
   obtain ⟨bi,aT,_⟩:=id Z
   have L:=C _ _ aT;refine (Z.keep C).hide (fun hb=>?_) fun b hb=>?_
   ·rcases bL.mp hb with y | hb
    ·rw [y,ay] at L;cases L
    rcases bL.mp hb with y | hb
    ·rw [y,au] at L;cases L
    rcases bL.mp hb with y | hb
    ·rw [y,aj] at L;cases L
    rcases bL.mp hb with y | hb
    ·exact B.d_Asking_order_asker y.symm
    ·exact B.d_next_way_asker (bS.mp hb).symm
   ·rcases bL.mp hb with y | hb
    ·rw [y];exact .inl ⟨_,ay⟩
    rcases bL.mp hb with y | hb
    ·rw [y];exact .inl ⟨_,au⟩
    rcases bL.mp hb with y | hb
    ·rw [y];exact .inl ⟨_,aj⟩
    rcases bL.mp hb with y | hb
    ·rw [y];exact .inr ⟨_,aR⟩
    ·rw [bS.mp hb];exact .inr ⟨_,aB⟩
  have aN:=aq.keep C
  have nW:qP_ [z,rl,sl,a.t38,a.t47] H5 a.t47=none:=q4_ (by simp)
  refine ⟨rfl,?_⟩;generalize qP_ [z,rl,sl,a.t38,a.t47] H5=H0 at I J al aG nW
  have aY:=al.trans J.sm;refine ⟨_,rfl,_,rfl,nd,_,rfl,aY _ _ D.news,fun d Y=>?_⟩
  have ak:=Same.new (o:=.dK (qA_ nk nb)) Y
  have aA:H0 d=none:=J.sm.free Y;obtain ⟨w1,w2,w3,w4⟩:=J.away Y
  have I':=I.ext (o:=.dK (qA_ nk nb)) aA w1 w2 w3 w4
  have J':=(J.same ak).ext (qc_ (H:=H5) (a:=d) (o:=.dK (qA_ nk nb)))
  have as:Same H0 (upd H0 d (.dK (qA_ nk nb))):=Same.new aA
  have aF:(upd H0 d (.dK (qA_ nk nb))) a.t47=none:=by rw [qd_ (qh_ aB Y)];exact nW
  have aE:=aN.keep ak
  have am:=qc_ (H:=H0) (a:=d) (o:=.dK (qA_ nk nb));generalize (upd H5 d (.dK (qA_ nk nb)))=H6 at ak J' aE;generalize (upd H0 d (.dK (qA_ nk nb)))=Hn at I' J' as aF am;refine ⟨Hn,_,d,r,w,n,M,N,plainL,cs,X.map some,_,[],X,nk,nb,rfl,I',J',aE,aF,am,aS,nlt,D.c6,⟨D.X1,D.Xlt,D.Xmk,qlk_ _ _⟩,ql5_ D.X1,fun H7 bb O b ai be J7 t7=>?_⟩;rw [qly_ nlt D.n0] at ai ⊢;obtain ⟨S0,aU,aQ⟩:=ex_S cs M N;obtain ⟨hb,ax,a3,_⟩:=qn7_ D.full.toGood D.W D.X1 D.few nlt D.n0 J7.osl (fun _=>aQ) (fun _=>aU) ai;subst hb;refine ⟨fun _ _ LD bc aH=>?_,fun y=>absurd y (by rw [ax];decide)⟩
  rw [qnq_ nlt] at aH
  have ah:Same G H7:=al.trans (as.trans J7.sm)
  have aO:=D.code.same ah;obtain ⟨bo,aM,bn,aW,_,_⟩:=id aO.ins
  have W:=D.W;refine ⟨_,rfl,_,rfl,_,rfl,_,rfl,_,rfl,c,_,_,_,_,rfl,aW,T.cl_Code,T.no_Code_sums,zT_ bp M N aM,N,M,rfl,W.m1,W.m2,by omega,fun WL H8 ps s8 a9 a6=>?_⟩
  have av:=ah.trans s8;refine ⟨_,rfl,mk,nd,ch,WL,ps,r,w,n,M,N,plainL,cs,nk,X,nb,rfl,D.full.toGood,W.m1,W.m2,n8,W.lt,av _ _ D.make,D.X1,D.Xlt,av _ _ D.news,fun k hk=>(D.nlt k hk).2,av _ _ D.cost,D.csl,a9,a6,fun DD H9 s9 bd aL=>?_⟩
  have ab:=s8.trans s9
  have J9:=J7.same ab
  have an:=ah.trans ab;refine ⟨LD,DD,_,_,rfl,rfl,ab _ _ aH,aL,qay_ _ _,qay_ _ _,_,rfl,?_⟩;rw [qnp_];refine ite2 (fun y=>absurd y (by decide)) (fun _=>?_)
  have ac:=J9.hz
  have ap:=an _ _ D.cost;refine ⟨_,rfl,z,rfl,⟨_,SqL.of ac⟩,?_⟩;refine let I_:Nat->L2.St->Hp->Prop:=fun i σ H'=>L2.A2 ((∃ v9:Option V,σ=[some (.ref c),some (.ref mk),some (.ref ch),some (.ref nd),some (.int (r:Nat)),some (.int (N:Nat)),some (.ref z),some (.ref x),some (.int (sumC cs (O.take i))),v9])) (H'=H9);ji_ (xs:=rowV O) I_ ⟨⟨none,rfl⟩,rfl⟩ ?_ ?_ ?_
  ·rintro i σ H' _ ⟨_,rfl⟩
   exact SqL.of ac
  ·rintro i y σ H' hy ⟨⟨v9,rfl⟩,rfl⟩
   obtain ⟨j,ej,rfl⟩:=qN_ hy
   have aD:=bO ej
   have hj:=J9.lt j aD
   have az:=qv_ (qS_ (jt_ (os:=cs) (k:=j) (by rw [D.csl];exact hj)))
   have ev:=qc8_ (a3 j aD);refine ⟨_,rfl,_,rfl,ch,_,_,_,rfl,rfl,SqL.of ap,az,rfl,_,rfl,?_⟩;refine ite2 (fun z=>by rw [ev] at z;exact absurd z (by simp)) (fun _=>?_)
   refine ⟨_,rfl,.inl ⟨rfl,_,SqL.of ac⟩,_,rfl,z,_,_,rfl,rfl,ac,rfl,fun z hz=>?_,_,_,rfl,rfl,_,rfl,?_⟩
   ·obtain ⟨y,_,rfl⟩:=uH_ hz
    rfl
   have bq:=qc0_ (k:=j) O J9.nd;refine ite2 (fun z=>absurd (bC z) (by omega)) (fun _=>?_)
   refine ⟨_,rfl,_,rfl,_,rfl,ch,_,_,_,rfl,rfl,SqL.of ap,az,_,_,rfl,ev,?_⟩
   have e:sumC cs (O.take i)+ckO cs j=sumC cs (O.take (i+1)):=by rw [j0_ ej,qdb_]
   try dsimp only [L2.start,List.set,List.map,List.append,List.replicate,HAppend.hAppend,Append.append,List.length,Nat.reduceAdd,Nat.reduceSub]
   rw [e];exact ⟨⟨_,rfl⟩,rfl⟩
  ·rintro σ H' ⟨⟨v9,rfl⟩,rfl⟩
   rw [qg_,fc];refine ⟨_,rfl,_,rfl,_,rfl,_,rfl,ch,nd,M,N,cs,nk,nb,rfl,ap,D.csl,n8,D.c6,an _ _ D.news,D.srt,fun a4 S aa hS=>?_⟩
   obtain ⟨_,_,_,U⟩:=qn7_ (S:=S) D.full.toGood D.W D.X1 D.few nlt D.n0 J7.osl (fun ht ms pm pw=>by
    obtain ⟨ns,pn,sn,rfl⟩:=hS ht;exact ql4_ pm pw pn sn) (fun ht=>by
    obtain ⟨ns,pn,sn,rfl⟩:=hS ht
    have:∀ l:List Int,(∀ y∈l,0<=y)->0<=l.sum:=fun l=>by
     induction l with
     | nil=>exact fun _=>fg _
     | cons y l ih =>
      intro h;rw [List.sum_cons]
      have:=h y (.head _)
      have:=ih fun z hz=>h z (.tail _ hz);omega
    refine this _ fun y hy=>?_;obtain ⟨j,_,rfl⟩:=cG.mp (pn.mem_iff.mp (dr hy))
    exact qaw_ cs j) ai
   have U:sumC cs O=qax_ cs M N nk S:=U;rw [U];refine ⟨rfl,?_⟩;rw [bN rfl];exact q a4 { D with sm:=an.trans aa,t1:=J9.tab.keep aa,t2:=aG.keep (as.trans (J9.sm.trans aa)),t3:=t7.keep (ab.trans aa) }
def Itp3 (lo:Int) (n:Nat):It:=⟨fun i _=>i < n,fun i H x H'=>H'=H/\x=.int (lo+i * 3),fun i _=>n<=i⟩
theorem qjh_ {P:Program}{w:World}{K:PySem.W.Frag}{tg:Expr} (it:Addr) (lo:Int) (n:Nat):Turn P w K tg (Itp3 lo n) [it] it (fun i h=>IsRangeIter h it (lo+(i:Nat) * 3) ((n:Int) - (i:Nat)) 3) where
 mem:=by simp
 obj:=fun i h st b hb=>by
  have e:b=it:=by simpa using hb
  subst e
  exact ⟨_,st,fun v z=>by
   have z':Data.fields _=Data.cell v:=z
   cases z'⟩
 keep:=fun i h h' st k=>k it (by simp) _ st
 item:=by
  intro X hP hw hK hc i d s σ H E I hf st hg;subst hP hw hK;obtain ⟨f0,f1,f2,f3,f4,f5⟩:=hf it (by simp)
  have W:=Walks.range (prog:=X.prog) (w:=X.w) (I.ok.hd hc) it lo 3 n;refine W.item i s _ _ hg st fun v h' tk hv g kk=>?_;obtain ⟨t,rfl⟩:=hv
  have I1:Inv X d σ H { s with heap:=h',toks:=tk }:=I.turned (fun b o hb e=>kk b o (by simpa using hb) e) f0 f1 f3 f4 f5
  exact ⟨_,rfl,uU_ (s:={ s with heap:=h',toks:=tk }) (n:="range_iterator") g rfl rfl (by decide) ⟨.int (lo+i * 3),H,I1,⟨t,rfl⟩,⟨rfl,rfl⟩,g,fun b hb=>(hf b hb).1⟩⟩
 done:=by
  intro X hP hw hK hc i d s σ H E I hf st hg;subst hP hw hK;obtain ⟨f0,f1,f2,f3,f4,f5⟩:=hf it (by simp)
  exact wpAny_pyNext_range_end (I.ok.hd hc) st (by have:n<=i:=hg;omega) fun h' eb=>⟨rfl,I.turned (t':=s.toks) (fun b o hb e=>eb b o hb e) f0 f1 f3 f4 f5⟩
 self:=fun _ _ _ _ _ st h=>wpAny_pyIter_rangeiter st h
inductive qf0_ (R:It->Hp->Prop) (vs:List V) (H1:Hp):Prop
 | mk:∀ i j:Int,vs=[.int i,.int j,.int 3]->(0<=i/\i < 1000/\i < j/\j < 1000)->R (Itp3 i ((j - i+2) / 3).toNat) H1->qf0_ R vs H1
def qqk_ (ta:TA):TI:=fun σ H R=>ta σ H fun vs H1=>qf0_ R vs H1
theorem qji_ {X:Cx}{tg:Expr}{a b c:Expr}{ta:TA}{p pos:Pos} (hg:Gl X "range") (hm:X.mg "range" = none) (ha:PA X [a,b,c] ta) (hs:starEach [a,b,c] X.env=[(false,eval a X.env),(false,eval b X.env),(false,eval c X.env)]:=by rfl) (hs2:starEach [b,c] X.env=[(false,eval b X.env),(false,eval c X.env)]:=by rfl) :
  PI X tg (.Call (.Name "range" p) [a,b,c] [] pos) (qqk_ ta):=by
 intro d s σ H R I h;refine Call_ (jK_ I hg hm boot_range (d8 (thn (ha pos d s σ H _ I h) fun us s1 ⟨vs,H1,I1,r1,q1⟩=>?_) (by rw [hs,hs2]) (by rw [hs2];rfl)))
 obtain ⟨i,j,e,⟨q1,q2,q3,q4⟩,q⟩:=q1;subst e
 cases r1 with
 | cons r rr =>
  cases rr with
  | cons r' rr =>
   cases rr with
   | cons r2 rr =>
    cases rr;obtain ⟨t,rfl⟩:=r;obtain ⟨t',rfl⟩:=r';obtain ⟨t2,rfl⟩:=r2
    have hd:Builtin.divisionGoesByPylong (j - i) 3=false:=by
     unfold Builtin.divisionGoesByPylong
     have:(decide ((if ((3:Int) == 0)=true then 0 else Nat.log2 (Int.natAbs 3) / 30+1) > 300))=false:=by decide
     dsimp only;rw [this,Bool.false_and]
    have rs:Builtin.Range.rangeSize i j 3=(j - i - 1) / 3+1:=by
     unfold Builtin.Range.rangeSize;rw [if_pos (by decide),if_pos q3]
    have fl:∀ z:Int,-10000 < z->z < 10000->Builtin.Range.rangeFitsLong z=true:=fun z h1 h2=>by
     unfold Builtin.Range.rangeFitsLong;rw [cC];exact ⟨bN (by omega),bN (by omega)⟩
    have sm:Builtin.Range.small i j 3=true:=by
     unfold Builtin.Range.small;rw [rs,fl i (by omega) (by omega),fl j (by omega) (by omega),fl 3 (by decide) (by decide),fl ((j - i - 1) / 3+1) (by omega) (by omega),if_pos (by decide),fl (j+(3 - 1)) (by omega) (by omega),dX]
     rfl
    refine call_range_3 (by decide) ?_ (.inl hd)
    refine wpAny_pyIter_range (IsRange.new ..) sm ?_
    have I2:Inv X d σ H1 { s1 with heap:=s1.heap.push { cls:=.type "range",data:=.fields #[.int i t,.int j t',.int 3 t2] } }:=I1.kept (t':=s1.toks) fun b o e=>bD _ e
    refine ⟨(s1.heap.push { cls:=.type "range",data:=.fields #[.int i t,.int j t',.int 3 t2] }).objs.size,[(s1.heap.push { cls:=.type "range",data:=.fields #[.int i t,.int j t',.int 3 t2] }).objs.size],_,_,H1,rfl,
     I2.kept (t':=s1.toks) fun b o e=>bD _ e,qjh_ _ i ((j - i+2) / 3).toNat,?_,fun b hb=>?_,q⟩
    ·have e1:i+((0:Nat):Int) * 3=i:=by simp
     have e2:((((j - i+2) / 3).toNat:Nat):Int) - ((0:Nat):Int)=Builtin.Range.rangeSize i j 3:=by rw [rs];omega
     show IsRangeIter _ _ (i+((0:Nat):Int) * 3) (((((j - i+2) / 3).toNat:Nat):Int) - ((0:Nat):Int)) 3
     rw [e1,e2];exact bZ _ rfl
    ·have e:b=(s1.heap.push { cls:=.type "range",data:=.fields #[.int i t,.int j t',.int 3 t2] }).objs.size:=by simpa using hb
     subst e;exact I2.fpOk (bF _) (I2.hok.fresh (bF _))
theorem qgk_ {lo:Int}{n:Nat}{g:TG}{tb:TS}{D:Ends}{σ:L2.St}{H:Hp} (Pv:Nat->L2.St->Hp->Prop) (h0:Pv 0 σ H)
  (hs:∀ i σ H,i < n->Pv i σ H->g (.int (lo+i * 3)) σ H fun σ2 H2=>tb { D with nx:=Pv (i+1),ct:=Pv (i+1),bk:=D.nx } σ2 H2) (hd:∀ σ H,Pv n σ H->D.nx σ H) :
  ∃ W:Nat->Nat->L2.St->Hp->Prop,(∃ m,W 0 m σ H)/\∀ i m σ H,W i m σ H →
   ((Itp3 lo n).stop i H/\D.nx σ H)\/((Itp3 lo n).go i H/\∃ N:L2.St->Hp->Prop,(∀ σ' H',N σ' H'->∃ m',m' < m/\W (i+1) m' σ' H')/\∀ x H',(Itp3 lo n).yld i H x H'->g x σ H' fun σ2 H2=>tb { D with nx:=N,ct:=N,bk:=D.nx } σ2 H2):=by
 refine ⟨fun i m σ H=>m=n - i/\i<=n/\Pv i σ H,⟨n,by simp,cn _,h0⟩,?_⟩
 rintro i m σ H ⟨rfl,hi,p⟩
 by_cases hlt:i < n
 ·refine .inr ⟨hlt,Pv (i+1),fun σ' H' p'=>⟨n - (i+1),by omega,rfl,hlt,p'⟩,fun x H' y=>?_⟩
  obtain ⟨e,rfl⟩:=y;subst e;exact hs i σ _ hlt p
 ·have e:i=n:=by omega
  exact .inl ⟨by show n<=i;omega,hd σ H (e ▸ p)⟩
theorem CodeAt.hide {a:Adr}{H:Hp}{c bp fp:Addr}{r w n M N:Nat}{l:Nat->Nat->Nat}{xs:List Addr} (h:CodeAt a H c bp fp r w n M N l) (hx:∀ x∈xs,∃ ps,H x=some (.tbl ps)):CodeAt a (qP_ xs H) c bp fp r w n M N l:=by
 have k:∀ {b:Addr}{o:HO},H b=some o->(∀ ps,o≠.tbl ps)->qP_ xs H b=some o:=fun {b o} e n=>by
  rw [jw_ fun z=>?_]
  ·exact e
  ·obtain ⟨ps,y⟩:=hx b z
   rw [y] at e;exact n ps (bM e).symm
 obtain ⟨dx,Lp,qs,h1,h2,h3⟩:=h.ins;obtain ⟨⟨db,hb⟩,⟨dF,hF⟩⟩:=h.blk;exact ⟨⟨dx,Lp,qs,k h1 (fun _ y=>by cases y),k h2 (fun _ y=>by cases y),⟨h3.len,fun i p e=>k (h3.on i p e) (fun _ y=>by cases y)⟩⟩,⟨⟨db,k hb (fun _ y=>by cases y)⟩,⟨dF,k hF (fun _ y=>by cases y)⟩⟩⟩
theorem TabS.kl {H H':Hp}{t l:Addr}{p:Pos}{q:Str}{ys:List V} (h:TabS H t p q) (hl:H l=some (.lst ys)) (k:∀ b o,b≠l->H b=some o->H' b=some o):TabS H' t p q:=by
 obtain ⟨d,h1,h2⟩:=h;refine ⟨d,k _ _ (qY_ h1 hl (fun y=>by cases y)) h1,?_⟩
 rcases h2 with h2 | ⟨c',e,h2⟩
 ·exact .inl h2
 ·exact .inr ⟨c',e,k _ _ (qY_ h2 hl (fun y=>by cases y)) h2⟩
theorem qns_ {K:PySem.W.Frag}{H:Hp}{b:Addr}{xs:List V}{ts:List Addr} (h:SqL K H b xs) (ht:∀ p∈ts,∃ ps,H p=some (.tbl ps)):SqL K (qP_ ts H) b xs:=by
 have k:∀ {o:HO},H b=some o->(∀ ps,o≠.tbl ps)->qP_ ts H b=some o:=fun {o} e n=>by
  rw [jw_ fun z=>?_]
  ·exact e
  ·obtain ⟨ps,y⟩:=ht b z
   rw [y] at e;exact n ps (bM e).symm
 rcases h with (h | ⟨o,h⟩) | h
 ·exact .inl (.inl (k h (fun _ y=>by cases y)))
 ·exact .inl (.inr ⟨o,k h (fun _ y=>by cases y)⟩)
 ·exact .inr h
inductive vU_ (K:PySem.W.Frag) (ts:List Addr) (vs:List V) (H:Hp) (Q:VK) (E_3:XK):Prop
 | mk:∀ (s:Addr) (ns:List Int),vs=[.ref s]->SqL K H s (ns.map V.int)->ns.length<=63->((∀ p∈ts,H p=some (.tbl #[])))->(∀ H',Q (.bl true) H')->vU_ K ts vs H Q E_3
theorem qql_ (T:Txt K mg a) (B:Tb base mg a):FnO P wo K mg base 15 a.f68 ["_law_script"] (vU_ K [a.t38,a.t47,a.t63]):=by
 refine T.x68.F.okA (k:=14) sc_law (fun bv A outer s H vs Q E hr h=>?_)
 ·obtain ⟨sa,ns,rfl,hS,l,hT,q⟩:=h
  have aU:=hT a.t38 (.head _)
  have aX:=hT a.t47 (.tail _ (.head _))
  have aM:=hT a.t63 (.tail _ (.tail _ (.head _)));refine xx ?_;intro X_;refine xc (yM_ (qq_ (qm8_ T) hr.u rfl T.x59.m T.x59.k T.x59.b .nil qj_ (qa_ (qq_ (y8_ T) hr.u rfl T.x52.m T.x52.k T.x52.b .nil qj_ (qa_ (pv 0) (qa_ qf_ qb_))) qb_)) (yL_ rfl (qH_ (ql_ (i:=1) sc_law.nd rfl (Or.inl rfl)) (qH_ (ql_ (i:=2) sc_law.nd rfl (Or.inl rfl)) jM_)))) ?_;intro u_;refine xc (qi_ (i:=3) sc_law.nd rfl (Or.inl rfl) (qq_ (qo4_ T) hr.u rfl T.x53.m T.x53.k T.x53.b .nil qj_ (qa_ (qq_ (y8_ T) hr.u rfl T.x52.m T.x52.k T.x52.b .nil qj_ (qa_ (pv 0) (qa_ qf_ qb_))) qb_))) ?_;intro u_;refine xc (qi_ (i:=4) sc_law.nd rfl (Or.inl rfl) (qm_ uV_ qf_ (qm_ yj_ (vt_ dU dm dn yQ_ (pv 3)) qf_))) ?_;intro u_;refine xc (qi_ (i:=5) sc_law.nd rfl (Or.inl rfl) (qq_ (qfv_ T) hr.u rfl T.x58.m T.x58.k T.x58.b .nil qj_ (qa_ (pv 1) (qa_ (pv 2) qb_)))) ?_;intro u_;refine xc (qi_ (i:=6) sc_law.nd rfl (Or.inl rfl) (qq_ (qh1_ T) hr.u rfl T.x56.m T.x56.k T.x56.b .nil qj_ (qa_ (qq_ (qh3_ T) hr.u rfl T.x57.m T.x57.k T.x57.b .nil qj_ (qa_ (pv 0) (qa_ qf_ (qa_ (pv 1) (qa_ (pv 4) qb_))))) (qa_ (pv 5) (qa_ (pv 3) qb_))))) ?_;intro u_;refine xc (qi_ (i:=7) sc_law.nd rfl (Or.inl rfl) (vZ_ T.mk_Code (qe4_ T) hr.u rfl T.m_Code T.x22.b .nil qj_ (qa_ (vZ_ T.mk_Blocks (qbd_ T) hr.u rfl T.m_Blocks T.x14.b .nil qj_ (qa_ (vZ_ T.mk_Field (qdl_ T) hr.u rfl T.m_Field T.x0.b .nil qj_ (qa_ (pv 3) qb_)) (qa_ qf_ qb_))) (qa_ (pv 5) qb_)))) ?_;intro u_;refine xq ?_;refine xi (qn_ zq_ (qt_ (pv 7) rfl) (pv 2) (qp_ _)) ?_;refine xl (qo_ zp_) ?_;intro u_
  refine ⟨_,qw_,?_⟩;intro u_;refine xc (qi_ (i:=8) sc_law.nd rfl (Or.inl rfl) (qm_ qE_ (pv 1) (pv 2))) ?_;intro u_;refine xq ?_;refine xf PassesOwn.never rfl (qji_ rfl T.n_range (qa_ qf_ (qa_ (qs_ (qjt_ rfl) rfl T.n_max boot_max (qa_ qf_ (qa_ (qs_ (qju_ rfl) rfl T.n_min boot_min (qa_ (qs_ qr_ rfl T.n_len ci (qa_ (pv 0) qb_)) (qa_ qf_ qb_))) qb_))) (qa_ qf_ qb_)))) (ql_ (i:=9) sc_law.nd rfl (Or.inl rfl)) ?_;refine xc (qi_ (i:=10) sc_law.nd rfl (Or.inl rfl) (qq_ (qpj_ T) hr.u rfl T.x61.m T.x61.k T.x61.b .nil qj_ (qa_ (qq_ (y8_ T) hr.u rfl T.x52.m T.x52.k T.x52.b .nil qj_ (qa_ (pv 0) (qa_ (pv 9) qb_))) (qa_ (pv 8) (qa_ (pv 2) (qa_ (qq_ (qm9_ T) hr.u rfl T.x60.m T.x60.k T.x60.b .nil qj_ (qa_ (qq_ (y8_ T) hr.u rfl T.x52.m T.x52.k T.x52.b .nil qj_ (qa_ (pv 0) (qa_ (qm_ qE_ (pv 9) qf_) qb_))) (qa_ (pv 8) qb_))) qb_)))))) ?_;intro u_;refine xc (qi_ (i:=11) sc_law.nd rfl (Or.inl rfl) (qq_ (qpm_ T) hr.u rfl T.x62.m T.x62.k T.x62.b .nil qj_ (qa_ (pv 0) (qa_ (qm_ qE_ (pv 9) qf_) (qa_ (qq_ (y8_ T) hr.u rfl T.x52.m T.x52.k T.x52.b .nil qj_ (qa_ (pv 0) (qa_ (qm_ qE_ (pv 9) qf_) qb_))) (qa_ (pv 1) (qa_ (pv 4) qb_))))))) ?_;intro u_;refine x1 ?_;refine xi (j9_ (q6_ (qq_ (qnr_ T B) hr.u rfl T.x67.m T.x67.k T.x67.b .nil qj_ (qa_ (pv 7) (qa_ (pv 6) (qa_ (pv 10) (qa_ (pv 11) (qa_ (pv 3) qb_)))))))) ?_;refine xl (qo_ zp_) ?_;intro u_;refine ⟨_,qw_,?_⟩;intro u_;intro u_;refine xl (qo_ zp_) ?_;intro u_;refine ⟨_,rfl,sa,ns,0,rfl,hS,by decide,l,fun c0=>⟨_,rfl,fun tp H1 N M m1 m2 n1 n8 bz s1 aL=>?_⟩⟩
  refine ⟨tp,_,rfl,SqT.of aL,rfl,_,_,rfl,_,_,rfl,rfl,?_⟩
  have a8:=s1.seq hS;refine ⟨_,rfl,sa,ns,1,rfl,a8,by decide,l,fun c1=>⟨_,rfl,fun r H2 R s2=>?_⟩⟩
  generalize r.log2=w at R
  have aY:=R.top16
  have bd:=R.top256
  have a7:=s1.trans s2
  have W:Wts w M N plainL:=qld_ aY m1 m2 n1 n8
  have bh:w<=8:=R.w8
  have bq:4<=w:=R.w4
  have ew:((Builtin.Int.intBits (r:Int):Nat):Int) - 1=(w:Int):=by
   rw [jO_ R.rule.lo R.rule.hi];omega
  have eL:(1:Int) * 2 ^ ((w:Int)).toNat=(((2 ^ w) ^ 1:Nat):Int):=by rw [uG_,Nat.pow_one]
  have ax:0 < (2 ^ w) ^ 1:=Nat.pow_pos (d5 w)
  have av:(2 ^ w) ^ 1<=2 ^ 128:=by
   rw [Nat.pow_one];exact dh (by decide) (by omega)
  refine ⟨_,rfl,rfl,_,rfl,rfl,_,_,rfl,rfl,?_⟩;try dsimp only
  rw [ew];refine ⟨_,_,rfl,rfl,⟨by omega,by omega,by decide⟩,?_⟩
  try dsimp only
  rw [eL];refine ⟨_,rfl,_,rfl,N,M,rfl,m1,m2,by omega,fun WL H3 ps s3 aD aC=>?_⟩
  have aA:=a7.trans s3;refine ⟨_,rfl,_,rfl,_,rfl,sa,ns,2,N,(2 ^ w) ^ 1,rfl,aA.seq hS,l,by omega,by omega,ax,av,fun SL H8 xs s8 bA aT ai al=>?_⟩
  have a2:=aA.trans s8;refine ⟨_,rfl,_,rfl,SL,WL,ps,r,w,1,M,N,plainL,xs,rfl,R.toGood,aT,ai,by omega,m2,al,s8 _ _ aD,aC.same s8,W.lt,fun ML H9 s9 br aw=>?_⟩
  have a4:=a2.trans s9
  have bb:=s8.trans s9;obtain ⟨X,aa⟩:∃ X,X=j7_ r w 1 M N plainL xs:=⟨_,rfl⟩;rw [<- aa] at aw
  have aR:X.length=N+M:=by rw [aa];exact qfk_ _ _ _ _ _ _ _ ai
  have aJ:∀ b∈X,b < (2 ^ w) ^ 1:=by rw [aa];exact qpd_ R.toGood W al
  have aH:isMk r w 1 M N plainL X=true:=by rw [aa];exact qpc_ _ _ _ _ _ _ _ R.toGood W ai
  try dsimp only [L2.start,List.set,List.map,List.append,List.replicate,HAppend.hAppend,Append.append,List.length,Nat.reduceAdd,Nat.reduceSub]
  refine ⟨_,rfl,fun x dx nx bc bj=>⟨x,dx,r,w,rfl,qc_,R.toGood,rfl,?_⟩⟩
  have s5:=qk3_ (a:=a) (r:=r) (w:=w) (Same.refl H9) nx bc
  have hF:FieldAt a.C_Field (upd (upd (upd H9 dx (.own x)) x (.ins a.C_Field dx [])) x (.ins a.C_Field dx (ff r w))) x r w:=⟨dx,qc_⟩;generalize (upd (upd (upd H9 dx (.own x)) x (.ins a.C_Field dx [])) x (.ins a.C_Field dx (ff r w)))=H14 at s5 hF;refine fun b db nb au bi=>⟨b,db,x,r,w,1,rfl,qc_,?_,?_,R.toGood,by decide,by decide,rfl,?_⟩
  ·obtain ⟨d,e⟩:=hF
   exact ⟨d,by rw [qd_ (qh_ e nb),qd_ (qh_ e au)];exact e⟩
  ·obtain ⟨d,e⟩:=hF
   exact (qh_ e nb).symm
  have s6:=qi9_ (a:=a) (fp:=x) (w:=w) (n:=1) (Same.refl H14) nb au
  have hB:BlocksAt a (upd (upd (upd H14 db (.own b)) b (.ins a.C_Blocks db [])) b (.ins a.C_Blocks db (bf x w 1))) b x r w 1:=⟨⟨db,qc_⟩,hF.same s6⟩;generalize (upd (upd (upd H14 db (.own b)) b (.ins a.C_Blocks db [])) b (.ins a.C_Blocks db (bf x w 1)))=H15 at s6 hB
  have am:=s5.trans s6
  have ap:=bb.trans am;refine ⟨_,rfl,fun c dc nc aQ bw=>?_⟩
  have s7:Same H15 (upd (upd H15 dc (.own c)) c (.ins a.C_Code dc [])):=fun y o e=>by
   rw [qd_ (qh_ e nc),qd_ (qh_ e aQ)];exact e
  refine ⟨c,dc,b,x,WL,r,w,1,M,N,ps,plainL,rfl,qc_,hB.same s7,R.toGood,s7 _ _ (ap _ _ aD),aC.same (ap.trans s7),W,fun g a3 ak=>⟨rfl,?_⟩⟩
  have as:Same H15 g:=fun y o e=>a3 y o (qh_ e nc) (s7 _ _ e)
  have ae:=am.trans as
  have L:=a4.trans ae
  have an:=L _ _ aU
  have aj:=L _ _ aM
  have ao:=L _ _ aX
  have U:=ae _ _ aw
  have Y:∀ p∈[a.t38,a.t47,a.t63],∃ ps,g p=some (.tbl ps):=fun p hp=>by
   rcases bL.mp hp with y | y
   ·rw [y];exact ⟨_,an⟩
   rcases bL.mp y with y | y
   ·rw [y];exact ⟨_,ao⟩
   ·rw [bS.mp y];exact ⟨_,aj⟩
  have az:=ak.hide Y
  have aB:qP_ [a.t38,a.t47,a.t63] g ML=some (.lst (rowV X)):=by
   rw [jw_ fun z=>?_]
   ·exact U
   ·obtain ⟨ps,y⟩:=Y ML z
    rw [y] at U;cases U
  have sG:Same (qP_ [a.t38,a.t47,a.t63] g) g:=z9_ _ _
  have nt1:qP_ [a.t38,a.t47,a.t63] g a.t38=none:=q4_ (by simp)
  have nt2:qP_ [a.t38,a.t47,a.t63] g a.t63=none:=q4_ (by simp)
  have nt3:qP_ [a.t38,a.t47,a.t63] g a.t47=none:=q4_ (by simp)
  have I:SqL K (qP_ [a.t38,a.t47,a.t63] g) sa (ns.map V.int):=qns_ (L.seq hS) Y
  have T1:TabS g a.t38 posL qL:=⟨_,an,.inl rfl⟩
  have T2:TabS g a.t63 (posD inA) qA:=⟨_,aj,.inl rfl⟩
  have T3:TabS g a.t47 posW qW:=⟨_,ao,.inl rfl⟩;obtain ⟨bm,aZ,bn,a0,_,_⟩:=id ak.ins;generalize qP_ [a.t38,a.t47,a.t63] g=G at az aB sG nt1 nt2 nt3 I;refine ⟨_,rfl,c,_,_,_,_,rfl,a0,T.cl_Code,T.no_Code_sums,zT_ b M N aZ,_,rfl,rfl,_,rfl,?_⟩;refine ite2 (fun y=>absurd y (qk4_ rfl)) (fun _=>?_);refine ⟨_,rfl,_,rfl,_,_,rfl,rfl,?_⟩
  have be:(ns.map V.int).length<=63:=by rw [b9];exact l
  obtain ⟨J,hJ,bo,bg⟩:∃ J:Int,(if (if (38:Int) < (((ns.map V.int).length:Nat):Int) then 38 else (((ns.map V.int).length:Nat):Int)) > 5 then (if (38:Int) < (((ns.map V.int).length:Nat):Int) then 38 else (((ns.map V.int).length:Nat):Int)) else 5)=J/\5<=J/\J<=63:=by
   refine ⟨_,rfl,?_,?_⟩
   ·split <;> omega
   ·split
    ·split <;> omega
    ·omega
  refine ⟨_,rfl,sa,_,rfl,.inl (sG.seq I),_,_,rfl,_,_,rfl,?_⟩;refine ⟨2,J,congrArg (fun z=>[V.int 2,V.int z,V.int 3]) hJ,⟨by decide,by decide,by omega,by omega⟩,?_⟩
  refine let I_:Nat->L2.St->Hp->Prop:=fun i σ H'=>L2.A5 ((∃ v9 aq ah:Option V,σ=[some (.ref sa),some (.int (N:Nat)),some (.int (M:Nat)),some (.int (r:Nat)),some (.int (((2 ^ w) ^ 1:Nat):Int)),some (.ref WL),some (.ref ML),some (.ref c),some (.int ((N:Int)+(M:Int))),v9,aq,ah])) (Same G H') (TabS H' a.t38 posL qL) (TabS H' a.t63 (posD inA) qA) (TabS H' a.t47 posW qW);qgk_ (lo:=2) (n:=((J - 2+2) / 3).toNat) I_ ⟨⟨_,_,_,rfl⟩,sG,T1,T2,T3⟩ ?_ ?_
  ·rintro i σ ay hi ⟨⟨v9,aq,ah,rfl⟩,O,t1,t2,t3⟩
   rw [show (2:Int)+(i:Nat) * 3=((2+3 * i:Nat):Int) by omega]
   have bu:2+3 * i<=70:=by omega
   refine ⟨_,rfl,_,rfl,sa,ns,2+3 * i,rfl,O.seq I,by omega,l,fun c2=>?_⟩
   refine ⟨_,rfl,_,rfl,_,rfl,_,rfl,_,_,rfl,rfl,sa,ns,2+3 * i+1,congrArg (fun z=>[V.ref sa,V.int z]) (show ((2+3 * i:Nat):Int)+1=((2+3 * i+1:Nat):Int) by omega),O.seq I,by omega,l,fun c3=>?_⟩
   refine ⟨_,rfl,c3,N+M,congrArg (fun z=>[V.int c3,V.int z]) (show (N:Int)+(M:Int)=((N+M:Nat):Int) by omega),n8,fun CL bB aO ab aV ac ba a5=>?_⟩
   refine ⟨c2,N+M,M,CL,aO,congrArg (fun z=>[V.int c2,V.int z,V.int (M:Nat),V.ref CL]) (show (N:Int)+(M:Int)=((N+M:Nat):Int) by omega),by omega,n8,m2,ac,ba,fun x hx=>(a5 x hx).2,fun a9 cs Z aE aF aK aS=>?_⟩
   have ar:Same G a9:=fun b o e=>Z b o (qh_ (O b o e) aV) (ab b o (O b o e))
   have t1:=(t1.keep ab).kl ac Z
   have t2:=(t2.keep ab).kl ac Z
   have t3:=(t3.keep ab).kl ac Z;refine ⟨_,rfl,_,rfl,_,_,rfl,rfl,_,rfl,_,rfl,_,_,rfl,rfl,sa,ns,2+3 * i+2,congrArg (fun z=>[V.ref sa,V.int z]) (show ((2+3 * i:Nat):Int)+2=((2+3 * i+2:Nat):Int) by omega),ar.seq I,by omega,l,fun c4=>?_⟩
   refine ⟨_,rfl,_,rfl,sa,ns,c4,2+3 * i+3,N,(2 ^ w) ^ 1,congrArg (fun z=>[V.ref sa,V.int z,V.int c4,V.int (N:Nat),V.int (((2 ^ w) ^ 1:Nat):Int)]) (show ((2+3 * i:Nat):Int)+3=((2+3 * i+3:Nat):Int) by omega),ar.seq I,l,by omega,n1,by omega,ax,av,fun ND C nk nb S bt a1 aW a6 aN=>?_⟩
   have aI:=ar.trans S
   have t1:=t1.keep S
   have t2:=t2.keep S
   have t3:=t3.keep S
   have aG:=S _ _ aE
   have aP:∀ p∈[a.t38,a.t47,a.t63],∃ ps,C p=some (.tbl ps):=fun p hp=>by
    rcases bL.mp hp with y | y
    ·rw [y];obtain ⟨_,e,_⟩:=t1;exact ⟨_,e⟩
    rcases bL.mp y with y | y
    ·rw [y];obtain ⟨_,e,_⟩:=t3;exact ⟨_,e⟩
    ·rw [bS.mp y];obtain ⟨_,e,_⟩:=t2;exact ⟨_,e⟩
   have ad:Same G (qP_ [a.t38,a.t47,a.t63] C):=qat_ aI fun p hp=>by
    rcases bL.mp hp with y | y
    ·rw [y];exact nt1
    rcases bL.mp y with y | y
    ·rw [y];exact nt3
    ·rw [bS.mp y];exact nt2
   have hk:∀ {p:Addr}{o:HO},C p=some o->(∀ ps,o≠.tbl ps)->qP_ [a.t38,a.t47,a.t63] C p=some o:=fun {p o} e n=>by
    rw [jw_ fun z=>?_]
    ·exact e
    ·obtain ⟨ps,y⟩:=aP p z
     rw [y] at e;exact n ps (bM e).symm
   have D:ScW a (qP_ [a.t38,a.t47,a.t63] C) C c b x ML CL ND r w 1 M N cs X nk nb:=⟨z9_ _ _,az.same ad,R,by decide,W,ad _ _ aB,hk aG (fun _ y=>by cases y),aF,fun j=>bG (aK j) (by decide),aS,aR,aJ,aH,hk a1 (fun _ y=>by cases y),aW,a6,aN,q4_ (by simp),q4_ (by simp),q4_ (by simp),t1,t2,t3⟩
   generalize qP_ [a.t38,a.t47,a.t63] C=G2 at ad D;refine ⟨_,rfl,_,rfl,_,rfl,_,rfl,_,rfl,G2,c,b,x,ML,CL,ND,r,w,1,M,N,cs,X,nk,nb,rfl,D,fun bx D2=>?_⟩;refine ⟨_,rfl,?_⟩;refine ite2 (fun y=>absurd y (by decide)) (fun _=>?_)
   exact ⟨⟨_,_,_,rfl⟩,ad.trans D2.sm,D2.t1,D2.t2,D2.t3⟩
  ·rintro σ ay ⟨⟨v9,aq,ah,rfl⟩,O,t1,t2,t3⟩
   exact q ay
theorem walk {l:PySem.W.OpenLaw}{q:Program}{loose:List Str}{XP:(Str->Option Value)->Heap->Prop}{YP:World->Heap->Prop}{d:DefRec}{K:Params->PySem.W.Frag}{ts:List Addr} (hn:l.most=some 63) (hdf:d.params.defaults=[])
  (hY:∀ (w:World) (h:Heap),YP w h->(K w.params).In h/\∀ p∈ts,h.get? p=some (PySem.W.tabObj #[]))
  (F:∀ (w:World) (mg:Str->Option Value) (fa:Addr) (h:Heap),(K w.params).In h->h.Ns mainGlobals mg->mg d.name=some (.ref fa) →
   ∃ fd:FuncData,(∀ (s:Shared) (u:Value),BindsTo s fd ⟨[u],[]⟩ [("_law_script",u)])∧(∀ p∈ts,(K w.params).lookup p=none)∧(∀ p∈ts,∃ c,PySem.W.codeHdIn (K w.params) c p=true) ∧ ∀ base:Heap,(K w.params).In base→base.Ns mainGlobals mg→(∀ p∈ts,mainGlobals≠p∧base.BuiltinsAt mg p)→FnOk l.prog w (K w.params) mg base CX0 15 fa fd ["_law_script"] (vU_ (K w.params) ts)) :
  PySem.W.WalkO q loose XP YP l.row.toRowW d [] (fun f vs=>PySem.call f vs) :=
 L2.walk_ofT (n:=63) (k:=15) (x:="_law_script") (CX:=fun _=>CX0) (sp:=fun w=>vU_ (K w.params) ts) hn (by decide) hdf ⟨rfl,by decide,by decide,rfl⟩ hY F (fun _ _ a ns hl hS hT=>⟨a,ns,rfl,hS,hl,hT,fun _=>rfl⟩) fun _ _ _ _ _ z=>z
end My
namespace My
open PySem L2 PyProof.Rows
theorem txt_ex {K:PySem.W.Frag}{mg:Str->Option Value}{ts:List Addr}{z0 z1 z2 z3 z4 z5 z6 z7 z8 z9 z10 z11 z12 z13 z14 z15 z16 z17 z18 z19 z20 z21 z22 z23 z24 z25 z26 z27 z28 z29 z30 z31 z32 z33 z34 z35 z36 z37 z38 z39 z40 z41 z42 z43 z44 z45 z46 z47 z48 z49 z50 z51 z52 z53 z54 z55 z56 z57 z58 z59 z60 z61 z62 z63 z64 z65 z66 z67 z68 z69 z70 z71 z72 z73 z74 z75 z76 z77 z78:Addr}{z79 z80 z81 z82 z83:Tok} (T:Txt K mg ⟨z0,z1,z2,z3,z4,z5,z6,z7,z8,z9,z10,z11,z12,z13,z14,z15,z16,z17,z18,z19,z20,z21,z22,z23,z24,z25,z26,z27,z28,z29,z30,z31,z32,z33,z34,z35,z36,z37,z38,z39,z40,z41,z42,z43,z44,z45,z46,z47,z48,z49,z50,z51,z52,z53,z54,z55,z56,z57,z58,z59,z60,z61,z62,z63,z64,z65,z66,z67,z68,z69,z70,z71,z72,z73,z74,z75,z76,z77,z78,z79,z80,z81,z82,z83⟩) (E:ts.Perm [z74,z76,z78]):∃ a:Adr,Txt K mg a/\ts.Perm [a.t38,a.t47,a.t63]:=⟨_,T,E⟩
theorem fin {P:Program}{w:World}{K:PySem.W.Frag}{mg:Str→Option Value}{fa:Addr}{h:Heap}{ts:List Addr} (_:K.In h) (hmg:mg "law" = some (.ref fa)) (nd:ts.Nodup) (T:∃ a:Adr,Txt K mg a∧ts.Perm [a.t38,a.t47,a.t63]) :
  ∃ fd:FuncData,(∀ (s:Shared) (u:Value),BindsTo s fd ⟨[u],[]⟩ [("_law_script",u)])∧(∀ p∈ts,K.lookup p=none)∧(∀ p∈ts,∃ c,PySem.W.codeHdIn K c p=true) ∧ ∀ base:Heap,K.In base→base.Ns mainGlobals mg→(∀ p∈ts,mainGlobals≠p∧base.BuiltinsAt mg p)→FnOk P w K mg base CX0 15 fa fd ["_law_script"] (vU_ K ts):=by
 obtain ⟨a,T,hp⟩:=T
 cases hmg.symm.trans T.x68.m;refine ⟨fd K a.f68,fun s v=>?_,fun p z=>?_,fun p z=>?_,fun base kb nb hB=>(qql_ T ⟨(hB _ (hp.mem_iff.mpr (by simp))).2,(hB _ (hp.mem_iff.mpr (by simp))).1,(hB _ (hp.mem_iff.mpr (by simp))).2,(hB _ (hp.mem_iff.mpr (by simp))).1,(hB _ (hp.mem_iff.mpr (by simp))).2,(hB _ (hp.mem_iff.mpr (by simp))).1,(by have:=hp.nodup_iff.mp nd;simp at this;simp [this]),(by have:=hp.nodup_iff.mp nd;simp at this;simp [this]),(by have:=hp.nodup_iff.mp nd;simp at this;simp [this])⟩).imp fun vs H Q E ⟨s,n,e,y,l,t,q⟩=>⟨s,n,e,y,l,fun p z=>t p (hp.mem_iff.mpr z),q⟩⟩
 ·obtain ⟨_,_,_,_,_,_,_,_,_,e,_⟩:=T.x68.F.ex
  rw [e];exact .of_eq rfl
 ·have z:=hp.mem_iff.mp z
  simp at z
  rcases z with z | z | z
  ·rw [z];exact T.x38.nl
  ·rw [z];exact T.x47.nl
  ·rw [z];exact T.x63.nl
 ·have z:=hp.mem_iff.mp z
  simp at z
  rcases z with z | z | z
  ·rw [z];exact ⟨_,T.x38.F.hd⟩
  ·rw [z];exact ⟨_,T.x47.F.hd⟩
  ·rw [z];exact ⟨_,T.x63.F.hd⟩
end My
open PySem PySem.W PyProof.Rows
-- names the tactics below would else use for second copies of large terms;nothing uses these
def PySem.W.Fast.tw9379083039954908994:Nat:=0
def PySem.W.Fast.tw15260978793079849194:Nat:=0
def PySem.W.Fast.tw13446512294847669194:Nat:=0
def PySem.W.Fast.tw10485687986097908548:Nat:=0
def PySem.W.Fast.tw17455231387936402157:Nat:=0
def PySem.W.Fast.tw2368044675208785263:Nat:=0
def PySem.W.Fast.tw18042944726135217716:Nat:=0
def PySem.W.Fast.tw18402296295837879143:Nat:=0
def PySem.W.Fast.tw1257359520434116462:Nat:=0
def PySem.W.Fast.tw5311195750005834876:Nat:=0
def PySem.W.Fast.tw12637312886225443559:Nat:=0
def PySem.W.Fast.tw6705235091706283848:Nat:=0
def PySem.W.Fast.tw3933643550561839945:Nat:=0
def PySem.W.Fast.tw14855418810055100419:Nat:=0
def PySem.W.Fast.tw14434320116504808414:Nat:=0
def PySem.W.Fast.tw13552407855254499583:Nat:=0
def PySem.W.Fast.tw12946505117579431231:Nat:=0
def PySem.W.Fast.tw12415105007247527601:Nat:=0
def PySem.W.Fast.tw619647801797161701:Nat:=0
def PySem.W.Fast.tw3202959905613072795:Nat:=0
def PySem.W.Fast.tw8456320460381964611:Nat:=0
def PySem.W.Fast.tw10822343851857233489:Nat:=0
def PySem.W.Fast.tw9431933798104741058:Nat:=0
def PySem.W.Fast.tw229871121967915443:Nat:=0
def PySem.W.Fast.tw17106381144201060526:Nat:=0
def PySem.W.Fast.tw4776370831297896177:Nat:=0
def PySem.W.Fast.tw4318397669111818756:Nat:=0
def PySem.W.Fast.tw10051942432085311821:Nat:=0
def PySem.W.Fast.tw16562674693264818326:Nat:=0
def PySem.W.Fast.tw16367443110154225329:Nat:=0
def PySem.W.Fast.tw3076384860595996457:Nat:=0
def PySem.W.Fast.tw10519013240933508102:Nat:=0
def PySem.W.Fast.tw11616344287743678089:Nat:=0
def PySem.W.Fast.tw10872812234619089371:Nat:=0
def PySem.W.Fast.tw13281350497358952904:Nat:=0
def PySem.W.Fast.tw10094225348653621847:Nat:=0
def PySem.W.Fast.tw11171820084428062100:Nat:=0
def PySem.W.Fast.tw14863624597005835701:Nat:=0
def PySem.W.Fast.tw12294795335762588791:Nat:=0
def PySem.W.Fast.tw8688807299921837944:Nat:=0
def PySem.W.Fast.tw9267397188775896018:Nat:=0
def PySem.W.Fast.tw11617958795306603438:Nat:=0
def PySem.W.Fast.tw16032401812223297660:Nat:=0
def PySem.W.Fast.tw16851899457508450950:Nat:=0
def PySem.W.Fast.tw18205037055423782003:Nat:=0
def PySem.W.Fast.tw3539714401822102709:Nat:=0
def PySem.W.Fast.tw870594368759432693:Nat:=0
def PySem.W.Fast.tw2267586844290700519:Nat:=0
def PySem.W.Fast.tw17248362962801647690:Nat:=0
def PySem.W.Fast.tw4779925884659072253:Nat:=0
def PySem.W.Fast.tw17922145421268380399:Nat:=0
def PySem.W.Fast.tw5274137387484825556:Nat:=0
def PySem.W.Fast.tw8884110930486452808:Nat:=0
def PySem.W.Fast.tw18119876925818466570:Nat:=0
def PySem.W.Fast.tw16655913208949142272:Nat:=0
def PySem.W.Fast.tw12703025621595974089:Nat:=0
def PySem.W.Fast.tw13166614691432547289:Nat:=0
def PySem.W.Fast.tw3240513593691233967:Nat:=0
def PySem.W.Fast.tw753624101623845226:Nat:=0
def PySem.W.Fast.tw16722837312642701623:Nat:=0
def PySem.W.Fast.tw17916385613542784304:Nat:=0
def PySem.W.Fast.tw13229171503173014611:Nat:=0
def PySem.W.Fast.tw12849222070512975190:Nat:=0
def PySem.W.Fast.tw11245043436233457599:Nat:=0
def PySem.W.Fast.tw1346719065167738811:Nat:=0
def PySem.W.Fast.tw17315484707022486067:Nat:=0
def PySem.W.Fast.tw9108078249201544136:Nat:=0
def PySem.W.Fast.tw2700356076333803049:Nat:=0
def PySem.W.Fast.tw10187584451383420120:Nat:=0
def PySem.W.Fast.tw15626013639067740065:Nat:=0
def PySem.W.Fast.tw16186796306509462525:Nat:=0
def PySem.W.Fast.tw2460206583119443604:Nat:=0
def PySem.W.Fast.tw824854455036061261:Nat:=0
def PySem.W.Fast.tw16626313451817497192:Nat:=0
def PySem.W.Fast.tw3025859171950332489:Nat:=0
def PySem.W.Fast.tw17770251886629591214:Nat:=0
def PySem.W.Fast.tw16595775304673342944:Nat:=0
def PySem.W.Fast.tw16679960966265894919:Nat:=0
def PySem.W.Fast.tw9288072176341243070:Nat:=0
def PySem.W.Fast.tw12132238986481789407:Nat:=0
def PySem.W.Fast.tw16619832011610415608:Nat:=0
def PySem.W.Fast.tw7369228100078715241:Nat:=0
def PySem.W.Fast.tw16108277834918838360:Nat:=0
def PySem.W.Fast.tw4957961852279992252:Nat:=0
def PySem.W.Fast.tw1692020248323252458:Nat:=0
set_option maxRecDepth 100000 in
set_option maxHeartbeats 0 in
theorem PySem.Challenge.cw_spareplank_k46_whole_least_price_of_a_wr_holds : PySem.Challenge.rw_spareplank_k46_whole_least_price_of_a_wr.Holds := by
 w_on;o_law;k_head;(case hw=>w_witness2)
 k_fill
 refine My.walk (l := PySem.Challenge.rw_spareplank_k46_whole_least_price_of_a_wr) rfl rfl (fun w h Y=>⟨PySem.W.km_in_of Y,PySem.W.km_tabs_of Y⟩) ?F
 case F =>
  intro w mg fa h KX G d;refine My.fin KX d (by decide) ?X
  refine' My.txt_ex ?T ?E
  case T =>
   constructor
   all_goals (try dsimp only)
   all_goals first
    | (refine' L2.gd_mk KX G ?ya ?yl ?yc ?yk ?yb;(case ya=>k_is);(case yl=>k_is);(case yc=>k_is);(case yk=>k_is);(case yb=>first | (refine fun _ _ _ _ _ _ us hl=>L2.ln0 us hl ?_;exact rfl) | (refine fun _ _ _ _ _ _ us hl=>L2.ln1 us hl ?_;exact fun _=>rfl) | (refine fun _ _ _ _ _ _ us hl=>L2.ln2 us hl ?_;exact fun _ _=>rfl) | (refine fun _ _ _ _ _ _ us hl=>L2.ln3 us hl ?_;exact fun _ _ _=>rfl) | (refine fun _ _ _ _ _ _ us hl=>L2.ln4 us hl ?_;exact fun _ _ _ _=>rfl) | (refine fun _ _ _ _ _ _ us hl=>L2.ln5 us hl ?_;exact fun _ _ _ _ _=>rfl)))
    | (refine' L2.md_mk ?ya ?yi ?yl ?yc ?yk ?yb;(case ya=>k_is);(case yi=>k_is);(case yl=>k_is);(case yc=>k_is);(case yk=>k_is);(case yb=>first | (refine fun _ _ _ _ _ _ us hl=>L2.ln0 us hl ?_;exact rfl) | (refine fun _ _ _ _ _ _ us hl=>L2.ln1 us hl ?_;exact fun _=>rfl) | (refine fun _ _ _ _ _ _ us hl=>L2.ln2 us hl ?_;exact fun _ _=>rfl) | (refine fun _ _ _ _ _ _ us hl=>L2.ln3 us hl ?_;exact fun _ _ _=>rfl) | (refine fun _ _ _ _ _ _ us hl=>L2.ln4 us hl ?_;exact fun _ _ _ _=>rfl) | (refine fun _ _ _ _ _ _ us hl=>L2.ln5 us hl ?_;exact fun _ _ _ _ _=>rfl)))
    | (refine' L2.gt_mk KX G ?ya ?yl ?yc ?yx ?yy ?yh ?yn ?yk ?yb;(case ya=>k_is);(case yl=>k_is);(case yc=>k_is);(case yx=>k_is);(case yy=>first | rfl | k_is);(case yh=>first | rfl | k_is);(case yn=>first | rfl | k_is);(case yk=>k_is);(case yb=>first | (refine fun _ _ _ _ _ _ us hl=>L2.ln0 us hl ?_;exact rfl) | (refine fun _ _ _ _ _ _ us hl=>L2.ln1 us hl ?_;exact fun _=>rfl) | (refine fun _ _ _ _ _ _ us hl=>L2.ln2 us hl ?_;exact fun _ _=>rfl) | (refine fun _ _ _ _ _ _ us hl=>L2.ln3 us hl ?_;exact fun _ _ _=>rfl) | (refine fun _ _ _ _ _ _ us hl=>L2.ln4 us hl ?_;exact fun _ _ _ _=>rfl) | (refine fun _ _ _ _ _ _ us hl=>L2.ln5 us hl ?_;exact fun _ _ _ _ _=>rfl)))
    | (refine' L2.mt_mk ?ya ?yi ?yl ?yc ?yx ?yy ?yh ?yn ?yk ?yb;(case ya=>k_is);(case yi=>k_is);(case yl=>k_is);(case yc=>k_is);(case yx=>k_is);(case yy=>first | rfl | k_is);(case yh=>first | rfl | k_is);(case yn=>first | rfl | k_is);(case yk=>k_is);(case yb=>first | (refine fun _ _ _ _ _ _ us hl=>L2.ln0 us hl ?_;exact rfl) | (refine fun _ _ _ _ _ _ us hl=>L2.ln1 us hl ?_;exact fun _=>rfl) | (refine fun _ _ _ _ _ _ us hl=>L2.ln2 us hl ?_;exact fun _ _=>rfl) | (refine fun _ _ _ _ _ _ us hl=>L2.ln3 us hl ?_;exact fun _ _ _=>rfl) | (refine fun _ _ _ _ _ _ us hl=>L2.ln4 us hl ?_;exact fun _ _ _ _=>rfl) | (refine fun _ _ _ _ _ _ us hl=>L2.ln5 us hl ?_;exact fun _ _ _ _ _=>rfl)))
    | (refine' PySem.W.mg_of KX G ?_;k_is)
    | (refine' PySem.W.mg_none_of KX G ?_;k_is)
    | (refine' (show PySem.W.findIn _ _ _=some none from ?_);k_is)
    | (refine' L2.Cls.mk ?_ ?_ ?_ ?_ <;> k_is)
    | (refine' L2.Mk.mk ?_ ?_ ?_ ?_ <;> k_is)
    | rfl
    | (constructor <;> first | k_is | rfl)
  case E=>first | exact .refl _ | decide
#print axioms PySem.Challenge.cw_spareplank_k46_whole_least_price_of_a_wr_holds
